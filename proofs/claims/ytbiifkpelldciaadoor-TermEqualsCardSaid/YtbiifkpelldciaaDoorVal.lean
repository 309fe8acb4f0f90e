/- Valid: whether a level is valid. -/
import Derived.Test.YtbiifkpelldciaaDoorA
import Derived.Test.YtbiifkpelldciaaDoorCov
namespace Go.Proofs.YtbiifkpelldciaaDoor
open Go.RowKit

def okOne (p : Int × Int) : Bool := decide (-65536 ≤ p.1) && decide (p.1 ≤ 7) && decide (0 ≤ p.2) && decide (p.2 ≤ 100)
def ascB (p : Int × Int) : List (Int × Int) → Bool
  | [] => true
  | q :: _ => decide (p.1 < q.1)
def okB : List (Int × Int) → Bool
  | [] => true
  | p :: r => okOne p && (ascB p r && okB r)
/-- A level is valid. -/
def vldB (c : Int) (vs : List (Int × Int)) : Bool := (decide (0 ≤ c) && decide (c ≤ 100)) && (okB vs && (decide (c = 0) || !covB c vs))

/-- The first k variables are in range and ascend. -/
def OkTo (vs : List (Int × Int)) (k : Nat) : Prop := ∀ j x y, j < k → vs[j]? = some (x, y) → ((-65536 ≤ x ∧ x ≤ 7) ∧ 0 ≤ y ∧ y ≤ 100) ∧ ∀ x' y', 0 < j → vs[j - 1]? = some (x', y') → x' < x
theorem okOne_iff {x y : Int} : okOne (x, y) = true ↔ (-65536 ≤ x ∧ x ≤ 7) ∧ 0 ≤ y ∧ y ≤ 100 := by simp [okOne, and_assoc]
theorem okB_iff (vs : List (Int × Int)) : okB vs = true ↔ OkTo vs vs.length := by
  induction vs with
  | nil => simp [okB, OkTo]
  | cons p r ih =>
    obtain ⟨px, py⟩ := p
    constructor
    · intro h j x y hj hg
      simp only [okB, Bool.and_eq_true] at h
      obtain ⟨h1, h2, h3⟩ := h
      cases j with
      | zero =>
        simp only [List.getElem?_cons_zero, Option.some.injEq, Prod.mk.injEq] at hg
        obtain ⟨rfl, rfl⟩ := hg
        exact ⟨okOne_iff.1 h1, fun _ _ h0 => absurd h0 (by omega)⟩
      | succ j =>
        simp only [List.getElem?_cons_succ] at hg
        have hr := ih.1 h3 j x y (by simpa using hj) hg
        refine ⟨hr.1, fun x' y' _ hp => ?_⟩
        cases j with
        | zero =>
          simp only [Nat.zero_add, Nat.sub_self, List.getElem?_cons_zero, Option.some.injEq, Prod.mk.injEq] at hp
          obtain ⟨rfl, rfl⟩ := hp
          cases r with
          | nil => simp at hg
          | cons q r =>
            simp only [List.getElem?_cons_zero, Option.some.injEq] at hg
            subst hg
            simpa [ascB] using h2
        | succ j => exact hr.2 x' y' (by omega) (by simpa using hp)
    · intro h
      simp only [okB, Bool.and_eq_true]
      refine ⟨okOne_iff.2 (h 0 px py (by simp) (by simp)).1, ?_, ih.2 fun j x y hj hg => ?_⟩
      · cases r with
        | nil => rfl
        | cons q r =>
          have := (h 1 q.1 q.2 (by simp) (by simp)).2 px py (by omega) (by simp)
          simpa [ascB] using this
      · have h1 := h (j + 1) x y (by simpa using hj) (by simpa using hg)
        refine ⟨h1.1, fun x' y' hj0 hp => h1.2 x' y' (by omega) ?_⟩
        cases j with
        | zero => omega
        | succ j => simpa using hp
theorem okB_bad {vs : List (Int × Int)} {k : Nat} {x y : Int} (hg : vs[k]? = some (x, y)) (h : ¬ ((-65536 ≤ x ∧ x ≤ 7) ∧ 0 ≤ y ∧ y ≤ 100)) : okB vs = false := by
  cases hb : okB vs with
  | false => rfl
  | true => exact absurd ((okB_iff vs).1 hb k x y (List.getElem?_eq_some_iff.1 hg).1 hg).1 h
theorem okB_order {vs : List (Int × Int)} {k : Nat} {x y x' y' : Int} (hg : vs[k]? = some (x, y)) (hk : 0 < k) (hp : vs[k - 1]? = some (x', y')) (h : ¬ x' < x) : okB vs = false := by
  cases hb : okB vs with
  | false => rfl
  | true => exact absurd (((okB_iff vs).1 hb k x y (List.getElem?_eq_some_iff.1 hg).1 hg).2 x' y' hk hp) h
theorem vldB_const {c : Int} {vs : List (Int × Int)} (h : ¬ (0 ≤ c ∧ c ≤ 100)) : vldB c vs = false := by
  unfold vldB
  rcases Decidable.not_and_iff_or_not.1 h with h | h <;> simp [h]
theorem vldB_ok {c : Int} {vs : List (Int × Int)} (h : okB vs = false) : vldB c vs = false := by simp [vldB, h]
theorem vldB_end {c : Int} {vs : List (Int × Int)} (h : 0 ≤ c ∧ c ≤ 100) (ho : OkTo vs vs.length) : vldB c vs = (decide (c = 0) || !covB c vs) := by
  simp [vldB, h.1, h.2, (okB_iff vs).2 ho]
theorem OkTo.next {vs : List (Int × Int)} {k : Nat} {x y : Int} (h : OkTo vs k) (hg : vs[k]? = some (x, y)) (h1 : (-65536 ≤ x ∧ x ≤ 7) ∧ 0 ≤ y ∧ y ≤ 100) (h2 : ∀ x' y', 0 < k → vs[k - 1]? = some (x', y') → x' < x) : OkTo vs (k + 1) := by
  intro j x1 y1 hj hj'
  rcases Nat.lt_or_ge j k with hlt | hge
  · exact h j x1 y1 hlt hj'
  · obtain rfl : j = k := by omega
    rw [hg] at hj'
    cases hj'
    exact ⟨h1, h2⟩

set_option maxRecDepth 100000 in
set_option maxHeartbeats 2000000 in
theorem valid_any (c : Int) (A : Option Addr) (cap : Nat) (vs : List (Int × Int)) (B : Nat) (w : World) (hv : VA w B A vs) (hB : B ≤ w.heap.size) :
    Calls Tryd.prog 77 #[.agg #[.int .i64 c, .slice A vs.length cap]] w fun e w' => e = .returned (.bool (vldB c vs)) ∧ Below w.heap.size w w' := by
  have hlen := hv.len
  by_cases hc : 0 ≤ c ∧ c ≤ 100
  · obtain ⟨c1, c2⟩ := hc
    go_enter Tryd.func77, Tryd.ntmps77
    go_wp2_with (go_at_call 90; refine (inRange_yes _ _ _ _ (by omega) (by omega)).mono ?_; rintro e w' ⟨rfl, rfl⟩)
    go_loopw [12] (fun i wr => ∃ k : Nat, k ≤ vs.length ∧ i = .int .i64 k ∧ OkTo vs k ∧ Below (w.heap.size + 1) (w.alloc (.cells #[.int .i64 c, .slice A vs.length cap] 52)) wr) (fun i _ => vs.length - (intOf i).toNat)
    case atStart => exact ⟨0, Nat.zero_le _, rfl, fun j _ _ h _ => absurd h (by omega), Below.refl _ _⟩
    case round =>
      obtain ⟨k, hk, rfl, hn, hbw⟩ := hrel
      have hl0 : wr.cell? ⟨w.heap.size, 0, none⟩ = some (.int .i64 c) := (hbw.cell (p := ⟨w.heap.size, 0, none⟩) (by simp)).trans (by go_simp)
      have hl1 : wr.cell? ⟨w.heap.size, 1, none⟩ = some (.slice A vs.length cap) := (hbw.cell (p := ⟨w.heap.size, 1, none⟩) (by simp)).trans (by go_simp)
      have hfr : Below w.heap.size w wr := ((Below.refl _ _).alloc (Nat.le_refl _) _).trans (hbw.mono (by simp))
      have hvr := hv.below hfr hB
      have hsz : w.heap.size + 1 ≤ wr.heap.size := by have := hbw.size; simpa using this
      by_cases hlt : k < vs.length
      · obtain ⟨b, off, x, y, hA, hb, hg, hc0, hc1⟩ := hvr.at_ hlt
        have hG := Lib.hid hg
        clear hg
        have hl1a : ∀ o, (wr.alloc o).cell? ⟨w.heap.size, 1, none⟩ = some (.slice A vs.length cap) := fun o => (World.cell?_alloc_lt wr o ⟨w.heap.size, 1, none⟩ hsz).trans hl1
        by_cases hx : -65536 ≤ x ∧ x ≤ 7
        · by_cases hy : 0 ≤ y ∧ y ≤ 100
          · obtain ⟨hx1, hx2⟩ := hx
            obtain ⟨hy1, hy2⟩ := hy
            by_cases hk0 : 0 < k
            · obtain ⟨b', off', x', y', hA', _, hg', hp0, hp1⟩ := hvr.at_ (k := k - 1) (by omega)
              rw [hA] at hA'
              cases hA'
              subst hA
              have hG' := Lib.hid hg'
              clear hg'
              have hp0a : ∀ o, (wr.alloc o).cell? ⟨b, off + (k - 1) * 2, none⟩ = some (.int .i64 x') := fun o => (World.cell?_alloc_lt wr o ⟨b, off + (k - 1) * 2, none⟩ (by show b < wr.heap.size; omega)).trans hp0
              have hk1 : (0 : Int) < (k : Int) := by omega
              have hk2 : (k : Int) - 1 < (vs.length : Int) := by omega
              by_cases hxx : x' < x
              · go_wp2_with (go_at_call 90; refine (inRange_yes _ _ _ _ (by omega) (by omega)).mono ?_; rintro e w' ⟨rfl, rfl⟩)
                go_quiet (fail)
                go_wp2
                go_roundw
                case rel => exact ⟨k + 1, by omega, by go_num, hn.next hG.out ⟨⟨hx1, hx2⟩, hy1, hy2⟩ (fun x2 y2 _ h2 => by rw [hG'.out] at h2; cases h2; exact hxx), hbw.trans (Below.drewN' ((Below.refl _ _).alloc (by omega) _) _)⟩
                case measure => simp [intOf]; omega
              · have hbad := Lib.hid (vldB_ok (c := c) (okB_order hG.out hk0 hG'.out hxx))
                go_wp2_with (go_at_call 90; refine (inRange_yes _ _ _ _ (by omega) (by omega)).mono ?_; rintro e w' ⟨rfl, rfl⟩)
                go_quiet (fail)
                go_wp2
                go_ret
                exact ⟨ret_bool hbad.out.symm, hfr.trans (Below.drewN' ((Below.refl _ _).alloc (by omega) _) _)⟩
            · have hd : decide ((0 : Int) < (k : Int)) = false := decide_eq_false (by omega)
              subst hA
              go_wp2_with (go_at_call 90; refine (inRange_yes _ _ _ _ (by omega) (by omega)).mono ?_; rintro e w' ⟨rfl, rfl⟩)
              go_quiet (fail)
              go_wp2
              go_roundw
              case rel => exact ⟨k + 1, by omega, by go_num, hn.next hG.out ⟨⟨hx1, hx2⟩, hy1, hy2⟩ (fun x2 y2 h0 _ => absurd h0 hk0), hbw.trans (Below.drewN' ((Below.refl _ _).alloc (by omega) _) _)⟩
              case measure => simp [intOf]; omega
          · have hbad := Lib.hid (vldB_ok (c := c) (okB_bad hG.out (fun h => hy h.2)))
            obtain ⟨hx1, hx2⟩ := hx
            subst hA
            go_wp2_with fail
            refine (inRange_yes _ _ _ _ (by omega) (by omega)).mono ?_
            rintro e w' ⟨rfl, rfl⟩
            go_wp2_with fail
            refine (inRange_no _ _ _ _ hy).mono ?_
            rintro e w' ⟨rfl, rfl⟩
            go_wp2
            go_ret
            exact ⟨ret_bool hbad.out.symm, hfr.trans ((Below.refl _ _).alloc (by omega) _)⟩
        · have hbad := Lib.hid (vldB_ok (c := c) (okB_bad hG.out (fun h => hx h.1)))
          subst hA
          go_wp2_with (go_at_call 90; refine (inRange_no _ _ _ _ hx).mono ?_; rintro e w' ⟨rfl, rfl⟩)
          go_ret
          exact ⟨ret_bool hbad.out.symm, hfr.trans ((Below.refl _ _).alloc (by omega) _)⟩
      · obtain rfl : k = vs.length := by omega
        by_cases h0 : c = 0
        · subst h0
          go_wp2
          go_ret
          exact ⟨ret_bool (by rw [vldB_end ⟨by omega, by omega⟩ hn]; simp), hfr⟩
        · have hb0 : (c == 0) = false := by simpa using h0
          go_wp2_with (go_at_call 91; refine (covered_any _ _ _ _ B _ hvr (by omega)).mono ?_; rintro e w' ⟨rfl, hb'⟩)
          go_ret
          exact ⟨ret_bool (by rw [vldB_end ⟨by omega, by omega⟩ hn]; simp [h0]), hfr.trans (hb'.mono hfr.size)⟩
  · have hbad := Lib.hid (vldB_const (vs := vs) hc)
    go_enter Tryd.func77, Tryd.ntmps77
    go_wp2_with (go_at_call 90; refine (inRange_no _ _ _ _ (by omega)).mono ?_; rintro e w' ⟨rfl, rfl⟩)
    go_ret
    exact ⟨ret_bool hbad.out.symm, (Below.refl _ _).alloc (Nat.le_refl _) _⟩

end Go.Proofs.YtbiifkpelldciaaDoor
