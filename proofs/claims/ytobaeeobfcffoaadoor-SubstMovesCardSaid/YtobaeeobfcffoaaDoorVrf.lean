/- Small functions of package level and of its reference: each call's result, and what it leaves of the world. -/
import Derived.Test.YtobaeeobfcffoaaDoorProg
import Derived.WalkKit
import Derived.WalkSpells
import Derived.WalkLawsBesides
import Derived.BigQuiet
import Derived.Deep.QuietTactic
import Derived.Test.YtobaeeobfcffoaaDoorW
/-! Small functions of package level and of its reference: each call's result, and what it leaves of the world. -/
namespace Go.Proofs.YtobaeeobfcffoaaDoor
open Go.RowKit
end Go.Proofs.YtobaeeobfcffoaaDoor

/-! covered: whether some variable's offset is at least a constant. -/
namespace Go.Proofs.YtobaeeobfcffoaaDoor
open Go.RowKit
/-- None of the first k offsets is at least c. -/
def NoCov (c : Int) (vs : List (Int × Int)) (k : Nat) : Prop := ∀ j x' y', j < k → vs[j]? = some (x', y') → y' < c
/-- Where the first offset stands that is at least c, or -1. -/
def covIdx (c : Int) (vs : List (Int × Int)) : Int := match vs.findIdx? (fun v => decide (c ≤ v.2)) with
  | some k => k
  | none => -1
def covB (c : Int) (vs : List (Int × Int)) : Bool := vs.any fun v => decide (c ≤ v.2)
theorem covIdx_at {c x y : Int} {vs : List (Int × Int)} {k : Nat} (hk : vs[k]? = some (x, y)) (h : c ≤ y) (hb : NoCov c vs k) : covIdx c vs = k := by
  have : vs.findIdx? (fun v => decide (c ≤ v.2)) = some k := by
    obtain ⟨hl, he⟩ := List.getElem?_eq_some_iff.1 hk
    rw [List.findIdx?_eq_some_iff_getElem]
    refine ⟨hl, by rw [he]; simpa using h, fun j hj => ?_⟩
    have := hb j (vs[j].1) (vs[j].2) hj (List.getElem?_eq_getElem (by omega))
    simpa using this
  simp [covIdx, this]
theorem covIdx_none {c : Int} {vs : List (Int × Int)} (hb : NoCov c vs vs.length) : covIdx c vs = -1 := by
  have : vs.findIdx? (fun v => decide (c ≤ v.2)) = none := by
    rw [List.findIdx?_eq_none_iff]
    intro v hv
    obtain ⟨j, hj, rfl⟩ := List.mem_iff_getElem.1 hv
    have := hb j (vs[j].1) (vs[j].2) hj (List.getElem?_eq_getElem hj)
    simpa using this
  simp [covIdx, this]
theorem covIdx_nonneg (c : Int) (vs : List (Int × Int)) : decide (0 ≤ covIdx c vs) = covB c vs := by
  unfold covIdx covB
  cases h : vs.findIdx? (fun v => decide (c ≤ v.2)) with
  | none =>
    rw [List.findIdx?_eq_none_iff] at h
    symm
    simpa using h
  | some k =>
    obtain ⟨hl, he, _⟩ := List.findIdx?_eq_some_iff_getElem.1 h
    have : vs.any (fun v => decide (c ≤ v.2)) = true := List.any_eq_true.2 ⟨vs[k], List.getElem_mem hl, he⟩
    rw [this]
    simp

end Go.Proofs.YtobaeeobfcffoaaDoor

/-! Valid: whether a level is valid. -/
namespace Go.Proofs.YtobaeeobfcffoaaDoor
open Go.RowKit

def okOne (p : Int × Int) : Bool := decide (-65536 ≤ p.1) && decide (p.1 ≤ 7) && decide (0 ≤ p.2) && decide (p.2 ≤ 100)
def ascB (p : Int × Int) : List (Int × Int) → Bool
  | [] => true
  | q :: _ => decide (p.1 < q.1)
def okB : List (Int × Int) → Bool
  | [] => true
  | p :: r => okOne p && (ascB p r && okB r)
/-- A level is valid. -/
def vldB (c : Int) (vs : List (Int × Int)) : Bool := (decide (0 ≤ c) && decide (c ≤ 100)) && (okB vs && (decide (c = 0) || !covB c vs))

/-- The first k variables are in range and ascend. -/
def OkTo (vs : List (Int × Int)) (k : Nat) : Prop := ∀ j x y, j < k → vs[j]? = some (x, y) → ((-65536 ≤ x ∧ x ≤ 7) ∧ 0 ≤ y ∧ y ≤ 100) ∧ ∀ x' y', 0 < j → vs[j - 1]? = some (x', y') → x' < x
theorem okOne_iff {x y : Int} : okOne (x, y) = true ↔ (-65536 ≤ x ∧ x ≤ 7) ∧ 0 ≤ y ∧ y ≤ 100 := by simp [okOne, and_assoc]
theorem okB_iff (vs : List (Int × Int)) : okB vs = true ↔ OkTo vs vs.length := by
  induction vs with
  | nil => simp [okB, OkTo]
  | cons p r ih =>
    obtain ⟨px, py⟩ := p
    constructor
    · intro h j x y hj hg
      simp only [okB, Bool.and_eq_true] at h
      obtain ⟨h1, h2, h3⟩ := h
      cases j with
      | zero =>
        simp only [List.getElem?_cons_zero, Option.some.injEq, Prod.mk.injEq] at hg
        obtain ⟨rfl, rfl⟩ := hg
        exact ⟨okOne_iff.1 h1, fun _ _ h0 => absurd h0 (by omega)⟩
      | succ j =>
        simp only [List.getElem?_cons_succ] at hg
        have hr := ih.1 h3 j x y (by simpa using hj) hg
        refine ⟨hr.1, fun x' y' _ hp => ?_⟩
        cases j with
        | zero =>
          simp only [Nat.zero_add, Nat.sub_self, List.getElem?_cons_zero, Option.some.injEq, Prod.mk.injEq] at hp
          obtain ⟨rfl, rfl⟩ := hp
          cases r with
          | nil => simp at hg
          | cons q r =>
            simp only [List.getElem?_cons_zero, Option.some.injEq] at hg
            subst hg
            simpa [ascB] using h2
        | succ j => exact hr.2 x' y' (by omega) (by simpa using hp)
    · intro h
      simp only [okB, Bool.and_eq_true]
      refine ⟨okOne_iff.2 (h 0 px py (by simp) (by simp)).1, ?_, ih.2 fun j x y hj hg => ?_⟩
      · cases r with
        | nil => rfl
        | cons q r =>
          have := (h 1 q.1 q.2 (by simp) (by simp)).2 px py (by omega) (by simp)
          simpa [ascB] using this
      · have h1 := h (j + 1) x y (by simpa using hj) (by simpa using hg)
        refine ⟨h1.1, fun x' y' hj0 hp => h1.2 x' y' (by omega) ?_⟩
        cases j with
        | zero => omega
        | succ j => simpa using hp
theorem okB_bad {vs : List (Int × Int)} {k : Nat} {x y : Int} (hg : vs[k]? = some (x, y)) (h : ¬ ((-65536 ≤ x ∧ x ≤ 7) ∧ 0 ≤ y ∧ y ≤ 100)) : okB vs = false := by
  cases hb : okB vs with
  | false => rfl
  | true => exact absurd ((okB_iff vs).1 hb k x y (List.getElem?_eq_some_iff.1 hg).1 hg).1 h
theorem okB_order {vs : List (Int × Int)} {k : Nat} {x y x' y' : Int} (hg : vs[k]? = some (x, y)) (hk : 0 < k) (hp : vs[k - 1]? = some (x', y')) (h : ¬ x' < x) : okB vs = false := by
  cases hb : okB vs with
  | false => rfl
  | true => exact absurd (((okB_iff vs).1 hb k x y (List.getElem?_eq_some_iff.1 hg).1 hg).2 x' y' hk hp) h
theorem vldB_const {c : Int} {vs : List (Int × Int)} (h : ¬ (0 ≤ c ∧ c ≤ 100)) : vldB c vs = false := by
  unfold vldB
  rcases Decidable.not_and_iff_or_not.1 h with h | h <;> simp [h]
theorem vldB_ok {c : Int} {vs : List (Int × Int)} (h : okB vs = false) : vldB c vs = false := by simp [vldB, h]
theorem vldB_end {c : Int} {vs : List (Int × Int)} (h : 0 ≤ c ∧ c ≤ 100) (ho : OkTo vs vs.length) : vldB c vs = (decide (c = 0) || !covB c vs) := by
  simp [vldB, h.1, h.2, (okB_iff vs).2 ho]
theorem OkTo.next {vs : List (Int × Int)} {k : Nat} {x y : Int} (h : OkTo vs k) (hg : vs[k]? = some (x, y)) (h1 : (-65536 ≤ x ∧ x ≤ 7) ∧ 0 ≤ y ∧ y ≤ 100) (h2 : ∀ x' y', 0 < k → vs[k - 1]? = some (x', y') → x' < x) : OkTo vs (k + 1) := by
  intro j x1 y1 hj hj'
  rcases Nat.lt_or_ge j k with hlt | hge
  · exact h j x1 y1 hlt hj'
  · obtain rfl : j = k := by omega
    rw [hg] at hj'
    cases hj'
    exact ⟨h1, h2⟩

end Go.Proofs.YtobaeeobfcffoaaDoor

/-! The reference: Valid and Same. -/
namespace Go.Proofs.YtobaeeobfcffoaaDoor
open Go.RowKit

theorem vldB_cov {c : Int} {vs : List (Int × Int)} {k : Nat} {x y : Int} (h0 : 0 < c) (hg : vs[k]? = some (x, y)) (hy : c ≤ y) : vldB c vs = false := by
  have : covB c vs = true := List.any_eq_true.2 ⟨(x, y), List.mem_of_getElem? hg, by simpa using hy⟩
  have hc : decide (c = 0) = false := by simp; omega
  simp [vldB, this, hc]
theorem vldB_all {c : Int} {vs : List (Int × Int)} (h1 : 0 ≤ c) (h2 : c ≤ 100) (ho : OkTo vs vs.length) (hn : c = 0 ∨ NoCov c vs vs.length) : vldB c vs = true := by
  rw [vldB_end ⟨h1, h2⟩ ho]
  rcases hn with rfl | hn
  · simp
  · have : covB c vs = false := by
      rw [← covIdx_nonneg, covIdx_none hn]
      simp
    simp [this]

set_option maxRecDepth 100000 in
set_option maxHeartbeats 2000000 in
theorem rvalid_any (c : Int) (A : Option Addr) (cap : Nat) (vs : List (Int × Int)) (B : Nat) (w : World) (hv : VA w B A vs) (hB : B ≤ w.heap.size) :
    Calls Tryd.prog 83 #[.agg #[.int .i64 c, .slice A vs.length cap]] w fun e w' => e = .returned (.bool (vldB c vs)) ∧ Below w.heap.size w w' := by
  have hlen := hv.len
  by_cases hc : 0 ≤ c ∧ c ≤ 100
  · obtain ⟨c1, c2⟩ := hc
    go_enter Tryd.func83, Tryd.ntmps83
    go_wp2
    go_loopw [3] (fun i wr => ∃ k : Nat, k ≤ vs.length ∧ i = .int .i64 k ∧ OkTo vs k ∧ (c = 0 ∨ NoCov c vs k) ∧ Below (w.heap.size + 1) (w.alloc (.cells #[.int .i64 c, .slice A vs.length cap] 95)) wr) (fun i _ => vs.length - (intOf i).toNat)
    case atStart => exact ⟨0, Nat.zero_le _, rfl, fun j _ _ h _ => absurd h (by omega), .inr fun j _ _ h _ => absurd h (by omega), Below.refl _ _⟩
    case round =>
      obtain ⟨k, hk, rfl, hn, hnc, hbw⟩ := hrel
      have HN := Lib.hid (And.intro hn hnc)
      clear hn hnc
      have hl0 : wr.cell? ⟨w.heap.size, 0, none⟩ = some (.int .i64 c) := (hbw.cell (p := ⟨w.heap.size, 0, none⟩) (by simp)).trans (by go_simp)
      have hl1 : wr.cell? ⟨w.heap.size, 1, none⟩ = some (.slice A vs.length cap) := (hbw.cell (p := ⟨w.heap.size, 1, none⟩) (by simp)).trans (by go_simp)
      have hfr : Below w.heap.size w wr := ((Below.refl _ _).alloc (Nat.le_refl _) _).trans (hbw.mono (by simp))
      have hvr := hv.below hfr hB
      have hsz : w.heap.size + 1 ≤ wr.heap.size := by have := hbw.size; simpa using this
      by_cases hlt : k < vs.length
      · obtain ⟨b, off, x, y, hA, hb, hg, hc0, hc1⟩ := hvr.at_ hlt
        have hG := Lib.hid hg
        clear hg
        have hl0a : ∀ o, (wr.alloc o).cell? ⟨w.heap.size, 0, none⟩ = some (.int .i64 c) := fun o => (World.cell?_alloc_lt wr o ⟨w.heap.size, 0, none⟩ hsz).trans hl0
        have hl1a : ∀ o, (wr.alloc o).cell? ⟨w.heap.size, 1, none⟩ = some (.slice A vs.length cap) := fun o => (World.cell?_alloc_lt wr o ⟨w.heap.size, 1, none⟩ hsz).trans hl1
        by_cases hr : (-65536 ≤ x ∧ x ≤ 7) ∧ 0 ≤ y ∧ y ≤ 100
        · have HR := Lib.hid hr
          obtain ⟨⟨hx1, hx2⟩, hy1, hy2⟩ := hr
          have d1 : decide (x < -65536) = false := by simp; omega
          have d2 : decide (8 ≤ x) = false := by simp; omega
          have d3 : decide (y < 0) = false := by simp; omega
          have d4 : decide (100 < y) = false := by simp; omega
          by_cases hk0 : 0 < k
          · obtain ⟨b', off', x', y', hA', _, hg', hp0, hp1⟩ := hvr.at_ (k := k - 1) (by omega)
            rw [hA] at hA'
            cases hA'
            subst hA
            have hG' := Lib.hid hg'
            clear hg'
            have hp0a : ∀ o, (wr.alloc o).cell? ⟨b, off + (k - 1) * 2, none⟩ = some (.int .i64 x') := fun o => (World.cell?_alloc_lt wr o ⟨b, off + (k - 1) * 2, none⟩ (by show b < wr.heap.size; omega)).trans hp0
            have hk1 : (0 : Int) < (k : Int) := by omega
            have hk2 : (k : Int) - 1 < (vs.length : Int) := by omega
            by_cases hxx : x' < x
            · have hxd : decide (x ≤ x') = false := by simp; omega
              by_cases hcz : 0 < c
              · by_cases hcy : c ≤ y
                · have hbad := Lib.hid (vldB_cov hcz hG.out hcy)
                  go_wp2
                  go_quiet (fail)
                  go_wp2
                  go_ret
                  exact ⟨ret_bool hbad.out.symm, hfr.trans (Below.drewN' ((Below.refl _ _).alloc (by omega) _) _)⟩
                · have hcd : decide (c ≤ y) = false := by simp; omega
                  go_wp2
                  go_quiet (fail)
                  go_wp2
                  go_roundw
                  case rel => exact ⟨k + 1, by omega, by go_num, HN.out.1.next hG.out HR.out (fun x2 y2 _ h2 => by rw [hG'.out] at h2; cases h2; exact hxx), HN.out.2.imp id (fun h j x2 y2 hj hj2 => by
                      rcases Nat.lt_or_ge j k with h1 | h1
                      · exact h j x2 y2 h1 hj2
                      · obtain rfl : j = k := by omega
                        rw [hG.out] at hj2; cases hj2; omega), hbw.trans (Below.drewN' ((Below.refl _ _).alloc (by omega) _) _)⟩
                  case measure => simp [intOf]; omega
              · have hcd : decide (0 < c) = false := by simp; omega
                go_wp2
                go_quiet (fail)
                go_wp2
                go_roundw
                case rel => exact ⟨k + 1, by omega, by go_num, HN.out.1.next hG.out HR.out (fun x2 y2 _ h2 => by rw [hG'.out] at h2; cases h2; exact hxx), .inl (by omega), hbw.trans (Below.drewN' ((Below.refl _ _).alloc (by omega) _) _)⟩
                case measure => simp [intOf]; omega
            · have hxd : x ≤ x' := by omega
              have hbad := Lib.hid (vldB_ok (c := c) (okB_order hG.out hk0 hG'.out hxx))
              go_wp2
              go_quiet (fail)
              go_wp2
              go_ret
              exact ⟨ret_bool hbad.out.symm, hfr.trans (Below.drewN' ((Below.refl _ _).alloc (by omega) _) _)⟩
          · have hd : decide ((0 : Int) < (k : Int)) = false := decide_eq_false (by omega)
            subst hA
            by_cases hcz : 0 < c
            · by_cases hcy : c ≤ y
              · have hbad := Lib.hid (vldB_cov hcz hG.out hcy)
                go_wp2
                go_quiet (fail)
                go_wp2
                go_ret
                exact ⟨ret_bool hbad.out.symm, hfr.trans (Below.drewN' ((Below.refl _ _).alloc (by omega) _) _)⟩
              · have hcd : decide (c ≤ y) = false := by simp; omega
                go_wp2
                go_quiet (fail)
                go_wp2
                go_roundw
                case rel => exact ⟨k + 1, by omega, by go_num, HN.out.1.next hG.out HR.out (fun x2 y2 h0 _ => absurd h0 hk0), HN.out.2.imp id (fun h j x2 y2 hj hj2 => by
                    rcases Nat.lt_or_ge j k with h1 | h1
                    · exact h j x2 y2 h1 hj2
                    · obtain rfl : j = k := by omega
                      rw [hG.out] at hj2; cases hj2; omega), hbw.trans (Below.drewN' ((Below.refl _ _).alloc (by omega) _) _)⟩
                case measure => simp [intOf]; omega
            · have hcd : decide (0 < c) = false := by simp; omega
              go_wp2
              go_quiet (fail)
              go_wp2
              go_roundw
              case rel => exact ⟨k + 1, by omega, by go_num, HN.out.1.next hG.out HR.out (fun x2 y2 h0 _ => absurd h0 hk0), .inl (by omega), hbw.trans (Below.drewN' ((Below.refl _ _).alloc (by omega) _) _)⟩
              case measure => simp [intOf]; omega
        · have hbad := Lib.hid (vldB_ok (c := c) (okB_bad hG.out hr))
          have hcases : x < -65536 ∨ (decide (x < -65536) = false ∧ 8 ≤ x) ∨ (decide (x < -65536) = false ∧ decide (8 ≤ x) = false ∧ y < 0) ∨ (decide (x < -65536) = false ∧ decide (8 ≤ x) = false ∧ decide (y < 0) = false ∧ 100 < y) := by
            simp only [decide_eq_false_iff_not]; omega
          clear hr
          subst hA
          rcases hcases with h1 | ⟨h1, h2⟩ | ⟨h1, h2, h3⟩ | ⟨h1, h2, h3, h4⟩
          all_goals
            go_wp2
            go_ret
            exact ⟨ret_bool hbad.out.symm, hfr.trans ((Below.refl _ _).alloc (by omega) _)⟩
      · obtain rfl : k = vs.length := by omega
        go_wp2
        go_ret
        exact ⟨ret_bool (vldB_all c1 c2 HN.out.1 HN.out.2).symm, hfr⟩
  · have hbad := Lib.hid (vldB_const (vs := vs) hc)
    have hcases : c < 0 ∨ (decide (c < 0) = false ∧ 100 < c) := by
      simp only [decide_eq_false_iff_not]; omega
    clear hc
    rcases hcases with h1 | ⟨h1, h2⟩
    all_goals
      go_enter Tryd.func83, Tryd.ntmps83
      go_wp2
      go_ret
      exact ⟨ret_bool hbad.out.symm, (Below.refl _ _).alloc (Nat.le_refl _) _⟩

/-- Two levels are the same. -/
def sameB (c1 : Int) (v1 : List (Int × Int)) (c2 : Int) (v2 : List (Int × Int)) : Bool := decide (c1 = c2) && decide (v1 = v2)
theorem sameB_refl (c : Int) (vs : List (Int × Int)) : sameB c vs c vs = true := by simp [sameB]
/-- The first k elements agree. -/
def AgreeTo (v1 v2 : List (Int × Int)) (k : Nat) : Prop := ∀ j, j < k → v1[j]? = v2[j]?
theorem sameB_end {c : Int} {v1 v2 : List (Int × Int)} (hl : v1.length = v2.length) (h : AgreeTo v1 v2 v1.length) : sameB c v1 c v2 = true := by
  have : v1 = v2 := List.ext_getElem? fun j => by
    rcases Nat.lt_or_ge j v1.length with h1 | h1
    · exact h j h1
    · rw [List.getElem?_eq_none h1, List.getElem?_eq_none (by omega)]
  simp [sameB, this]
theorem sameB_no {c1 c2 : Int} {v1 v2 : List (Int × Int)} {k : Nat} (h : v1[k]? ≠ v2[k]?) : sameB c1 v1 c2 v2 = false := by
  have : v1 ≠ v2 := fun e => h (by rw [e])
  simp [sameB, this]
theorem sameB_len {c1 c2 : Int} {v1 v2 : List (Int × Int)} (h : v1.length ≠ v2.length) : sameB c1 v1 c2 v2 = false := by
  have : v1 ≠ v2 := fun e => h (by rw [e])
  simp [sameB, this]
theorem sameB_const {c1 c2 : Int} {v1 v2 : List (Int × Int)} (h : c1 ≠ c2) : sameB c1 v1 c2 v2 = false := by simp [sameB, h]

set_option maxRecDepth 100000 in
set_option maxHeartbeats 2000000 in
theorem rsame_any (c1 : Int) (A1 : Option Addr) (cap1 : Nat) (v1 : List (Int × Int)) (c2 : Int) (A2 : Option Addr) (cap2 : Nat) (v2 : List (Int × Int)) (B : Nat) (w : World) (hv1 : VA w B A1 v1) (hv2 : VA w B A2 v2) (hB : B ≤ w.heap.size) :
    Calls Tryd.prog 60 #[.agg #[.int .i64 c1, .slice A1 v1.length cap1], .agg #[.int .i64 c2, .slice A2 v2.length cap2]] w fun e w' => e = .returned (.bool (sameB c1 v1 c2 v2)) ∧ Below w.heap.size w w' := by
  have hlen1 := hv1.len
  have hlen2 := hv2.len
  by_cases hcc : c1 = c2
  · subst hcc
    by_cases hll : v1.length = v2.length
    · have hln : (v1.length : Int) = (v2.length : Int) := by omega
      have hl12 := Lib.hid hll
      have hq : ((v1.length : Int) != (v2.length : Int)) = false := by simp [hln]
      clear hll hln
      go_enter Tryd.func60, Tryd.ntmps60
      go_wp2
      go_loopw [5] (fun i wr => ∃ k : Nat, k ≤ v1.length ∧ i = .int .i64 k ∧ AgreeTo v1 v2 k ∧ Below (w.heap.size + 2) ((w.alloc (.cells #[.int .i64 c1, .slice A1 v1.length cap1] 95)).alloc (.cells #[.int .i64 c1, .slice A2 v2.length cap2] 95)) wr) (fun i _ => v1.length - (intOf i).toNat)
      case atStart => exact ⟨0, Nat.zero_le _, rfl, fun j h => absurd h (by omega), Below.refl _ _⟩
      case round =>
        obtain ⟨k, hk, rfl, hn, hbw⟩ := hrel
        have HN := Lib.hid hn
        clear hn
        have hl0 : wr.cell? ⟨w.heap.size, 1, none⟩ = some (.slice A1 v1.length cap1) := (hbw.cell (p := ⟨w.heap.size, 1, none⟩) (by simp)).trans (by go_simp)
        have hl1 : wr.cell? ⟨w.heap.size + 1, 1, none⟩ = some (.slice A2 v2.length cap2) := (hbw.cell (p := ⟨w.heap.size + 1, 1, none⟩) (by simp)).trans (by go_simp)
        have hfr : Below w.heap.size w wr := (((Below.refl _ _).alloc (Nat.le_refl _) _).alloc (by simp) _).trans (hbw.mono (by simp))
        have hvr1 := hv1.below hfr hB
        have hvr2 := hv2.below hfr hB
        by_cases hlt : k < v1.length
        · have hlt2 : k < v2.length := by have := hl12.out; omega
          obtain ⟨b1, off1, x1, y1, rfl, hb1, hg1, hc0, hc1⟩ := hvr1.at_ hlt
          obtain ⟨b2, off2, x2, y2, rfl, hb2, hg2, hd0, hd1⟩ := hvr2.at_ hlt2
          have hG := Lib.hid (And.intro hg1 hg2)
          clear hg1 hg2
          by_cases he : x1 = x2 ∧ y1 = y2
          · obtain ⟨rfl, rfl⟩ := he
            go_wp2
            go_quiet (fail)
            go_wp2
            go_roundw
            case rel => exact ⟨k + 1, by omega, by go_num, fun j hj => by
                rcases Nat.lt_or_ge j k with h1 | h1
                · exact HN.out j h1
                · obtain rfl : j = k := by omega
                  rw [hG.out.1, hG.out.2], Below.drewN' hbw _⟩
            case measure => simp [intOf]; omega
          · have hbad := Lib.hid (sameB_no (c1 := c1) (c2 := c1) (v1 := v1) (v2 := v2) (k := k) (by rw [hG.out.1, hG.out.2]; simpa using he))
            have hcases : (x1 == x2) = false ∨ (x1 = x2 ∧ (y1 == y2) = false) := by
              simp only [beq_eq_false_iff_ne]; omega
            clear he
            rcases hcases with h1 | ⟨rfl, h1⟩
            all_goals
              go_wp2
              go_quiet (fail)
              go_wp2
              go_ret
              exact ⟨ret_bool hbad.out.symm, Below.drewN' hfr _⟩
        · obtain rfl : k = v1.length := by omega
          have hgood := Lib.hid (sameB_end (c := c1) hl12.out HN.out)
          go_wp2
          go_ret
          exact ⟨ret_bool hgood.out.symm, hfr⟩
    · have hbad := Lib.hid (sameB_len (c1 := c1) (c2 := c1) hll)
      have hq : ((v1.length : Int) != (v2.length : Int)) = true := by simp; omega
      go_enter Tryd.func60, Tryd.ntmps60
      go_wp2
      go_ret
      exact ⟨ret_bool hbad.out.symm, ((Below.refl _ _).alloc (Nat.le_refl _) _).alloc (by simp) _⟩
  · have hbad := Lib.hid (sameB_const (v1 := v1) (v2 := v2) hcc)
    have hq : (c1 != c2) = true := by simpa using hcc
    go_enter Tryd.func60, Tryd.ntmps60
    go_wp2
    go_ret
    exact ⟨ret_bool hbad.out.symm, ((Below.refl _ _).alloc (Nat.le_refl _) _).alloc (by simp) _⟩
end Go.Proofs.YtobaeeobfcffoaaDoor
