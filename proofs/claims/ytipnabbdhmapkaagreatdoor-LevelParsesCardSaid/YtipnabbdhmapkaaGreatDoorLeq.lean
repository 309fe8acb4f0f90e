/- Leq: whether a level is at most another one. -/
import Derived.Test.YtipnabbdhmapkaaGreatDoorPlus
import Derived.Deep.RegionWith
namespace Go.Proofs.YtipnabbdhmapkaaGreatDoor
open Go.RowKit

set_option maxHeartbeats 400000 in
theorem cmpIdx_any (x y i : Int) (w : World) (h1 : -65536 ≤ x) (h2 : x ≤ 7) (h3 : -65536 ≤ i) (h4 : i ≤ 7) :
    Calls Tryz.prog 56 #[.agg #[.int .i64 x, .int .i64 y], .int .i64 i] w fun e w' => e = .returned (.int .i64 (x - i)) ∧ Below w.heap.size w w' := by
  go_enter Tryz.func56, Tryz.ntmps56
  go_wp2
  go_ret
  exact ⟨rfl, (Below.refl _ _).alloc (Nat.le_refl _) _⟩

/-- All of the first k have an index less than t; all from k on don't. -/
def LowTo (t : Int) (vs : List (Int × Int)) (k : Nat) : Prop := ∀ (j : Nat) (x y : Int), j < k → vs[j]? = some (x, y) → x < t
def HighFrom (t : Int) (vs : List (Int × Int)) (k : Nat) : Prop := ∀ (j : Nat) (x y : Int), k ≤ j → vs[j]? = some (x, y) → t ≤ x
/-- A later variable has a greater index. -/
def AscL (vs : List (Int × Int)) : Prop := ∀ (i j : Nat) (x y x' y' : Int), i < j → vs[i]? = some (x, y) → vs[j]? = some (x', y') → x < x'
def Idx (vs : List (Int × Int)) : Prop := ∀ (k : Nat) (x y : Int), vs[k]? = some (x, y) → -65536 ≤ x ∧ x ≤ 7
/-- The search returns a place, and whether the variable t stands there; if not, it stands nowhere. -/
def Found (t : Int) (vs : List (Int × Int)) (w : World) (e : Ending) (w' : World) : Prop :=
  (∃ (i : Nat) (y : Int), e = .returned (.tuple #[.int .i64 i, .bool true]) ∧ vs[i]? = some (t, y) ∧ Below w.heap.size w w') ∨
  (∃ (i : Nat), e = .returned (.tuple #[.int .i64 i, .bool false]) ∧ (∀ (j : Nat) (x y : Int), vs[j]? = some (x, y) → x ≠ t) ∧ Below w.heap.size w w')

set_option maxRecDepth 100000 in
set_option maxHeartbeats 2000000 in
theorem bsearch_any (A : Option Addr) (cap : Nat) (vs : List (Int × Int)) (t : Int) (B : Nat) (w : World) (hv : VA w B A vs) (hB : B ≤ w.heap.size) (ht1 : -65536 ≤ t) (ht2 : t ≤ 7) (hidx : Idx vs) (hasc : AscL vs) :
    Calls Tryz.prog 55 #[.slice A vs.length cap, .int .i64 t, .func (.func 56) #[] #[]] w (Found t vs w) := by
  have hlen := hv.len
  go_enter Tryz.func55, Tryz.ntmps55
  go_wp2
  go_loopw [9, 10] (fun p q wr => ∃ i j : Nat, i ≤ j ∧ j ≤ vs.length ∧ p = .int .i64 i ∧ q = .int .i64 j ∧ LowTo t vs i ∧ HighFrom t vs j ∧ Below w.heap.size w wr) (fun p q _ => (intOf q).toNat - (intOf p).toNat)
  case atStart => exact ⟨0, vs.length, Nat.zero_le _, Nat.le_refl _, rfl, rfl, fun _ _ _ h _ => absurd h (by omega), fun j x y h hj => absurd (List.getElem?_eq_some_iff.1 hj).1 (by omega), Below.refl _ _⟩
  case round =>
    obtain ⟨i, j, hij, hj, rfl, rfl, hlo, hhi, hbw⟩ := hrel
    have hvr := hv.below hbw hB
    have hsz := hbw.size
    by_cases hlt : i < j
    · obtain ⟨b, off, x, y, rfl, hb, hg, hc0, hc1⟩ := hvr.at_ (k := (i + j) / 2) (by omega)
      have hG := Lib.hid hg
      obtain ⟨hx1, hx2⟩ := hidx _ _ _ hg
      clear hg
      have e1 : ((((i + j) / 2 : Nat) : Nat) : Int) = ((i : Int) + j) / 2 := by omega
      by_cases hxt : x < t
      · go_wp2_with fail
        refine (cmpIdx_any x y t _ hx1 hx2 ht1 ht2).mono ?_
        rintro e w' ⟨rfl, hb'⟩
        go_wp2
        go_roundw
        case rel => exact ⟨(i + j) / 2 + 1, j, by omega, hj, by rw [Int.natCast_add, e1]; rfl, rfl, fun k xk yk hk hgk => by
            rcases Nat.lt_or_ge k ((i + j) / 2) with h | h
            · have := hasc k _ xk yk x y h hgk hG.out; omega
            · obtain rfl : k = (i + j) / 2 := by omega
              rw [hG.out] at hgk; cases hgk; exact hxt, hhi, hbw.trans (hb'.mono hsz)⟩
        case measure => simp [intOf]; omega
      · go_wp2_with fail
        refine (cmpIdx_any x y t _ hx1 hx2 ht1 ht2).mono ?_
        rintro e w' ⟨rfl, hb'⟩
        go_wp2
        go_roundw
        case rel => exact ⟨i, (i + j) / 2, by omega, by omega, rfl, by rw [e1], hlo, fun k xk yk hk hgk => by
            rcases Nat.lt_or_ge ((i + j) / 2) k with h | h
            · have := hasc _ k x y xk yk h hG.out hgk; omega
            · obtain rfl : k = (i + j) / 2 := by omega
              rw [hG.out] at hgk; cases hgk; omega, hbw.trans (hb'.mono hsz)⟩
        case measure => simp [intOf]; omega
    · obtain rfl : i = j := by omega
      by_cases hin : i < vs.length
      · obtain ⟨b, off, x, y, rfl, hb, hg, hc0, hc1⟩ := hvr.at_ hin
        have hG := Lib.hid hg
        obtain ⟨hx1, hx2⟩ := hidx _ _ _ hg
        have hge := hhi i x y (Nat.le_refl _) hg
        clear hg
        by_cases hxt : x = t
        · subst hxt
          go_wp2_with fail
          refine (cmpIdx_any x y x _ hx1 hx2 ht1 ht2).mono ?_
          rintro e w' ⟨rfl, hb'⟩
          go_wp2
          go_ret2
          exact .inl ⟨i, y, by simp, hG.out, hbw.trans (hb'.mono hsz)⟩
        · have hne : ((x - t : Int) == 0) = false := by rw [beq_eq_false_iff_ne]; omega
          have HN := Lib.hid hxt
          clear hxt
          go_wp2_with fail
          refine (cmpIdx_any x y t _ hx1 hx2 ht1 ht2).mono ?_
          rintro e w' ⟨rfl, hb'⟩
          go_wp2
          go_ret2
          refine .inr ⟨i, by simp, fun k xk yk hgk => ?_, hbw.trans (hb'.mono hsz)⟩
          rcases Nat.lt_trichotomy k i with h | rfl | h
          · have := hlo k xk yk h hgk; omega
          · rw [hG.out] at hgk; cases hgk; exact HN.out
          · have := hasc i k x y xk yk h hG.out hgk; omega
      · go_wp2
        go_ret2
        refine .inr ⟨i, by simp, fun k xk yk hgk => ?_, hbw⟩
        have := hlo k xk yk (by have := (List.getElem?_eq_some_iff.1 hgk).1; omega) hgk
        omega

theorem idx_of {vs : List (Int × Int)} (h : OkTo vs vs.length) : Idx vs := fun k x y hk => (h k x y (List.getElem?_eq_some_iff.1 hk).1 hk).1.1
theorem asc_of {vs : List (Int × Int)} (h : OkTo vs vs.length) : AscL vs := by
  intro i j
  induction j with
  | zero => intro x y x' y' hij; omega
  | succ j ih =>
    intro x y x' y' hij hi hj
    have hl := (List.getElem?_eq_some_iff.1 hj).1
    have hg : vs[j]? = some (vs[j].1, vs[j].2) := List.getElem?_eq_getElem (by omega)
    have hs := (h (j + 1) x' y' hl hj).2 _ _ (by omega) hg
    rcases Nat.lt_or_ge i j with hlt | hge
    · have := ih x y _ _ hlt hi hg; omega
    · obtain rfl : i = j := by omega
      rw [hi] at hg; cases hg; exact hs

/-- The variable (x, y) is at most some variable of vs. -/
def coverB (vs : List (Int × Int)) (p : Int × Int) : Bool := vs.any fun q => q.1 == p.1 && decide (p.2 ≤ q.2)
def leqB (c1 : Int) (v1 : List (Int × Int)) (c2 : Int) (v2 : List (Int × Int)) : Bool := (vldB c1 v1 && vldB c2 v2) && (decide (c1 ≤ leastI c2 v2) && v1.all (coverB v2))

theorem cover_yes {v2 : List (Int × Int)} {i : Nat} {x y y2 : Int} (h : v2[i]? = some (x, y2)) (hy : y ≤ y2) : coverB v2 (x, y) = true :=
  List.any_eq_true.2 ⟨(x, y2), List.mem_of_getElem? h, by simp [hy]⟩
theorem cover_no {v2 : List (Int × Int)} {i : Nat} {x y y2 : Int} (ha : AscL v2) (h : v2[i]? = some (x, y2)) (hy : ¬ y ≤ y2) : coverB v2 (x, y) = false := by
  unfold coverB
  rw [List.any_eq_false]
  intro q hq
  obtain ⟨j, hj, rfl⟩ := List.mem_iff_getElem.1 hq
  have hg : v2[j]? = some (v2[j].1, v2[j].2) := List.getElem?_eq_getElem hj
  by_cases hx : v2[j].1 = x
  · have : j = i := by
      rcases Nat.lt_trichotomy j i with hl | he | hl
      · have := ha j i _ _ _ _ hl hg h; omega
      · exact he
      · have := ha i j _ _ _ _ hl h hg; omega
    subst this
    rw [h] at hg
    simp only [Option.some.injEq, Prod.mk.injEq] at hg
    simp [← hg.2]; omega
  · simp [hx]
theorem cover_none {v2 : List (Int × Int)} {x y : Int} (h : ∀ (j : Nat) (a b : Int), v2[j]? = some (a, b) → a ≠ x) : coverB v2 (x, y) = false := by
  unfold coverB
  rw [List.any_eq_false]
  intro q hq
  obtain ⟨j, hj, rfl⟩ := List.mem_iff_getElem.1 hq
  have hne : (v2[j]).1 ≠ x := h j _ _ (List.getElem?_eq_getElem hj)
  simp [hne]
def CovTo (v1 v2 : List (Int × Int)) (k : Nat) : Prop := ∀ (j : Nat) (x y : Int), j < k → v1[j]? = some (x, y) → coverB v2 (x, y) = true
theorem all_yes {v1 v2 : List (Int × Int)} (h : CovTo v1 v2 v1.length) : v1.all (coverB v2) = true := by
  rw [List.all_eq_true]
  intro p hp
  obtain ⟨j, hj, rfl⟩ := List.mem_iff_getElem.1 hp
  exact h j _ _ hj (List.getElem?_eq_getElem hj)
theorem all_no {v1 v2 : List (Int × Int)} {k : Nat} {x y : Int} (h : v1[k]? = some (x, y)) (hc : coverB v2 (x, y) = false) : v1.all (coverB v2) = false := by
  rw [List.all_eq_false]
  exact ⟨(x, y), List.mem_of_getElem? h, by simp [hc]⟩

set_option maxRecDepth 100000 in
set_option maxHeartbeats 2000000 in
theorem leq_good (c1 : Int) (A1 : Option Addr) (cap1 : Nat) (v1 : List (Int × Int)) (c2 : Int) (A2 : Option Addr) (cap2 : Nat) (v2 : List (Int × Int)) (B : Nat) (w : World) (hv1 : VA w B A1 v1) (hv2 : VA w B A2 v2) (hB : B ≤ w.heap.size)
    (h1 : vldB c1 v1 = true) (h2 : vldB c2 v2 = true) :
    Calls Tryz.prog 26 #[.agg #[.int .i64 c1, .slice A1 v1.length cap1], .agg #[.int .i64 c2, .slice A2 v2.length cap2]] w fun e w' => e = .returned (.bool (decide (c1 ≤ leastI c2 v2) && v1.all (coverB v2))) ∧ Below w.heap.size w w' := by
  have hok1 := (vldB_parts h1).2
  have hok2 := (vldB_parts h2).2
  have HI1 := Lib.hid (idx_of hok1)
  have HI2 := Lib.hid (idx_of hok2)
  have HA2 := Lib.hid (asc_of hok2)
  have H1 := Lib.hid h1
  have H2 := Lib.hid h2
  clear h1 h2 hok1 hok2
  obtain ⟨W0, hW0⟩ : ∃ W0 : World, W0 = (w.alloc (.cells #[.int .i64 c1, .slice A1 v1.length cap1] 24)).alloc (.cells #[.int .i64 c2, .slice A2 v2.length cap2] 24) := ⟨_, rfl⟩
  have hb0 : Below w.heap.size w W0 := by subst hW0; exact ((Below.refl _ _).alloc (Nat.le_refl _) _).alloc (by simp) _
  have hs0 : W0.heap.size = w.heap.size + 2 := by subst hW0; simp
  have hx0 : W0.cell? ⟨w.heap.size, 0, none⟩ = some (.int .i64 c1) := by subst hW0; go_simp
  have hx1 : W0.cell? ⟨w.heap.size, 1, none⟩ = some (.slice A1 v1.length cap1) := by subst hW0; go_simp
  have hy0 : W0.cell? ⟨w.heap.size + 1, 0, none⟩ = some (.int .i64 c2) := by subst hW0; go_simp
  have hy1 : W0.cell? ⟨w.heap.size + 1, 1, none⟩ = some (.slice A2 v2.length cap2) := by subst hW0; go_simp
  have hv10 := hv1.below hb0 hB
  have hv20 := hv2.below hb0 hB
  have hv10d : VA W0.drew B A1 v1 := hv10
  have hbd : B ≤ W0.drew.heap.size := by show B ≤ W0.heap.size; omega
  have hK : ∀ (w1 : World), Below W0.heap.size W0.drew w1 → w1.cell? ⟨w.heap.size, 0, none⟩ = some (.int .i64 c1) ∧ w1.cell? ⟨w.heap.size, 1, none⟩ = some (.slice A1 v1.length cap1) ∧ w1.cell? ⟨w.heap.size + 1, 0, none⟩ = some (.int .i64 c2) ∧ w1.cell? ⟨w.heap.size + 1, 1, none⟩ = some (.slice A2 v2.length cap2) ∧ VA w1 B A1 v1 ∧ VA w1 B A2 v2 := fun w1 hb => by
    have hb : Below W0.heap.size W0 w1 := ⟨hb.os, hb.tape, hb.output, hb.size, hb.block⟩
    obtain ⟨hc, _⟩ := bcell hb
    exact ⟨(hc _ _ (by omega)).trans hx0, (hc _ _ (by omega)).trans hx1, (hc _ _ (by omega)).trans hy0, (hc _ _ (by omega)).trans hy1, hv10.below hb (by omega), hv20.below hb (by omega)⟩
  have HK := Lib.hid hK
  clear hK
  have hlen1 := hv1.len
  have hlen2 := hv2.len
  generalize hL : leastI c2 v2 = L
  have HL := Lib.hid hL
  clear hL
  go_enter Tryz.func26, Tryz.ntmps26
  go_wp2_with fail
  rw [← hW0]
  clear hW0
  go_region_with (first | (go_at_call 19; refine ((valid_any c1 A1 cap1 v1 B W0.drew hv10d hbd).mono ?_); rw [H1.out]; rintro e w1 ⟨rfl, hb1⟩; obtain ⟨hx0, hx1, hy0, hy1, hv11, hv21⟩ := HK.out _ hb1; have hs1 := hb1.size; have hbB1 := Nat.le_trans hbd hs1; clear hv10d) | (go_at_call 19; refine ((valid_any c2 A2 cap2 v2 B _ hv21 hbB1).mono ?_); rw [H2.out]; rintro e w2 ⟨rfl, hb2⟩; have hbx2 := hb1.trans (hb2.mono hb1.size); obtain ⟨hx0, hx1, hy0, hy1, hv12, hv22⟩ := HK.out _ hbx2; have hbB2 := Nat.le_trans hbB1 hb2.size) | (go_at_call 50; refine ((least_any c2 A2 cap2 v2 B _ hv22 hbB2).mono ?_); rw [HL.out]; rintro e w3 ⟨rfl, hb3⟩; have hbx3 := hbx2.trans (hb3.mono hbx2.size); obtain ⟨hx0, hx1, hy0, hy1, hv13, hv23⟩ := HK.out _ hbx3))
  rotate_left
  rotate_left
  any_goals
    by_cases hle : c1 ≤ L
    · have hd : decide (L < c1) = false := by simp; omega
      go_wp2_with fail
      go_loopw [27] (fun i wr => ∃ k : Nat, k ≤ v1.length ∧ i = .int .i64 k ∧ CovTo v1 v2 k ∧ Below W0.heap.size W0.drew wr) (fun i _ => v1.length - (intOf i).toNat)
      case atStart => exact ⟨0, Nat.zero_le _, rfl, fun _ _ _ h _ => absurd h (by omega), hbx3⟩
      case round =>
        obtain ⟨k, hk, rfl, hcv, hbr⟩ := hrel
        obtain ⟨gx0, gx1, gy0, gy1, gv1, gv2⟩ := HK.out _ hbr
        have hsr : W0.heap.size ≤ wr.heap.size := hbr.size
        have hfr : Below w.heap.size w wr := hb0.trans ((⟨hbr.os, hbr.tape, hbr.output, hbr.size, hbr.block⟩ : Below W0.heap.size W0 _).mono (by omega))
        by_cases hlt : k < v1.length
        · obtain ⟨b, off, x, y, rfl, hb, hg, hc0, hc1⟩ := gv1.at_ hlt
          have hG := Lib.hid hg
          obtain ⟨hi1, hi2⟩ := HI1.out _ _ _ hg
          clear hg
          have gy1a : ∀ o, (wr.alloc o).cell? ⟨w.heap.size + 1, 1, none⟩ = some (.slice A2 v2.length cap2) := fun o => (World.cell?_alloc_lt wr o _ (by show w.heap.size + 1 < wr.heap.size; omega)).trans gy1
          have gv2a : VA (wr.alloc (.cells #[.int .i64 x, .int .i64 y] 69)) B A2 v2 := gv2.alloc (by omega) _
          go_wp2_with fail
          refine (bsearch_any A2 cap2 v2 x B _ gv2a (by simp; omega) hi1 hi2 HI2.out HA2.out).mono ?_
          have hbn : Below W0.heap.size W0.drew (wr.alloc (.cells #[.int .i64 x, .int .i64 y] 69)) := hbr.trans ((Below.refl _ _).alloc hsr _)
          rintro e w5 (⟨i, y2, rfl, hf, hb5⟩ | ⟨i, rfl, hf, hb5⟩)
          · have hs5 := hb5.size
            have hz5 : wr.heap.size < w5.heap.size := by simp at hs5; omega
            have hb5' : Below W0.heap.size W0.drew w5 := hbn.trans (hb5.mono (by simp; omega))
            have gv25 := gv2a.below hb5 (by simp; omega)
            have hil := (List.getElem?_eq_some_iff.1 hf).1
            obtain ⟨b2, off2, x2, y2', hA2', hb2', hg2, hd0, hd1⟩ := gv25.at_ hil
            rw [hf] at hg2
            cases hg2
            have gy5 : w5.cell? ⟨w.heap.size + 1, 1, none⟩ = some (.slice A2 v2.length cap2) := (hb5.cell (p := ⟨w.heap.size + 1, 1, none⟩) (by simp; omega)).trans (gy1a _)
            have gvb : w5.cell? ⟨wr.heap.size, 1, none⟩ = some (.int .i64 y) := (hb5.cell (p := ⟨wr.heap.size, 1, none⟩) (by simp)).trans (by go_simp)
            have hHF := Lib.hid hf
            clear hf
            have hi0 : (0 : Int) ≤ (i : Int) := by omega
            subst hA2'
            by_cases hy : y ≤ y2
            · have hdy : decide (y2 < y) = false := by simp; omega
              have hcy := Lib.hid (cover_yes hHF.out hy)
              clear hy
              go_wp2
              go_quiet (fail)
              go_wp2
              go_roundw
              case rel => exact ⟨k + 1, by omega, by go_num, fun j xj yj hj hgj => by
                  rcases Nat.lt_or_ge j k with h | h
                  · exact hcv j xj yj h hgj
                  · obtain rfl : j = k := by omega
                    rw [hG.out] at hgj; cases hgj; exact hcy.out, Below.drewN' hb5' _⟩
              case measure => simp [intOf]; omega
            · have hno := Lib.hid (all_no hG.out (cover_no HA2.out hHF.out hy))
              have hdy : decide (y2 < y) = true := by simp; omega
              clear hy
              go_wp2
              go_quiet (fail)
              go_wp2
              go_ret
              refine ⟨ret_bool (by rw [hno.out]; simp), ?_⟩
              exact Below.drewN' (hfr.trans (((Below.refl _ _).alloc (by omega) _).trans (hb5.mono (by simp; omega)))) _
          · have hno := Lib.hid (all_no hG.out (cover_none hf))
            clear hf
            go_wp2
            go_quiet (fail)
            go_wp2
            go_ret
            refine ⟨ret_bool (by rw [hno.out]; simp), ?_⟩
            exact Below.drewN' (hfr.trans (((Below.refl _ _).alloc (by omega) _).trans (hb5.mono (by simp; omega)))) _
        · obtain rfl : k = v1.length := by omega
          have hyes := Lib.hid (all_yes hcv)
          go_wp2
          go_ret
          exact ⟨ret_bool (by rw [hyes.out, decide_eq_true hle]; rfl), hfr⟩
    · go_wp2
      go_ret
      exact ⟨ret_bool (by rw [decide_eq_false (show ¬ c1 ≤ L by omega)]; rfl), hb0.trans ((⟨hbx3.os, hbx3.tape, hbx3.output, hbx3.size, hbx3.block⟩ : Below W0.heap.size W0 _).mono (by omega))⟩
end Go.Proofs.YtipnabbdhmapkaaGreatDoor
