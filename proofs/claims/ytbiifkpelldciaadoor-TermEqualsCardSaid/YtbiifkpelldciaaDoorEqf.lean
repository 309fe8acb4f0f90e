/- slices.EqualFunc of levels by level.Same; sameNode of the program. -/
import Derived.Test.YtbiifkpelldciaaDoorSml
import Derived.Test.YtbiifkpelldciaaDoorVsm
import Derived.Test.YtbiifkpelldciaaDoorFwk
namespace Go.Proofs.YtbiifkpelldciaaDoor
open Go.RowKit

set_option maxRecDepth 100000 in
set_option maxHeartbeats 4000000 in
theorem equalF_any (l1 l2 : List (Int × List (Int × Int))) (A1 A2 : Option Addr) (cap1 cap2 B : Nat) (w : World) (h1 : LvsA w B A1 l1) (h2 : LvsA w B A2 l2) (hB : B ≤ w.heap.size) :
    Calls Tryd.prog 59 #[.slice A1 l1.length cap1, .slice A2 l2.length cap2, .func (.func 60) #[] #[]] w fun e w' => e = .returned (.bool (decide (l1 = l2))) ∧ Below w.heap.size w w' := by
  have hz1 : l1.length ≤ 4398046511104 := by have := h1.1; omega
  have hz2 : l2.length ≤ 4398046511104 := by have := h2.1; omega
  by_cases hll : l1.length = l2.length
  · have hq : ((l1.length : Int) != (l2.length : Int)) = false := by simp [hll]
    have HL := Lib.hid hll
    have H1 := Lib.hid h1
    have H2 := Lib.hid h2
    clear hll h1 h2
    go_enter Tryd.func59, Tryd.ntmps59
    go_wp2_with fail
    go_loopw [17] (fun i wr => ∃ k : Nat, k ≤ l1.length ∧ i = .int .i64 (k : Int) ∧ Hid (l1.take k = l2.take k) ∧ Below w.heap.size w wr) (fun i _ => l1.length - (intOf i).toNat)
    case atStart => exact ⟨0, Nat.zero_le _, rfl, Lib.hid rfl, Below.refl _ _⟩
    case round =>
      obtain ⟨k, hk, rfl, hx, hb⟩ := hrel
      by_cases hlt : k < l1.length
      · have hlt2 : k < l2.length := by have := HL.out; omega
        obtain ⟨b1, o1, Aa, ca, rfl, hb1, g0, g1, gv⟩ := (H1.out.below hb hB).at_ hlt
        obtain ⟨b2, o2, Ab, cb, rfl, hb2, g2, g3, gw⟩ := (H2.out.below hb hB).at_ hlt2
        have hwr : B ≤ wr.heap.size := Nat.le_trans hB hb.size
        have HT := Lib.hid (show sameB l1[k].1 l1[k].2 l2[k].1 l2[k].2 = true → l1.take (k + 1) = l2.take (k + 1) from fun e => by
          rw [sameB_iff, decide_eq_true_eq] at e
          have e' : l1[k] = l2[k] := e
          rw [List.take_add_one, List.take_add_one, List.getElem?_eq_getElem hlt, List.getElem?_eq_getElem hlt2, hx.out, e'])
        have HF := Lib.hid (show sameB l1[k].1 l1[k].2 l2[k].1 l2[k].2 = false → decide (l1 = l2) = false from fun e => by
          rw [sameB_iff, decide_eq_false_iff_not] at e
          rw [decide_eq_false_iff_not]
          intro e2
          subst e2
          exact e rfl)
        generalize hc1 : l1[k].1 = c1 at *
        generalize hv1 : l1[k].2 = v1 at *
        generalize hc2 : l2[k].1 = c2 at *
        generalize hv2 : l2[k].2 = v2 at *
        clear hc1 hv1 hc2 hv2
        have hq1 : b1 < wr.heap.size := Nat.lt_of_lt_of_le hb1 hwr
        have hq2 : b2 < wr.heap.size := Nat.lt_of_lt_of_le hb2 hwr
        have g2' : (wr.alloc (.cells #[.int .i64 c1, .slice Aa v1.length ca] 52)).cell? ⟨b2, o2 + k * 2, none⟩ = some (.int .i64 c2) := (World.cell?_alloc_lt _ _ ⟨b2, o2 + k * 2, none⟩ hq2).trans g2
        have g3' : (wr.alloc (.cells #[.int .i64 c1, .slice Aa v1.length ca] 52)).cell? ⟨b2, o2 + k * 2 + 1, none⟩ = some (.slice Ab v2.length cb) := (World.cell?_alloc_lt _ _ ⟨b2, o2 + k * 2 + 1, none⟩ hq2).trans g3
        have hbw : Below wr.heap.size wr ((wr.alloc (.cells #[.int .i64 c1, .slice Aa v1.length ca] 52)).alloc (.cells #[.int .i64 c2, .slice Ab v2.length cb] 52)) := ((Below.refl _ _).alloc (Nat.le_refl _) _).alloc (by simp) _
        have HV := Lib.hid (And.intro (gv.below hbw hwr) (gw.below hbw hwr))
        have HW := Lib.hid (hb.trans (hbw.mono hb.size))
        have hsz : B ≤ ((wr.alloc (.cells #[.int .i64 c1, .slice Aa v1.length ca] 52)).alloc (.cells #[.int .i64 c2, .slice Ab v2.length cb] 52)).heap.size := by simp; omega
        clear gv gw hb hbw
        go_wp2_with fail
        refine (same_any c1 Aa ca v1 c2 Ab cb v2 B _ HV.out.1 HV.out.2 hsz).mono ?_
        rintro e w2 ⟨rfl, hb2'⟩
        have HB := Lib.hid (HW.out.trans (hb2'.mono (HW.out.size)))
        clear hb2'
        cases hsb : sameB c1 v1 c2 v2 with
        | true =>
          have HT2 := Lib.hid (HT.out hsb)
          go_wp2_with fail
          go_roundw
          case rel => exact ⟨k + 1, by omega, by go_num, HT2, HB.out⟩
          case measure => simp [intOf]; omega
        | false =>
          have HF2 := Lib.hid (HF.out hsb)
          go_wp2_with fail
          go_ret
          exact ⟨ret_bool HF2.out.symm, HB.out⟩
      · have e1 : l1.take k = l1 := List.take_of_length_le (by omega)
        have e2 : l2.take k = l2 := List.take_of_length_le (by have := HL.out; omega)
        have HE := Lib.hid (show l1 = l2 by have := hx.out; rwa [e1, e2] at this)
        have hd2 : decide ((k : Int) < (l1.length : Int)) = false := by rw [decide_eq_false_iff_not]; omega
        clear e1 e2
        go_wp2_with fail
        go_ret
        exact ⟨ret_bool (decide_eq_true HE.out).symm, hb⟩
  · have hq : ((l1.length : Int) != (l2.length : Int)) = true := by simp; omega
    have HE := Lib.hid (show decide (l1 = l2) = false by rw [decide_eq_false_iff_not]; intro e; exact hll (by rw [e]))
    rw [HE.out]
    clear hll
    go_enter Tryd.func59, Tryd.ntmps59
    go_wp2_with fail
    go_ret
    exact ⟨rfl, Below.refl _ _⟩
end Go.Proofs.YtbiifkpelldciaaDoor
