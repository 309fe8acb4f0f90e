/- The reference: SameLists. -/
import Derived.Test.YtbiifkpelldciaaDoorFwk
import Derived.Test.YtbiifkpelldciaaDoorVrf
import Derived.Deep.RegionHeld3
namespace Go.Proofs.YtbiifkpelldciaaDoor
open Go.RowKit

theorem sameB_iff {c1 c2 : Int} {v1 v2 : List (Int × Int)} : sameB c1 v1 c2 v2 = decide ((c1, v1) = (c2, v2)) := by
  unfold sameB
  by_cases h1 : c1 = c2
  · by_cases h2 : v1 = v2
    · subst h1 h2; simp
    · simp [h2]
  · simp [h1]

set_option maxRecDepth 100000 in
set_option maxHeartbeats 4000000 in
theorem rsamelists_any (l1 l2 : List (Int × List (Int × Int))) (A1 A2 : Option Addr) (cap1 cap2 B : Nat) (w : World) (h1 : LvsA w B A1 l1) (h2 : LvsA w B A2 l2) (hB : B ≤ w.heap.size) :
    Calls Tryd.prog 42 #[.slice A1 l1.length cap1, .slice A2 l2.length cap2] w fun e w' => e = .returned (.bool (decide (l1 = l2))) ∧ Below w.heap.size w w' := by
  have hz1 : l1.length ≤ 4398046511104 := by have := h1.1; omega
  have hz2 : l2.length ≤ 4398046511104 := by have := h2.1; omega
  by_cases hll : l1.length = l2.length
  · have HL := Lib.hid hll
    have hq : ((l1.length : Int) != (l2.length : Int)) = false := by simp [hll]
    have H1 := Lib.hid h1
    have H2 := Lib.hid h2
    clear hll h1 h2
    go_enter Tryd.func42, Tryd.ntmps42
    go_wp2_with fail
    go_loopw [5] (fun i wr => ∃ k : Nat, k ≤ l1.length ∧ i = .int .i64 k ∧ Hid (l1.take k = l2.take k) ∧ Below w.heap.size w wr) (fun i _ => l1.length - (intOf i).toNat)
    case atStart => exact ⟨0, Nat.zero_le _, rfl, Lib.hid rfl, Below.refl _ _⟩
    case round =>
      obtain ⟨k, hk, rfl, hx, hb⟩ := hrel
      by_cases hlt : k < l1.length
      · have hlt2 : k < l2.length := by have := HL.out; omega
        obtain ⟨b1, o1, Aa, ca, rfl, hb1, g0, g1, gv⟩ := (H1.out.below hb hB).at_ hlt
        obtain ⟨b2, o2, Ab, cb, rfl, hb2, g2, g3, gw⟩ := (H2.out.below hb hB).at_ hlt2
        have hwr : B ≤ wr.heap.size := Nat.le_trans hB hb.size
        have HT := Lib.hid (show sameB l1[k].1 l1[k].2 l2[k].1 l2[k].2 = true → l1.take (k + 1) = l2.take (k + 1) from fun e => by
          rw [sameB_iff, decide_eq_true_eq] at e
          have e' : l1[k] = l2[k] := e
          rw [List.take_add_one, List.take_add_one, List.getElem?_eq_getElem hlt, List.getElem?_eq_getElem hlt2, hx.out, e'])
        have HF := Lib.hid (show sameB l1[k].1 l1[k].2 l2[k].1 l2[k].2 = false → decide (l1 = l2) = false from fun e => by
          rw [sameB_iff, decide_eq_false_iff_not] at e
          rw [decide_eq_false_iff_not]
          intro e2
          subst e2
          exact e rfl)
        generalize hc1 : l1[k].1 = c1 at *
        generalize hv1 : l1[k].2 = v1 at *
        generalize hc2 : l2[k].1 = c2 at *
        generalize hv2 : l2[k].2 = v2 at *
        clear hc1 hv1 hc2 hv2
        have HV := Lib.hid (show VA wr.drew B Aa v1 ∧ VA wr.drew B Ab v2 from ⟨gv.below (Below.drewN' (Below.refl B wr) 1) (Nat.le_refl _), gw.below (Below.drewN' (Below.refl B wr) 1) (Nat.le_refl _)⟩)
        have HW := Lib.hid hb
        have G := Lib.hid (And.intro g0 (And.intro g1 (And.intro g2 g3)))
        have hq1 : b1 < wr.heap.size := Nat.lt_of_lt_of_le hb1 hwr
        have hq2 : b2 < wr.heap.size := Nat.lt_of_lt_of_le hb2 hwr
        clear gv gw hb
        cases hsb : sameB c1 v1 c2 v2 with
        | true =>
          have HT2 := Lib.hid (HT.out hsb)
          replace hsb := Lib.hid hsb
          clear HT HF
          go_wp2_with fail
          have HB := Lib.hid (Below.refl wr.heap.size wr.drew)
          go_region_held3 (fun w' => w'.cell? ⟨b1, o1 + k * 2, none⟩ = some (.int .i64 c1) ∧ w'.cell? ⟨b1, o1 + k * 2 + 1, none⟩ = some (.slice Aa v1.length ca) ∧ w'.cell? ⟨b2, o2 + k * 2, none⟩ = some (.int .i64 c2) ∧ w'.cell? ⟨b2, o2 + k * 2 + 1, none⟩ = some (.slice Ab v2.length cb))
            (first | exact G.out | exact ⟨(HB.out.cell (p := ⟨b1, o1 + k * 2, none⟩) hq1).trans G.out.1, (HB.out.cell (p := ⟨b1, o1 + k * 2 + 1, none⟩) hq1).trans G.out.2.1, (HB.out.cell (p := ⟨b2, o2 + k * 2, none⟩) hq2).trans G.out.2.2.1, (HB.out.cell (p := ⟨b2, o2 + k * 2 + 1, none⟩) hq2).trans G.out.2.2.2⟩)
            (first | (go_at_call 61; refine (rsame_any c1 Aa ca v1 c2 Ab cb v2 B _ HV.out.1 HV.out.2 hwr).mono ?_; rw [hsb.out]; rintro e w7 ⟨rfl, hb7⟩; have HB := Lib.hid (show Below wr.heap.size wr w7 from ⟨hb7.os, hb7.tape, hb7.output, hb7.size, hb7.block⟩); clear hb7))
          all_goals
            go_wp2
            go_roundw
            case rel => exact ⟨k + 1, by omega, by go_num, HT2, HW.out.trans (HB.out.mono HW.out.size)⟩
            case measure => simp [intOf]; omega
        | false =>
          have HF2 := Lib.hid (HF.out hsb)
          replace hsb := Lib.hid hsb
          clear HT HF
          go_wp2_with fail
          have HB := Lib.hid (Below.refl wr.heap.size wr.drew)
          go_region_held3 (fun w' => w'.cell? ⟨b1, o1 + k * 2, none⟩ = some (.int .i64 c1) ∧ w'.cell? ⟨b1, o1 + k * 2 + 1, none⟩ = some (.slice Aa v1.length ca) ∧ w'.cell? ⟨b2, o2 + k * 2, none⟩ = some (.int .i64 c2) ∧ w'.cell? ⟨b2, o2 + k * 2 + 1, none⟩ = some (.slice Ab v2.length cb))
            (first | exact G.out | exact ⟨(HB.out.cell (p := ⟨b1, o1 + k * 2, none⟩) hq1).trans G.out.1, (HB.out.cell (p := ⟨b1, o1 + k * 2 + 1, none⟩) hq1).trans G.out.2.1, (HB.out.cell (p := ⟨b2, o2 + k * 2, none⟩) hq2).trans G.out.2.2.1, (HB.out.cell (p := ⟨b2, o2 + k * 2 + 1, none⟩) hq2).trans G.out.2.2.2⟩)
            (first | (go_at_call 61; refine (rsame_any c1 Aa ca v1 c2 Ab cb v2 B _ HV.out.1 HV.out.2 hwr).mono ?_; rw [hsb.out]; rintro e w7 ⟨rfl, hb7⟩; have HB := Lib.hid (show Below wr.heap.size wr w7 from ⟨hb7.os, hb7.tape, hb7.output, hb7.size, hb7.block⟩); clear hb7))
          all_goals
            go_wp2
            go_ret
            exact ⟨ret_bool HF2.out.symm, HW.out.trans (HB.out.mono HW.out.size)⟩
      · have e1 : l1.take k = l1 := List.take_of_length_le (by omega)
        have e2 : l2.take k = l2 := List.take_of_length_le (by have := HL.out; omega)
        have HE := Lib.hid (show l1 = l2 by have := hx.out; rwa [e1, e2] at this)
        have hd2 : decide ((k : Int) < (l1.length : Int)) = false := by rw [decide_eq_false_iff_not]; omega
        clear e1 e2
        go_wp2
        go_ret
        exact ⟨ret_bool (decide_eq_true HE.out).symm, hb⟩
  · have hq : ((l1.length : Int) != (l2.length : Int)) = true := by simp; omega
    have HE := Lib.hid (show decide (l1 = l2) = false by rw [decide_eq_false_iff_not]; intro e; exact hll (by rw [e]))
    rw [HE.out]
    clear hll
    go_enter Tryd.func42, Tryd.ntmps42
    go_wp2
    go_ret
    exact ⟨rfl, Below.refl _ _⟩
end Go.Proofs.YtbiifkpelldciaaDoor
