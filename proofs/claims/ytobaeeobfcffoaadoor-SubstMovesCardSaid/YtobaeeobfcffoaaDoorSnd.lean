/- Same. -/
import Derived.Test.YtobaeeobfcffoaaDoorVrf
import Derived.Test.YtobaeeobfcffoaaDoorFwk
import Derived.Deep.RegionHeld3
import Derived.Test.YtobaeeobfcffoaaDoorNmr
/-! Same. -/
namespace Go.Proofs.YtobaeeobfcffoaaDoor
open Go.RowKit

set_option maxRecDepth 100000 in
set_option maxHeartbeats 1000000 in
theorem equal_any (A1 : Option Addr) (cap1 : Nat) (v1 : List (Int × Int)) (A2 : Option Addr) (cap2 : Nat) (v2 : List (Int × Int)) (B : Nat) (w : World) (hv1 : VA w B A1 v1) (hv2 : VA w B A2 v2) (hB : B ≤ w.heap.size) :
    Calls Tryd.prog 84 #[.slice A1 v1.length cap1, .slice A2 v2.length cap2] w fun e w' => e = .returned (.bool (decide (v1 = v2))) ∧ Below w.heap.size w w' := by
  have hlen1 := hv1.len
  have hlen2 := hv2.len
  by_cases hll : v1.length = v2.length
  · have hln : (v1.length : Int) = (v2.length : Int) := by omega
    have hl12 := Lib.hid hll
    have hq : ((v1.length : Int) != (v2.length : Int)) = false := by simp [hln]
    clear hll hln
    go_enter Tryd.func84, Tryd.ntmps84
    go_wp2
    go_loopw [13] (fun i wr => ∃ k : Nat, k ≤ v1.length ∧ i = .int .i64 k ∧ AgreeTo v1 v2 k ∧ Below w.heap.size w wr) (fun i _ => v1.length - (intOf i).toNat)
    case atStart => exact ⟨0, Nat.zero_le _, rfl, fun j h => absurd h (by omega), Below.refl _ _⟩
    case round =>
      obtain ⟨k, hk, rfl, hn, hfr⟩ := hrel
      have HN := Lib.hid hn
      clear hn
      have hvr1 := hv1.below hfr hB
      have hvr2 := hv2.below hfr hB
      by_cases hlt : k < v1.length
      · have hlt2 : k < v2.length := by have := hl12.out; omega
        obtain ⟨b1, off1, x1, y1, rfl, hb1, hg1, hc0, hc1⟩ := hvr1.at_ hlt
        obtain ⟨b2, off2, x2, y2, rfl, hb2, hg2, hd0, hd1⟩ := hvr2.at_ hlt2
        have hG := Lib.hid (And.intro hg1 hg2)
        clear hg1 hg2
        by_cases he : x1 = x2 ∧ y1 = y2
        · obtain ⟨rfl, rfl⟩ := he
          go_wp2
          go_quiet (fail)
          go_wp2
          go_roundw
          case rel => exact ⟨k + 1, by omega, by go_num, fun j hj => by
              rcases Nat.lt_or_ge j k with h1 | h1
              · exact HN.out j h1
              · obtain rfl : j = k := by omega
                rw [hG.out.1, hG.out.2], Below.drewN' hfr _⟩
          case measure => simp [intOf]; omega
        · have hbad : Hid (decide (v1 = v2) = false) := Lib.hid (by
            simp only [decide_eq_false_iff_not]
            intro e
            have h1 := hG.out.1
            rw [e, hG.out.2] at h1
            simp only [Option.some.injEq, Prod.mk.injEq] at h1
            exact he ⟨h1.1.symm, h1.2.symm⟩)
          have hcases : (x1 == x2) = false ∨ (x1 = x2 ∧ (y1 == y2) = false) := by
            simp only [beq_eq_false_iff_ne]; omega
          clear he
          rcases hcases with h1 | ⟨rfl, h1⟩
          all_goals
            go_wp2
            go_quiet (fail)
            go_wp2
            go_ret
            exact ⟨ret_bool hbad.out.symm, Below.drewN' hfr _⟩
      · obtain rfl : k = v1.length := by omega
        have hgood : Hid (decide (v1 = v2) = true) := Lib.hid (by
          have h := sameB_end (c := 0) hl12.out HN.out
          simpa [sameB] using h)
        go_wp2
        go_ret
        exact ⟨ret_bool hgood.out.symm, hfr⟩
  · have hbad : Hid (decide (v1 = v2) = false) := Lib.hid (by
      simp only [decide_eq_false_iff_not]
      intro e
      exact hll (by rw [e]))
    have hq : ((v1.length : Int) != (v2.length : Int)) = true := by simp; omega
    go_enter Tryd.func84, Tryd.ntmps84
    go_wp2
    go_ret
    exact ⟨ret_bool hbad.out.symm, Below.refl _ _⟩

set_option maxRecDepth 100000 in
set_option maxHeartbeats 1000000 in
theorem same_any (c1 : Int) (A1 : Option Addr) (cap1 : Nat) (v1 : List (Int × Int)) (c2 : Int) (A2 : Option Addr) (cap2 : Nat) (v2 : List (Int × Int)) (B : Nat) (w : World) (hv1 : VA w B A1 v1) (hv2 : VA w B A2 v2) (hB : B ≤ w.heap.size) :
    Calls Tryd.prog 77 #[.agg #[.int .i64 c1, .slice A1 v1.length cap1], .agg #[.int .i64 c2, .slice A2 v2.length cap2]] w fun e w' => e = .returned (.bool (sameB c1 v1 c2 v2)) ∧ Below w.heap.size w w' := by
  have heq := Lib.hid (fun W (hb : Below w.heap.size w W) => equal_any A1 cap1 v1 A2 cap2 v2 B W (hv1.below hb hB) (hv2.below hb hB) (by have := hb.size; omega))
  have hb0 : Hid (Below w.heap.size w ((w.alloc (.cells #[.int .i64 c1, .slice A1 v1.length cap1] 95)).alloc (.cells #[.int .i64 c2, .slice A2 v2.length cap2] 95))) := Lib.hid (((Below.refl _ _).alloc (Nat.le_refl _) _).alloc (by simp) _)
  by_cases hcc : c1 = c2
  · subst hcc
    have hs : Hid (sameB c1 v1 c1 v2 = decide (v1 = v2)) := Lib.hid (by simp [sameB])
    clear hv1 hv2
    go_enter Tryd.func77, Tryd.ntmps77
    go_wp2_with fail
    refine (heq.out _ hb0.out).mono ?_
    rintro e w1 ⟨rfl, hb1⟩
    have HB := Lib.hid (hb0.out.trans (hb1.mono hb0.out.size))
    clear hb1
    go_wp2
    go_ret
    exact ⟨ret_bool hs.out.symm, HB.out⟩
  · have hbad := Lib.hid (sameB_const (v1 := v1) (v2 := v2) hcc)
    have hq : (c1 == c2) = false := by simpa using hcc
    clear hv1 hv2
    go_enter Tryd.func77, Tryd.ntmps77
    go_wp2
    go_ret
    exact ⟨ret_bool hbad.out.symm, hb0.out⟩
end Go.Proofs.YtobaeeobfcffoaaDoor

/-! The reference: SameLists. -/
namespace Go.Proofs.YtobaeeobfcffoaaDoor
open Go.RowKit

theorem sameB_iff {c1 c2 : Int} {v1 v2 : List (Int × Int)} : sameB c1 v1 c2 v2 = decide ((c1, v1) = (c2, v2)) := by
  unfold sameB
  by_cases h1 : c1 = c2
  · by_cases h2 : v1 = v2
    · subst h1 h2; simp
    · simp [h2]
  · simp [h1]

set_option maxRecDepth 100000 in
set_option maxHeartbeats 4000000 in
theorem rsamelists_any (l1 l2 : List (Int × List (Int × Int))) (A1 A2 : Option Addr) (cap1 cap2 B : Nat) (w : World) (h1 : LvsA w B A1 l1) (h2 : LvsA w B A2 l2) (hB : B ≤ w.heap.size) :
    Calls Tryd.prog 32 #[.slice A1 l1.length cap1, .slice A2 l2.length cap2] w fun e w' => e = .returned (.bool (decide (l1 = l2))) ∧ Below w.heap.size w w' := by
  have hz1 : l1.length ≤ 4398046511104 := by have := h1.1; omega
  have hz2 : l2.length ≤ 4398046511104 := by have := h2.1; omega
  by_cases hll : l1.length = l2.length
  · have HL := Lib.hid hll
    have hq : ((l1.length : Int) != (l2.length : Int)) = false := by simp [hll]
    have H1 := Lib.hid h1
    have H2 := Lib.hid h2
    clear hll h1 h2
    go_enter Tryd.func32, Tryd.ntmps32
    go_wp2_with fail
    go_loopw [5] (fun i wr => ∃ k : Nat, k ≤ l1.length ∧ i = .int .i64 k ∧ Hid (l1.take k = l2.take k) ∧ Below w.heap.size w wr) (fun i _ => l1.length - (intOf i).toNat)
    case atStart => exact ⟨0, Nat.zero_le _, rfl, Lib.hid rfl, Below.refl _ _⟩
    case round =>
      obtain ⟨k, hk, rfl, hx, hb⟩ := hrel
      by_cases hlt : k < l1.length
      · have hlt2 : k < l2.length := by have := HL.out; omega
        obtain ⟨b1, o1, Aa, ca, rfl, hb1, g0, g1, gv⟩ := (H1.out.below hb hB).at_ hlt
        obtain ⟨b2, o2, Ab, cb, rfl, hb2, g2, g3, gw⟩ := (H2.out.below hb hB).at_ hlt2
        have hwr : B ≤ wr.heap.size := Nat.le_trans hB hb.size
        have HT := Lib.hid (show sameB l1[k].1 l1[k].2 l2[k].1 l2[k].2 = true → l1.take (k + 1) = l2.take (k + 1) from fun e => by
          rw [sameB_iff, decide_eq_true_eq] at e
          have e' : l1[k] = l2[k] := e
          rw [List.take_add_one, List.take_add_one, List.getElem?_eq_getElem hlt, List.getElem?_eq_getElem hlt2, hx.out, e'])
        have HF := Lib.hid (show sameB l1[k].1 l1[k].2 l2[k].1 l2[k].2 = false → decide (l1 = l2) = false from fun e => by
          rw [sameB_iff, decide_eq_false_iff_not] at e
          rw [decide_eq_false_iff_not]
          intro e2
          subst e2
          exact e rfl)
        generalize hc1 : l1[k].1 = c1 at *
        generalize hv1 : l1[k].2 = v1 at *
        generalize hc2 : l2[k].1 = c2 at *
        generalize hv2 : l2[k].2 = v2 at *
        clear hc1 hv1 hc2 hv2
        have HV := Lib.hid (show VA wr.drew B Aa v1 ∧ VA wr.drew B Ab v2 from ⟨gv.below (Below.drewN' (Below.refl B wr) 1) (Nat.le_refl _), gw.below (Below.drewN' (Below.refl B wr) 1) (Nat.le_refl _)⟩)
        have HW := Lib.hid hb
        have G := Lib.hid (And.intro g0 (And.intro g1 (And.intro g2 g3)))
        have hq1 : b1 < wr.heap.size := Nat.lt_of_lt_of_le hb1 hwr
        have hq2 : b2 < wr.heap.size := Nat.lt_of_lt_of_le hb2 hwr
        clear gv gw hb
        cases hsb : sameB c1 v1 c2 v2 with
        | true =>
          have HT2 := Lib.hid (HT.out hsb)
          replace hsb := Lib.hid hsb
          clear HT HF
          go_wp2_with fail
          have HB := Lib.hid (Below.refl wr.heap.size wr.drew)
          go_region_held3 (fun w' => w'.cell? ⟨b1, o1 + k * 2, none⟩ = some (.int .i64 c1) ∧ w'.cell? ⟨b1, o1 + k * 2 + 1, none⟩ = some (.slice Aa v1.length ca) ∧ w'.cell? ⟨b2, o2 + k * 2, none⟩ = some (.int .i64 c2) ∧ w'.cell? ⟨b2, o2 + k * 2 + 1, none⟩ = some (.slice Ab v2.length cb))
            (first | exact G.out | exact ⟨(HB.out.cell (p := ⟨b1, o1 + k * 2, none⟩) hq1).trans G.out.1, (HB.out.cell (p := ⟨b1, o1 + k * 2 + 1, none⟩) hq1).trans G.out.2.1, (HB.out.cell (p := ⟨b2, o2 + k * 2, none⟩) hq2).trans G.out.2.2.1, (HB.out.cell (p := ⟨b2, o2 + k * 2 + 1, none⟩) hq2).trans G.out.2.2.2⟩)
            (first | (go_at_call 60; refine (rsame_any c1 Aa ca v1 c2 Ab cb v2 B _ HV.out.1 HV.out.2 hwr).mono ?_; rw [hsb.out]; rintro e w7 ⟨rfl, hb7⟩; have HB := Lib.hid (show Below wr.heap.size wr w7 from ⟨hb7.os, hb7.tape, hb7.output, hb7.size, hb7.block⟩); clear hb7))
          all_goals
            go_wp2
            go_roundw
            case rel => exact ⟨k + 1, by omega, by go_num, HT2, HW.out.trans (HB.out.mono HW.out.size)⟩
            case measure => simp [intOf]; omega
        | false =>
          have HF2 := Lib.hid (HF.out hsb)
          replace hsb := Lib.hid hsb
          clear HT HF
          go_wp2_with fail
          have HB := Lib.hid (Below.refl wr.heap.size wr.drew)
          go_region_held3 (fun w' => w'.cell? ⟨b1, o1 + k * 2, none⟩ = some (.int .i64 c1) ∧ w'.cell? ⟨b1, o1 + k * 2 + 1, none⟩ = some (.slice Aa v1.length ca) ∧ w'.cell? ⟨b2, o2 + k * 2, none⟩ = some (.int .i64 c2) ∧ w'.cell? ⟨b2, o2 + k * 2 + 1, none⟩ = some (.slice Ab v2.length cb))
            (first | exact G.out | exact ⟨(HB.out.cell (p := ⟨b1, o1 + k * 2, none⟩) hq1).trans G.out.1, (HB.out.cell (p := ⟨b1, o1 + k * 2 + 1, none⟩) hq1).trans G.out.2.1, (HB.out.cell (p := ⟨b2, o2 + k * 2, none⟩) hq2).trans G.out.2.2.1, (HB.out.cell (p := ⟨b2, o2 + k * 2 + 1, none⟩) hq2).trans G.out.2.2.2⟩)
            (first | (go_at_call 60; refine (rsame_any c1 Aa ca v1 c2 Ab cb v2 B _ HV.out.1 HV.out.2 hwr).mono ?_; rw [hsb.out]; rintro e w7 ⟨rfl, hb7⟩; have HB := Lib.hid (show Below wr.heap.size wr w7 from ⟨hb7.os, hb7.tape, hb7.output, hb7.size, hb7.block⟩); clear hb7))
          all_goals
            go_wp2
            go_ret
            exact ⟨ret_bool HF2.out.symm, HW.out.trans (HB.out.mono HW.out.size)⟩
      · have e1 : l1.take k = l1 := List.take_of_length_le (by omega)
        have e2 : l2.take k = l2 := List.take_of_length_le (by have := HL.out; omega)
        have HE := Lib.hid (show l1 = l2 by have := hx.out; rwa [e1, e2] at this)
        have hd2 : decide ((k : Int) < (l1.length : Int)) = false := by rw [decide_eq_false_iff_not]; omega
        clear e1 e2
        go_wp2
        go_ret
        exact ⟨ret_bool (decide_eq_true HE.out).symm, hb⟩
  · have hq : ((l1.length : Int) != (l2.length : Int)) = true := by simp; omega
    have HE := Lib.hid (show decide (l1 = l2) = false by rw [decide_eq_false_iff_not]; intro e; exact hll (by rw [e]))
    rw [HE.out]
    clear hll
    go_enter Tryd.func32, Tryd.ntmps32
    go_wp2
    go_ret
    exact ⟨rfl, Below.refl _ _⟩
end Go.Proofs.YtobaeeobfcffoaaDoor

/-! slices.EqualFunc of levels by level.Same; sameNode of the program. -/
namespace Go.Proofs.YtobaeeobfcffoaaDoor
open Go.RowKit

set_option maxRecDepth 100000 in
set_option maxHeartbeats 4000000 in
theorem equalF_any (l1 l2 : List (Int × List (Int × Int))) (A1 A2 : Option Addr) (cap1 cap2 B : Nat) (w : World) (h1 : LvsA w B A1 l1) (h2 : LvsA w B A2 l2) (hB : B ≤ w.heap.size) :
    Calls Tryd.prog 76 #[.slice A1 l1.length cap1, .slice A2 l2.length cap2, .func (.func 77) #[] #[]] w fun e w' => e = .returned (.bool (decide (l1 = l2))) ∧ Below w.heap.size w w' := by
  have hz1 : l1.length ≤ 4398046511104 := by have := h1.1; omega
  have hz2 : l2.length ≤ 4398046511104 := by have := h2.1; omega
  by_cases hll : l1.length = l2.length
  · have hq : ((l1.length : Int) != (l2.length : Int)) = false := by simp [hll]
    have HL := Lib.hid hll
    have H1 := Lib.hid h1
    have H2 := Lib.hid h2
    clear hll h1 h2
    go_enter Tryd.func76, Tryd.ntmps76
    go_wp2_with fail
    go_loopw [17] (fun i wr => ∃ k : Nat, k ≤ l1.length ∧ i = .int .i64 (k : Int) ∧ Hid (l1.take k = l2.take k) ∧ Below w.heap.size w wr) (fun i _ => l1.length - (intOf i).toNat)
    case atStart => exact ⟨0, Nat.zero_le _, rfl, Lib.hid rfl, Below.refl _ _⟩
    case round =>
      obtain ⟨k, hk, rfl, hx, hb⟩ := hrel
      by_cases hlt : k < l1.length
      · have hlt2 : k < l2.length := by have := HL.out; omega
        obtain ⟨b1, o1, Aa, ca, rfl, hb1, g0, g1, gv⟩ := (H1.out.below hb hB).at_ hlt
        obtain ⟨b2, o2, Ab, cb, rfl, hb2, g2, g3, gw⟩ := (H2.out.below hb hB).at_ hlt2
        have hwr : B ≤ wr.heap.size := Nat.le_trans hB hb.size
        have HT := Lib.hid (show sameB l1[k].1 l1[k].2 l2[k].1 l2[k].2 = true → l1.take (k + 1) = l2.take (k + 1) from fun e => by
          rw [sameB_iff, decide_eq_true_eq] at e
          have e' : l1[k] = l2[k] := e
          rw [List.take_add_one, List.take_add_one, List.getElem?_eq_getElem hlt, List.getElem?_eq_getElem hlt2, hx.out, e'])
        have HF := Lib.hid (show sameB l1[k].1 l1[k].2 l2[k].1 l2[k].2 = false → decide (l1 = l2) = false from fun e => by
          rw [sameB_iff, decide_eq_false_iff_not] at e
          rw [decide_eq_false_iff_not]
          intro e2
          subst e2
          exact e rfl)
        generalize hc1 : l1[k].1 = c1 at *
        generalize hv1 : l1[k].2 = v1 at *
        generalize hc2 : l2[k].1 = c2 at *
        generalize hv2 : l2[k].2 = v2 at *
        clear hc1 hv1 hc2 hv2
        have hq1 : b1 < wr.heap.size := Nat.lt_of_lt_of_le hb1 hwr
        have hq2 : b2 < wr.heap.size := Nat.lt_of_lt_of_le hb2 hwr
        have g2' : (wr.alloc (.cells #[.int .i64 c1, .slice Aa v1.length ca] 95)).cell? ⟨b2, o2 + k * 2, none⟩ = some (.int .i64 c2) := (World.cell?_alloc_lt _ _ ⟨b2, o2 + k * 2, none⟩ hq2).trans g2
        have g3' : (wr.alloc (.cells #[.int .i64 c1, .slice Aa v1.length ca] 95)).cell? ⟨b2, o2 + k * 2 + 1, none⟩ = some (.slice Ab v2.length cb) := (World.cell?_alloc_lt _ _ ⟨b2, o2 + k * 2 + 1, none⟩ hq2).trans g3
        have hbw : Below wr.heap.size wr ((wr.alloc (.cells #[.int .i64 c1, .slice Aa v1.length ca] 95)).alloc (.cells #[.int .i64 c2, .slice Ab v2.length cb] 95)) := ((Below.refl _ _).alloc (Nat.le_refl _) _).alloc (by simp) _
        have HV := Lib.hid (And.intro (gv.below hbw hwr) (gw.below hbw hwr))
        have HW := Lib.hid (hb.trans (hbw.mono hb.size))
        have hsz : B ≤ ((wr.alloc (.cells #[.int .i64 c1, .slice Aa v1.length ca] 95)).alloc (.cells #[.int .i64 c2, .slice Ab v2.length cb] 95)).heap.size := by simp; omega
        clear gv gw hb hbw
        go_wp2_with fail
        refine (same_any c1 Aa ca v1 c2 Ab cb v2 B _ HV.out.1 HV.out.2 hsz).mono ?_
        rintro e w2 ⟨rfl, hb2'⟩
        have HB := Lib.hid (HW.out.trans (hb2'.mono (HW.out.size)))
        clear hb2'
        cases hsb : sameB c1 v1 c2 v2 with
        | true =>
          have HT2 := Lib.hid (HT.out hsb)
          go_wp2_with fail
          go_roundw
          case rel => exact ⟨k + 1, by omega, by go_num, HT2, HB.out⟩
          case measure => simp [intOf]; omega
        | false =>
          have HF2 := Lib.hid (HF.out hsb)
          go_wp2_with fail
          go_ret
          exact ⟨ret_bool HF2.out.symm, HB.out⟩
      · have e1 : l1.take k = l1 := List.take_of_length_le (by omega)
        have e2 : l2.take k = l2 := List.take_of_length_le (by have := HL.out; omega)
        have HE := Lib.hid (show l1 = l2 by have := hx.out; rwa [e1, e2] at this)
        have hd2 : decide ((k : Int) < (l1.length : Int)) = false := by rw [decide_eq_false_iff_not]; omega
        clear e1 e2
        go_wp2_with fail
        go_ret
        exact ⟨ret_bool (decide_eq_true HE.out).symm, hb⟩
  · have hq : ((l1.length : Int) != (l2.length : Int)) = true := by simp; omega
    have HE := Lib.hid (show decide (l1 = l2) = false by rw [decide_eq_false_iff_not]; intro e; exact hll (by rw [e]))
    rw [HE.out]
    clear hll
    go_enter Tryd.func76, Tryd.ntmps76
    go_wp2_with fail
    go_ret
    exact ⟨rfl, Below.refl _ _⟩
end Go.Proofs.YtobaeeobfcffoaaDoor

/-! sameNode of the program. -/
namespace Go.Proofs.YtobaeeobfcffoaaDoor
open Go.RowKit

/-- Two nodes are equal but for their kids, of which they have the same number. -/
def ndEq (a b : Tm) : Bool := match a, b with | .mk k i nm ls ks, .mk k' i' nm' ls' ks' => decide (k = k') && (decide (i = i') && (decide (nm = nm') && (decide (ks.length = ks'.length) && decide (ls = ls'))))

theorem str_ne {a b : ByteArray} (h : a ≠ b) : (a.toList == b.toList) = false := by
  rw [beq_eq_false_iff_ne]
  intro e
  rw [ba_list, ba_list] at e
  exact h (ByteArray.ext (Array.ext' e))
theorem ndEq_mk {k i k' i' : Int} {nm nm' : ByteArray} {ls ls' : List (Int × List (Int × Int))} {ks ks' : List Tm} : ndEq (.mk k i nm ls ks) (.mk k' i' nm' ls' ks') = (decide (k = k') && (decide (i = i') && (decide (nm = nm') && (decide (ks.length = ks'.length) && decide (ls = ls'))))) := rfl

set_option maxRecDepth 100000 in
set_option maxHeartbeats 4000000 in
theorem sameNode_any (a b : Tm) (va vb : Value) (B : Nat) (w : World) (hva : TmV w B a va) (hvb : TmV w B b vb) (hB : B ≤ w.heap.size) :
    Calls Tryd.prog 64 #[va, vb] w fun e w' => e = .returned (.bool (ndEq a b)) ∧ Below w.heap.size w w' := by
  cases a with
  | mk k1 i1 n1 l1 ks1 =>
  cases b with
  | mk k2 i2 n2 l2 ks2 =>
  rw [TmV] at hva hvb
  obtain ⟨AL1, cl1, AK1, ck1, rfl, hl1, hz1, _⟩ := hva
  obtain ⟨AL2, cl2, AK2, ck2, rfl, hl2, hz2, _⟩ := hvb
  have hbb : Below w.heap.size w ((w.alloc (.cells #[.int .i64 k1, .int .i64 i1, .string n1, .slice AL1 l1.length cl1, .slice AK1 ks1.length ck1] 25)).alloc (.cells #[.int .i64 k2, .int .i64 i2, .string n2, .slice AL2 l2.length cl2, .slice AK2 ks2.length ck2] 25)) := ((Below.refl _ _).alloc (Nat.le_refl _) _).alloc (by simp) _
  have H1 := Lib.hid (hl1.below hbb hB)
  have H2 := Lib.hid (hl2.below hbb hB)
  have HB := Lib.hid hbb
  have hz1' : ks1.length ≤ 1759218604441 := by omega
  have hz2' : ks2.length ≤ 1759218604441 := by omega
  have hsz : B ≤ ((w.alloc (.cells #[.int .i64 k1, .int .i64 i1, .string n1, .slice AL1 l1.length cl1, .slice AK1 ks1.length ck1] 25)).alloc (.cells #[.int .i64 k2, .int .i64 i2, .string n2, .slice AL2 l2.length cl2, .slice AK2 ks2.length ck2] 25)).heap.size := by simp; omega
  clear hl1 hl2 hbb hz1 hz2
  rw [ndEq_mk]
  by_cases hk : k1 = k2
  case neg =>
    have d : (k1 == k2) = false := by simpa using hk
    have HD := Lib.hid (decide_eq_false hk)
    rw [HD.out]
    clear hk
    go_enter Tryd.func64, Tryd.ntmps64
    go_wp2_with fail
    go_ret
    exact ⟨rfl, HB.out⟩
  subst hk
  by_cases hk : i1 = i2
  case neg =>
    have d : (i1 == i2) = false := by simpa using hk
    have HD := Lib.hid (decide_eq_false hk)
    rw [HD.out, decide_eq_true rfl]
    clear hk
    go_enter Tryd.func64, Tryd.ntmps64
    go_wp2_with fail
    go_ret
    exact ⟨rfl, HB.out⟩
  subst hk
  by_cases hk : n1 = n2
  case neg =>
    have d : (n1.toList == n2.toList) = false := str_ne hk
    have HD := Lib.hid (decide_eq_false hk)
    rw [HD.out, decide_eq_true rfl, decide_eq_true rfl]
    clear hk
    go_enter Tryd.func64, Tryd.ntmps64
    go_wp2_with fail
    go_ret
    exact ⟨rfl, HB.out⟩
  subst hk
  by_cases hk : ks1.length = ks2.length
  case neg =>
    have d : ((ks1.length : Int) == (ks2.length : Int)) = false := by rw [beq_eq_false_iff_ne]; omega
    have HD := Lib.hid (decide_eq_false hk)
    rw [HD.out, decide_eq_true rfl, decide_eq_true rfl, decide_eq_true rfl]
    clear hk
    go_enter Tryd.func64, Tryd.ntmps64
    go_wp2_with fail
    go_ret
    exact ⟨rfl, HB.out⟩
  have d : ((ks1.length : Int) == (ks2.length : Int)) = true := by rw [beq_iff_eq]; omega
  have HD := Lib.hid (decide_eq_true hk)
  rw [HD.out, decide_eq_true rfl, decide_eq_true rfl, decide_eq_true rfl]
  simp only [Bool.true_and]
  clear hk
  go_enter Tryd.func64, Tryd.ntmps64
  go_wp2_with fail
  refine (equalF_any l1 l2 AL1 AL2 cl1 cl2 B _ H1.out H2.out hsz).mono ?_
  rintro e w2 ⟨rfl, hb2⟩
  have HB2 := Lib.hid (HB.out.trans (hb2.mono HB.out.size))
  clear hb2
  go_wp2_with fail
  go_ret
  exact ⟨rfl, HB2.out⟩
end Go.Proofs.YtobaeeobfcffoaaDoor
