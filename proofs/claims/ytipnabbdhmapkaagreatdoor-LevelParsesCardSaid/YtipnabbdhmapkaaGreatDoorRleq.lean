/- The reference: Leq. -/
import Derived.Test.YtipnabbdhmapkaaGreatDoorRef
import Derived.Test.YtipnabbdhmapkaaGreatDoorLeq
namespace Go.Proofs.YtipnabbdhmapkaaGreatDoor
open Go.RowKit

theorem cover_snoc {vs : List (Int × Int)} {q : Nat} {x2 y2 : Int} (p : Int × Int) (h : vs[q]? = some (x2, y2)) : coverB (vs.take (q + 1)) p = (coverB (vs.take q) p || (x2 == p.1 && decide (p.2 ≤ y2))) := by
  unfold coverB
  rw [List.take_add_one, h, Option.toList_some, List.any_append]
  simp
theorem leqB_1 {c1 c2 : Int} {v1 v2 : List (Int × Int)} (h : vldB c1 v1 = false) : leqB c1 v1 c2 v2 = false := by simp [leqB, h]
theorem leqB_2 {c1 c2 : Int} {v1 v2 : List (Int × Int)} (h : vldB c2 v2 = false) : leqB c1 v1 c2 v2 = false := by simp [leqB, h]
theorem leqB_3 {c1 c2 : Int} {v1 v2 : List (Int × Int)} (h : leastI c2 v2 < c1) : leqB c1 v1 c2 v2 = false := by
  have : decide (c1 ≤ leastI c2 v2) = false := by simpa using h
  simp [leqB, this]
theorem leqB_4 {c1 c2 : Int} {v1 v2 : List (Int × Int)} {k : Nat} {x y : Int} (h : v1[k]? = some (x, y)) (hc : coverB v2 (x, y) = false) : leqB c1 v1 c2 v2 = false := by
  have := all_no h hc
  simp [leqB, this]
theorem leqB_5 {c1 c2 : Int} {v1 v2 : List (Int × Int)} (h1 : vldB c1 v1 = true) (h2 : vldB c2 v2 = true) (h : ¬ leastI c2 v2 < c1) (hc : CovTo v1 v2 v1.length) : leqB c1 v1 c2 v2 = true := by
  have h3 := all_yes hc
  have : decide (c1 ≤ leastI c2 v2) = true := by simp; omega
  simp [leqB, h1, h2, h3, this]

set_option maxRecDepth 100000 in
set_option maxHeartbeats 4000000 in
theorem rleq_any (c1 : Int) (A1 : Option Addr) (cap1 : Nat) (v1 : List (Int × Int)) (c2 : Int) (A2 : Option Addr) (cap2 : Nat) (v2 : List (Int × Int)) (B : Nat) (w : World) (hv1 : VA w B A1 v1) (hv2 : VA w B A2 v2) (hB : B ≤ w.heap.size) :
    Calls Tryz.prog 27 #[.agg #[.int .i64 c1, .slice A1 v1.length cap1], .agg #[.int .i64 c2, .slice A2 v2.length cap2]] w fun e w' => e = .returned (.bool (leqB c1 v1 c2 v2)) ∧ Below w.heap.size w w' := by
  have hlen1 := hv1.len
  have hlen2 := hv2.len
  obtain ⟨W0, hW0⟩ : ∃ W0 : World, W0 = (w.alloc (.cells #[.int .i64 c1, .slice A1 v1.length cap1] 24)).alloc (.cells #[.int .i64 c2, .slice A2 v2.length cap2] 24) := ⟨_, rfl⟩
  have hb0 : Below w.heap.size w W0 := by subst hW0; exact ((Below.refl _ _).alloc (Nat.le_refl _) _).alloc (by simp) _
  have hs0 : W0.heap.size = w.heap.size + 2 := by subst hW0; simp
  have x0 : W0.cell? ⟨w.heap.size, 0, none⟩ = some (.int .i64 c1) := by subst hW0; go_simp
  have x1 : W0.cell? ⟨w.heap.size, 1, none⟩ = some (.slice A1 v1.length cap1) := by subst hW0; go_simp
  have y0 : W0.cell? ⟨w.heap.size + 1, 0, none⟩ = some (.int .i64 c2) := by subst hW0; go_simp
  have y1 : W0.cell? ⟨w.heap.size + 1, 1, none⟩ = some (.slice A2 v2.length cap2) := by subst hW0; go_simp
  have HA := Lib.hid (show ∀ wr, Below W0.heap.size W0 wr → (VA wr B A1 v1 ∧ VA wr B A2 v2) ∧ (wr.cell? ⟨w.heap.size, 0, none⟩ = some (.int .i64 c1) ∧ wr.cell? ⟨w.heap.size, 1, none⟩ = some (.slice A1 v1.length cap1)) ∧ wr.cell? ⟨w.heap.size + 1, 0, none⟩ = some (.int .i64 c2) ∧ wr.cell? ⟨w.heap.size + 1, 1, none⟩ = some (.slice A2 v2.length cap2) from fun wr hb => by
    obtain ⟨hc, _⟩ := bcell hb
    exact ⟨⟨(hv1.below hb0 hB).below hb (by omega), (hv2.below hb0 hB).below hb (by omega)⟩, ⟨(hc _ _ (by omega)).trans x0, (hc _ _ (by omega)).trans x1⟩, (hc _ _ (by omega)).trans y0, (hc _ _ (by omega)).trans y1⟩)
  have HB0 := Lib.hid hb0
  have hval1 := Lib.hid (rvalid_any c1 A1 cap1 v1 B W0 (hv1.below hb0 hB) (by omega))
  clear hb0 hv1 hv2 x0 x1 y0 y1
  go_enter Tryz.func27, Tryz.ntmps27
  go_wp2_with fail
  rw [← hW0]
  refine hval1.out.mono ?_
  clear hval1
  rintro e w1 ⟨rfl, hb1⟩
  obtain ⟨⟨_, hva2⟩, ⟨x0, x1⟩, y0, y1⟩ := HA.out w1 hb1
  have hs1 := hb1.size
  have hval2 := Lib.hid (rvalid_any c2 A2 cap2 v2 B w1 hva2 (by omega))
  have HB1 := Lib.hid hb1
  clear hb1 hW0
  rcases h1 : vldB c1 v1 with _ | _
  · have hbad := Lib.hid (leqB_1 (c2 := c2) (v2 := v2) h1)
    go_wp2
    go_ret
    exact ⟨ret_bool hbad.out.symm, HB0.out.trans (HB1.out.mono (by omega))⟩
  · go_wp2_with fail
    refine hval2.out.mono ?_
    clear hval2 hva2 x0 x1 y0 y1
    rintro e w2 ⟨rfl, hb2⟩
    have hb02 : Below W0.heap.size W0 w2 := HB1.out.trans (hb2.mono (by omega))
    obtain ⟨_, ⟨x0, x1⟩, y0, y1⟩ := HA.out w2 hb02
    have HB2 := Lib.hid hb02
    have hs2 := hb2.size
    clear hb2 hb02
    have H1 := Lib.hid h1
    clear h1
    rcases h2 : vldB c2 v2 with _ | _
    · have hbad := Lib.hid (leqB_2 (c1 := c1) (v1 := v1) h2)
      go_wp2
      go_ret
      exact ⟨ret_bool hbad.out.symm, HB0.out.trans (HB2.out.mono (by omega))⟩
    · have H2 := Lib.hid h2
      clear h2
      go_wp2
      go_loopw [5, 6] (fun m i wr => ∃ k : Nat, k ≤ v2.length ∧ i = .int .i64 k ∧ m = .int .i64 (leastI c2 (v2.take k)) ∧ Below W0.heap.size W0 wr) (fun _ i _ => v2.length - (intOf i).toNat)
      case atStart => exact ⟨0, Nat.zero_le _, rfl, by simp [leastI], HB2.out⟩
      case round =>
        clear x0 x1 y0 y1
        obtain ⟨k, hk, rfl, rfl, hbw⟩ := hrel
        obtain ⟨⟨hva1, hva2⟩, ⟨x0, x1⟩, y0, y1⟩ := HA.out wr hbw
        have HBW := Lib.hid hbw
        have hsw := hbw.size
        clear hbw
        by_cases hlt : k < v2.length
        · obtain ⟨b, off, x, y, rfl, hb, hg, hc0, hc1⟩ := hva2.at_ hlt
          have hsn := Lib.hid (leastI_snoc c2 v2 k x y hg)
          have hG := Lib.hid hg
          clear hg
          generalize hm : leastI c2 (v2.take k) = m at *
          by_cases hmy : m < y
          · go_wp2
            go_roundw
            case rel => exact ⟨k + 1, by omega, by go_num, congrArg (Value.int .i64) (by rw [hsn.out]; omega), HBW.out⟩
            case measure => simp [intOf]; omega
          · go_wp2
            go_roundw
            case rel => exact ⟨k + 1, by omega, by go_num, congrArg (Value.int .i64) (by rw [hsn.out]; omega), HBW.out⟩
            case measure => simp [intOf]; omega
        · obtain rfl : k = v2.length := by omega
          rw [List.take_length]
          generalize hm : leastI c2 v2 = m
          have HM := Lib.hid hm
          clear hm
          by_cases hlc : m < c1
          · have hbad := Lib.hid (leqB_3 (v1 := v1) (show leastI c2 v2 < c1 by rw [HM.out]; exact hlc))
            go_wp2
            go_ret
            exact ⟨ret_bool hbad.out.symm, HB0.out.trans (HBW.out.mono (by omega))⟩
          · go_wp2
            go_loopw [7] (fun i wr => ∃ k : Nat, k ≤ v1.length ∧ i = .int .i64 k ∧ CovTo v1 v2 k ∧ Below W0.heap.size W0 wr) (fun i _ => v1.length - (intOf i).toNat)
            case atStart => exact ⟨0, Nat.zero_le _, rfl, fun j _ _ h _ => absurd h (by omega), HBW.out⟩
            case round =>
              clear x0 x1 y0 y1 hva1 hva2
              obtain ⟨k, hk, rfl, hcov, hbw⟩ := hrel
              obtain ⟨⟨hva1, hva2⟩, ⟨x0, x1⟩, y0, y1⟩ := HA.out wr hbw
              have HC := Lib.hid (And.intro hcov hbw)
              have hsw := hbw.size
              clear hbw hcov
              by_cases hlt : k < v1.length
              · obtain ⟨b, off, x, y, rfl, hb, hg, hc0, hc1⟩ := hva1.at_ hlt
                have hG := Lib.hid hg
                clear hg
                go_wp2
                go_loopw [8, 9] (fun f j wr => ∃ q : Nat, q ≤ v2.length ∧ j = .int .i64 q ∧ f = .bool (coverB (v2.take q) (x, y)) ∧ Below W0.heap.size W0 wr) (fun _ j _ => v2.length - (intOf j).toNat)
                case atStart => exact ⟨0, Nat.zero_le _, rfl, by simp [coverB], HC.out.2⟩
                case round =>
                  clear hc0 hc1 hva1 hva2 x0 x1 y0 y1
                  obtain ⟨q, hq, rfl, rfl, hbw⟩ := hrel
                  obtain ⟨⟨hva1, hva2⟩, ⟨x0, x1⟩, y0, y1⟩ := HA.out wr hbw
                  obtain ⟨b', off', x', y', hA', hb', hg', hc0, hc1⟩ := hva1.at_ hlt
                  cases hA'
                  rw [hG.out] at hg'
                  cases hg'
                  have HBW2 := Lib.hid hbw
                  have hsw2 := hbw.size
                  clear hbw
                  by_cases hqt : q < v2.length
                  · obtain ⟨b2, off2, x2, y2, rfl, hb2, hg2, hd0, hd1⟩ := hva2.at_ hqt
                    have hsn := Lib.hid (cover_snoc (x, y) hg2)
                    clear hg2
                    generalize coverB (v2.take q) (x, y) = f at *
                    cases f with
                    | true =>
                      go_wp2
                      go_quiet (fail)
                      go_wp2
                      go_roundw
                      case rel => exact ⟨q + 1, by omega, by go_num, congrArg Value.bool (by rw [hsn.out]; simp), Below.drewN' HBW2.out _⟩
                      case measure => simp [intOf]; omega
                    | false =>
                      by_cases hxx : x2 = x
                      · subst hxx
                        by_cases hyy : y ≤ y2
                        · have hyd : decide (y ≤ y2) = true := by simpa using hyy
                          go_wp2
                          go_quiet (fail)
                          go_wp2
                          go_roundw
                          case rel => exact ⟨q + 1, by omega, by go_num, congrArg Value.bool (by rw [hsn.out]; simp; omega), Below.drewN' HBW2.out _⟩
                          case measure => simp [intOf]; omega
                        · have hyd : decide (y ≤ y2) = false := by simpa using hyy
                          go_wp2
                          go_quiet (fail)
                          go_wp2
                          go_roundw
                          case rel => exact ⟨q + 1, by omega, by go_num, congrArg Value.bool (by rw [hsn.out]; simp; omega), Below.drewN' HBW2.out _⟩
                          case measure => simp [intOf]; omega
                      · have hxd : (x2 == x) = false := by simpa using hxx
                        go_wp2
                        go_quiet (fail)
                        go_wp2
                        go_roundw
                        case rel => exact ⟨q + 1, by omega, by go_num, congrArg Value.bool (by rw [hsn.out]; simp [hxx]), Below.drewN' HBW2.out _⟩
                        case measure => simp [intOf]; omega
                  · obtain rfl : q = v2.length := by omega
                    rw [List.take_length]
                    rcases hcv : coverB v2 (x, y) with _ | _
                    · have hbad := Lib.hid (leqB_4 (c1 := c1) (c2 := c2) hG.out hcv)
                      go_wp2
                      go_ret
                      exact ⟨ret_bool hbad.out.symm, HB0.out.trans (HBW2.out.mono (by omega))⟩
                    · have hcv2 := Lib.hid hcv
                      clear hcv
                      go_wp2
                      go_roundw
                      case rel => exact ⟨k + 1, by omega, by go_num, fun j a b3 hj hj2 => by
                          rcases Nat.lt_or_ge j k with h3 | h3
                          · exact HC.out.1 j a b3 h3 hj2
                          · obtain rfl : j = k := by omega
                            rw [hG.out] at hj2
                            cases hj2
                            exact hcv2.out, HBW2.out⟩
                      case measure => simp [intOf]; omega
              · obtain rfl : k = v1.length := by omega
                have hgood := Lib.hid (leqB_5 H1.out H2.out (show ¬ leastI c2 v2 < c1 by rw [HM.out]; omega) HC.out.1)
                go_wp2
                go_ret
                exact ⟨ret_bool hgood.out.symm, HB0.out.trans (HC.out.2.mono (by omega))⟩
end Go.Proofs.YtipnabbdhmapkaaGreatDoor
