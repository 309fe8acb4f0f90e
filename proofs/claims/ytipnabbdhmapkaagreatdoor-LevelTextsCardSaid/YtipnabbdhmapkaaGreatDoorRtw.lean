/- Text of the reference: the walk. -/
import Derived.Test.YtipnabbdhmapkaaGreatDoorRtx
import Derived.Test.YtipnabbdhmapkaaGreatDoorPlus
import Derived.Deep.RegionLaw
namespace Go.Proofs.YtipnabbdhmapkaaGreatDoor
open Go.RowKit

set_option maxRecDepth 100000 in
set_option maxHeartbeats 8000000 in
theorem rtext_good (c : Int) (A : Option Addr) (cap : Nat) (vs : List (Int × Int)) (B : Nat) (w : World) (hv : VA w B A vs) (hB : B ≤ w.heap.size) (hvd : vldB c vs = true) :
    Calls Tryz.prog 41 #[.agg #[.int .i64 c, .slice A vs.length cap]] w fun e w' => e = .returned (.tuple #[.string (txtB (txtL c vs)), .int .i64 0]) ∧ Below w.heap.size w w' := by
  obtain ⟨i0, hi, hz0, hz1, hz2⟩ := info_parts info9
  have hlen := hv.len
  go_enter Tryz.func41, Tryz.ntmps41
  go_wp2_with fail
  refine (rvalid_any c A cap vs B _ (hv.alloc hB _) (by simp; omega)).mono ?_
  rw [hvd]
  rintro e w1 ⟨rfl, hb1⟩
  have hs1 : w.heap.size + 1 ≤ w1.heap.size := by have := hb1.size; simpa using this
  have hf1 : Below w.heap.size w w1 := ((Below.refl _ _).alloc (Nat.le_refl _) _).trans (hb1.mono (by simp))
  have l0 : w1.cell? ⟨w.heap.size, 0, none⟩ = some (.int .i64 c) := (hb1.cell (p := ⟨w.heap.size, 0, none⟩) (by simp)).trans (by go_simp)
  have l1 : w1.cell? ⟨w.heap.size, 1, none⟩ = some (.slice A vs.length cap) := (hb1.cell (p := ⟨w.heap.size, 1, none⟩) (by simp)).trans (by go_simp)
  have HF1 := Lib.hid hf1
  have HP := Lib.hid (vldB_parts hvd)
  have hlen2 := ok_len (vldB_parts hvd).2
  have hvw := hv.below hf1 hB
  have hc0 := (vldB_parts hvd).1
  clear hb1 hf1 hvd
  obtain ⟨hc0, hc1⟩ := hc0
  go_upto_region 4 with fail
  go_cut [20] from 12 to 20 (fun s20 wx => s20 = .bool (decide (c ≠ 0 ∨ vs.length = 0)) ∧ w1 = wx)
  case first =>
    by_cases hcc : c = 0
    · have d1 : decide (0 < c) = false := by simp [hcc]
      by_cases hvl : vs.length = 0
      · have d2 : ((vs.length : Int) == 0) = true := by simp [hvl]
        have e3 : decide (c ≠ 0 ∨ vs.length = 0) = true := by simp [hvl]
        have HD := Lib.hid (And.intro hcc hvl)
        have E3 := Lib.hid e3
        clear hcc hvl e3
        go_wp2_with fail
        go_meet
        exact ⟨by rw [E3.out], rfl⟩
      · have d2 : ((vs.length : Int) == 0) = false := by rw [beq_eq_false_iff_ne]; omega
        have e3 : decide (c ≠ 0 ∨ vs.length = 0) = false := by simp [hvl, hcc]
        have HD := Lib.hid (And.intro hcc hvl)
        have E3 := Lib.hid e3
        clear hcc hvl e3
        go_wp2_with fail
        go_meet
        exact ⟨by rw [E3.out], rfl⟩
    · have d1 : decide (0 < c) = true := by simp; omega
      have e3 : decide (c ≠ 0 ∨ vs.length = 0) = true := by simp [hcc]
      have HD := Lib.hid hcc
      have E3 := Lib.hid e3
      clear hcc e3
      go_wp2_with fail
      go_meet
      exact ⟨by rw [E3.out], rfl⟩
  case rest =>
    obtain ⟨rfl, rfl⟩ := hcut
    generalize hbb : decide (c ≠ 0 ∨ vs.length = 0) = bb
    have htc := Lib.hid (show tsC c vs = if bb = true then [⟨(Lib.itoa c).toArray⟩] else [] by subst hbb; simp [tsC])
    clear hbb
    go_upto_if 20 with fail
    go_cut [4] from 21 to 26 (fun s4 wx => ∃ v, v = s4 ∧ OwnS wx (w.heap.size + 1) v (tsC c vs) ∧ Below (w.heap.size + 1) w1 wx)
    case first =>
      cases bb with
      | false =>
        go_wp2_with fail
        go_meet
        rw [htc.out]
        exact ⟨_, rfl, World.ownsRow_nil _ _ _ _, Below.refl _ _⟩
      | true =>
        go_wp2_with fail
        refine (decI_any c hc0 (by omega) _).mono ?_
        rintro e w2 ⟨rfl, hb2⟩
        have hs2 := hb2.size
        have HB2 := Lib.hid hb2
        clear hb2
        go_wp2_with (at_builtin; refine wpList_append_own _ rfl _ _ 90 rfl (w.heap.size + 1) 9 i0 (.string ⟨#[]⟩) 1 16 Tryz.underlying90 hi hz0 hz1 hz2 rfl (by decide) _ 0 [] rfl (World.ownsRow_nil _ _ _ _) ⟨w2.heap.size, 0, none⟩ 1 1 [.string ⟨(Lib.itoa c).toArray⟩] rfl ?qc1 ?qc2 ?qc3 ?qc4 ?qc5 ?qc6 ?_)
        case qc1 => rfl
        case qc2 => exact cell_one_new _ _ _
        case qc3 => intro u hu; simp at hu; subst hu; rfl
        case qc4 => decide
        case qc5 => decide
        case qc6 => simp; omega
        intro v' w5 hown hgrow _
        have HW := Lib.hid (And.intro hown hgrow)
        clear hown hgrow
        go_wp2_with fail
        go_meet
        rw [htc.out]
        exact ⟨v', rfl, HW.out.1, ((HB2.out.mono hs1).alloc (by omega) _).grown HW.out.2 (by simp; omega) (fun q hq => by cases hq)⟩
    case rest =>
      obtain ⟨v0, rfl, ho0, hB0⟩ := hcut
      have HO0 := Lib.hid ho0
      clear ho0 htc
      have hsx := hB0.size
      have l1x := (hB0.cell (p := ⟨w.heap.size, 1, none⟩) (by simp)).trans l1
      have HCL := Lib.hid (show (tsC c vs).length ≤ 1 from tsC_len c vs)
      go_wp2_with fail
      go_loopw [4, 5] (fun s4 i wr => ∃ (k : Nat) (v : Value), k ≤ vs.length ∧ v = s4 ∧ i = .int .i64 k ∧ OwnS wr (w.heap.size + 1) v (tsC c vs ++ tsU (vs.take k)) ∧ Below (w.heap.size + 1) w1 wr) (fun _ i _ => vs.length - (intOf i).toNat)
      case atStart => exact ⟨0, _, Nat.zero_le _, rfl, rfl, by simpa [tsU] using HO0.out, hB0⟩
      case round =>
        obtain ⟨k, v, hk, rfl, rfl, ho, hbw⟩ := hrel
        have HO := Lib.hid ho
        clear ho
        have l1r := (hbw.cell (p := ⟨w.heap.size, 1, none⟩) (by simp)).trans l1
        have hszr := hbw.size
        have htl : (tsC c vs ++ tsU (vs.take k)).length ≤ 65546 := by
          have h1 := HCL.out
          have h2 := tsU_len (vs.take k)
          simp at h2 ⊢
          omega
        by_cases hlk : k < vs.length
        · obtain ⟨b, off, x, y, rfl, hb, hg, hc0', hc1', hd0, hd1⟩ := (hvw.below hbw (by omega)).ata (by omega) hlk
          have hxy := (HP.out.2 k x y hlk hg).1
          have HG := Lib.hid hg
          clear hg
          obtain ⟨⟨hx1, hx2⟩, hy1, hy2⟩ := hxy
          by_cases hx0 : 0 ≤ x
          · have hst := Lib.hid (show tsU (vs.take (k + 1)) = tsU (vs.take k) ++ [varT ⟨#[117]⟩ x y] by rw [tsU_step HG.out, if_pos hx0])
            have HB := Lib.hid hbw
            generalize htsk : tsC c vs ++ tsU (vs.take k) = ts at *
            have HTS := Lib.hid htsk
            clear htsk
            go_wp2_with fail
            go_region_law (first
              | (go_simp; go_at_call 69; refine (rpart_any ⟨#[117]⟩ x y hx0 (by omega) hy1 hy2 _ (by decide)).mono ?_; rintro e w2 ⟨rfl, hb2⟩; have HO2 := Lib.hid ((show OwnS wr.drew (w.heap.size + 1) v ts from HO.out).below hb2); have qs : wr.heap.size ≤ w2.heap.size := hb2.size; have HB2 := Lib.hid hb2; clear hb2)
              | (refine step_append_mine rfl (.tmp 41) (.tmp 55) 90 rfl (w.heap.size + 1) 9 i0 (.string ⟨#[]⟩) 1 16 Tryz.underlying90 hi hz0 hz1 hz2 rfl (by decide) v ts.length (ts.map Value.string) (by simp [Act.eval]) (World.ownsRow.alloc HO2.out _) ⟨w2.heap.size, 0, none⟩ 1 1 [.string (varT ⟨#[117]⟩ x y)] (by simp [Act.eval]) rfl (cell_one_new _ _ _) (by intro u hu; simp at hu; subst hu; rfl) (by unfold maxLen; omega) (by omega) (by simp; omega) ?_; intro v' w5 hown5 hg5; have HN := Lib.hid (And.intro hown5 hg5); clear hown5 hg5))
            all_goals
              have hrow : ∀ j, v.ownBlock = some j → w.heap.size + 1 ≤ j := fun j hj => by
                have := World.ownsRow.lt HO.out j hj
                omega
              have HZ2 := Lib.hid (Below.grown (((HB.out.drew).trans (HB2.out.mono (show w.heap.size + 1 ≤ wr.drew.heap.size by show w.heap.size + 1 ≤ wr.heap.size; omega))).alloc (by omega) _) HN.out.2 (by simp; omega) hrow)
              clear hrow
              go_wp2_with fail
              go_roundw
              case rel => exact ⟨k + 1, v', hlk, rfl, by go_num, by rw [hst.out, ← List.append_assoc, HTS.out]; unfold OwnS; rw [List.length_append, List.map_append]; exact HN.out.1, HZ2.out⟩
              case measure => simp [intOf]; omega
          · have hst := Lib.hid (show tsU (vs.take (k + 1)) = tsU (vs.take k) by rw [tsU_step HG.out, if_neg hx0])
            have HB := Lib.hid hbw
            have d0 : decide (0 ≤ x) = false := by simpa using hx0
            clear hx0
            go_wp2_with fail
            go_roundw
            case rel => exact ⟨k + 1, _, hlk, rfl, by go_num, by rw [hst.out]; exact HO.out, HB.out⟩
            case measure => simp [intOf]; omega
        · obtain rfl : k = vs.length := by omega
          rw [List.take_length] at HO
          obtain ⟨wo, hwo⟩ : ∃ wo : World, wo = wr := ⟨_, rfl⟩
          subst hwo
          have HB := Lib.hid hbw
          have HUL := Lib.hid (tsU_len vs)
          go_wp2_with fail
          go_loopw [4, 6] (fun s4 i wr => ∃ (k : Nat) (v : Value), k ≤ vs.length ∧ v = s4 ∧ i = .int .i64 ((k : Int) - 1) ∧ OwnS wr (w.heap.size + 1) v (tsC c vs ++ tsU vs ++ tqK vs k) ∧ Below (w.heap.size + 1) w1 wr) (fun _ i _ => (intOf i + 1).toNat)
          case atStart => exact ⟨vs.length, v, Nat.le_refl _, rfl, rfl, by rw [tqK_end, List.append_nil]; exact HO.out, HB.out⟩
          case round =>
            clear HO HB hbw l1r hszr htl
            obtain ⟨k, v2, hk, rfl, rfl, ho, hbw⟩ := hrel
            have HO := Lib.hid ho
            clear ho
            have l1r := (hbw.cell (p := ⟨w.heap.size, 1, none⟩) (by simp)).trans l1
            have hszr := hbw.size
            rcases k with _ | j
            · rw [show ((0 : Nat) : Int) - 1 = -1 by omega]
              have hTX : tsC c vs ++ tsU vs ++ tqK vs 0 = txtL c vs := by rw [tqK_zero]; rfl
              rw [hTX] at HO
              clear hTX
              have HTZ := Lib.hid (txtL_size hc0 hc1 HP.out.2)
              have HTL := Lib.hid (show (txtL c vs).length ≤ 200000 by
                have h1 := HCL.out
                have h2 := HUL.out
                have h3 := tsQ_len vs.reverse
                simp only [txtL, List.length_append, List.length_reverse] at h3 ⊢
                omega)
              generalize htt : txtL c vs = ts at *
              have HTT := Lib.hid htt
              clear htt
              obtain ⟨A4, c4, rfl⟩ := HO.out.slice
              have HB := Lib.hid (HF1.out.trans (hbw.mono (by omega)))
              by_cases h1 : ts.length = 1
              · have d1 : ((ts.length : Int) == 1) = true := by rw [h1]; rfl
                obtain ⟨t0, ht0⟩ : ∃ t0, ts[0]? = some t0 := ⟨_, List.getElem?_eq_getElem (by omega)⟩
                have HE := Lib.hid (txtB_one h1 ht0)
                obtain ⟨g, rfl, hgl, hgc⟩ := HO.out.at_ ht0
                clear ht0
                go_wp2_with fail
                exact bodyPost_ret (v := .tuple #[.string t0, .int .i64 0]) (by simp [results, Tryz.results41, go_sem]) rfl ⟨by rw [HTT.out, HE.out], HB.out⟩
              · have d1 : ((ts.length : Int) == 1) = false := by rw [beq_eq_false_iff_ne]; omega
                have HE := Lib.hid (jacc_end h1)
                clear h1
                obtain ⟨wp, hwp⟩ : ∃ wp : World, wp = wr := ⟨_, rfl⟩
                subst hwp
                have htl2 := HTL.out
                go_wp2_with fail
                go_loopw [7, 8] (fun s7 i wr => ∃ k : Nat, k ≤ ts.length ∧ s7 = .string (jacc ts k) ∧ i = .int .i64 k ∧ wp = wr) (fun _ i _ => ts.length - (intOf i).toNat)
                case atStart => exact ⟨0, Nat.zero_le _, by rw [jacc_zero], rfl, rfl⟩
                case round =>
                  obtain ⟨k, hk, rfl, rfl, rfl⟩ := hrel
                  have hjs := jacc_size HTZ.out HTL.out k
                  by_cases hlk : k < ts.length
                  · obtain ⟨t, ht⟩ : ∃ t, ts[k]? = some t := ⟨_, List.getElem?_eq_getElem hlk⟩
                    have hts := HTZ.out t (List.mem_of_getElem? ht)
                    have HS := Lib.hid (jacc_step ht)
                    obtain ⟨g, rfl, hgl, hgc⟩ := HO.out.at_ ht
                    clear ht
                    generalize jacc ts k = J at *
                    by_cases hk0 : 0 < k
                    · have hk0' : (0 : Int) < (k : Int) := by omega
                      rw [if_pos hk0] at HS
                      go_wp2_with fail
                      go_roundw
                      case rel => exact ⟨k + 1, hlk, by rw [HS.out], by go_num, by first | rfl | trivial⟩
                      case measure => simp [intOf]; omega
                    · obtain rfl : k = 0 := by omega
                      rw [if_neg hk0] at HS
                      go_wp2_with fail
                      go_roundw
                      case rel => exact ⟨0 + 1, hlk, by rw [HS.out], by go_num, by first | rfl | trivial⟩
                      case measure => simp [intOf]; omega
                  · obtain rfl : k = ts.length := by omega
                    generalize jacc ts ts.length = J at *
                    go_wp2_with fail
                    exact bodyPost_ret (v := .tuple #[.string _, .int .i64 0]) (by simp [results, Tryz.results41, go_sem]; rfl) rfl ⟨by rw [HTT.out, ← HE.out], HB.out⟩
            · rw [show ((j + 1 : Nat) : Int) - 1 = (j : Int) by omega]
              have hlk : j < vs.length := by omega
              have htl : (tsC c vs ++ tsU vs ++ tqK vs (j + 1)).length ≤ 131092 := by
                have h1 := HCL.out
                have h2 := HUL.out
                have h3 := tqK_len vs (j + 1)
                simp only [List.length_append]
                omega
              obtain ⟨b, off, x, y, rfl, hb, hg, hc0', hc1', hd0, hd1⟩ := (hvw.below hbw (by omega)).ata (by omega) hlk
              have hxy := (HP.out.2 j x y hlk hg).1
              have HG := Lib.hid hg
              clear hg
              obtain ⟨⟨hx1, hx2⟩, hy1, hy2⟩ := hxy
              by_cases hx0 : x < 0
              · have hst := Lib.hid (show tqK vs j = tqK vs (j + 1) ++ [varT ⟨#[63]⟩ (-1 - x) y] by rw [tqK_step HG.out, if_pos hx0])
                have HB := Lib.hid hbw
                have hwr : IntKind.i64.wrap (-1 - x) = -1 - x := by rw [IntKind.wrap_i64]; omega
                generalize htsk : tsC c vs ++ tsU vs ++ tqK vs (j + 1) = ts at *
                have HTS := Lib.hid htsk
                clear htsk
                go_wp2_with fail
                go_region_law (first
                  | (go_simp; go_at_call 69; refine (rpart_any ⟨#[63]⟩ (-1 - x) y (by omega) (by omega) hy1 hy2 _ (by decide)).mono ?_; rintro e w2 ⟨rfl, hb2⟩; have HO2 := Lib.hid ((show OwnS wr.drew (w.heap.size + 1) v2 ts from HO.out).below hb2); have qs : wr.heap.size ≤ w2.heap.size := hb2.size; have HB2 := Lib.hid hb2; clear hb2)
                  | (refine step_append_mine rfl (.tmp 72) (.tmp 87) 90 rfl (w.heap.size + 1) 9 i0 (.string ⟨#[]⟩) 1 16 Tryz.underlying90 hi hz0 hz1 hz2 rfl (by decide) v2 ts.length (ts.map Value.string) (by simp [Act.eval]) (World.ownsRow.alloc HO2.out _) ⟨w2.heap.size, 0, none⟩ 1 1 [.string (varT ⟨#[63]⟩ (-1 - x) y)] (by simp [Act.eval]) rfl (cell_one_new _ _ _) (by intro u hu; simp at hu; subst hu; rfl) (by unfold maxLen; omega) (by omega) (by simp; omega) ?_; intro v' w5 hown5 hg5; have HN := Lib.hid (And.intro hown5 hg5); clear hown5 hg5))
                all_goals
                  have hrow : ∀ q, v2.ownBlock = some q → w.heap.size + 1 ≤ q := fun q hq => by
                    have := World.ownsRow.lt HO.out q hq
                    omega
                  have HZ2 := Lib.hid (Below.grown (((HB.out.drew).trans (HB2.out.mono (show w.heap.size + 1 ≤ wr.drew.heap.size by show w.heap.size + 1 ≤ wr.heap.size; omega))).alloc (by omega) _) HN.out.2 (by simp; omega) hrow)
                  clear hrow
                  go_wp2_with fail
                  go_roundw
                  case rel => exact ⟨j, v', by omega, rfl, rfl, by rw [hst.out, ← List.append_assoc, HTS.out]; unfold OwnS; rw [List.length_append, List.map_append]; exact HN.out.1, HZ2.out⟩
                  case measure => simp [intOf]
              · have hst := Lib.hid (show tqK vs j = tqK vs (j + 1) by rw [tqK_step HG.out, if_neg hx0])
                have HB := Lib.hid hbw
                have d0 : decide (x < 0) = false := by simpa using hx0
                clear hx0
                go_wp2_with fail
                go_roundw
                case rel => exact ⟨j, _, by omega, rfl, rfl, by rw [hst.out]; exact HO.out, HB.out⟩
                case measure => simp [intOf]
end Go.Proofs.YtipnabbdhmapkaaGreatDoor
