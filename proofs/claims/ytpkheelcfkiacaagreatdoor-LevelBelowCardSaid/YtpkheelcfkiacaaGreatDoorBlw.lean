/- LevelBelow: the law's walk. -/
import Derived.Test.YtpkheelcfkiacaaGreatDoorLcm
import Derived.Test.YtpkheelcfkiacaaGreatDoorVlu
import Derived.Deep.DeepCutAuto
import Derived.Deep.CutRange
namespace Go.Proofs.YtpkheelcfkiacaaGreatDoor
open Go.RowKit

theorem value3_any (c : Int) (A : Option Addr) (cap : Nat) (vs : List (Int × Int)) (pb capp : Nat) (p0 p1 p2 : Int) (w : World) (hv : VA w w.heap.size A vs) (hi : IA w w.heap.size (some ⟨pb, 0, none⟩) [p0, p1, p2]) (h0 : 0 ≤ p0 ∧ p0 ≤ 1000000000) (h1 : 0 ≤ p1 ∧ p1 ≤ 1000000000) (h2 : 0 ≤ p2 ∧ p2 ≤ 1000000000) :
    Calls Tryz.prog 44 #[.agg #[.int .i64 c, .slice A vs.length cap], .slice (some ⟨pb, 0, none⟩) 3 capp] w fun e w' => e = .returned (.int .i64 (valB [p0, p1, p2] c vs)) ∧ Below w.heap.size w w' :=
  value_any c A cap vs (some ⟨pb, 0, none⟩) capp [p0, p1, p2] w.heap.size w hv hi (Nat.le_refl _) fun k => by
    rcases k with _ | _ | _ | k
    · simpa using h0
    · simpa using h1
    · simpa using h2
    · simp

theorem sg_le (k : Nat) (hk : k < 8) : (0 ≤ (500 * (k % 2 : Nat) : Int) ∧ (500 * (k % 2 : Nat) : Int) ≤ 1000000000) ∧ (0 ≤ (500 * (k / 2 % 2 : Nat) : Int) ∧ (500 * (k / 2 % 2 : Nat) : Int) ≤ 1000000000) ∧ (0 ≤ (500 * (k / 4 : Nat) : Int) ∧ (500 * (k / 4 : Nat) : Int) ≤ 1000000000) := by omega

set_option maxRecDepth 100000 in
set_option maxHeartbeats 8000000 in
theorem levelBelow_any (c1 : Int) (A1 : Option Addr) (cap1 : Nat) (v1 : List (Int × Int)) (c2 : Int) (A2 : Option Addr) (cap2 : Nat) (v2 : List (Int × Int)) (w : World) (hv1 : VA w w.heap.size A1 v1) (hv2 : VA w w.heap.size A2 v2) (hp : Pow w) :
    Calls Tryz.prog 11 #[.agg #[.int .i64 c1, .slice A1 v1.length cap1], .agg #[.int .i64 c2, .slice A2 v2.length cap2]] w fun e w' => e = .returned (.bool true) ∧ Below w.heap.size w w' := by
  have T0 : Hid (TwoLv w ((w.alloc (.cells #[.int .i64 c1, .slice A1 v1.length cap1] 24)).alloc (.cells #[.int .i64 c2, .slice A2 v2.length cap2] 24)) w.heap.size c1 A1 cap1 v1 (w.heap.size + 1) c2 A2 cap2 v2) := Lib.hid (by
    have hb : Below w.heap.size w ((w.alloc (.cells #[.int .i64 c1, .slice A1 v1.length cap1] 24)).alloc (.cells #[.int .i64 c2, .slice A2 v2.length cap2] 24)) := ((Below.refl _ _).alloc (Nat.le_refl _) _).alloc (by simp) _
    refine ⟨hv1.next0 hb, hv2.next0 hb, hp.below hb, hb, (LvAt.new w c1 A1 v1.length cap1).alloc _, ?_⟩
    have := LvAt.new (w.alloc (.cells #[.int .i64 c1, .slice A1 v1.length cap1] 24)) c2 A2 v2.length cap2
    simpa using this)
  clear hv1 hv2 hp
  go_enter Tryz.func11, Tryz.ntmps11
  go_wp2_with fail
  refine (few_two (w.heap.size + 1 + 1) c1 A1 v1.length cap1 c2 A2 v2.length cap2 2 _ (by go_simp) (by go_simp) (by go_simp) (by go_simp) (by simp)).mono ?_
  rintro e w1 ⟨rfl, hb1⟩
  have T1 := Lib.hid ((T0.out.next ((Below.refl _ _).alloc (Nat.le_refl _) _)).next hb1)
  clear hb1 T0
  generalize hdd : (decide (v1.length ≤ 12) && decide (v2.length ≤ 12)) = dd
  clear hdd
  have AW := Lib.hid (show ∀ W, Below w1.heap.size w1 W → Calls Tryz.prog 14 #[] W fun e w' => e = .returned (.bool true) ∧ Below w.heap.size w w' from fun W hb =>
    (awake_any W (T1.out.pow.below hb)).mono fun e w' h => ⟨h.1, (T1.out.below.trans (hb.mono T1.out.below.size)).trans (h.2.mono (T1.out.next hb).below.size)⟩)
  obtain ⟨x0, x1⟩ := T1.out.at1.cells
  obtain ⟨y0, y1⟩ := T1.out.at2.cells
  cases dd with
  | false =>
    go_wp2_with fail
    refine (AW.out _ (Below.refl _ _)).mono ?_
    rintro e w2 ⟨rfl, hb2⟩
    have HB2 := Lib.hid hb2
    clear hb2
    go_wp2
    go_ret
    exact ⟨rfl, HB2.out⟩
  | true =>
    go_wp2_with fail
    refine (value3_any c1 A1 cap1 v1 w1.heap.size 3 0 0 0 _ (T1.out.next ((Below.refl _ _).alloc (Nat.le_refl _) _)).va1 (IA.three (by go_simp) (by go_simp) (by go_simp) (by simp)) (by omega) (by omega) (by omega)).mono ?_
    rintro e w2 ⟨rfl, hb2⟩
    have T2 := Lib.hid ((T1.out.next ((Below.refl _ _).alloc (Nat.le_refl _) _)).next hb2)
    have K2 := Lib.hid (((Below.refl w1.heap.size w1).alloc (Nat.le_refl _) _).trans (hb2.mono (by simp)))
    clear hb2 x0 x1 y0 y1
    obtain ⟨x0, x1⟩ := T2.out.at1.cells
    obtain ⟨y0, y1⟩ := T2.out.at2.cells
    generalize hva : valB [0, 0, 0] c1 v1 = va at *
    have HVA := Lib.hid hva
    clear hva
    by_cases hn1 : va < 0
    · have d1 : decide (va < 0) = true := by simpa using hn1
      go_wp2_with fail
      refine (AW.out _ K2.out).mono ?_
      rintro e w3 ⟨rfl, hb3⟩
      have HB3 := Lib.hid hb3
      clear hb3
      go_wp2
      go_ret
      exact ⟨rfl, HB3.out⟩
    · have d1 : decide (va < 0) = false := by simpa using hn1
      have HN1 := Lib.hid hn1
      clear hn1
      go_wp2_with fail
      refine (value3_any c2 A2 cap2 v2 w2.heap.size 3 0 0 0 _ (T2.out.next ((Below.refl _ _).alloc (Nat.le_refl _) _)).va2 (IA.three (by go_simp) (by go_simp) (by go_simp) (by simp)) (by omega) (by omega) (by omega)).mono ?_
      rintro e w3 ⟨rfl, hb3⟩
      have T3 := Lib.hid ((T2.out.next ((Below.refl _ _).alloc (Nat.le_refl _) _)).next hb3)
      have K3 := Lib.hid (K2.out.trans ((((Below.refl w2.heap.size w2).alloc (Nat.le_refl _) _).trans (hb3.mono (by simp))).mono K2.out.size))
      clear hb3 x0 x1 y0 y1 T2 K2
      generalize hvb : valB [0, 0, 0] c2 v2 = vb at *
      have HVB := Lib.hid hvb
      clear hvb
      by_cases hn2 : vb < 0
      · have d2 : decide (vb < 0) = true := by simpa using hn2
        go_wp2_with fail
        refine (AW.out _ K3.out).mono ?_
        rintro e w4 ⟨rfl, hb4⟩
        have HB4 := Lib.hid hb4
        clear hb4
        go_wp2
        go_ret
        exact ⟨rfl, HB4.out⟩
      · have d2 : decide (vb < 0) = false := by simpa using hn2
        have HLB := Lib.hid (leq_below (c1 := c1) (v1 := v1) (c2 := c2) (v2 := v2) (by rw [HVA.out]; have := HN1.out; omega) (by rw [HVB.out]; omega))
        clear hn2 HN1 HVA HVB T1 K3
        go_wp2_with fail
        clear d1 d2
        go_loopw [5, 26] (fun s5 i wr => ∃ k : Nat, k ≤ 8 ∧ s5 = .bool (belowTo c1 v1 c2 v2 k) ∧ i = .int .i64 k ∧ TwoLv w wr w.heap.size c1 A1 cap1 v1 (w.heap.size + 1) c2 A2 cap2 v2) (fun _ i _ => 8 - (intOf i).toNat)
        case atStart => exact ⟨0, Nat.zero_le _, rfl, rfl, T3.out⟩
        case round =>
          obtain ⟨k, hk, rfl, rfl, ht⟩ := hrel
          have TR := Lib.hid ht
          clear ht T3
          by_cases hlt : k < 8
          · have hlt2 : (k : Int) < 8 := by omega
            go_upto_region 7 with fail
            go_cut [7, 26] from 26 to 50 (fun s7 s26 wx => s26 = .int .i64 k ∧ s7 = .slice (some ⟨wr.heap.size, 0, none⟩) 3 3 ∧ wr.heap.size < wx.heap.size ∧ wx.cell? ⟨wr.heap.size, 0, none⟩ = some (.int .i64 (500 * (k % 2 : Nat))) ∧ wx.cell? ⟨wr.heap.size, 1, none⟩ = some (.int .i64 (500 * (k / 2 % 2 : Nat))) ∧ wx.cell? ⟨wr.heap.size, 2, none⟩ = some (.int .i64 (500 * (k / 4 : Nat))) ∧ Below wr.heap.size wr wx)
            case first =>
              have hk8 : k = 0 ∨ k = 1 ∨ k = 2 ∨ k = 3 ∨ k = 4 ∨ k = 5 ∨ k = 6 ∨ k = 7 := by omega
              rcases hk8 with rfl | rfl | rfl | rfl | rfl | rfl | rfl | rfl
              all_goals
                go_wp2_with fail
                go_meet
                exact ⟨rfl, rfl, by simp, by go_simp, by go_simp, by go_simp, (Below.refl _ _).alloc (Nat.le_refl _) _⟩
            case rest =>
              obtain ⟨rfl, rfl, hsz, q0, q1, q2, hbx⟩ := hcut
              have T5 := Lib.hid (TR.out.next hbx)
              have I5 := Lib.hid (IA.three q0 q1 q2 hsz)
              have SL := Lib.hid (sg_le k hlt)
              have BK := Lib.hid (show belowTo c1 v1 c2 v2 (k + 1) = (belowTo c1 v1 c2 v2 k && decide (valB [500 * (k % 2 : Nat), 500 * (k / 2 % 2 : Nat), 500 * (k / 4 : Nat)] c1 v1 ≤ valB [500 * (k % 2 : Nat), 500 * (k / 2 % 2 : Nat), 500 * (k / 4 : Nat)] c2 v2)) from rfl)
              clear q0 q1 q2 hsz hbx TR
              generalize (500 * (k % 2 : Nat) : Int) = g0 at *
              generalize (500 * (k / 2 % 2 : Nat) : Int) = g1 at *
              generalize (500 * (k / 4 : Nat) : Int) = g2 at *
              obtain ⟨x0, x1⟩ := T5.out.at1.cells
              obtain ⟨y0, y1⟩ := T5.out.at2.cells
              generalize hza : valB [g0, g1, g2] c1 v1 = za at *
              generalize hzb : valB [g0, g1, g2] c2 v2 = zb at *
              have HZA := Lib.hid hza
              have HZB := Lib.hid hzb
              clear hza hzb
              rcases hbk : belowTo c1 v1 c2 v2 k with _ | _
              · have BKF := Lib.hid (show false = belowTo c1 v1 c2 v2 (k + 1) by rw [BK.out, hbk, Bool.false_and])
                clear BK
                go_wp2_with fail
                go_quiet (fail)
                go_wp2
                go_roundw
                case rel => exact ⟨k + 1, by omega, congrArg Value.bool BKF.out, by go_num, T5.out.next (Below.drewN' (Below.refl _ _) _)⟩
                case measure => simp [intOf]; omega
              · have BKT := Lib.hid (show decide (za ≤ zb) = belowTo c1 v1 c2 v2 (k + 1) by rw [BK.out, hbk, Bool.true_and])
                clear BK
                have HB := Lib.hid (And.intro T5.out.drew (I5.out.next0 (w' := wc.drew) ⟨rfl, rfl, rfl, Nat.le_refl _, fun _ _ => rfl⟩))
                clear T5 I5
                go_wp2_with fail
                go_region_held3 (fun w' => w'.cell? ⟨w.heap.size, 0, none⟩ = some (.int .i64 c1) ∧ w'.cell? ⟨w.heap.size, 1, none⟩ = some (.slice A1 v1.length cap1) ∧ w'.cell? ⟨w.heap.size + 1, 0, none⟩ = some (.int .i64 c2) ∧ w'.cell? ⟨w.heap.size + 1, 1, none⟩ = some (.slice A2 v2.length cap2))
                  (first | exact ⟨HB.out.1.at1.cells.1, HB.out.1.at1.cells.2, HB.out.1.at2.cells.1, HB.out.1.at2.cells.2⟩)
                  (first
                  | (go_at_call_of 44 (Value.slice A2 v2.length cap2); refine (value3_any c2 A2 cap2 v2 wr.heap.size 3 g0 g1 g2 _ HB.out.1.va2 HB.out.2 SL.out.1 SL.out.2.1 SL.out.2.2).mono ?_; rw [HZB.out]; rintro e w7 ⟨rfl, hb7⟩; have HB := Lib.hid (And.intro (HB.out.1.next hb7) (HB.out.2.next0 hb7)); clear hb7)
                  | (go_at_call 44; refine (value3_any c1 A1 cap1 v1 wr.heap.size 3 g0 g1 g2 _ HB.out.1.va1 HB.out.2 SL.out.1 SL.out.2.1 SL.out.2.2).mono ?_; rw [HZA.out]; rintro e w7 ⟨rfl, hb7⟩; have HB := Lib.hid (And.intro (HB.out.1.next hb7) (HB.out.2.next0 hb7)); clear hb7))
                all_goals
                  go_wp2
                  go_roundw
                  case rel => exact ⟨k + 1, by omega, congrArg Value.bool BKT.out, by go_num, HB.out.1⟩
                  case measure => simp [intOf]; omega
          · obtain rfl : k = 8 := by omega
            obtain ⟨x0, x1⟩ := TR.out.at1.cells
            obtain ⟨y0, y1⟩ := TR.out.at2.cells
            have hb8 := HLB.out
            generalize belowTo c1 v1 c2 v2 8 = b8 at *
            have HB8 := Lib.hid hb8
            clear hb8 HLB
            go_wp2_with fail
            refine (leq_any c1 A1 cap1 v1 c2 A2 cap2 v2 _ _ TR.out.va1 TR.out.va2 (Nat.le_refl _)).mono ?_
            rw [HB8.out]
            rintro e w7 ⟨rfl, hb7⟩
            have T7 := Lib.hid (TR.out.next hb7)
            clear hb7 TR
            have EE : (b8 == b8) = true := by simp
            go_wp2_with fail
            refine (awake_any _ T7.out.pow).mono ?_
            rintro e w8 ⟨rfl, hb8⟩
            have T8 := Lib.hid (T7.out.next hb8)
            clear hb8
            go_wp2
            go_ret
            exact ⟨rfl, T8.out.below⟩
end Go.Proofs.YtpkheelcfkiacaaGreatDoor
