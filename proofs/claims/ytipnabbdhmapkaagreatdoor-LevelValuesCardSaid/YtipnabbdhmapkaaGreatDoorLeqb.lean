/- Leq where a level is invalid. -/
import Derived.Test.YtipnabbdhmapkaaGreatDoorLeq
namespace Go.Proofs.YtipnabbdhmapkaaGreatDoor
open Go.RowKit

set_option maxRecDepth 100000 in
set_option maxHeartbeats 4000000 in
theorem leq_bad1 (c1 : Int) (A1 : Option Addr) (cap1 : Nat) (v1 : List (Int × Int)) (c2 : Int) (A2 : Option Addr) (cap2 : Nat) (v2 : List (Int × Int)) (B : Nat) (w : World) (hv1 : VA w B A1 v1) (hv2 : VA w B A2 v2) (hB : B ≤ w.heap.size)
    (h1 : vldB c1 v1 = false) :
    Calls Tryz.prog 26 #[.agg #[.int .i64 c1, .slice A1 v1.length cap1], .agg #[.int .i64 c2, .slice A2 v2.length cap2]] w fun e w' => e = .returned (.bool false) ∧ Below w.heap.size w w' := by
  have H1 := Lib.hid h1
  clear h1
  obtain ⟨W0, hW0⟩ : ∃ W0 : World, W0 = (w.alloc (.cells #[.int .i64 c1, .slice A1 v1.length cap1] 24)).alloc (.cells #[.int .i64 c2, .slice A2 v2.length cap2] 24) := ⟨_, rfl⟩
  have hb0 : Below w.heap.size w W0 := by subst hW0; exact ((Below.refl _ _).alloc (Nat.le_refl _) _).alloc (by simp) _
  have hs0 : W0.heap.size = w.heap.size + 2 := by subst hW0; simp
  have hx0 : W0.cell? ⟨w.heap.size, 0, none⟩ = some (.int .i64 c1) := by subst hW0; go_simp
  have hx1 : W0.cell? ⟨w.heap.size, 1, none⟩ = some (.slice A1 v1.length cap1) := by subst hW0; go_simp
  have hy0 : W0.cell? ⟨w.heap.size + 1, 0, none⟩ = some (.int .i64 c2) := by subst hW0; go_simp
  have hy1 : W0.cell? ⟨w.heap.size + 1, 1, none⟩ = some (.slice A2 v2.length cap2) := by subst hW0; go_simp
  have hv10 := hv1.below hb0 hB
  have hv20 := hv2.below hb0 hB
  have hv10d : VA W0.drew B A1 v1 := hv10
  have hbd : B ≤ W0.drew.heap.size := by show B ≤ W0.heap.size; omega
  have hK : ∀ (w1 : World), Below W0.heap.size W0.drew w1 → w1.cell? ⟨w.heap.size, 0, none⟩ = some (.int .i64 c1) ∧ w1.cell? ⟨w.heap.size, 1, none⟩ = some (.slice A1 v1.length cap1) ∧ w1.cell? ⟨w.heap.size + 1, 0, none⟩ = some (.int .i64 c2) ∧ w1.cell? ⟨w.heap.size + 1, 1, none⟩ = some (.slice A2 v2.length cap2) ∧ VA w1 B A1 v1 ∧ VA w1 B A2 v2 := fun w1 hb => by
    have hb : Below W0.heap.size W0 w1 := ⟨hb.os, hb.tape, hb.output, hb.size, hb.block⟩
    obtain ⟨hc, _⟩ := bcell hb
    exact ⟨(hc _ _ (by omega)).trans hx0, (hc _ _ (by omega)).trans hx1, (hc _ _ (by omega)).trans hy0, (hc _ _ (by omega)).trans hy1, hv10.below hb (by omega), hv20.below hb (by omega)⟩
  have HK := Lib.hid hK
  clear hK
  have hlen1 := hv1.len
  have hlen2 := hv2.len
  go_enter Tryz.func26, Tryz.ntmps26
  go_wp2_with fail
  rw [← hW0]
  clear hW0
  first | (go_region_with (go_at_call 19; refine ((valid_any c1 A1 cap1 v1 B W0.drew hv10d hbd).mono ?_); rw [H1.out]; rintro e w1 ⟨rfl, hb1⟩; obtain ⟨hx0, hx1, hy0, hy1, hv11, hv21⟩ := HK.out _ hb1; clear hv10d)) | fail
  all_goals
    have HB := Lib.hid hb1
    clear hb1
    go_wp2_with fail
    go_ret
    exact ⟨rfl, hb0.trans ((⟨HB.out.os, HB.out.tape, HB.out.output, HB.out.size, HB.out.block⟩ : Below W0.heap.size W0 _).mono (by omega))⟩

set_option maxRecDepth 100000 in
set_option maxHeartbeats 4000000 in
theorem leq_bad2 (c1 : Int) (A1 : Option Addr) (cap1 : Nat) (v1 : List (Int × Int)) (c2 : Int) (A2 : Option Addr) (cap2 : Nat) (v2 : List (Int × Int)) (B : Nat) (w : World) (hv1 : VA w B A1 v1) (hv2 : VA w B A2 v2) (hB : B ≤ w.heap.size)
    (h1 : vldB c1 v1 = true) (h2 : vldB c2 v2 = false) :
    Calls Tryz.prog 26 #[.agg #[.int .i64 c1, .slice A1 v1.length cap1], .agg #[.int .i64 c2, .slice A2 v2.length cap2]] w fun e w' => e = .returned (.bool false) ∧ Below w.heap.size w w' := by
  have H1 := Lib.hid h1
  have H2 := Lib.hid h2
  clear h1 h2
  obtain ⟨W0, hW0⟩ : ∃ W0 : World, W0 = (w.alloc (.cells #[.int .i64 c1, .slice A1 v1.length cap1] 24)).alloc (.cells #[.int .i64 c2, .slice A2 v2.length cap2] 24) := ⟨_, rfl⟩
  have hb0 : Below w.heap.size w W0 := by subst hW0; exact ((Below.refl _ _).alloc (Nat.le_refl _) _).alloc (by simp) _
  have hs0 : W0.heap.size = w.heap.size + 2 := by subst hW0; simp
  have hx0 : W0.cell? ⟨w.heap.size, 0, none⟩ = some (.int .i64 c1) := by subst hW0; go_simp
  have hx1 : W0.cell? ⟨w.heap.size, 1, none⟩ = some (.slice A1 v1.length cap1) := by subst hW0; go_simp
  have hy0 : W0.cell? ⟨w.heap.size + 1, 0, none⟩ = some (.int .i64 c2) := by subst hW0; go_simp
  have hy1 : W0.cell? ⟨w.heap.size + 1, 1, none⟩ = some (.slice A2 v2.length cap2) := by subst hW0; go_simp
  have hv10 := hv1.below hb0 hB
  have hv20 := hv2.below hb0 hB
  have hv10d : VA W0.drew B A1 v1 := hv10
  have hbd : B ≤ W0.drew.heap.size := by show B ≤ W0.heap.size; omega
  have hK : ∀ (w1 : World), Below W0.heap.size W0.drew w1 → w1.cell? ⟨w.heap.size, 0, none⟩ = some (.int .i64 c1) ∧ w1.cell? ⟨w.heap.size, 1, none⟩ = some (.slice A1 v1.length cap1) ∧ w1.cell? ⟨w.heap.size + 1, 0, none⟩ = some (.int .i64 c2) ∧ w1.cell? ⟨w.heap.size + 1, 1, none⟩ = some (.slice A2 v2.length cap2) ∧ VA w1 B A1 v1 ∧ VA w1 B A2 v2 := fun w1 hb => by
    have hb : Below W0.heap.size W0 w1 := ⟨hb.os, hb.tape, hb.output, hb.size, hb.block⟩
    obtain ⟨hc, _⟩ := bcell hb
    exact ⟨(hc _ _ (by omega)).trans hx0, (hc _ _ (by omega)).trans hx1, (hc _ _ (by omega)).trans hy0, (hc _ _ (by omega)).trans hy1, hv10.below hb (by omega), hv20.below hb (by omega)⟩
  have HK := Lib.hid hK
  clear hK
  have hlen1 := hv1.len
  have hlen2 := hv2.len
  go_enter Tryz.func26, Tryz.ntmps26
  go_wp2_with fail
  rw [← hW0]
  clear hW0
  first | (go_region_with (first | (go_at_call 19; refine ((valid_any c1 A1 cap1 v1 B W0.drew hv10d hbd).mono ?_); rw [H1.out]; rintro e w1 ⟨rfl, hb1⟩; obtain ⟨hx0, hx1, hy0, hy1, hv11, hv21⟩ := HK.out _ hb1; have hs1 := hb1.size; have hbB1 := Nat.le_trans hbd hs1; clear hv10d) | (go_at_call 19; refine ((valid_any c2 A2 cap2 v2 B _ hv21 hbB1).mono ?_); rw [H2.out]; rintro e w2 ⟨rfl, hb2⟩; have hbx2 := hb1.trans (hb2.mono hb1.size)))) | fail
  all_goals
    have HB := Lib.hid hbx2
    clear hbx2
    go_wp2_with fail
    go_ret
    exact ⟨rfl, hb0.trans ((⟨HB.out.os, HB.out.tape, HB.out.output, HB.out.size, HB.out.block⟩ : Below W0.heap.size W0 _).mono (by omega))⟩
end Go.Proofs.YtipnabbdhmapkaaGreatDoor
