/- The reference: Max. -/
import Derived.Test.YtpkheelcfkiacaaGreatDoorRjn
namespace Go.Proofs.YtpkheelcfkiacaaGreatDoor
open Go.RowKit

set_option maxRecDepth 100000 in
set_option maxHeartbeats 4000000 in
theorem rmax_any (c1 : Int) (A1 : Option Addr) (cap1 : Nat) (v1 : List (Int × Int)) (c2 : Int) (A2 : Option Addr) (cap2 : Nat) (v2 : List (Int × Int)) (B : Nat) (w : World) (hv1 : VA w B A1 v1) (hv2 : VA w B A2 v2) (hB : B ≤ w.heap.size) (hl1 : v1.length ≤ 1000000) (hl2 : v2.length ≤ 1000000) :
    Calls Tryz.prog 25 #[.agg #[.int .i64 c1, .slice A1 v1.length cap1], .agg #[.int .i64 c2, .slice A2 v2.length cap2]] w (GivesLv (maxC c1 v1 c2 v2) (maxV c1 v1 c2 v2) (maxE c1 v1 c2 v2) w) := by
  obtain ⟨W0, hW0⟩ : ∃ W0 : World, W0 = ((w.alloc (.cells #[.int .i64 c1, .slice A1 v1.length cap1] 24)).alloc (.cells #[.int .i64 c2, .slice A2 v2.length cap2] 24)).alloc (.cells #[.int .i64 0, .slice none 0 0] 24) := ⟨_, rfl⟩
  have hb0 : Below w.heap.size w W0 := by subst hW0; exact (((Below.refl _ _).alloc (Nat.le_refl _) _).alloc (by simp) _).alloc (by simp; omega) _
  have hs0 : W0.heap.size = w.heap.size + 3 := by subst hW0; simp
  have k0 : W0.cell? ⟨w.heap.size, 0, none⟩ = some (.int .i64 c1) := by subst hW0; go_simp
  have k1 : W0.cell? ⟨w.heap.size, 1, none⟩ = some (.slice A1 v1.length cap1) := by subst hW0; go_simp
  have k2 : W0.cell? ⟨w.heap.size + 1, 0, none⟩ = some (.int .i64 c2) := by subst hW0; go_simp
  have k3 : W0.cell? ⟨w.heap.size + 1, 1, none⟩ = some (.slice A2 v2.length cap2) := by subst hW0; go_simp
  have k4 : W0.cell? ⟨w.heap.size + 1 + 1, 0, none⟩ = some (.int .i64 0) := by subst hW0; go_simp
  have k5 : W0.cell? ⟨w.heap.size + 1 + 1, 1, none⟩ = some (.slice none 0 0) := by subst hW0; go_simp
  have k6 : W0.frozen? ⟨w.heap.size + 1 + 1, 0, none⟩ = false := by subst hW0; go_simp
  have k7 : W0.frozen? ⟨w.heap.size + 1 + 1, 1, none⟩ = false := by subst hW0; go_simp
  have HK := Lib.hid (show ∀ W, Below W0.heap.size W0 W → ((W.cell? ⟨w.heap.size, 0, none⟩ = some (.int .i64 c1) ∧ W.cell? ⟨w.heap.size, 1, none⟩ = some (.slice A1 v1.length cap1)) ∧ W.cell? ⟨w.heap.size + 1, 0, none⟩ = some (.int .i64 c2) ∧ W.cell? ⟨w.heap.size + 1, 1, none⟩ = some (.slice A2 v2.length cap2)) ∧ (W.cell? ⟨w.heap.size + 1 + 1, 0, none⟩ = some (.int .i64 0) ∧ W.cell? ⟨w.heap.size + 1 + 1, 1, none⟩ = some (.slice none 0 0)) ∧ (W.frozen? ⟨w.heap.size + 1 + 1, 0, none⟩ = false ∧ W.frozen? ⟨w.heap.size + 1 + 1, 1, none⟩ = false) ∧ (VA W B A1 v1 ∧ VA W B A2 v2) ∧ Below w.heap.size w W from fun W hb => by
    obtain ⟨hc, hf⟩ := bcell hb
    have hbw := hb0.trans (hb.mono hb0.size)
    exact ⟨⟨⟨(hc _ _ (by omega)).trans k0, (hc _ _ (by omega)).trans k1⟩, (hc _ _ (by omega)).trans k2, (hc _ _ (by omega)).trans k3⟩, ⟨(hc _ _ (by omega)).trans k4, (hc _ _ (by omega)).trans k5⟩, ⟨(hf _ _ (by omega)).trans k6, (hf _ _ (by omega)).trans k7⟩, ⟨hv1.below hbw hB, hv2.below hbw hB⟩, hbw⟩)
  have hBW : B ≤ W0.heap.size := by omega
  have hrs : w.heap.size + 1 + 1 < W0.heap.size := by omega
  have hret := Lib.hid (show ∀ (W : World) (u0 u1 : Value), Below w.heap.size w W → Below w.heap.size w ((W.setCell ⟨w.heap.size + 1 + 1, 0, none⟩ u0).setCell ⟨w.heap.size + 1 + 1, 1, none⟩ u1) from fun W u0 u1 hb =>
    (hb.setCell (p := ⟨w.heap.size + 1 + 1, 0, none⟩) (by show w.heap.size ≤ w.heap.size + 1 + 1; omega) u0).setCell (p := ⟨w.heap.size + 1 + 1, 1, none⟩) (by show w.heap.size ≤ w.heap.size + 1 + 1; omega) u1)
  have hval1 := Lib.hid (rvalid_any c1 A1 cap1 v1 B W0 (HK.out W0 (Below.refl _ _)).2.2.2.1.1 hBW)
  clear hv1 hv2 hb0 hs0 k4 k5 k6 k7
  go_enter Tryz.func25, Tryz.ntmps25
  go_upto_region 1 with fail
  rw [← hW0]
  clear hW0
  go_wp2_with fail
  refine hval1.out.mono ?_
  clear hval1 k0 k1 k2 k3
  rintro e w1 ⟨rfl, hb1⟩
  obtain ⟨⟨⟨x0, x1⟩, y0, y1⟩, ⟨r0, r1⟩, ⟨f0, f1⟩, ⟨_, hvb⟩, _⟩ := HK.out w1 hb1
  have hs1 := hb1.size
  have hval2 := Lib.hid (rvalid_any c2 A2 cap2 v2 B w1 hvb (by omega))
  have HB1 := Lib.hid hb1
  clear hb1 hvb
  rcases h1 : vldB c1 v1 with _ | _
  · have hok : maxOk c1 v1 c2 v2 = false := by simp [maxOk, h1]
    have hz : Hid (maxC c1 v1 c2 v2 = 0 ∧ maxV c1 v1 c2 v2 = [] ∧ maxE c1 v1 c2 v2 = 3) := Lib.hid (by simp [maxC, maxV, maxE, hok])
    clear hok
    go_wp2
    exact bodyPost_ret (v := .tuple #[.agg #[.int .i64 0, .slice none 0 0], .int .i64 3]) (by simp [results, Tryz.results25, go_sem, r0, r1]) rfl (by rw [hz.out.1, hz.out.2.1, hz.out.2.2]; exact gives_zero (hret.out _ _ _ (HK.out _ HB1.out).2.2.2.2))
  · have H1 := Lib.hid h1
    clear h1
    go_wp2_with fail
    refine hval2.out.mono ?_
    clear hval2 x0 x1 y0 y1 r0 r1 f0 f1
    rintro e w2 ⟨rfl, hb2⟩
    have hb02 := HB1.out.trans (hb2.mono hs1)
    obtain ⟨⟨⟨x0, x1⟩, y0, y1⟩, ⟨r0, r1⟩, ⟨f0, f1⟩, ⟨hva, hvb⟩, _⟩ := HK.out w2 hb02
    have HB2 := Lib.hid hb02
    have hs2 := hb2.size
    clear hb2 hb02
    rcases h2 : vldB c2 v2 with _ | _
    · have hok : maxOk c1 v1 c2 v2 = false := by simp [maxOk, h2]
      have hz : Hid (maxC c1 v1 c2 v2 = 0 ∧ maxV c1 v1 c2 v2 = [] ∧ maxE c1 v1 c2 v2 = 3) := Lib.hid (by simp [maxC, maxV, maxE, hok])
      clear hok hva hvb
      go_wp2
      exact bodyPost_ret (v := .tuple #[.agg #[.int .i64 0, .slice none 0 0], .int .i64 3]) (by simp [results, Tryz.results25, go_sem, r0, r1]) rfl (by rw [hz.out.1, hz.out.2.1, hz.out.2.2]; exact gives_zero (hret.out _ _ _ (HK.out _ HB2.out).2.2.2.2))
    · have hok : maxOk c1 v1 c2 v2 = true := by simp [maxOk, H1.out, h2]
      have hz : Hid (maxC c1 v1 c2 v2 = canonC (if c1 < c2 then c2 else c1) (mg v1 v2) ∧ maxV c1 v1 c2 v2 = mg v1 v2 ∧ maxE c1 v1 c2 v2 = 0) := Lib.hid (by simp [maxC, maxV, maxE, hok])
      have hj := Lib.hid (rjoin_any c1 A1 cap1 v1 c2 A2 cap2 v2 B w2 hva hvb (by omega) hl1 hl2 (vldB_parts H1.out).1.1 (vldB_parts h2).1.1 _ rfl)
      clear hok hva hvb h2
      go_wp2_with fail
      refine hj.out.mono ?_
      clear hj x0 x1 y0 y1 r0 r1 f0 f1
      rintro e w3 ⟨A3, cap3, rfl, hv3, hb3, hn3⟩
      have hb03 := HB2.out.trans (hb3.mono HB2.out.size)
      obtain ⟨_, ⟨r0, r1⟩, ⟨f0, f1⟩, _, _⟩ := HK.out w3 hb03
      have hne : ∀ b off, 0 < (mg v1 v2).length → A3 = some ⟨b, off, none⟩ → b ≠ w.heap.size + 1 + 1 := fun b off h e => by
        have h7 := hn3 b off h e
        omega
      have h9 := (hv3.setCell (p := ⟨w.heap.size + 1 + 1, 0, none⟩) hne (.int .i64 (canonC (if c1 < c2 then c2 else c1) (mg v1 v2)))).setCell (p := ⟨w.heap.size + 1 + 1, 1, none⟩) hne (.slice A3 (mg v1 v2).length cap3)
      have H9 := Lib.hid (And.intro h9 (HK.out _ hb03).2.2.2.2)
      clear h9 hv3 hb3 hb03 hne hn3
      generalize canonC (if c1 < c2 then c2 else c1) (mg v1 v2) = cc at *
      go_wp2
      refine bodyPost_ret (v := .tuple #[.agg #[.int .i64 cc, .slice A3 (mg v1 v2).length cap3], .int .i64 0]) (by simp [results, Tryz.results25, go_sem, r0, r1]) rfl ?_
      rw [hz.out.1, hz.out.2.1, hz.out.2.2]
      refine ⟨A3, cap3, rfl, ?_, hret.out _ _ _ H9.out.2⟩
      simpa [World.setCell] using H9.out.1
end Go.Proofs.YtpkheelcfkiacaaGreatDoor
