/- The collector's level. -/
import Derived.Test.YtipnabbdhmapkaaGreatDoorVars
import Derived.Test.YtipnabbdhmapkaaGreatDoorCan
import Derived.Test.YtipnabbdhmapkaaGreatDoorPlv
import Derived.Deep.RegionWith
namespace Go.Proofs.YtipnabbdhmapkaaGreatDoor
open Go.RowKit Go.Maps

set_option maxRecDepth 100000 in
set_option maxHeartbeats 4000000 in
theorem clevel_any (cb mb n : Nat) (M : List (Int × Int)) (c : Int) (w : World) (hc : Col w cb mb n M c) (hasc : Asc M) (hlen : M.length ≤ 1000000) (hwf : ∀ p ∈ M, (Lit.int .i64 p.1).wf = true) :
    Calls Tryz.prog 74 #[.pointer (some ⟨cb, 0, none⟩)] w fun e w' => ∃ A cap, e = .returned (.agg #[.int .i64 (canonC c M), .slice A M.length cap]) ∧ VA w' w'.heap.size A M ∧ Below w.heap.size w w' ∧ ∀ b off, 0 < M.length → A = some ⟨b, off, none⟩ → w.heap.size < b := by
  have h0 := hc.c0
  have h1 := hc.c1
  have hlt := hc.lt
  have hHm := Lib.hid (show ∀ W, Below w.heap.size w W → OwnsM W mb n M from fun W hb => (hc.below hb hc.lt hc.mlt).map)
  have hHc := Lib.hid (show ∀ W, Below w.heap.size w W → W.cell? ⟨cb, 1, none⟩ = some (.int .i64 c) from fun W hb => (hc.below hb hc.lt hc.mlt).c1)
  have hHa := Lib.hid hasc
  have hHw := Lib.hid hwf
  clear hc hasc hwf
  go_enter Tryz.func74, Tryz.ntmps74
  go_wp2_with fail
  have hb0 : Below w.heap.size w (w.alloc (.cells #[.int .i64 0, .slice none 0 0] 24)).drew := ((Below.refl _ _).alloc (Nat.le_refl _) _).drew
  have hs0 : ((w.alloc (.cells #[.int .i64 0, .slice none 0 0] 24)).drew).heap.size = w.heap.size + 1 := by simp [World.drew]
  have hq0 : ((w.alloc (.cells #[.int .i64 0, .slice none 0 0] 24)).drew).heap[w.heap.size]? = some (.cells #[.int .i64 0, .slice none 0 0] 24 (0, 0)) := PSt.alloc_last _ _ _ rfl
  generalize hW0 : (w.alloc (.cells #[.int .i64 0, .slice none 0 0] 24)).drew = W0 at hb0 hs0 hq0
  have HB0 := Lib.hid (And.intro hb0 (And.intro hq0 hW0))
  have hcells : Hid (∀ W, Below W0.heap.size W0 W → W.cell? ⟨w.heap.size, 0, none⟩ = some (.int .i64 0) ∧ W.cell? ⟨w.heap.size, 1, none⟩ = some (.slice none 0 0) ∧ (∀ o, W.frozen? ⟨w.heap.size, o, none⟩ = false) ∧ W.cell? ⟨cb, 1, none⟩ = some (.int .i64 c)) := Lib.hid (fun W h => by
    have e := (h.block w.heap.size (by omega)).trans hq0
    refine ⟨by simp [World.cell?, e], by simp [World.cell?, e], fun o => by simp [World.frozen?, e], hHc.out W (hb0.trans (h.mono (by omega)))⟩)
  clear hb0 hq0 hW0
  go_region_with (first
    | (go_at_call 90; rw [HB0.out.2.2]; refine (vars_any mb n M _ (hHm.out _ HB0.out.1) hHa.out (by omega) hHw.out).mono ?_; rintro e w1 ⟨v, rfl, hown, hb1⟩; obtain ⟨A, cap, rfl⟩ := Own2.slice hown; obtain ⟨k0, k1, kf, kc⟩ := hcells.out _ hb1; have hs1 := hb1.size; have HO := Lib.hid (And.intro hown hb1); clear hown hb1)
    | (go_at_call 52; refine (canonical_any c A cap M w1.heap.size _ (Own2.va HO.out.1 (by omega)) (Nat.le_refl _)).mono ?_; rintro e w2 ⟨rfl, hb2⟩; obtain ⟨k0, k1, kf, kc⟩ := hcells.out _ (HO.out.2.trans (hb2.mono hs1)); have hs2 := hb2.size))
  all_goals
    have HX := Lib.hid hb2
    clear hb2
    go_wp2
    have hv1 := Own2.va HO.out.1 (by omega)
    have hv2 := (hv1.below HX.out (Nat.le_refl _)).more hs2
    have hfr : ∀ b off, 0 < M.length → A = some ⟨b, off, none⟩ → w.heap.size + 1 ≤ b := fun b off h e => by
      obtain ⟨g, e2, hg, _⟩ := Own2.at_ HO.out.1 h
      rw [e] at e2; cases e2; omega
    refine bodyPost_ret (v := .agg #[.int .i64 (canonC c M), .slice A M.length cap]) (by simp [results, Tryz.results74, go_sem, k0, k1]) rfl ⟨A, cap, rfl, va2 _ (w.heap.size + 1) _ _ hv2 hfr (by omega), ?_, fun b off h e => by have := hfr b off h e; omega⟩
    exact ((HB0.out.1.trans ((HO.out.2.mono (by omega)).trans (HX.out.mono (by omega)))).setCell (by simp) _).setCell (by simp) _
end Go.Proofs.YtipnabbdhmapkaaGreatDoor
