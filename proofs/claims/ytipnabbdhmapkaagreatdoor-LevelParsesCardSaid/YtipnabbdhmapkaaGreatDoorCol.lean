/- The collector: a constant and a map of offsets. -/
import Derived.Test.YtipnabbdhmapkaaGreatDoorMap
import Derived.Test.YtipnabbdhmapkaaGreatDoorVal
import Derived.Deep.RegionWith
namespace Go.Proofs.YtipnabbdhmapkaaGreatDoor
open Go.RowKit Go.Maps

/-- Block cb is a collector: the constant c, and the map in block mb, which reads as M. -/
structure Col (w : World) (cb mb n : Nat) (M : List (Int × Int)) (c : Int) : Prop where
  col : w.heap[cb]? = some (.cells #[.map (some mb), .int .i64 c] 102 (0, 0))
  map : OwnsM w mb n M
namespace Col
variable {w w' : World} {cb mb n : Nat} {M : List (Int × Int)} {c : Int}
theorem lt (h : Col w cb mb n M c) : cb < w.heap.size := (Array.getElem?_eq_some_iff.1 h.col).1
theorem mlt (h : Col w cb mb n M c) : mb < w.heap.size := World.ownsMap.lt h.map
theorem ne (h : Col w cb mb n M c) : cb ≠ mb := by
  intro e
  obtain ⟨es, clock, hb, _⟩ := h.map
  have := h.col
  rw [e, hb] at this
  cases this
theorem c0 (h : Col w cb mb n M c) : w.cell? ⟨cb, 0, none⟩ = some (.map (some mb)) := by simp [World.cell?, h.col]
theorem c1 (h : Col w cb mb n M c) : w.cell? ⟨cb, 1, none⟩ = some (.int .i64 c) := by simp [World.cell?, h.col]
theorem fr (h : Col w cb mb n M c) (o : Nat) : w.frozen? ⟨cb, o, none⟩ = false := by simp [World.frozen?, h.col]
theorem set1 (h : Col w cb mb n M c) (q : Int) : Col (w.setCell ⟨cb, 1, none⟩ (.int .i64 q)) cb mb n M q :=
  ⟨by rw [heap_setCell_same w _ 1 _ _ (.int .i64 q) h.col]; rfl, World.ownsMap.kept h.map (row := some cb) ⟨rfl, rfl, rfl, by simp [World.setCell], fun i _ hne => Below.heap_setCell w ⟨cb, 1, none⟩ _ i (fun e => hne (by rw [e]))⟩ (by intro e; cases e; exact h.ne rfl)⟩
theorem kept (h : Col w cb mb n M c) {row : Option Nat} (hg : w.grownBy w' row) (h1 : some cb ≠ row) (h2 : some mb ≠ row) : Col w' cb mb n M c :=
  ⟨(hg.block cb h.lt h1).trans h.col, World.ownsMap.kept h.map hg h2⟩
theorem below (h : Col w cb mb n M c) {B : Nat} (hb : Below B w w') (h1 : cb < B) (h2 : mb < B) : Col w' cb mb n M c :=
  ⟨(hb.block cb h1).trans h.col, by
    obtain ⟨es, clock, e, F, hs, hD⟩ := h.map
    exact ⟨es, clock, (hb.block mb h2).trans e, F, hs, hD⟩⟩
theorem drewN (h : Col w cb mb n M c) (m : Nat) : Col (w.drewN m) cb mb n M c := ⟨h.col, h.map⟩
theorem raised (h : Col w cb mb n M c) {n' : Nat} {M' : List (Int × Int)} (hm : OwnsM w' mb n' M') (hg : w.grownBy w' (some mb)) : Col w' cb mb n' M' c :=
  ⟨(hg.block cb h.lt (by intro e; cases e; exact h.ne rfl)).trans h.col, hm⟩
end Col

set_option maxRecDepth 100000 in
theorem newCollector_any (w : World) : Calls Tryz.prog 71 #[] w fun e w' => ∃ mb, e = .returned (.agg #[.map (some mb), .int .i64 0]) ∧ OwnsM w' mb 0 [] ∧ Below w.heap.size w w' ∧ w.heap.size ≤ mb := by
  have hmm := @run_makeMap Tryz.prog
  go_enter Tryz.func71, Tryz.ntmps71
  go_wp2_with fail
  exact bodyPost_ret (v := .agg #[.map (some (w.heap.size + 1)), .int .i64 0]) (by simp [results, Tryz.results71, go_sem]) rfl ⟨w.heap.size + 1, rfl, by simpa [OwnsM, mapD] using World.ownsMap_made (H := Unit) (w.alloc (.cells #[.map (some (w.heap.size + 1)), .int .i64 0] 102)) Tryz.prog 3 (plainElem Tryz.prog 3), ((Below.refl _ _).alloc (Nat.le_refl _) _).alloc (by simp) _, by omega⟩

theorem Col.drew {w : World} {cb mb n : Nat} {M : List (Int × Int)} {c : Int} (h : Col w cb mb n M c) : Col w.drew cb mb n M c := ⟨h.col, h.map⟩
theorem below_of_grown {B mb : Nat} {a w w' : World} (h : Below B a w) (hg : w.grownBy w' (some mb)) (hB : B ≤ mb) (hs : B ≤ w.heap.size := by omega) : Below B a w' :=
  Below.grown h hg hs (fun k e => by cases e; exact hB)
theorem grown_drew {a w : World} {row : Option Nat} (h : a.grownBy w row) : a.grownBy w.drew row := ⟨h.os, h.tape, h.output, h.size, h.block⟩
theorem VA.grown {w w' : World} {B : Nat} {A : Option Addr} {vs : List (Int × Int)} (h : VA w B A vs) {row : Option Nat} (hB : B ≤ w.heap.size) (hg : w.grownBy w' row) (hne : ∀ b off, 0 < vs.length → A = some ⟨b, off, none⟩ → some b ≠ row) : VA w' B A vs :=
  ⟨h.1, fun hn => by
    obtain ⟨b, off, e, hb, hc⟩ := h.2 hn
    exact ⟨b, off, e, hb, fun j x y hj => ⟨(grown_cell hg _ (Nat.lt_of_lt_of_le hb hB) (hne b off hn e)).trans (hc j x y hj).1, (grown_cell hg _ (Nat.lt_of_lt_of_le hb hB) (hne b off hn e)).trans (hc j x y hj).2⟩⟩⟩
theorem VA.ne_map {w : World} {B : Nat} {A : Option Addr} {vs : List (Int × Int)} (h : VA w B A vs) {mb n : Nat} {M : List (Int × Int)} (hm : OwnsM w mb n M) : ∀ b off, 0 < vs.length → A = some ⟨b, off, none⟩ → b ≠ mb := by
  intro b off hn e he
  obtain ⟨b', off', e', _, hc⟩ := h.2 hn
  rw [e] at e'
  cases e'
  obtain ⟨es, clock, hb, _⟩ := hm
  rcases hx : vs[0]? with _ | ⟨x, y⟩
  · rw [List.getElem?_eq_none_iff] at hx; omega
  · have := (hc 0 x y hx).1
    subst he
    simp [World.cell?, hb] at this

def raiseAll (M : List (Int × Int)) (vs : List (Int × Int)) : List (Int × Int) := vs.foldl (fun m p => raiseL m p.1 p.2) M

set_option maxRecDepth 100000 in
set_option maxHeartbeats 2000000 in
theorem add_any (cb mb n : Nat) (M : List (Int × Int)) (c lc : Int) (A : Option Addr) (cap : Nat) (vs : List (Int × Int)) (w : World) (hc : Col w cb mb n M c) (hv : VA w w.heap.size A vs) (hne : ∀ b off, 0 < vs.length → A = some ⟨b, off, none⟩ → b ≠ cb)
    (hn : n + vs.length ≤ 10000000) (hwf : ∀ p ∈ vs, (Lit.int .i64 p.1).wf = true ∧ (Lit.int .i64 p.2).wf = true) (B : Nat) (hB : B ≤ cb) (hB2 : B ≤ mb) :
    Calls Tryz.prog 73 #[.pointer (some ⟨cb, 0, none⟩), .agg #[.int .i64 lc, .slice A vs.length cap]] w fun e w' => e = .returned (.tuple #[]) ∧ Col w' cb mb (n + vs.length) (raiseAll M vs) (max c lc) ∧ Below B w w' := by
  have h0 := hc.c0
  have h1 := hc.c1
  have hf := hc.fr
  have hlt := hc.lt
  have HC := Lib.hid hc
  clear hc
  have HV := Lib.hid hv
  clear hv
  go_enter Tryz.func73, Tryz.ntmps73
  go_wp2_with fail
  go_region
  have HC1 := Lib.hid ((Col.kept (HC.out.set1 (max c lc)) (row := none) (grown_alloc (grown_refl _ _) (.cells #[.int .i64 lc, .slice A vs.length cap] 24)) (by simp) (by simp)).drew)
  have HV1 := Lib.hid (show VA (((w.setCell ⟨cb, 1, none⟩ (.int .i64 (max c lc))).alloc (.cells #[.int .i64 lc, .slice A vs.length cap] 24)).drew) w.heap.size A vs from VA.grown (HV.out.setCell (p := ⟨cb, 1, none⟩) hne (.int .i64 (max c lc))) (row := none) (by simp [World.setCell]) (grown_drew (grown_alloc (grown_refl _ _) (.cells #[.int .i64 lc, .slice A vs.length cap] 24))) (by simp))
  have HB1 := Lib.hid (show Below B w (((w.setCell ⟨cb, 1, none⟩ (.int .i64 (max c lc))).alloc (.cells #[.int .i64 lc, .slice A vs.length cap] 24)).drew) from (((Below.refl B w).setCell (p := ⟨cb, 1, none⟩) hB _).alloc (by simp [World.setCell]; omega) _).drew)
  have hm1 := HV.out.ne_map HC.out.map
  have hs1 : w.heap.size < (((w.setCell ⟨cb, 1, none⟩ (.int .i64 (max c lc))).alloc (.cells #[.int .i64 lc, .slice A vs.length cap] 24)).drew).heap.size := by simp [World.setCell, World.drew]
  have hx1 : (((w.setCell ⟨cb, 1, none⟩ (.int .i64 (max c lc))).alloc (.cells #[.int .i64 lc, .slice A vs.length cap] 24)).drew).cell? ⟨w.heap.size, 1, none⟩ = some (.slice A vs.length cap) := PSt.alloc_cell _ _ _ _ _ _ (by simp [World.setCell]) rfl
  generalize ((w.setCell ⟨cb, 1, none⟩ (.int .i64 (max c lc))).alloc (.cells #[.int .i64 lc, .slice A vs.length cap] 24)).drew = W1 at *
  clear h0 h1 hf
  go_wp2_with fail
  go_loopw [19] (fun i wr => ∃ k : Nat, k ≤ vs.length ∧ i = .int .i64 k ∧ Col wr cb mb (n + k) (raiseAll M (vs.take k)) (max c lc) ∧ W1.grownBy wr (some mb)) (fun i _ => vs.length - (intOf i).toNat)
  case atStart => exact ⟨0, Nat.zero_le _, rfl, HC1.out, grown_refl _ _⟩
  case round =>
    obtain ⟨k, hk, rfl, hcr, hg⟩ := hrel
    have hvr := VA.grown HV1.out (by omega) hg (fun b off h0 e => by intro e2; cases e2; exact hm1 _ off h0 e rfl)
    have hszr := hg.size
    have HCR := Lib.hid hcr
    by_cases hlk : k < vs.length
    · obtain ⟨b, off, x, y, rfl, hb, hgv, hc0, hc1, hc2, hc3⟩ := hvr.ata (by omega) hlk
      have hwk := hwf (x, y) (by rw [List.getElem?_eq_some_iff] at hgv; obtain ⟨h1, h2⟩ := hgv; rw [← h2]; exact List.getElem_mem _)
      have htake : raiseAll M (vs.take (k + 1)) = raiseL (raiseAll M (vs.take k)) x y := by
        unfold raiseAll
        rw [List.take_add_one, hgv]
        simp
      have HT := Lib.hid (And.intro hgv htake)
      have hvlen := HV1.out.len
      clear hgv hvr hcr htake
      go_wp2_with fail
      have HCA0 := Lib.hid (Col.kept HCR.out (row := none) (grown_alloc (grown_refl _ _) (.cells #[.int .i64 x, .int .i64 y] 69)) (by simp) (by simp))
      have hcA := Lib.hid (Col.kept HCR.out (row := none) (grown_alloc (grown_refl _ _) (.cells #[.int .i64 x, .int .i64 y] 69)) (by simp) (by simp)).drew
      have c0 := HCR.out.c0
      have clr := HCR.out.lt
      go_region_with (go_at_call 82; refine (raise_any mb (n + k) (raiseAll M (vs.take k)) x y _ (by first | exact hcA.out.map | exact HCA0.out.map) (by omega) hwk.1 hwk.2).mono ?_; rintro e w5 ⟨rfl, hm5, hg5⟩)
      all_goals
        have hm6 : OwnsM w5 mb (n + (k + 1)) (raiseAll M (vs.take (k + 1))) := by rw [HT.out.2, ← Nat.add_assoc]; exact hm5
        have HN := Lib.hid (And.intro (hcA.out.raised hm6 (by first | exact hg5 | exact grown_drew hg5)) (grown_trans (grown_drew (grown_alloc hg (.cells #[.int .i64 x, .int .i64 y] 69))) hg5))
        clear hm5 hg5 hm6
        go_wp2
        go_roundw
        case rel => exact ⟨k + 1, hlk, rfl, HN.out.1, HN.out.2⟩
        case measure => simp [intOf]; omega
    · have : k = vs.length := by omega
      subst this
      clear hcr
      go_wp2
      go_end0
      exact ⟨rfl, by simpa using HCR.out, below_of_grown HB1.out hg hB2⟩
end Go.Proofs.YtipnabbdhmapkaaGreatDoor
