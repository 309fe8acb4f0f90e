/- awake: the chapter's examples. -/
import Derived.Test.YtbiifkpelldciaaDoorExs
import Derived.Deep.DeepCutAuto
namespace Go.Proofs.YtbiifkpelldciaaDoor
open Go.RowKit

set_option maxRecDepth 100000 in
theorem v_any (i : Int) (w : World) : Calls Tryd.prog 33 #[.int .i64 i] w fun e w' => e = .returned (.agg #[.int .i64 0, .int .i64 i, .string ⟨#[]⟩, .slice none 0 0, .slice none 0 0]) ∧ Below w.heap.size w w' := by
  go_enter Tryd.func33, Tryd.ntmps33
  go_wp2_with fail
  exact bodyPost_ret (v := .agg #[.int .i64 0, .int .i64 i, .string ⟨#[]⟩, .slice none 0 0, .slice none 0 0]) (by simp [results, Tryd.results33, go_sem]) rfl ⟨rfl, (Below.refl _ _).alloc (Nat.le_refl _) _⟩

/-- The examples' memory, from block s on. -/
structure AwS (w : World) (s : Nat) (wx : World) : Prop where
  b0 : wx.heap[s]? = some (.cells #[.int .i64 0, .int .i64 0, .string ⟨#[]⟩, .slice none 0 0, .slice none 0 0, .int .i64 0, .int .i64 1, .string ⟨#[]⟩, .slice none 0 0, .slice none 0 0] 27 (0, 0))
  b1 : wx.heap[s + 1]? = some (.cells #[.int .i64 3, .int .i64 0, .string ⟨#[78, 97, 116]⟩, .slice none 0 0, .slice none 0 0, .int .i64 4, .int .i64 0, .string ⟨#[]⟩, .slice none 0 0, .slice (some ⟨s, 0, none⟩) 2 2] 27 (0, 0))
  b2 : wx.heap[s + 1 + 1]? = some (.cells #[.int .i64 5, .int .i64 0, .string ⟨#[]⟩, .slice none 0 0, .slice (some ⟨s + 1, 0, none⟩) 2 2] 27 (0, 0))
  b3 : wx.heap[s + 1 + 1 + 1]? = some (.cells #[.int .i64 1, .int .i64 0] 49 (0, 0))
  b4 : wx.heap[s + 1 + 1 + 1 + 1]? = some (.cells #[.int .i64 0, .slice (some ⟨s + 1 + 1 + 1, 0, none⟩) 1 1] 52 (0, 0))
  b5 : wx.heap[s + 1 + 1 + 1 + 1 + 1]? = some (.cells #[.int .i64 2, .int .i64 0, .string ⟨#[]⟩, .slice (some ⟨s + 1 + 1 + 1 + 1, 0, none⟩) 1 1, .slice none 0 0] 27 (0, 0))
  shapes : Shapes wx
  below : Below w.heap.size w wx
  pos : 0 < w.heap.size
  lo : w.heap.size ≤ s
namespace AwS
variable {w wx wy : World} {s : Nat}
theorem size (h : AwS w s wx) : s + 1 + 1 + 1 + 1 + 1 < wx.heap.size := (Array.getElem?_eq_some_iff.1 h.b5).1
theorem next (h : AwS w s wx) (hb : Below wx.heap.size wx wy) : AwS w s wy := by
  have hs := h.size
  have hl := h.lo
  have hp := h.pos
  exact ⟨(hb.block _ (by omega)).trans h.b0, (hb.block _ (by omega)).trans h.b1, (hb.block _ (by omega)).trans h.b2, (hb.block _ (by omega)).trans h.b3, (hb.block _ (by omega)).trans h.b4, (hb.block _ (by omega)).trans h.b5, h.shapes.below hb (by omega), h.below.trans (hb.mono (by omega)), hp, hl⟩
theorem start {w2 : World} (hb : Below w.heap.size w w2) (hsh : Shapes w) (hw : 0 < w.heap.size) : AwS w w2.heap.size ((((((w2.alloc (.cells #[.int .i64 0, .int .i64 0, .string ⟨#[]⟩, .slice none 0 0, .slice none 0 0, .int .i64 0, .int .i64 1, .string ⟨#[]⟩, .slice none 0 0, .slice none 0 0] 27)).alloc (.cells #[.int .i64 3, .int .i64 0, .string ⟨#[78, 97, 116]⟩, .slice none 0 0, .slice none 0 0, .int .i64 4, .int .i64 0, .string ⟨#[]⟩, .slice none 0 0, .slice (some ⟨w2.heap.size, 0, none⟩) 2 2] 27)).alloc (.cells #[.int .i64 5, .int .i64 0, .string ⟨#[]⟩, .slice none 0 0, .slice (some ⟨w2.heap.size + 1, 0, none⟩) 2 2] 27)).alloc (.cells #[.int .i64 1, .int .i64 0] 49)).alloc (.cells #[.int .i64 0, .slice (some ⟨w2.heap.size + 1 + 1 + 1, 0, none⟩) 1 1] 52)).alloc (.cells #[.int .i64 2, .int .i64 0, .string ⟨#[]⟩, .slice (some ⟨w2.heap.size + 1 + 1 + 1 + 1, 0, none⟩) 1 1, .slice none 0 0] 27)) := by
  have hsz := hb.size
  have hbb : Below w.heap.size w ((((((w2.alloc (.cells #[.int .i64 0, .int .i64 0, .string ⟨#[]⟩, .slice none 0 0, .slice none 0 0, .int .i64 0, .int .i64 1, .string ⟨#[]⟩, .slice none 0 0, .slice none 0 0] 27)).alloc (.cells #[.int .i64 3, .int .i64 0, .string ⟨#[78, 97, 116]⟩, .slice none 0 0, .slice none 0 0, .int .i64 4, .int .i64 0, .string ⟨#[]⟩, .slice none 0 0, .slice (some ⟨w2.heap.size, 0, none⟩) 2 2] 27)).alloc (.cells #[.int .i64 5, .int .i64 0, .string ⟨#[]⟩, .slice none 0 0, .slice (some ⟨w2.heap.size + 1, 0, none⟩) 2 2] 27)).alloc (.cells #[.int .i64 1, .int .i64 0] 49)).alloc (.cells #[.int .i64 0, .slice (some ⟨w2.heap.size + 1 + 1 + 1, 0, none⟩) 1 1] 52)).alloc (.cells #[.int .i64 2, .int .i64 0, .string ⟨#[]⟩, .slice (some ⟨w2.heap.size + 1 + 1 + 1 + 1, 0, none⟩) 1 1, .slice none 0 0] 27)) := ((((((hb.alloc (by (try simp only [World.size_alloc]); omega) _).alloc (by (try simp only [World.size_alloc]); omega) _).alloc (by (try simp only [World.size_alloc]); omega) _).alloc (by (try simp only [World.size_alloc]); omega) _).alloc (by (try simp only [World.size_alloc]); omega) _).alloc (by (try simp only [World.size_alloc]); omega) _)
  have q0 := World.alloc_heap_new w2 (.cells #[.int .i64 0, .int .i64 0, .string ⟨#[]⟩, .slice none 0 0, .slice none 0 0, .int .i64 0, .int .i64 1, .string ⟨#[]⟩, .slice none 0 0, .slice none 0 0] 27)
  try simp only [World.size_alloc] at q0
  have q1 := World.alloc_heap_new (w2.alloc (.cells #[.int .i64 0, .int .i64 0, .string ⟨#[]⟩, .slice none 0 0, .slice none 0 0, .int .i64 0, .int .i64 1, .string ⟨#[]⟩, .slice none 0 0, .slice none 0 0] 27)) (.cells #[.int .i64 3, .int .i64 0, .string ⟨#[78, 97, 116]⟩, .slice none 0 0, .slice none 0 0, .int .i64 4, .int .i64 0, .string ⟨#[]⟩, .slice none 0 0, .slice (some ⟨w2.heap.size, 0, none⟩) 2 2] 27)
  try simp only [World.size_alloc] at q1
  have q2 := World.alloc_heap_new ((w2.alloc (.cells #[.int .i64 0, .int .i64 0, .string ⟨#[]⟩, .slice none 0 0, .slice none 0 0, .int .i64 0, .int .i64 1, .string ⟨#[]⟩, .slice none 0 0, .slice none 0 0] 27)).alloc (.cells #[.int .i64 3, .int .i64 0, .string ⟨#[78, 97, 116]⟩, .slice none 0 0, .slice none 0 0, .int .i64 4, .int .i64 0, .string ⟨#[]⟩, .slice none 0 0, .slice (some ⟨w2.heap.size, 0, none⟩) 2 2] 27)) (.cells #[.int .i64 5, .int .i64 0, .string ⟨#[]⟩, .slice none 0 0, .slice (some ⟨w2.heap.size + 1, 0, none⟩) 2 2] 27)
  try simp only [World.size_alloc] at q2
  have q3 := World.alloc_heap_new (((w2.alloc (.cells #[.int .i64 0, .int .i64 0, .string ⟨#[]⟩, .slice none 0 0, .slice none 0 0, .int .i64 0, .int .i64 1, .string ⟨#[]⟩, .slice none 0 0, .slice none 0 0] 27)).alloc (.cells #[.int .i64 3, .int .i64 0, .string ⟨#[78, 97, 116]⟩, .slice none 0 0, .slice none 0 0, .int .i64 4, .int .i64 0, .string ⟨#[]⟩, .slice none 0 0, .slice (some ⟨w2.heap.size, 0, none⟩) 2 2] 27)).alloc (.cells #[.int .i64 5, .int .i64 0, .string ⟨#[]⟩, .slice none 0 0, .slice (some ⟨w2.heap.size + 1, 0, none⟩) 2 2] 27)) (.cells #[.int .i64 1, .int .i64 0] 49)
  try simp only [World.size_alloc] at q3
  have q4 := World.alloc_heap_new ((((w2.alloc (.cells #[.int .i64 0, .int .i64 0, .string ⟨#[]⟩, .slice none 0 0, .slice none 0 0, .int .i64 0, .int .i64 1, .string ⟨#[]⟩, .slice none 0 0, .slice none 0 0] 27)).alloc (.cells #[.int .i64 3, .int .i64 0, .string ⟨#[78, 97, 116]⟩, .slice none 0 0, .slice none 0 0, .int .i64 4, .int .i64 0, .string ⟨#[]⟩, .slice none 0 0, .slice (some ⟨w2.heap.size, 0, none⟩) 2 2] 27)).alloc (.cells #[.int .i64 5, .int .i64 0, .string ⟨#[]⟩, .slice none 0 0, .slice (some ⟨w2.heap.size + 1, 0, none⟩) 2 2] 27)).alloc (.cells #[.int .i64 1, .int .i64 0] 49)) (.cells #[.int .i64 0, .slice (some ⟨w2.heap.size + 1 + 1 + 1, 0, none⟩) 1 1] 52)
  try simp only [World.size_alloc] at q4
  have q5 := World.alloc_heap_new (((((w2.alloc (.cells #[.int .i64 0, .int .i64 0, .string ⟨#[]⟩, .slice none 0 0, .slice none 0 0, .int .i64 0, .int .i64 1, .string ⟨#[]⟩, .slice none 0 0, .slice none 0 0] 27)).alloc (.cells #[.int .i64 3, .int .i64 0, .string ⟨#[78, 97, 116]⟩, .slice none 0 0, .slice none 0 0, .int .i64 4, .int .i64 0, .string ⟨#[]⟩, .slice none 0 0, .slice (some ⟨w2.heap.size, 0, none⟩) 2 2] 27)).alloc (.cells #[.int .i64 5, .int .i64 0, .string ⟨#[]⟩, .slice none 0 0, .slice (some ⟨w2.heap.size + 1, 0, none⟩) 2 2] 27)).alloc (.cells #[.int .i64 1, .int .i64 0] 49)).alloc (.cells #[.int .i64 0, .slice (some ⟨w2.heap.size + 1 + 1 + 1, 0, none⟩) 1 1] 52)) (.cells #[.int .i64 2, .int .i64 0, .string ⟨#[]⟩, .slice (some ⟨w2.heap.size + 1 + 1 + 1 + 1, 0, none⟩) 1 1, .slice none 0 0] 27)
  try simp only [World.size_alloc] at q5
  exact ⟨((Below.heap_alloc _ _ _ (by (try simp only [World.size_alloc]); omega)).trans ((Below.heap_alloc _ _ _ (by (try simp only [World.size_alloc]); omega)).trans ((Below.heap_alloc _ _ _ (by (try simp only [World.size_alloc]); omega)).trans ((Below.heap_alloc _ _ _ (by (try simp only [World.size_alloc]); omega)).trans ((Below.heap_alloc _ _ _ (by (try simp only [World.size_alloc]); omega)).trans q0))))), ((Below.heap_alloc _ _ _ (by (try simp only [World.size_alloc]); omega)).trans ((Below.heap_alloc _ _ _ (by (try simp only [World.size_alloc]); omega)).trans ((Below.heap_alloc _ _ _ (by (try simp only [World.size_alloc]); omega)).trans ((Below.heap_alloc _ _ _ (by (try simp only [World.size_alloc]); omega)).trans q1)))), ((Below.heap_alloc _ _ _ (by (try simp only [World.size_alloc]); omega)).trans ((Below.heap_alloc _ _ _ (by (try simp only [World.size_alloc]); omega)).trans ((Below.heap_alloc _ _ _ (by (try simp only [World.size_alloc]); omega)).trans q2))), ((Below.heap_alloc _ _ _ (by (try simp only [World.size_alloc]); omega)).trans ((Below.heap_alloc _ _ _ (by (try simp only [World.size_alloc]); omega)).trans q3)), ((Below.heap_alloc _ _ _ (by (try simp only [World.size_alloc]); omega)).trans q4), q5, hsh.below hbb hw, hbb, hw, hsz⟩
theorem tv (h : AwS w s wx) : TmV wx (s + 1 + 1) exT (.agg #[.int .i64 5, .int .i64 0, .string ⟨#[]⟩, .slice none 0 0, .slice (some ⟨s + 1, 0, none⟩) 2 2]) := by
  have c0 := fun j u (e : _ = some u) => (cell_of_row _ _ j _ _ _ h.b0).trans e
  have c1 := fun j u (e : _ = some u) => (cell_of_row _ _ j _ _ _ h.b1).trans e
  have lv : LvsA wx (s + 1 + 1) none [] := ⟨by simp, fun h => by simp at h⟩
  have v0 : TmV wx (s + 1 + 1) (.mk 0 0 bE [] []) (.agg #[.int .i64 0, .int .i64 0, .string ⟨#[]⟩, .slice none 0 0, .slice none 0 0]) := by rw [TmV]; exact ⟨none, 0, none, 0, rfl, lv, by simp, fun h => by simp at h⟩
  have v1 : TmV wx (s + 1 + 1) (.mk 0 1 bE [] []) (.agg #[.int .i64 0, .int .i64 1, .string ⟨#[]⟩, .slice none 0 0, .slice none 0 0]) := by rw [TmV]; exact ⟨none, 0, none, 0, rfl, lv, by simp, fun h => by simp at h⟩
  have va : TmV wx (s + 1 + 1) (.mk 4 0 bE [] [.mk 0 0 bE [] [], .mk 0 1 bE [] []]) (.agg #[.int .i64 4, .int .i64 0, .string ⟨#[]⟩, .slice none 0 0, .slice (some ⟨s, 0, none⟩) 2 2]) := by
    rw [TmV]
    refine ⟨none, 0, some ⟨s, 0, none⟩, 2, rfl, lv, by simp, fun _ => ⟨s, 0, rfl, by omega, ?_⟩⟩
    rw [KsV, KsV, KsV]
    exact ⟨⟨_, _, _, _, _, c0 0 _ rfl, c0 1 _ rfl, c0 2 _ rfl, c0 3 _ rfl, c0 4 _ rfl, v0⟩, ⟨_, _, _, _, _, c0 5 _ rfl, c0 6 _ rfl, c0 7 _ rfl, c0 8 _ rfl, c0 9 _ rfl, v1⟩, trivial⟩
  have vn : TmV wx (s + 1 + 1) (.mk 3 0 bNat [] []) (.agg #[.int .i64 3, .int .i64 0, .string ⟨#[78, 97, 116]⟩, .slice none 0 0, .slice none 0 0]) := by rw [TmV]; exact ⟨none, 0, none, 0, rfl, lv, by simp, fun h => by simp at h⟩
  unfold exT
  rw [TmV]
  refine ⟨none, 0, some ⟨s + 1, 0, none⟩, 2, rfl, lv, by simp, fun _ => ⟨s + 1, 0, rfl, by omega, ?_⟩⟩
  rw [KsV, KsV, KsV]
  exact ⟨⟨_, _, _, _, _, c1 0 _ rfl, c1 1 _ rfl, c1 2 _ rfl, c1 3 _ rfl, c1 4 _ rfl, vn⟩, ⟨_, _, _, _, _, c1 5 _ rfl, c1 6 _ rfl, c1 7 _ rfl, c1 8 _ rfl, c1 9 _ rfl, va⟩, trivial⟩
theorem sv (h : AwS w s wx) : TmV wx (s + 1 + 1 + 1 + 1 + 1) exS (.agg #[.int .i64 2, .int .i64 0, .string ⟨#[]⟩, .slice (some ⟨s + 1 + 1 + 1 + 1, 0, none⟩) 1 1, .slice none 0 0]) := by
  unfold exS
  rw [TmV]
  refine ⟨some ⟨s + 1 + 1 + 1 + 1, 0, none⟩, 1, none, 0, rfl, ⟨by simp, fun _ => ⟨s + 1 + 1 + 1 + 1, 0, rfl, by omega, fun j c vs hj => ?_⟩⟩, by simp, fun h => by simp at h⟩
  cases j with
  | zero =>
    simp at hj
    obtain ⟨rfl, rfl⟩ := hj
    refine ⟨(cell_of_row _ _ 0 _ _ _ h.b4).trans rfl, some ⟨s + 1 + 1 + 1, 0, none⟩, 1, (cell_of_row _ _ 1 _ _ _ h.b4).trans rfl, by simp, fun _ => ⟨s + 1 + 1 + 1, 0, rfl, by omega, fun j x y hj => ?_⟩⟩
    cases j with
    | zero =>
      simp at hj
      obtain ⟨rfl, rfl⟩ := hj
      exact ⟨(cell_of_row _ _ 0 _ _ _ h.b3).trans rfl, (cell_of_row _ _ 1 _ _ _ h.b3).trans rfl⟩
    | succ j => simp at hj
  | succ j => simp at hj
end AwS

set_option maxRecDepth 100000 in
set_option maxHeartbeats 8000000 in
theorem awake_any (w : World) (hsh : Shapes w) (hw : 0 < w.heap.size) : Calls Tryd.prog 11 #[] w fun e w' => e = .returned (.bool true) ∧ Below w.heap.size w w' := by
  go_enter Tryd.func11, Tryd.ntmps11
  go_wp2_with fail
  refine (v_any 0 w).mono ?_
  rintro e w1 ⟨rfl, hb1⟩
  go_wp2_with fail
  refine (v_any 1 w1).mono ?_
  rintro e w2 ⟨rfl, hb2⟩
  have hB := Lib.hid (hb1.trans (hb2.mono hb1.size))
  have hA0 := AwS.start hB.out hsh hw
  clear hb1 hb2 hsh hw
  go_wp2_with fail
  obtain ⟨W3, hW3⟩ : ∃ W3, W3 = ((((((w2.alloc (.cells #[.int .i64 0, .int .i64 0, .string ⟨#[]⟩, .slice none 0 0, .slice none 0 0, .int .i64 0, .int .i64 1, .string ⟨#[]⟩, .slice none 0 0, .slice none 0 0] 27)).alloc (.cells #[.int .i64 3, .int .i64 0, .string ⟨#[78, 97, 116]⟩, .slice none 0 0, .slice none 0 0, .int .i64 4, .int .i64 0, .string ⟨#[]⟩, .slice none 0 0, .slice (some ⟨w2.heap.size, 0, none⟩) 2 2] 27)).alloc (.cells #[.int .i64 5, .int .i64 0, .string ⟨#[]⟩, .slice none 0 0, .slice (some ⟨w2.heap.size + 1, 0, none⟩) 2 2] 27)).alloc (.cells #[.int .i64 1, .int .i64 0] 49)).alloc (.cells #[.int .i64 0, .slice (some ⟨w2.heap.size + 1 + 1 + 1, 0, none⟩) 1 1] 52)).alloc (.cells #[.int .i64 2, .int .i64 0, .string ⟨#[]⟩, .slice (some ⟨w2.heap.size + 1 + 1 + 1 + 1, 0, none⟩) 1 1, .slice none 0 0] 27)) := ⟨_, rfl⟩
  rw [← hW3] at hA0 ⊢
  have HA := Lib.hid hA0
  generalize w2.heap.size = s at *
  clear hA0 hW3 hB
  have t0 : W3.cell? ⟨s + 1 + 1, 0, none⟩ = some (.int .i64 5) := (cell_of_row _ _ 0 _ _ _ HA.out.b2).trans rfl
  have t1 : W3.cell? ⟨s + 1 + 1, 1, none⟩ = some (.int .i64 0) := (cell_of_row _ _ 1 _ _ _ HA.out.b2).trans rfl
  have t2 : W3.cell? ⟨s + 1 + 1, 2, none⟩ = some (.string ⟨#[]⟩) := (cell_of_row _ _ 2 _ _ _ HA.out.b2).trans rfl
  have t3 : W3.cell? ⟨s + 1 + 1, 3, none⟩ = some (.slice none 0 0) := (cell_of_row _ _ 3 _ _ _ HA.out.b2).trans rfl
  have t4 : W3.cell? ⟨s + 1 + 1, 4, none⟩ = some (.slice (some ⟨s + 1, 0, none⟩) 2 2) := (cell_of_row _ _ 4 _ _ _ HA.out.b2).trans rfl
  have u0 : W3.cell? ⟨s + 1 + 1 + 1 + 1 + 1, 0, none⟩ = some (.int .i64 2) := (cell_of_row _ _ 0 _ _ _ HA.out.b5).trans rfl
  have u1 : W3.cell? ⟨s + 1 + 1 + 1 + 1 + 1, 1, none⟩ = some (.int .i64 0) := (cell_of_row _ _ 1 _ _ _ HA.out.b5).trans rfl
  have u2 : W3.cell? ⟨s + 1 + 1 + 1 + 1 + 1, 2, none⟩ = some (.string ⟨#[]⟩) := (cell_of_row _ _ 2 _ _ _ HA.out.b5).trans rfl
  have u3 : W3.cell? ⟨s + 1 + 1 + 1 + 1 + 1, 3, none⟩ = some (.slice (some ⟨s + 1 + 1 + 1 + 1, 0, none⟩) 1 1) := (cell_of_row _ _ 3 _ _ _ HA.out.b5).trans rfl
  have u4 : W3.cell? ⟨s + 1 + 1 + 1 + 1 + 1, 4, none⟩ = some (.slice none 0 0) := (cell_of_row _ _ 4 _ _ _ HA.out.b5).trans rfl
  refine (name_any _ _).mono ?_
  rw [ex_n1]
  rintro e w' ⟨rfl, hw'⟩
  have hw2 := hw'.symm
  subst hw2
  clear hw'
  go_wp2_with fail
  refine (name_any _ _).mono ?_
  rw [ex_n2]
  rintro e w' ⟨rfl, hw'⟩
  have hw2 := hw'.symm
  subst hw2
  clear hw'
  go_wp2_with fail
  refine (name_any _ _).mono ?_
  rw [ex_n3]
  rintro e w' ⟨rfl, hw'⟩
  have hw2 := hw'.symm
  subst hw2
  clear hw'
  go_wp2_with fail
  refine (name_any _ _).mono ?_
  rw [ex_n4]
  rintro e w' ⟨rfl, hw'⟩
  have hw2 := hw'.symm
  subst hw2
  clear hw'
  go_wp2_with fail
  refine (name_any _ _).mono ?_
  rw [ex_n5]
  rintro e w' ⟨rfl, hw'⟩
  have hw2 := hw'.symm
  subst hw2
  clear hw'
  go_wp2_with fail
  refine (name_any _ _).mono ?_
  rw [ex_n6]
  rintro e w' ⟨rfl, hw'⟩
  have hw2 := hw'.symm
  subst hw2
  clear hw'
  go_wp2_with fail
  refine (name_any _ _).mono ?_
  rw [ex_n7]
  rintro e w' ⟨rfl, hw'⟩
  have hw2 := hw'.symm
  subst hw2
  clear hw'
  go_wp2_with fail
  refine (size_any exT _ (s + 1 + 1) W3 HA.out.tv (by have := HA.out.size; omega) (by omega) HA.out.shapes.s4 (by rw [ex_sz]; omega)).mono ?_
  rw [ex_sz]
  clear t0 t1 t2 t3 t4 u0 u1 u2 u3 u4
  rintro e W4 ⟨rfl, hb⟩
  have HA := Lib.hid (HA.out.next hb)
  clear hb
  have t0 : W4.cell? ⟨s + 1 + 1, 0, none⟩ = some (.int .i64 5) := (cell_of_row _ _ 0 _ _ _ HA.out.b2).trans rfl
  have t1 : W4.cell? ⟨s + 1 + 1, 1, none⟩ = some (.int .i64 0) := (cell_of_row _ _ 1 _ _ _ HA.out.b2).trans rfl
  have t2 : W4.cell? ⟨s + 1 + 1, 2, none⟩ = some (.string ⟨#[]⟩) := (cell_of_row _ _ 2 _ _ _ HA.out.b2).trans rfl
  have t3 : W4.cell? ⟨s + 1 + 1, 3, none⟩ = some (.slice none 0 0) := (cell_of_row _ _ 3 _ _ _ HA.out.b2).trans rfl
  have t4 : W4.cell? ⟨s + 1 + 1, 4, none⟩ = some (.slice (some ⟨s + 1, 0, none⟩) 2 2) := (cell_of_row _ _ 4 _ _ _ HA.out.b2).trans rfl
  have u0 : W4.cell? ⟨s + 1 + 1 + 1 + 1 + 1, 0, none⟩ = some (.int .i64 2) := (cell_of_row _ _ 0 _ _ _ HA.out.b5).trans rfl
  have u1 : W4.cell? ⟨s + 1 + 1 + 1 + 1 + 1, 1, none⟩ = some (.int .i64 0) := (cell_of_row _ _ 1 _ _ _ HA.out.b5).trans rfl
  have u2 : W4.cell? ⟨s + 1 + 1 + 1 + 1 + 1, 2, none⟩ = some (.string ⟨#[]⟩) := (cell_of_row _ _ 2 _ _ _ HA.out.b5).trans rfl
  have u3 : W4.cell? ⟨s + 1 + 1 + 1 + 1 + 1, 3, none⟩ = some (.slice (some ⟨s + 1 + 1 + 1 + 1, 0, none⟩) 1 1) := (cell_of_row _ _ 3 _ _ _ HA.out.b5).trans rfl
  have u4 : W4.cell? ⟨s + 1 + 1 + 1 + 1 + 1, 4, none⟩ = some (.slice none 0 0) := (cell_of_row _ _ 4 _ _ _ HA.out.b5).trans rfl
  go_wp2_with fail
  refine (depth_any exT _ (s + 1 + 1) W4 HA.out.tv (by have := HA.out.size; omega) (by omega) HA.out.shapes.s4 (by rw [ex_sz]; omega)).mono ?_
  rw [ex_dp]
  clear t0 t1 t2 t3 t4 u0 u1 u2 u3 u4
  rintro e W5 ⟨rfl, hb⟩
  have HA := Lib.hid (HA.out.next hb)
  clear hb
  have t0 : W5.cell? ⟨s + 1 + 1, 0, none⟩ = some (.int .i64 5) := (cell_of_row _ _ 0 _ _ _ HA.out.b2).trans rfl
  have t1 : W5.cell? ⟨s + 1 + 1, 1, none⟩ = some (.int .i64 0) := (cell_of_row _ _ 1 _ _ _ HA.out.b2).trans rfl
  have t2 : W5.cell? ⟨s + 1 + 1, 2, none⟩ = some (.string ⟨#[]⟩) := (cell_of_row _ _ 2 _ _ _ HA.out.b2).trans rfl
  have t3 : W5.cell? ⟨s + 1 + 1, 3, none⟩ = some (.slice none 0 0) := (cell_of_row _ _ 3 _ _ _ HA.out.b2).trans rfl
  have t4 : W5.cell? ⟨s + 1 + 1, 4, none⟩ = some (.slice (some ⟨s + 1, 0, none⟩) 2 2) := (cell_of_row _ _ 4 _ _ _ HA.out.b2).trans rfl
  have u0 : W5.cell? ⟨s + 1 + 1 + 1 + 1 + 1, 0, none⟩ = some (.int .i64 2) := (cell_of_row _ _ 0 _ _ _ HA.out.b5).trans rfl
  have u1 : W5.cell? ⟨s + 1 + 1 + 1 + 1 + 1, 1, none⟩ = some (.int .i64 0) := (cell_of_row _ _ 1 _ _ _ HA.out.b5).trans rfl
  have u2 : W5.cell? ⟨s + 1 + 1 + 1 + 1 + 1, 2, none⟩ = some (.string ⟨#[]⟩) := (cell_of_row _ _ 2 _ _ _ HA.out.b5).trans rfl
  have u3 : W5.cell? ⟨s + 1 + 1 + 1 + 1 + 1, 3, none⟩ = some (.slice (some ⟨s + 1 + 1 + 1 + 1, 0, none⟩) 1 1) := (cell_of_row _ _ 3 _ _ _ HA.out.b5).trans rfl
  have u4 : W5.cell? ⟨s + 1 + 1 + 1 + 1 + 1, 4, none⟩ = some (.slice none 0 0) := (cell_of_row _ _ 4 _ _ _ HA.out.b5).trans rfl
  go_wp2_with fail
  refine (tfree_any exT _ (s + 1 + 1) W5 HA.out.tv (by have := HA.out.size; omega) (by omega) HA.out.shapes.s4 (by rw [ex_sz]; omega)).mono ?_
  rw [ex_free]
  clear t0 t1 t2 t3 t4 u0 u1 u2 u3 u4
  rintro e W6 ⟨v, rfl, hrow, hb⟩
  have HA := Lib.hid (HA.out.next hb)
  obtain ⟨A, c, rfl, hia⟩ := ia_of hrow (by simp)
  have HI := Lib.hid hia
  clear hb hrow hia
  have t0 : W6.cell? ⟨s + 1 + 1, 0, none⟩ = some (.int .i64 5) := (cell_of_row _ _ 0 _ _ _ HA.out.b2).trans rfl
  have t1 : W6.cell? ⟨s + 1 + 1, 1, none⟩ = some (.int .i64 0) := (cell_of_row _ _ 1 _ _ _ HA.out.b2).trans rfl
  have t2 : W6.cell? ⟨s + 1 + 1, 2, none⟩ = some (.string ⟨#[]⟩) := (cell_of_row _ _ 2 _ _ _ HA.out.b2).trans rfl
  have t3 : W6.cell? ⟨s + 1 + 1, 3, none⟩ = some (.slice none 0 0) := (cell_of_row _ _ 3 _ _ _ HA.out.b2).trans rfl
  have t4 : W6.cell? ⟨s + 1 + 1, 4, none⟩ = some (.slice (some ⟨s + 1, 0, none⟩) 2 2) := (cell_of_row _ _ 4 _ _ _ HA.out.b2).trans rfl
  have u0 : W6.cell? ⟨s + 1 + 1 + 1 + 1 + 1, 0, none⟩ = some (.int .i64 2) := (cell_of_row _ _ 0 _ _ _ HA.out.b5).trans rfl
  have u1 : W6.cell? ⟨s + 1 + 1 + 1 + 1 + 1, 1, none⟩ = some (.int .i64 0) := (cell_of_row _ _ 1 _ _ _ HA.out.b5).trans rfl
  have u2 : W6.cell? ⟨s + 1 + 1 + 1 + 1 + 1, 2, none⟩ = some (.string ⟨#[]⟩) := (cell_of_row _ _ 2 _ _ _ HA.out.b5).trans rfl
  have u3 : W6.cell? ⟨s + 1 + 1 + 1 + 1 + 1, 3, none⟩ = some (.slice (some ⟨s + 1 + 1 + 1 + 1, 0, none⟩) 1 1) := (cell_of_row _ _ 3 _ _ _ HA.out.b5).trans rfl
  have u4 : W6.cell? ⟨s + 1 + 1 + 1 + 1 + 1, 4, none⟩ = some (.slice none 0 0) := (cell_of_row _ _ 4 _ _ _ HA.out.b5).trans rfl
  go_wp2_with fail
  have hal : Below W6.heap.size W6 (W6.alloc (.cells #[.int .i64 0] 3)) := (Below.refl _ _).alloc (Nat.le_refl _) _
  have HA2 := Lib.hid (HA.out.next hal)
  have hi2 : IA (W6.alloc (.cells #[.int .i64 0] 3)) (W6.heap.size + 1) (some ⟨W6.heap.size, 0, none⟩) [0] := ⟨by simp, fun _ => ⟨W6.heap.size, 0, rfl, by omega, fun j p hj => by
    cases j with
    | zero => simp at hj; subst hj; exact cell_of_row _ _ _ _ _ _ (World.alloc_heap_new W6 (.cells #[.int .i64 0] 3))
    | succ j => simp at hj⟩⟩
  refine (equalI_any A c (some ⟨W6.heap.size, 0, none⟩) 1 [0] (W6.heap.size + 1) (W6.alloc (.cells #[.int .i64 0] 3)) ((HI.out.below hal (Nat.le_refl _)).more (by omega)) hi2 (by simp)).mono ?_
  clear t0 t1 t2 t3 t4 u0 u1 u2 u3 u4
  rintro e W7 ⟨rfl, hb⟩
  have HA := Lib.hid (HA2.out.next hb)
  clear hb hal hi2 HA2 HI
  have t0 : W7.cell? ⟨s + 1 + 1, 0, none⟩ = some (.int .i64 5) := (cell_of_row _ _ 0 _ _ _ HA.out.b2).trans rfl
  have t1 : W7.cell? ⟨s + 1 + 1, 1, none⟩ = some (.int .i64 0) := (cell_of_row _ _ 1 _ _ _ HA.out.b2).trans rfl
  have t2 : W7.cell? ⟨s + 1 + 1, 2, none⟩ = some (.string ⟨#[]⟩) := (cell_of_row _ _ 2 _ _ _ HA.out.b2).trans rfl
  have t3 : W7.cell? ⟨s + 1 + 1, 3, none⟩ = some (.slice none 0 0) := (cell_of_row _ _ 3 _ _ _ HA.out.b2).trans rfl
  have t4 : W7.cell? ⟨s + 1 + 1, 4, none⟩ = some (.slice (some ⟨s + 1, 0, none⟩) 2 2) := (cell_of_row _ _ 4 _ _ _ HA.out.b2).trans rfl
  have u0 : W7.cell? ⟨s + 1 + 1 + 1 + 1 + 1, 0, none⟩ = some (.int .i64 2) := (cell_of_row _ _ 0 _ _ _ HA.out.b5).trans rfl
  have u1 : W7.cell? ⟨s + 1 + 1 + 1 + 1 + 1, 1, none⟩ = some (.int .i64 0) := (cell_of_row _ _ 1 _ _ _ HA.out.b5).trans rfl
  have u2 : W7.cell? ⟨s + 1 + 1 + 1 + 1 + 1, 2, none⟩ = some (.string ⟨#[]⟩) := (cell_of_row _ _ 2 _ _ _ HA.out.b5).trans rfl
  have u3 : W7.cell? ⟨s + 1 + 1 + 1 + 1 + 1, 3, none⟩ = some (.slice (some ⟨s + 1 + 1 + 1 + 1, 0, none⟩) 1 1) := (cell_of_row _ _ 3 _ _ _ HA.out.b5).trans rfl
  have u4 : W7.cell? ⟨s + 1 + 1 + 1 + 1 + 1, 4, none⟩ = some (.slice none 0 0) := (cell_of_row _ _ 4 _ _ _ HA.out.b5).trans rfl
  go_wp2_with fail
  refine (check_any exT _ 1 0 0 0 (s + 1 + 1) W7 HA.out.tv (by have := HA.out.size; omega) (by omega) HA.out.shapes (by rw [ex_sz]; omega)).mono ?_
  rw [ex_c0]
  clear t0 t1 t2 t3 t4 u0 u1 u2 u3 u4
  rintro e W8 ⟨rfl, hb⟩
  have HA := Lib.hid (HA.out.next hb)
  clear hb
  have t0 : W8.cell? ⟨s + 1 + 1, 0, none⟩ = some (.int .i64 5) := (cell_of_row _ _ 0 _ _ _ HA.out.b2).trans rfl
  have t1 : W8.cell? ⟨s + 1 + 1, 1, none⟩ = some (.int .i64 0) := (cell_of_row _ _ 1 _ _ _ HA.out.b2).trans rfl
  have t2 : W8.cell? ⟨s + 1 + 1, 2, none⟩ = some (.string ⟨#[]⟩) := (cell_of_row _ _ 2 _ _ _ HA.out.b2).trans rfl
  have t3 : W8.cell? ⟨s + 1 + 1, 3, none⟩ = some (.slice none 0 0) := (cell_of_row _ _ 3 _ _ _ HA.out.b2).trans rfl
  have t4 : W8.cell? ⟨s + 1 + 1, 4, none⟩ = some (.slice (some ⟨s + 1, 0, none⟩) 2 2) := (cell_of_row _ _ 4 _ _ _ HA.out.b2).trans rfl
  have u0 : W8.cell? ⟨s + 1 + 1 + 1 + 1 + 1, 0, none⟩ = some (.int .i64 2) := (cell_of_row _ _ 0 _ _ _ HA.out.b5).trans rfl
  have u1 : W8.cell? ⟨s + 1 + 1 + 1 + 1 + 1, 1, none⟩ = some (.int .i64 0) := (cell_of_row _ _ 1 _ _ _ HA.out.b5).trans rfl
  have u2 : W8.cell? ⟨s + 1 + 1 + 1 + 1 + 1, 2, none⟩ = some (.string ⟨#[]⟩) := (cell_of_row _ _ 2 _ _ _ HA.out.b5).trans rfl
  have u3 : W8.cell? ⟨s + 1 + 1 + 1 + 1 + 1, 3, none⟩ = some (.slice (some ⟨s + 1 + 1 + 1 + 1, 0, none⟩) 1 1) := (cell_of_row _ _ 3 _ _ _ HA.out.b5).trans rfl
  have u4 : W8.cell? ⟨s + 1 + 1 + 1 + 1 + 1, 4, none⟩ = some (.slice none 0 0) := (cell_of_row _ _ 4 _ _ _ HA.out.b5).trans rfl
  go_wp2_with fail
  refine (check_any exT _ 0 0 0 0 (s + 1 + 1) W8 HA.out.tv (by have := HA.out.size; omega) (by omega) HA.out.shapes (by rw [ex_sz]; omega)).mono ?_
  rw [ex_c1]
  clear t0 t1 t2 t3 t4 u0 u1 u2 u3 u4
  rintro e W9 ⟨rfl, hb⟩
  have HA := Lib.hid (HA.out.next hb)
  clear hb
  have t0 : W9.cell? ⟨s + 1 + 1, 0, none⟩ = some (.int .i64 5) := (cell_of_row _ _ 0 _ _ _ HA.out.b2).trans rfl
  have t1 : W9.cell? ⟨s + 1 + 1, 1, none⟩ = some (.int .i64 0) := (cell_of_row _ _ 1 _ _ _ HA.out.b2).trans rfl
  have t2 : W9.cell? ⟨s + 1 + 1, 2, none⟩ = some (.string ⟨#[]⟩) := (cell_of_row _ _ 2 _ _ _ HA.out.b2).trans rfl
  have t3 : W9.cell? ⟨s + 1 + 1, 3, none⟩ = some (.slice none 0 0) := (cell_of_row _ _ 3 _ _ _ HA.out.b2).trans rfl
  have t4 : W9.cell? ⟨s + 1 + 1, 4, none⟩ = some (.slice (some ⟨s + 1, 0, none⟩) 2 2) := (cell_of_row _ _ 4 _ _ _ HA.out.b2).trans rfl
  have u0 : W9.cell? ⟨s + 1 + 1 + 1 + 1 + 1, 0, none⟩ = some (.int .i64 2) := (cell_of_row _ _ 0 _ _ _ HA.out.b5).trans rfl
  have u1 : W9.cell? ⟨s + 1 + 1 + 1 + 1 + 1, 1, none⟩ = some (.int .i64 0) := (cell_of_row _ _ 1 _ _ _ HA.out.b5).trans rfl
  have u2 : W9.cell? ⟨s + 1 + 1 + 1 + 1 + 1, 2, none⟩ = some (.string ⟨#[]⟩) := (cell_of_row _ _ 2 _ _ _ HA.out.b5).trans rfl
  have u3 : W9.cell? ⟨s + 1 + 1 + 1 + 1 + 1, 3, none⟩ = some (.slice (some ⟨s + 1 + 1 + 1 + 1, 0, none⟩) 1 1) := (cell_of_row _ _ 3 _ _ _ HA.out.b5).trans rfl
  have u4 : W9.cell? ⟨s + 1 + 1 + 1 + 1 + 1, 4, none⟩ = some (.slice none 0 0) := (cell_of_row _ _ 4 _ _ _ HA.out.b5).trans rfl
  go_wp2_with fail
  refine (v_any 0 W9).mono ?_
  clear t0 t1 t2 t3 t4 u0 u1 u2 u3 u4
  rintro e W10 ⟨rfl, hb⟩
  have HA := Lib.hid (HA.out.next hb)
  clear hb
  have t0 : W10.cell? ⟨s + 1 + 1, 0, none⟩ = some (.int .i64 5) := (cell_of_row _ _ 0 _ _ _ HA.out.b2).trans rfl
  have t1 : W10.cell? ⟨s + 1 + 1, 1, none⟩ = some (.int .i64 0) := (cell_of_row _ _ 1 _ _ _ HA.out.b2).trans rfl
  have t2 : W10.cell? ⟨s + 1 + 1, 2, none⟩ = some (.string ⟨#[]⟩) := (cell_of_row _ _ 2 _ _ _ HA.out.b2).trans rfl
  have t3 : W10.cell? ⟨s + 1 + 1, 3, none⟩ = some (.slice none 0 0) := (cell_of_row _ _ 3 _ _ _ HA.out.b2).trans rfl
  have t4 : W10.cell? ⟨s + 1 + 1, 4, none⟩ = some (.slice (some ⟨s + 1, 0, none⟩) 2 2) := (cell_of_row _ _ 4 _ _ _ HA.out.b2).trans rfl
  have u0 : W10.cell? ⟨s + 1 + 1 + 1 + 1 + 1, 0, none⟩ = some (.int .i64 2) := (cell_of_row _ _ 0 _ _ _ HA.out.b5).trans rfl
  have u1 : W10.cell? ⟨s + 1 + 1 + 1 + 1 + 1, 1, none⟩ = some (.int .i64 0) := (cell_of_row _ _ 1 _ _ _ HA.out.b5).trans rfl
  have u2 : W10.cell? ⟨s + 1 + 1 + 1 + 1 + 1, 2, none⟩ = some (.string ⟨#[]⟩) := (cell_of_row _ _ 2 _ _ _ HA.out.b5).trans rfl
  have u3 : W10.cell? ⟨s + 1 + 1 + 1 + 1 + 1, 3, none⟩ = some (.slice (some ⟨s + 1 + 1 + 1 + 1, 0, none⟩) 1 1) := (cell_of_row _ _ 3 _ _ _ HA.out.b5).trans rfl
  have u4 : W10.cell? ⟨s + 1 + 1 + 1 + 1 + 1, 4, none⟩ = some (.slice none 0 0) := (cell_of_row _ _ 4 _ _ _ HA.out.b5).trans rfl
  go_wp2_with fail
  have hal : Below W10.heap.size W10 (W10.alloc (.cells #[.int .i64 0, .int .i64 0, .string ⟨#[]⟩, .slice none 0 0, .slice none 0 0] 27)) := (Below.refl _ _).alloc (Nat.le_refl _) _
  have HA2 := Lib.hid (HA.out.next hal)
  have hC : TmV (W10.alloc (.cells #[.int .i64 0, .int .i64 0, .string ⟨#[]⟩, .slice none 0 0, .slice none 0 0] 27)) (W10.heap.size + 1) exC (.agg #[.int .i64 3, .int .i64 0, .string ⟨#[78, 97, 116]⟩, .slice none 0 0, .slice (some ⟨W10.heap.size, 0, none⟩) 1 1]) := by
    have hn := World.alloc_heap_new W10 (.cells #[.int .i64 0, .int .i64 0, .string ⟨#[]⟩, .slice none 0 0, .slice none 0 0] 27)
    have c0 := fun j u (e : _ = some u) => (cell_of_row _ _ j _ _ _ hn).trans e
    have lv : LvsA (W10.alloc (.cells #[.int .i64 0, .int .i64 0, .string ⟨#[]⟩, .slice none 0 0, .slice none 0 0] 27)) (W10.heap.size + 1) none [] := ⟨by simp, fun h => by simp at h⟩
    have v0 : TmV (W10.alloc (.cells #[.int .i64 0, .int .i64 0, .string ⟨#[]⟩, .slice none 0 0, .slice none 0 0] 27)) (W10.heap.size + 1) (.mk 0 0 bE [] []) (.agg #[.int .i64 0, .int .i64 0, .string ⟨#[]⟩, .slice none 0 0, .slice none 0 0]) := by rw [TmV]; exact ⟨none, 0, none, 0, rfl, lv, by simp, fun h => by simp at h⟩
    unfold exC
    rw [TmV]
    refine ⟨none, 0, some ⟨W10.heap.size, 0, none⟩, 1, rfl, lv, by simp, fun _ => ⟨W10.heap.size, 0, rfl, by omega, ?_⟩⟩
    rw [KsV, KsV]
    exact ⟨⟨_, _, _, _, _, c0 0 _ rfl, c0 1 _ rfl, c0 2 _ rfl, c0 3 _ rfl, c0 4 _ rfl, v0⟩, trivial⟩
  refine (check_any exC _ 1 0 0 0 (W10.heap.size + 1) _ hC (by simp) (by omega) HA2.out.shapes (by decide)).mono ?_
  rw [ex_c2]
  clear t0 t1 t2 t3 t4 u0 u1 u2 u3 u4
  rintro e W11 ⟨rfl, hb⟩
  have HA := Lib.hid (HA2.out.next hb)
  clear hb hal hC HA2
  have t0 : W11.cell? ⟨s + 1 + 1, 0, none⟩ = some (.int .i64 5) := (cell_of_row _ _ 0 _ _ _ HA.out.b2).trans rfl
  have t1 : W11.cell? ⟨s + 1 + 1, 1, none⟩ = some (.int .i64 0) := (cell_of_row _ _ 1 _ _ _ HA.out.b2).trans rfl
  have t2 : W11.cell? ⟨s + 1 + 1, 2, none⟩ = some (.string ⟨#[]⟩) := (cell_of_row _ _ 2 _ _ _ HA.out.b2).trans rfl
  have t3 : W11.cell? ⟨s + 1 + 1, 3, none⟩ = some (.slice none 0 0) := (cell_of_row _ _ 3 _ _ _ HA.out.b2).trans rfl
  have t4 : W11.cell? ⟨s + 1 + 1, 4, none⟩ = some (.slice (some ⟨s + 1, 0, none⟩) 2 2) := (cell_of_row _ _ 4 _ _ _ HA.out.b2).trans rfl
  have u0 : W11.cell? ⟨s + 1 + 1 + 1 + 1 + 1, 0, none⟩ = some (.int .i64 2) := (cell_of_row _ _ 0 _ _ _ HA.out.b5).trans rfl
  have u1 : W11.cell? ⟨s + 1 + 1 + 1 + 1 + 1, 1, none⟩ = some (.int .i64 0) := (cell_of_row _ _ 1 _ _ _ HA.out.b5).trans rfl
  have u2 : W11.cell? ⟨s + 1 + 1 + 1 + 1 + 1, 2, none⟩ = some (.string ⟨#[]⟩) := (cell_of_row _ _ 2 _ _ _ HA.out.b5).trans rfl
  have u3 : W11.cell? ⟨s + 1 + 1 + 1 + 1 + 1, 3, none⟩ = some (.slice (some ⟨s + 1 + 1 + 1 + 1, 0, none⟩) 1 1) := (cell_of_row _ _ 3 _ _ _ HA.out.b5).trans rfl
  have u4 : W11.cell? ⟨s + 1 + 1 + 1 + 1 + 1, 4, none⟩ = some (.slice none 0 0) := (cell_of_row _ _ 4 _ _ _ HA.out.b5).trans rfl
  go_wp2_with fail
  have hX : TmV W11 (s + 1) exX (.agg #[.int .i64 0, .int .i64 7, .string ⟨#[120]⟩, .slice none 0 0, .slice none 0 0]) := by
    unfold exX
    rw [TmV]
    exact ⟨none, 0, none, 0, rfl, ⟨by simp, fun h => by simp at h⟩, by simp, fun h => by simp at h⟩
  refine (check_any exX _ 1 0 0 0 (s + 1) W11 hX (by have := HA.out.size; omega) (by omega) HA.out.shapes (by decide)).mono ?_
  rw [ex_c3]
  clear t0 t1 t2 t3 t4 u0 u1 u2 u3 u4
  rintro e W12 ⟨rfl, hb⟩
  have HA := Lib.hid (HA.out.next hb)
  clear hb hX
  have t0 : W12.cell? ⟨s + 1 + 1, 0, none⟩ = some (.int .i64 5) := (cell_of_row _ _ 0 _ _ _ HA.out.b2).trans rfl
  have t1 : W12.cell? ⟨s + 1 + 1, 1, none⟩ = some (.int .i64 0) := (cell_of_row _ _ 1 _ _ _ HA.out.b2).trans rfl
  have t2 : W12.cell? ⟨s + 1 + 1, 2, none⟩ = some (.string ⟨#[]⟩) := (cell_of_row _ _ 2 _ _ _ HA.out.b2).trans rfl
  have t3 : W12.cell? ⟨s + 1 + 1, 3, none⟩ = some (.slice none 0 0) := (cell_of_row _ _ 3 _ _ _ HA.out.b2).trans rfl
  have t4 : W12.cell? ⟨s + 1 + 1, 4, none⟩ = some (.slice (some ⟨s + 1, 0, none⟩) 2 2) := (cell_of_row _ _ 4 _ _ _ HA.out.b2).trans rfl
  have u0 : W12.cell? ⟨s + 1 + 1 + 1 + 1 + 1, 0, none⟩ = some (.int .i64 2) := (cell_of_row _ _ 0 _ _ _ HA.out.b5).trans rfl
  have u1 : W12.cell? ⟨s + 1 + 1 + 1 + 1 + 1, 1, none⟩ = some (.int .i64 0) := (cell_of_row _ _ 1 _ _ _ HA.out.b5).trans rfl
  have u2 : W12.cell? ⟨s + 1 + 1 + 1 + 1 + 1, 2, none⟩ = some (.string ⟨#[]⟩) := (cell_of_row _ _ 2 _ _ _ HA.out.b5).trans rfl
  have u3 : W12.cell? ⟨s + 1 + 1 + 1 + 1 + 1, 3, none⟩ = some (.slice (some ⟨s + 1 + 1 + 1 + 1, 0, none⟩) 1 1) := (cell_of_row _ _ 3 _ _ _ HA.out.b5).trans rfl
  have u4 : W12.cell? ⟨s + 1 + 1 + 1 + 1 + 1, 4, none⟩ = some (.slice none 0 0) := (cell_of_row _ _ 4 _ _ _ HA.out.b5).trans rfl
  go_wp2_with fail
  refine (check_any exS _ 0 1 0 0 (s + 1 + 1 + 1 + 1 + 1) W12 HA.out.sv (by have := HA.out.size; omega) (by omega) HA.out.shapes (by decide)).mono ?_
  rw [ex_c4]
  clear t0 t1 t2 t3 t4 u0 u1 u2 u3 u4
  rintro e W13 ⟨rfl, hb⟩
  have HA := Lib.hid (HA.out.next hb)
  clear hb
  have t0 : W13.cell? ⟨s + 1 + 1, 0, none⟩ = some (.int .i64 5) := (cell_of_row _ _ 0 _ _ _ HA.out.b2).trans rfl
  have t1 : W13.cell? ⟨s + 1 + 1, 1, none⟩ = some (.int .i64 0) := (cell_of_row _ _ 1 _ _ _ HA.out.b2).trans rfl
  have t2 : W13.cell? ⟨s + 1 + 1, 2, none⟩ = some (.string ⟨#[]⟩) := (cell_of_row _ _ 2 _ _ _ HA.out.b2).trans rfl
  have t3 : W13.cell? ⟨s + 1 + 1, 3, none⟩ = some (.slice none 0 0) := (cell_of_row _ _ 3 _ _ _ HA.out.b2).trans rfl
  have t4 : W13.cell? ⟨s + 1 + 1, 4, none⟩ = some (.slice (some ⟨s + 1, 0, none⟩) 2 2) := (cell_of_row _ _ 4 _ _ _ HA.out.b2).trans rfl
  have u0 : W13.cell? ⟨s + 1 + 1 + 1 + 1 + 1, 0, none⟩ = some (.int .i64 2) := (cell_of_row _ _ 0 _ _ _ HA.out.b5).trans rfl
  have u1 : W13.cell? ⟨s + 1 + 1 + 1 + 1 + 1, 1, none⟩ = some (.int .i64 0) := (cell_of_row _ _ 1 _ _ _ HA.out.b5).trans rfl
  have u2 : W13.cell? ⟨s + 1 + 1 + 1 + 1 + 1, 2, none⟩ = some (.string ⟨#[]⟩) := (cell_of_row _ _ 2 _ _ _ HA.out.b5).trans rfl
  have u3 : W13.cell? ⟨s + 1 + 1 + 1 + 1 + 1, 3, none⟩ = some (.slice (some ⟨s + 1 + 1 + 1 + 1, 0, none⟩) 1 1) := (cell_of_row _ _ 3 _ _ _ HA.out.b5).trans rfl
  have u4 : W13.cell? ⟨s + 1 + 1 + 1 + 1 + 1, 4, none⟩ = some (.slice none 0 0) := (cell_of_row _ _ 4 _ _ _ HA.out.b5).trans rfl
  go_wp2_with fail
  refine (check_any exS _ 0 2 0 0 (s + 1 + 1 + 1 + 1 + 1) W13 HA.out.sv (by have := HA.out.size; omega) (by omega) HA.out.shapes (by decide)).mono ?_
  rw [ex_c5]
  clear t0 t1 t2 t3 t4 u0 u1 u2 u3 u4
  rintro e W14 ⟨rfl, hb⟩
  have HA := Lib.hid (HA.out.next hb)
  clear hb
  go_wp2_with fail
  go_ret
  exact ⟨rfl, HA.out.below⟩
end Go.Proofs.YtbiifkpelldciaaDoor
