/- A law over one term: its box, and what stays as it was. -/
import Derived.Test.YtbiifkpelldciaaDoorAwt
import Derived.Test.YtbiifkpelldciaaDoorFwk
import Derived.Test.YtbiifkpelldciaaDoorRdp
import Derived.Deep.RegionHeld3
namespace Go.Proofs.YtbiifkpelldciaaDoor
open Go.RowKit

/-- A term in the box at block b, and the table. -/
structure OneT (w : World) (b B : Nat) (t : Tm) (c0 c1 c2 c3 c4 : Value) (wx : World) : Prop where
  x0 : wx.cell? ⟨b, 0, none⟩ = some c0
  x1 : wx.cell? ⟨b, 1, none⟩ = some c1
  x2 : wx.cell? ⟨b, 2, none⟩ = some c2
  x3 : wx.cell? ⟨b, 3, none⟩ = some c3
  x4 : wx.cell? ⟨b, 4, none⟩ = some c4
  tm : TmV wx B t (.agg #[c0, c1, c2, c3, c4])
  sh : Shapes wx
  below : Below w.heap.size w wx
  size : B ≤ wx.heap.size
  sz : w.heap.size ≤ wx.heap.size
  pos : 0 < B
namespace OneT
variable {w wx wy : World} {b B : Nat} {t : Tm} {c0 c1 c2 c3 c4 : Value}
theorem next (h : OneT w b B t c0 c1 c2 c3 c4 wx) (hb : Below wx.heap.size wx wy) : OneT w b B t c0 c1 c2 c3 c4 wy := by
  have hk : ∀ (p : Addr) (v : Value), wx.cell? p = some v → wy.cell? p = some v := fun p v hv => (hb.cell (World.block_lt_of_cell? wx p hv)).trans hv
  exact ⟨hk _ _ h.x0, hk _ _ h.x1, hk _ _ h.x2, hk _ _ h.x3, hk _ _ h.x4, h.tm.below hb h.size, h.sh.below hb (by have := h.size; have := h.pos; omega), h.below.trans (hb.mono h.sz), Nat.le_trans h.size hb.size, Nat.le_trans h.sz hb.size, h.pos⟩
theorem alloc (h : OneT w b B t c0 c1 c2 c3 c4 wx) (o : Obj) : OneT w b B t c0 c1 c2 c3 c4 (wx.alloc o) := h.next ((Below.refl _ _).alloc (Nat.le_refl _) _)
theorem drew (h : OneT w b B t c0 c1 c2 c3 c4 wx) : OneT w b B t c0 c1 c2 c3 c4 wx.drew := h.next ⟨rfl, rfl, rfl, Nat.le_refl _, fun _ _ => rfl⟩
/-- The box of a term that came in. -/
theorem start (hv : TmV w w.heap.size t (.agg #[c0, c1, c2, c3, c4])) (hsh : Shapes w) (hw : 0 < w.heap.size) : OneT w w.heap.size w.heap.size t c0 c1 c2 c3 c4 (w.alloc (.cells #[c0, c1, c2, c3, c4] 27)) := by
  have hn := World.alloc_heap_new w (.cells #[c0, c1, c2, c3, c4] 27)
  have hb : Below w.heap.size w (w.alloc (.cells #[c0, c1, c2, c3, c4] 27)) := (Below.refl _ _).alloc (Nat.le_refl _) _
  exact ⟨cell_of_row _ _ 0 _ _ _ hn, cell_of_row _ _ 1 _ _ _ hn, cell_of_row _ _ 2 _ _ _ hn, cell_of_row _ _ 3 _ _ _ hn, cell_of_row _ _ 4 _ _ _ hn, hv.below hb (Nat.le_refl _), hsh.below hb hw, hb, by simp, by simp, hw⟩
/-- .. put into a list of one. -/
theorem listed (h : OneT w b B t c0 c1 c2 c3 c4 wx) : KidsA (wx.alloc (.cells #[c0, c1, c2, c3, c4] 27)) (wx.heap.size + 1) (some ⟨wx.heap.size, 0, none⟩) [t] := by
  have hn := World.alloc_heap_new wx (.cells #[c0, c1, c2, c3, c4] 27)
  have h2 := (h.alloc (.cells #[c0, c1, c2, c3, c4] 27)).tm.more (B' := wx.heap.size + 1) (by have := h.size; omega)
  have hks : KsV (wx.alloc (.cells #[c0, c1, c2, c3, c4] 27)) (wx.heap.size + 1) wx.heap.size 0 [t] := by
    rw [KsV, KsV]
    exact ⟨⟨c0, c1, c2, c3, c4, cell_of_row _ _ 0 _ _ _ hn, cell_of_row _ _ 1 _ _ _ hn, cell_of_row _ _ 2 _ _ _ hn, cell_of_row _ _ 3 _ _ _ hn, cell_of_row _ _ 4 _ _ _ hn, h2⟩, trivial⟩
  have hp : TmV (wx.alloc (.cells #[c0, c1, c2, c3, c4] 27)) (wx.heap.size + 1) (.mk 0 0 ⟨#[]⟩ [] [t]) (.agg #[.int .i64 0, .int .i64 0, .string ⟨#[]⟩, .slice none 0 0, .slice (some ⟨wx.heap.size, 0, none⟩) 1 1]) := by
    rw [TmV]
    exact ⟨none, 0, some ⟨wx.heap.size, 0, none⟩, 1, rfl, ⟨by simp, fun h => by simp at h⟩, by simp, fun _ => ⟨wx.heap.size, 0, rfl, by omega, hks⟩⟩
  exact hp.kidsA.1
end OneT
end Go.Proofs.YtbiifkpelldciaaDoor
