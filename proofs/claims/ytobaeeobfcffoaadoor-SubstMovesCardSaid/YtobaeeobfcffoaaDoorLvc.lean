/- Params of the program: one more than the greatest parameter. -/
import Derived.Test.YtobaeeobfcffoaaDoorVrf
import Derived.Deep.RegionHeld3
/-! Params of the program: one more than the greatest parameter. -/
namespace Go.Proofs.YtobaeeobfcffoaaDoor
open Go.RowKit

/-- One more than the greatest parameter of a valid level; 0 without one. -/
def parI (c : Int) (vs : List (Int × Int)) : Int := if vldB c vs = true then (match vs[vs.length - 1]? with | none => 0 | some p => max 0 (p.1 + 1)) else 0
theorem parI_no {c : Int} {vs : List (Int × Int)} (h : vldB c vs = false) : parI c vs = 0 := by simp [parI, h]
theorem parI_nil {c : Int} {vs : List (Int × Int)} (h : vs.length = 0) : parI c vs = 0 := by
  have : vs[vs.length - 1]? = none := List.getElem?_eq_none (by omega)
  unfold parI
  rw [this]
  simp
theorem parI_yes {c : Int} {vs : List (Int × Int)} {x y : Int} (h : vldB c vs = true) (hg : vs[vs.length - 1]? = some (x, y)) : parI c vs = max 0 (x + 1) := by simp [parI, h, hg]
theorem vld_idx {c : Int} {vs : List (Int × Int)} (h : vldB c vs = true) : ∀ p ∈ vs, -65536 ≤ p.1 ∧ p.1 ≤ 7 := by
  have hp := h
  simp only [vldB, Bool.and_eq_true, decide_eq_true_eq] at hp
  intro p hm
  obtain ⟨j, hj, rfl⟩ := List.mem_iff_getElem.1 hm
  exact ((okB_iff vs).1 hp.2.1 j _ _ hj (List.getElem?_eq_getElem hj)).1.1

end Go.Proofs.YtobaeeobfcffoaaDoor

/-! checkLevel: the error of a level in a scope. -/
namespace Go.Proofs.YtobaeeobfcffoaaDoor
open Go.RowKit

/-- The error of a level. -/
def lvE (params levels c : Int) (vs : List (Int × Int)) : Int :=
  if vldB c vs = false then 3 else if params < parI c vs then 15 else match vs[0]? with | none => 0 | some q => if levels ≤ -1 - q.1 then 23 else 0
theorem lvE_bad {params levels c : Int} {vs : List (Int × Int)} (h : vldB c vs = false) : lvE params levels c vs = 3 := by simp [lvE, h]
theorem lvE_par {params levels c : Int} {vs : List (Int × Int)} (h : vldB c vs = true) (h2 : params < parI c vs) : lvE params levels c vs = 15 := by simp [lvE, h, h2]
theorem lvE_nil {params levels c : Int} {vs : List (Int × Int)} (h : vldB c vs = true) (h2 : ¬ params < parI c vs) (h3 : vs.length = 0) : lvE params levels c vs = 0 := by
  have : vs[0]? = none := List.getElem?_eq_none (by omega)
  simp [lvE, h, h2, this]
theorem lvE_some {params levels c x y : Int} {vs : List (Int × Int)} (h : vldB c vs = true) (h2 : ¬ params < parI c vs) (h3 : vs[0]? = some (x, y)) : lvE params levels c vs = if levels ≤ -1 - x then 23 else 0 := by simp [lvE, h, h2, h3]

/-- A scope and a level in their boxes. -/
structure ScL (w : World) (vars params metas levels c : Int) (A : Option Addr) (cap B : Nat) (vs : List (Int × Int)) (wx : World) : Prop where
  s1 : wx.cell? ⟨w.heap.size, 1, none⟩ = some (.int .i64 params)
  s3 : wx.cell? ⟨w.heap.size, 3, none⟩ = some (.int .i64 levels)
  l0 : wx.cell? ⟨w.heap.size + 1, 0, none⟩ = some (.int .i64 c)
  l1 : wx.cell? ⟨w.heap.size + 1, 1, none⟩ = some (.slice A vs.length cap)
  va : VA wx B A vs
  below : Below w.heap.size w wx
  size : w.heap.size + 1 < wx.heap.size
namespace ScL
variable {w wx wy : World} {vars params metas levels c : Int} {A : Option Addr} {cap B : Nat} {vs : List (Int × Int)}
theorem next (hB : B ≤ w.heap.size) (h : ScL w vars params metas levels c A cap B vs wx) (hb : Below wx.heap.size wx wy) : ScL w vars params metas levels c A cap B vs wy where
  s1 := (hb.cell (p := ⟨w.heap.size, 1, none⟩) (by have := h.size; show w.heap.size < _; omega)).trans h.s1
  s3 := (hb.cell (p := ⟨w.heap.size, 3, none⟩) (by have := h.size; show w.heap.size < _; omega)).trans h.s3
  l0 := (hb.cell (p := ⟨w.heap.size + 1, 0, none⟩) h.size).trans h.l0
  l1 := (hb.cell (p := ⟨w.heap.size + 1, 1, none⟩) h.size).trans h.l1
  va := h.va.below hb (by have := h.size; omega)
  below := h.below.trans (hb.mono (by have := h.size; omega))
  size := Nat.lt_of_lt_of_le h.size hb.size
theorem drew (h : ScL w vars params metas levels c A cap B vs wx) : ScL w vars params metas levels c A cap B vs wx.drew :=
  ⟨h.s1, h.s3, h.l0, h.l1, ⟨h.va.1, h.va.2⟩, ⟨h.below.os, h.below.tape, h.below.output, h.below.size, h.below.block⟩, h.size⟩
end ScL
end Go.Proofs.YtobaeeobfcffoaaDoor
