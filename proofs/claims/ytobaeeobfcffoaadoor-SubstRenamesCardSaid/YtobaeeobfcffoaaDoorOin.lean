/- A slice of integers among a law's arguments, opened. -/
import Derived.Test.YtobaeeobfcffoaaDoorOpw
import Derived.Test.YtobaeeobfcffoaaDoorRnc
namespace Go.Proofs.YtobaeeobfcffoaaDoor
open Go.ChangeShapes Go.WideShapes Go.ChangeAt Go.RowKit Go.Deep Go.Joins

section
variable {H : Type} {enc : TypeId × Value → H} {W : World}
set_option maxRecDepth 100000 in
theorem open_ints_arg {base : Nat} {v : Value} {d : DataW H} {p : List MemPlace} (hv : Value.okWide Tryd.prog W .any base 40 v) (h : DataW.Trod enc Tryd.prog W 0 (fun _ => true) true 40 v d p)
    (hw : ∀ n ∈ d.weights Tryd.prog 40, n ≤ reachBytes) : ∃ (P : Option Addr) (cap : Nat) (ps : List Int), v = .slice P ps.length cap ∧ IA W W.heap.size P ps := by
  obtain ⟨a0, len0, cap0, rfl⟩ := okWide_slice Tryd.underlying40 hv
  obtain ⟨fuel, hf⟩ := h
  rcases Go.ChangeShapes.open_ints Tryd.underlying40 Tryd.underlying3 (by kernel_rfl) hf with ⟨hcs, _⟩ | ⟨a, len, cap, zs, hcs, _, hle, hmax, hzl, hx, hcell, _⟩
  · simp [Value.cells] at hcs
    obtain ⟨rfl, rfl, rfl⟩ := hcs
    exact ⟨none, 0, [], rfl, by simp, fun h => absurd h (by simp)⟩
  · simp [Value.cells] at hcs
    obtain ⟨rfl, rfl, rfl⟩ := hcs
    simp only [if_true] at hzl
    simp only [Prod.mk.injEq] at hx
    obtain ⟨rfl, rfl⟩ := hx
    have hl : (zs.take len0).length = len0 := by rw [List.length_take]; omega
    have hsz : len0 * 8 ≤ 140737488355328 := by
      have hb : Tryd.prog.bytesOf 3 = 8 := by kernel_rfl
      have h3 := hw (((lits (H := H) .i64 (zs.take len0)).length + (lits (H := H) .i64 (zs.drop len0)).length) * Tryd.prog.bytesOf 3) (by
        simp only [DataW.weights, Tryd.underlying40]
        exact List.mem_cons_self)
      rw [hb] at h3
      have h4 : (lits (H := H) .i64 (zs.take len0)).length = len0 := by simp [lits]; omega
      have : reachBytes < 2 ^ 47 := reachBytes_lt
      rw [h4] at h3
      omega
    refine ⟨some a, cap0, zs.take len0, by rw [hl], by rw [hl]; exact hsz, fun hn => ?_⟩
    rw [hl] at hn
    obtain ⟨b, off, rfl, hc⟩ := ints_at hcell (by omega)
    refine ⟨b, off, rfl, by simpa using block_lt (hc 0 (by omega)), fun j q hj => ?_⟩
    obtain ⟨hj1, hj2⟩ := List.getElem?_eq_some_iff.1 hj
    rw [hl] at hj1
    have := hc j (by omega)
    rw [List.getElem_take] at hj2
    rw [List.getD_eq_getElem?_getD, List.getElem?_eq_getElem (by omega), Option.getD_some, hj2] at this
    exact this
end
end Go.Proofs.YtobaeeobfcffoaaDoor
