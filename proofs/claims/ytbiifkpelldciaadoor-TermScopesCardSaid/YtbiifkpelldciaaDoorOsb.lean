/- Four bytes among a law's arguments, opened. -/
import Derived.Test.YtbiifkpelldciaaDoorOsc
import Derived.Laws.IdiomArrays
namespace Go.Proofs.YtbiifkpelldciaaDoor
open Go.ChangeShapes Go.WideShapes Go.ChangeAt Go.RowKit Go.Deep Go.Joins

theorem u8_range {n : Int} (h : (Lit.int .u8 n).wf = true) : 0 ≤ n ∧ n ≤ 255 := by
  simp [Lit.wf, IntKind.min, IntKind.max, IntKind.signed, IntKind.bits] at h
  omega
section
variable {H : Type} {enc : TypeId × Value → H} {W : World}
set_option maxRecDepth 100000 in
theorem open_bytes_arg {base : Nat} {v : Value} {d : DataW H} {p : List MemPlace} (hv : Value.okWide Tryd.prog W .any base 45 v) (h : DataW.Trod enc Tryd.prog W 0 (fun _ => true) true 45 v d p) :
    ∃ (a b c e : Int), v = .agg #[.int .u8 a, .int .u8 b, .int .u8 c, .int .u8 e] ∧ (0 ≤ a ∧ a ≤ 255) ∧ (0 ≤ b ∧ b ≤ 255) ∧ (0 ≤ c ∧ c ≤ 255) ∧ (0 ≤ e ∧ e ≤ 255) := by
  simp only [Value.okWide, Tryd.underlying45] at hv
  obtain ⟨cs, rfl, hsz, _⟩ := hv
  have hsz4 : cs.size = 4 := hsz.trans (by kernel_rfl)
  obtain ⟨v0, v1, v2, v3, rfl⟩ := array4 hsz4
  obtain ⟨fuel, hf⟩ := h
  obtain ⟨y0, y1, y2, y3, n, _, h0, h1, h2, h3⟩ := trod_array4 (c0 := v0) (c1 := v1) (c2 := v2) (c3 := v3) Tryd.underlying45 (by kernel_rfl) hf
  obtain ⟨a, ha, _, wa⟩ := DataW.trod_int Tryd.underlying5 h0
  obtain ⟨b, hb, _, wb⟩ := DataW.trod_int Tryd.underlying5 h1
  obtain ⟨c, hc, _, wc⟩ := DataW.trod_int Tryd.underlying5 h2
  obtain ⟨e, he, _, we⟩ := DataW.trod_int Tryd.underlying5 h3
  simp only [List.cons.injEq, and_true] at ha hb hc he
  subst ha hb hc he
  exact ⟨a, b, c, e, rfl, u8_range wa, u8_range wb, u8_range wc, u8_range we⟩
end
end Go.Proofs.YtbiifkpelldciaaDoor
