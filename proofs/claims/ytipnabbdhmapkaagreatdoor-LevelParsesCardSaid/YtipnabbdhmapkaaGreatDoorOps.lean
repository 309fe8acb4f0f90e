/- A string among a law's arguments, opened. -/
import Derived.Test.YtipnabbdhmapkaaGreatDoorOpn
import Derived.ChangeMaps5
namespace Go.Proofs.YtipnabbdhmapkaaGreatDoor
open Go.ChangeShapes Go.WideShapes Go.ChangeAt Go.RowKit Go.Deep Go.Joins

section
variable {H : Type} {enc : TypeId × Value → H} {W : World}
set_option maxRecDepth 100000 in
theorem open_string_arg {base : Nat} {v : Value} {d : DataW H} {p : List MemPlace} (hv : Value.okWide Tryz.prog W .any base 9 v) (h : DataW.Trod enc Tryz.prog W 0 (fun _ => true) true 9 v d p) : ∃ s : ByteArray, v = .string s ∧ s.size ≤ maxLen := by
  obtain ⟨s, h1, _, _, h2⟩ := Go.ChangeMaps.open_string Tryz.underlying9 hv h
  exact ⟨s, h1, h2⟩
end
end Go.Proofs.YtipnabbdhmapkaaGreatDoor
