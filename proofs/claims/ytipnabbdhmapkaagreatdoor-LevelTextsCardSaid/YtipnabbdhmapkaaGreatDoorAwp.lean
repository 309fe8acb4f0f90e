/- What the chapter's examples come to. -/
import Derived.Test.YtipnabbdhmapkaaGreatDoorTxu
import Derived.Test.YtipnabbdhmapkaaGreatDoorPrs
import Derived.Test.YtipnabbdhmapkaaGreatDoorMax
import Derived.Test.YtipnabbdhmapkaaGreatDoorPlus
import Derived.Test.YtipnabbdhmapkaaGreatDoorLeq
namespace Go.Proofs.YtipnabbdhmapkaaGreatDoor
open Go.RowKit

theorem ex_var : varV 0 1 = [(0, 1)] ∧ varE 0 1 = 0 := by decide
theorem ex_of : ofC 2 = 2 ∧ ofE 2 = 0 := by decide
theorem ex_max : maxC 0 [(0, 1)] 2 [] = 2 ∧ maxV 0 [(0, 1)] 2 [] = [(0, 1)] ∧ maxE 0 [(0, 1)] 2 [] = 0 := by
  have h : maxOk 0 [(0, 1)] 2 [] = true := by decide
  have h2 : canonC 2 [(0, 1)] = 2 := by decide
  simp [maxC, maxV, maxE, h, mg_nil_right, h2]
theorem ex_plus : plusC 2 [(0, 1)] 1 = 3 ∧ plusV 2 [(0, 1)] 1 = [(0, 2)] ∧ plusE 2 [(0, 1)] 1 = 0 := by decide
theorem ex_leq1 : leqB 0 [(0, 1)] 2 [(0, 1)] = true := by decide
theorem ex_leq2 : leqB 2 [(0, 1)] 0 [(0, 1)] = false := by decide
theorem ex_text1 : txtB (txtL 3 [(0, 2)]) = ⟨#[109, 97, 120, 40, 51, 44, 32, 117, 48, 32, 43, 32, 50, 41]⟩ := by kernel_rfl
theorem ex_text2 : txtB (txtL 2 [(1, 1)]) = ⟨#[109, 97, 120, 40, 50, 44, 32, 117, 49, 32, 43, 32, 49, 41]⟩ := by kernel_rfl
theorem ex_text3 : txtB (txtL 2 [(-1, 1), (1, 0)]) = ⟨#[109, 97, 120, 40, 50, 44, 32, 117, 49, 44, 32, 63, 48, 32, 43, 32, 49, 41]⟩ := by kernel_rfl
theorem ex_parse : prsL ⟨#[32, 109, 97, 120, 40, 32, 117, 49, 32, 44, 32, 50, 44, 32, 117, 49, 43, 49, 41]⟩ = (2, [(1, 1)]) := by kernel_rfl
theorem ex_parseE : prsE ⟨#[32, 109, 97, 120, 40, 32, 117, 49, 32, 44, 32, 50, 44, 32, 117, 49, 43, 49, 41]⟩ = 0 := by kernel_rfl
end Go.Proofs.YtipnabbdhmapkaaGreatDoor
