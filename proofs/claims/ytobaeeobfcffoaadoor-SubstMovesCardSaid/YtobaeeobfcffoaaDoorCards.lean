/-
  DERIVED. GIVEN WITH THE SEED: THE CARDS: each row of YtobaeeobfcffoaaDoorRows.lean that lists a variable, with what it lists TIED to the program's text (the seventh form; the later family's looks); each row that meets fmt, with fmt's text TOLD by the authors' own Lean function (tested against real Go, not proved from fmt's source: count such statements apart). THE CARD IS WHAT COUNTS. Prove the row's statement (the work); the ties are given (YtobaeeobfcffoaaDoorTie.lean); close each card by the builder's one call (the guide's Derived/Test/ToyasCard.lean, 'card_holds'). Laid BY PROGRAM, IN A SANDBOX (cutbox-door.mjs). By AI agents, Wed Nov 11 2026. No macro, syntax, notation, axiom, sorry.
-/
import Derived.Test.YtobaeeobfcffoaaDoorRows
import GoSem.ClaimSeven
namespace Go.Proofs.YtobaeeobfcffoaaDoor
namespace Rows

/-- THE TIED CARD OF 'euclidlaw04.SubstShifts'. -/
def substShiftsCard : Claim7 := { stood := { row := substShiftsRow, standIns := [], harness := (true, "1c884d172b760e209dea69dc470f1b0d1f9956b6525fae68bbe1d1df4e542149"), looks := false }, kinds := [], alts := [], laidByText := true, laidKinds := [.data], laidTests := true, laidLooks := .later }
def SubstShiftsCardSaid : Prop := Claim7.holds Tryd.pinned (.plain (OpenSpec.ofChange substShiftsSpec)) substShiftsCard

/-- THE TIED CARD OF 'euclidlaw04.SubstReplaces'. -/
def substReplacesCard : Claim7 := { stood := { row := substReplacesRow, standIns := [], harness := (true, "1c884d172b760e209dea69dc470f1b0d1f9956b6525fae68bbe1d1df4e542149"), looks := false }, kinds := [], alts := [], laidByText := true, laidKinds := [.data], laidTests := true, laidLooks := .later }
def SubstReplacesCardSaid : Prop := Claim7.holds Tryd.pinned (.plain (OpenSpec.ofChange substReplacesSpec)) substReplacesCard

/-- THE TIED CARD OF 'euclidlaw04.SubstRenames'. -/
def substRenamesCard : Claim7 := { stood := { row := substRenamesRow, standIns := [], harness := (true, "1c884d172b760e209dea69dc470f1b0d1f9956b6525fae68bbe1d1df4e542149"), looks := false }, kinds := [], alts := [], laidByText := true, laidKinds := [.data], laidTests := true, laidLooks := .later }
def SubstRenamesCardSaid : Prop := Claim7.holds Tryd.pinned (.plain (OpenSpec.ofChange substRenamesSpec)) substRenamesCard

/-- THE TIED CARD OF 'euclidlaw04.SubstAbstracts'. -/
def substAbstractsCard : Claim7 := { stood := { row := substAbstractsRow, standIns := [], harness := (true, "1c884d172b760e209dea69dc470f1b0d1f9956b6525fae68bbe1d1df4e542149"), looks := false }, kinds := [], alts := [], laidByText := true, laidKinds := [.data], laidTests := true, laidLooks := .later }
def SubstAbstractsCardSaid : Prop := Claim7.holds Tryd.pinned (.plain (OpenSpec.ofChange substAbstractsSpec)) substAbstractsCard

/-- THE TIED CARD OF 'euclidlaw04.SubstMoves'. -/
def substMovesCard : Claim7 := { stood := { row := substMovesRow, standIns := [], harness := (true, "1c884d172b760e209dea69dc470f1b0d1f9956b6525fae68bbe1d1df4e542149"), looks := false }, kinds := [], alts := [], laidByText := true, laidKinds := [.data], laidTests := true, laidLooks := .later }
def SubstMovesCardSaid : Prop := Claim7.holds Tryd.pinned (.plain (OpenSpec.ofChange substMovesSpec)) substMovesCard

/-- THE TIED CARD OF 'euclidlaw04.SubstBack'. -/
def substBackCard : Claim7 := { stood := { row := substBackRow, standIns := [], harness := (true, "1c884d172b760e209dea69dc470f1b0d1f9956b6525fae68bbe1d1df4e542149"), looks := false }, kinds := [], alts := [], laidByText := true, laidKinds := [.data], laidTests := true, laidLooks := .later }
def SubstBackCardSaid : Prop := Claim7.holds Tryd.pinned (.plain (OpenSpec.ofChange substBackSpec)) substBackCard

/-- THE TIED CARD OF 'euclidlaw04.SubstTwice'. -/
def substTwiceCard : Claim7 := { stood := { row := substTwiceRow, standIns := [], harness := (true, "1c884d172b760e209dea69dc470f1b0d1f9956b6525fae68bbe1d1df4e542149"), looks := false }, kinds := [], alts := [], laidByText := true, laidKinds := [.data], laidTests := true, laidLooks := .later }
def SubstTwiceCardSaid : Prop := Claim7.holds Tryd.pinned (.plain (OpenSpec.ofChange substTwiceSpec)) substTwiceCard

/-- THE SECOND FORM's CARD OF 'euclidlaw04.SubstShifts'. -/
def substShiftsUptoCard : Claim7 := { stood := { row := substShiftsUptoRow, standIns := [], harness := (true, "1c884d172b760e209dea69dc470f1b0d1f9956b6525fae68bbe1d1df4e542149"), looks := false }, kinds := [], alts := [], laidByText := true, laidKinds := [.data], laidTests := true, laidLooks := .later }
def SubstShiftsUptoCardSaid : Prop := Claim7.holds Tryd.pinned (.plain (OpenSpec.upto substShiftsSpec)) substShiftsUptoCard

/-- THE SECOND FORM's CARD OF 'euclidlaw04.SubstReplaces'. -/
def substReplacesUptoCard : Claim7 := { stood := { row := substReplacesUptoRow, standIns := [], harness := (true, "1c884d172b760e209dea69dc470f1b0d1f9956b6525fae68bbe1d1df4e542149"), looks := false }, kinds := [], alts := [], laidByText := true, laidKinds := [.data], laidTests := true, laidLooks := .later }
def SubstReplacesUptoCardSaid : Prop := Claim7.holds Tryd.pinned (.plain (OpenSpec.upto substReplacesSpec)) substReplacesUptoCard

/-- THE SECOND FORM's CARD OF 'euclidlaw04.SubstRenames'. -/
def substRenamesUptoCard : Claim7 := { stood := { row := substRenamesUptoRow, standIns := [], harness := (true, "1c884d172b760e209dea69dc470f1b0d1f9956b6525fae68bbe1d1df4e542149"), looks := false }, kinds := [], alts := [], laidByText := true, laidKinds := [.data], laidTests := true, laidLooks := .later }
def SubstRenamesUptoCardSaid : Prop := Claim7.holds Tryd.pinned (.plain (OpenSpec.upto substRenamesSpec)) substRenamesUptoCard

/-- THE SECOND FORM's CARD OF 'euclidlaw04.SubstAbstracts'. -/
def substAbstractsUptoCard : Claim7 := { stood := { row := substAbstractsUptoRow, standIns := [], harness := (true, "1c884d172b760e209dea69dc470f1b0d1f9956b6525fae68bbe1d1df4e542149"), looks := false }, kinds := [], alts := [], laidByText := true, laidKinds := [.data], laidTests := true, laidLooks := .later }
def SubstAbstractsUptoCardSaid : Prop := Claim7.holds Tryd.pinned (.plain (OpenSpec.upto substAbstractsSpec)) substAbstractsUptoCard

/-- THE SECOND FORM's CARD OF 'euclidlaw04.SubstMoves'. -/
def substMovesUptoCard : Claim7 := { stood := { row := substMovesUptoRow, standIns := [], harness := (true, "1c884d172b760e209dea69dc470f1b0d1f9956b6525fae68bbe1d1df4e542149"), looks := false }, kinds := [], alts := [], laidByText := true, laidKinds := [.data], laidTests := true, laidLooks := .later }
def SubstMovesUptoCardSaid : Prop := Claim7.holds Tryd.pinned (.plain (OpenSpec.upto substMovesSpec)) substMovesUptoCard

/-- THE SECOND FORM's CARD OF 'euclidlaw04.SubstBack'. -/
def substBackUptoCard : Claim7 := { stood := { row := substBackUptoRow, standIns := [], harness := (true, "1c884d172b760e209dea69dc470f1b0d1f9956b6525fae68bbe1d1df4e542149"), looks := false }, kinds := [], alts := [], laidByText := true, laidKinds := [.data], laidTests := true, laidLooks := .later }
def SubstBackUptoCardSaid : Prop := Claim7.holds Tryd.pinned (.plain (OpenSpec.upto substBackSpec)) substBackUptoCard

/-- THE SECOND FORM's CARD OF 'euclidlaw04.SubstTwice'. -/
def substTwiceUptoCard : Claim7 := { stood := { row := substTwiceUptoRow, standIns := [], harness := (true, "1c884d172b760e209dea69dc470f1b0d1f9956b6525fae68bbe1d1df4e542149"), looks := false }, kinds := [], alts := [], laidByText := true, laidKinds := [.data], laidTests := true, laidLooks := .later }
def SubstTwiceUptoCardSaid : Prop := Claim7.holds Tryd.pinned (.plain (OpenSpec.upto substTwiceSpec)) substTwiceUptoCard
end Rows
end Go.Proofs.YtobaeeobfcffoaaDoor
