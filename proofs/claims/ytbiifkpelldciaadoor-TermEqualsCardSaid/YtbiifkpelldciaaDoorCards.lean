/-
  DERIVED. GIVEN WITH THE SEED: THE CARDS: each row of YtbiifkpelldciaaDoorRows.lean that lists a variable, with what it lists TIED to the program's text (the seventh form; the later family's looks); each row that meets fmt, with fmt's text TOLD by the authors' own Lean function (tested against real Go, not proved from fmt's source: count such statements apart). THE CARD IS WHAT COUNTS. Prove the row's statement (the work); the ties are given (YtbiifkpelldciaaDoorTie.lean); close each card by the builder's one call (the guide's Derived/Test/ToyasCard.lean, 'card_holds'). Laid BY PROGRAM, IN A SANDBOX (cutbox-door.mjs). By AI agents, Wed Nov 11 2026. No macro, syntax, notation, axiom, sorry.
-/
import Derived.Test.YtbiifkpelldciaaDoorRows
import GoSem.ClaimSeven
namespace Go.Proofs.YtbiifkpelldciaaDoor
namespace Rows

/-- THE TIED CARD OF 'euclidlaw03.TermNames'. -/
def termNamesCard : Claim7 := { stood := { row := termNamesRow, standIns := [], harness := (true, "5a01878fb139de014c727e2c074eaeec37d97ce62931f11135ea5acc146e746d"), looks := false }, kinds := [], alts := [], laidByText := true, laidKinds := [.data], laidTests := true, laidLooks := .later }
def TermNamesCardSaid : Prop := Claim7.holds Tryd.pinned (.plain (OpenSpec.ofChange termNamesSpec)) termNamesCard

/-- THE TIED CARD OF 'euclidlaw03.TermChecks'. -/
def termChecksCard : Claim7 := { stood := { row := termChecksRow, standIns := [], harness := (true, "5a01878fb139de014c727e2c074eaeec37d97ce62931f11135ea5acc146e746d"), looks := false }, kinds := [], alts := [], laidByText := true, laidKinds := [.data], laidTests := true, laidLooks := .later }
def TermChecksCardSaid : Prop := Claim7.holds Tryd.pinned (.plain (OpenSpec.ofChange termChecksSpec)) termChecksCard

/-- THE TIED CARD OF 'euclidlaw03.TermEquals'. -/
def termEqualsCard : Claim7 := { stood := { row := termEqualsRow, standIns := [], harness := (true, "5a01878fb139de014c727e2c074eaeec37d97ce62931f11135ea5acc146e746d"), looks := false }, kinds := [], alts := [], laidByText := true, laidKinds := [.data], laidTests := true, laidLooks := .later }
def TermEqualsCardSaid : Prop := Claim7.holds Tryd.pinned (.plain (OpenSpec.ofChange termEqualsSpec)) termEqualsCard

/-- THE TIED CARD OF 'euclidlaw03.TermMeasures'. -/
def termMeasuresCard : Claim7 := { stood := { row := termMeasuresRow, standIns := [], harness := (true, "5a01878fb139de014c727e2c074eaeec37d97ce62931f11135ea5acc146e746d"), looks := false }, kinds := [], alts := [], laidByText := true, laidKinds := [.data], laidTests := true, laidLooks := .later }
def TermMeasuresCardSaid : Prop := Claim7.holds Tryd.pinned (.plain (OpenSpec.ofChange termMeasuresSpec)) termMeasuresCard

/-- THE TIED CARD OF 'euclidlaw03.TermFree'. -/
def termFreeCard : Claim7 := { stood := { row := termFreeRow, standIns := [], harness := (true, "5a01878fb139de014c727e2c074eaeec37d97ce62931f11135ea5acc146e746d"), looks := false }, kinds := [], alts := [], laidByText := true, laidKinds := [.data], laidTests := true, laidLooks := .later }
def TermFreeCardSaid : Prop := Claim7.holds Tryd.pinned (.plain (OpenSpec.ofChange termFreeSpec)) termFreeCard

/-- THE TIED CARD OF 'euclidlaw03.TermConstants'. -/
def termConstantsCard : Claim7 := { stood := { row := termConstantsRow, standIns := [], harness := (true, "5a01878fb139de014c727e2c074eaeec37d97ce62931f11135ea5acc146e746d"), looks := false }, kinds := [], alts := [], laidByText := true, laidKinds := [.data], laidTests := true, laidLooks := .later }
def TermConstantsCardSaid : Prop := Claim7.holds Tryd.pinned (.plain (OpenSpec.ofChange termConstantsSpec)) termConstantsCard

/-- THE TIED CARD OF 'euclidlaw03.TermScopes'. -/
def termScopesCard : Claim7 := { stood := { row := termScopesRow, standIns := [], harness := (true, "5a01878fb139de014c727e2c074eaeec37d97ce62931f11135ea5acc146e746d"), looks := false }, kinds := [], alts := [], laidByText := true, laidKinds := [.data], laidTests := true, laidLooks := .later }
def TermScopesCardSaid : Prop := Claim7.holds Tryd.pinned (.plain (OpenSpec.ofChange termScopesSpec)) termScopesCard

/-- THE TIED CARD OF 'euclidlaw03.TermParts'. -/
def termPartsCard : Claim7 := { stood := { row := termPartsRow, standIns := [], harness := (true, "5a01878fb139de014c727e2c074eaeec37d97ce62931f11135ea5acc146e746d"), looks := false }, kinds := [], alts := [], laidByText := true, laidKinds := [.data], laidTests := true, laidLooks := .later }
def TermPartsCardSaid : Prop := Claim7.holds Tryd.pinned (.plain (OpenSpec.ofChange termPartsSpec)) termPartsCard

/-- THE SECOND FORM's CARD OF 'euclidlaw03.TermNames'. -/
def termNamesUptoCard : Claim7 := { stood := { row := termNamesUptoRow, standIns := [], harness := (true, "5a01878fb139de014c727e2c074eaeec37d97ce62931f11135ea5acc146e746d"), looks := false }, kinds := [], alts := [], laidByText := true, laidKinds := [.data], laidTests := true, laidLooks := .later }
def TermNamesUptoCardSaid : Prop := Claim7.holds Tryd.pinned (.plain (OpenSpec.upto termNamesSpec)) termNamesUptoCard

/-- THE SECOND FORM's CARD OF 'euclidlaw03.TermChecks'. -/
def termChecksUptoCard : Claim7 := { stood := { row := termChecksUptoRow, standIns := [], harness := (true, "5a01878fb139de014c727e2c074eaeec37d97ce62931f11135ea5acc146e746d"), looks := false }, kinds := [], alts := [], laidByText := true, laidKinds := [.data], laidTests := true, laidLooks := .later }
def TermChecksUptoCardSaid : Prop := Claim7.holds Tryd.pinned (.plain (OpenSpec.upto termChecksSpec)) termChecksUptoCard

/-- THE SECOND FORM's CARD OF 'euclidlaw03.TermEquals'. -/
def termEqualsUptoCard : Claim7 := { stood := { row := termEqualsUptoRow, standIns := [], harness := (true, "5a01878fb139de014c727e2c074eaeec37d97ce62931f11135ea5acc146e746d"), looks := false }, kinds := [], alts := [], laidByText := true, laidKinds := [.data], laidTests := true, laidLooks := .later }
def TermEqualsUptoCardSaid : Prop := Claim7.holds Tryd.pinned (.plain (OpenSpec.upto termEqualsSpec)) termEqualsUptoCard

/-- THE SECOND FORM's CARD OF 'euclidlaw03.TermMeasures'. -/
def termMeasuresUptoCard : Claim7 := { stood := { row := termMeasuresUptoRow, standIns := [], harness := (true, "5a01878fb139de014c727e2c074eaeec37d97ce62931f11135ea5acc146e746d"), looks := false }, kinds := [], alts := [], laidByText := true, laidKinds := [.data], laidTests := true, laidLooks := .later }
def TermMeasuresUptoCardSaid : Prop := Claim7.holds Tryd.pinned (.plain (OpenSpec.upto termMeasuresSpec)) termMeasuresUptoCard

/-- THE SECOND FORM's CARD OF 'euclidlaw03.TermFree'. -/
def termFreeUptoCard : Claim7 := { stood := { row := termFreeUptoRow, standIns := [], harness := (true, "5a01878fb139de014c727e2c074eaeec37d97ce62931f11135ea5acc146e746d"), looks := false }, kinds := [], alts := [], laidByText := true, laidKinds := [.data], laidTests := true, laidLooks := .later }
def TermFreeUptoCardSaid : Prop := Claim7.holds Tryd.pinned (.plain (OpenSpec.upto termFreeSpec)) termFreeUptoCard

/-- THE SECOND FORM's CARD OF 'euclidlaw03.TermConstants'. -/
def termConstantsUptoCard : Claim7 := { stood := { row := termConstantsUptoRow, standIns := [], harness := (true, "5a01878fb139de014c727e2c074eaeec37d97ce62931f11135ea5acc146e746d"), looks := false }, kinds := [], alts := [], laidByText := true, laidKinds := [.data], laidTests := true, laidLooks := .later }
def TermConstantsUptoCardSaid : Prop := Claim7.holds Tryd.pinned (.plain (OpenSpec.upto termConstantsSpec)) termConstantsUptoCard

/-- THE SECOND FORM's CARD OF 'euclidlaw03.TermScopes'. -/
def termScopesUptoCard : Claim7 := { stood := { row := termScopesUptoRow, standIns := [], harness := (true, "5a01878fb139de014c727e2c074eaeec37d97ce62931f11135ea5acc146e746d"), looks := false }, kinds := [], alts := [], laidByText := true, laidKinds := [.data], laidTests := true, laidLooks := .later }
def TermScopesUptoCardSaid : Prop := Claim7.holds Tryd.pinned (.plain (OpenSpec.upto termScopesSpec)) termScopesUptoCard

/-- THE SECOND FORM's CARD OF 'euclidlaw03.TermParts'. -/
def termPartsUptoCard : Claim7 := { stood := { row := termPartsUptoRow, standIns := [], harness := (true, "5a01878fb139de014c727e2c074eaeec37d97ce62931f11135ea5acc146e746d"), looks := false }, kinds := [], alts := [], laidByText := true, laidKinds := [.data], laidTests := true, laidLooks := .later }
def TermPartsUptoCardSaid : Prop := Claim7.holds Tryd.pinned (.plain (OpenSpec.upto termPartsSpec)) termPartsUptoCard
end Rows
end Go.Proofs.YtbiifkpelldciaaDoor
