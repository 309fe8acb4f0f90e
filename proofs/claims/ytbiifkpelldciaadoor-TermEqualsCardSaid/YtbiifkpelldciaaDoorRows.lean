/-
  NARROWER THAN 'FOR EVERY INPUT', by the rows' own cells (each row's printed sentence says how): TermNames: laid · TermChecks: loops, laid · TermEquals: loops, laid · TermMeasures: loops, laid · TermFree: loops, laid · TermConstants: loops, laid · TermScopes: loops, laid · TermParts: loops, laid.
  DERIVED. THE GIVEN ROWS OF THIS SEAT. 8 by the template 'for every input the law returns true; each argument reads behind the call as it read before'; 0 by the template 'total and deterministic' (their statements: YtbiifkpelldciaaDoorTotals.lean).
  GIVEN WITH THE SEED: the statements are not yours to turn. If you find one false, say at which input.
  Laid BY PROGRAM, IN A SANDBOX (cutbox-rows.mjs): the forced cells as the released guide's own fill.sh prints them over the translation 420f04a8ff051f24… (all of the seat's roots in one cut). By AI agents, Wed Nov 11 2026. No macro, syntax, notation, axiom, sorry.
-/
import Derived.Test.YtbiifkpelldciaaDoorChecked
import GoSem.Claim
import GoSem.ClaimJoined
import GoSem.ClaimMapViews
import Derived.JoinedTies
import Derived.KernelRfl
namespace Go.Proofs.YtbiifkpelldciaaDoor
/- THE CELL 'sum', in the pinned program and in every row, IS THE sha256 OF THE DUMP (.gsa) THAT YtbiifkpelldciaaDoorProg.lean LOADS. Nothing in Lean hashes anything: it is a label: what it is worth is what the hold of that sum in a sandbox is worth. -/
noncomputable def Tryd.pinned : Pinned := { name := "ytbiifkpelldciaadoor", sum := "420f04a8ff051f243810923517c28cdbde0e00d309650cfbb0fdc363496e4760", checked := Tryd.checked }
namespace Rows
def none {H : Type} : Left H := { results := [], args := [] }

/- WHAT THE LISTED PACKAGE-LEVEL VARIABLES READ AS WHEN THE CALL BEGINS. Each datum BY PROGRAM (the guide's laid-datum.mjs) off the statement by which the dump's own 'gosem.cut.vars' lays the variable. In a bare row this is a premise. The card (YtbiifkpelldciaaDoorCards.lean) ties it to the program's text. -/
def laid_euclid_term_shapes {H : Type} : DataW H := .agg [.agg [.lit (.bool true), .lit (.bool false), .lit (.int .i64 0), .lit (.int .i64 0), .lit (.int .i64 0)], .agg [.lit (.bool false), .lit (.bool false), .lit (.int .i64 0), .lit (.int .i64 0), .lit (.int .i64 0)], .agg [.lit (.bool false), .lit (.bool false), .lit (.int .i64 1), .lit (.int .i64 0), .lit (.int .i64 0)], .agg [.lit (.bool false), .lit (.bool true), .lit (.int .i64 (-1)), .lit (.int .i64 0), .lit (.int .i64 0)], .agg [.lit (.bool false), .lit (.bool false), .lit (.int .i64 0), .lit (.int .i64 2), .lit (.int .i64 0)], .agg [.lit (.bool false), .lit (.bool false), .lit (.int .i64 0), .lit (.int .i64 2), .lit (.int .i64 1)], .agg [.lit (.bool false), .lit (.bool false), .lit (.int .i64 0), .lit (.int .i64 2), .lit (.int .i64 1)], .agg [.lit (.bool false), .lit (.bool false), .lit (.int .i64 0), .lit (.int .i64 2), .lit (.int .i64 1)], .agg [.lit (.bool false), .lit (.bool false), .lit (.int .i64 0), .lit (.int .i64 3), .lit (.int .i64 0)], .agg [.lit (.bool false), .lit (.bool false), .lit (.int .i64 0), .lit (.int .i64 1), .lit (.int .i64 0)], .agg [.lit (.bool false), .lit (.bool false), .lit (.int .i64 0), .lit (.int .i64 1), .lit (.int .i64 0)], .agg [.lit (.bool false), .lit (.bool false), .lit (.int .i64 0), .lit (.int .i64 3), .lit (.int .i64 2)], .agg [.lit (.bool true), .lit (.bool false), .lit (.int .i64 0), .lit (.int .i64 0), .lit (.int .i64 0)]]

/-- 'euclidlaw03.TermNames': WHATEVER THE INPUT: true; the input reads as it did. -/
def termNamesSpec : ChangeSpec := { name := "termNames", fn := fun _ => fun
  | [d] => { results := [.lit (.bool true)], args := [d] }
  | _ => none }
def termNamesRow : OpenClaim := { program := "ytbiifkpelldciaadoor", sum := "420f04a8ff051f243810923517c28cdbde0e00d309650cfbb0fdc363496e4760", func := "euclid/euclidlaw03.TermNames", spec := "termNames", unfollowed := true, recurses := true, named := ["euclid/term.shapes"], apart := false, laid := [("euclid/term.shapes", laid_euclid_term_shapes)] }
def TermNamesSaid : Prop := termNamesRow.holds Tryd.pinned (OpenSpec.ofChange termNamesSpec)

/-- ITS FALSE NEIGHBOUR: 'it returns false'. Refute it at one input. -/
def termNamesWrong : ChangeSpec := { name := "termNames", fn := fun _ => fun
  | [d] => { results := [.lit (.bool false)], args := [d] }
  | _ => none }
def TermNamesWrongFalsely : Prop := termNamesRow.holds Tryd.pinned (OpenSpec.ofChange termNamesWrong)

/-- 'euclidlaw03.TermChecks': WHATEVER THE INPUT: true; the input reads as it did. -/
def termChecksSpec : ChangeSpec := { name := "termChecks", fn := fun _ => fun
  | [d1, d2] => { results := [.lit (.bool true)], args := [d1, d2] }
  | _ => none }
def termChecksRow : OpenClaim := { program := "ytbiifkpelldciaadoor", sum := "420f04a8ff051f243810923517c28cdbde0e00d309650cfbb0fdc363496e4760", func := "euclid/euclidlaw03.TermChecks", spec := "termChecks", unfollowed := true, recurses := true, named := ["euclid/term.shapes"], loops := true, apart := false, laid := [("euclid/term.shapes", laid_euclid_term_shapes)] }
def TermChecksSaid : Prop := termChecksRow.holds Tryd.pinned (OpenSpec.ofChange termChecksSpec)

/-- ITS FALSE NEIGHBOUR: 'it returns false'. Refute it at one input. -/
def termChecksWrong : ChangeSpec := { name := "termChecks", fn := fun _ => fun
  | [d1, d2] => { results := [.lit (.bool false)], args := [d1, d2] }
  | _ => none }
def TermChecksWrongFalsely : Prop := termChecksRow.holds Tryd.pinned (OpenSpec.ofChange termChecksWrong)

/-- 'euclidlaw03.TermEquals': WHATEVER THE INPUT: true; the input reads as it did. -/
def termEqualsSpec : ChangeSpec := { name := "termEquals", fn := fun _ => fun
  | [d1, d2] => { results := [.lit (.bool true)], args := [d1, d2] }
  | _ => none }
def termEqualsRow : OpenClaim := { program := "ytbiifkpelldciaadoor", sum := "420f04a8ff051f243810923517c28cdbde0e00d309650cfbb0fdc363496e4760", func := "euclid/euclidlaw03.TermEquals", spec := "termEquals", unfollowed := true, recurses := true, named := ["euclid/term.shapes"], loops := true, apart := false, laid := [("euclid/term.shapes", laid_euclid_term_shapes)] }
def TermEqualsSaid : Prop := termEqualsRow.holds Tryd.pinned (OpenSpec.ofChange termEqualsSpec)

/-- ITS FALSE NEIGHBOUR: 'it returns false'. Refute it at one input. -/
def termEqualsWrong : ChangeSpec := { name := "termEquals", fn := fun _ => fun
  | [d1, d2] => { results := [.lit (.bool false)], args := [d1, d2] }
  | _ => none }
def TermEqualsWrongFalsely : Prop := termEqualsRow.holds Tryd.pinned (OpenSpec.ofChange termEqualsWrong)

/-- 'euclidlaw03.TermMeasures': WHATEVER THE INPUT: true; the input reads as it did. -/
def termMeasuresSpec : ChangeSpec := { name := "termMeasures", fn := fun _ => fun
  | [d] => { results := [.lit (.bool true)], args := [d] }
  | _ => none }
def termMeasuresRow : OpenClaim := { program := "ytbiifkpelldciaadoor", sum := "420f04a8ff051f243810923517c28cdbde0e00d309650cfbb0fdc363496e4760", func := "euclid/euclidlaw03.TermMeasures", spec := "termMeasures", unfollowed := true, recurses := true, named := ["euclid/term.shapes"], loops := true, apart := false, laid := [("euclid/term.shapes", laid_euclid_term_shapes)] }
def TermMeasuresSaid : Prop := termMeasuresRow.holds Tryd.pinned (OpenSpec.ofChange termMeasuresSpec)

/-- ITS FALSE NEIGHBOUR: 'it returns false'. Refute it at one input. -/
def termMeasuresWrong : ChangeSpec := { name := "termMeasures", fn := fun _ => fun
  | [d] => { results := [.lit (.bool false)], args := [d] }
  | _ => none }
def TermMeasuresWrongFalsely : Prop := termMeasuresRow.holds Tryd.pinned (OpenSpec.ofChange termMeasuresWrong)

/-- 'euclidlaw03.TermFree': WHATEVER THE INPUT: true; the input reads as it did. -/
def termFreeSpec : ChangeSpec := { name := "termFree", fn := fun _ => fun
  | [d1, d2] => { results := [.lit (.bool true)], args := [d1, d2] }
  | _ => none }
def termFreeRow : OpenClaim := { program := "ytbiifkpelldciaadoor", sum := "420f04a8ff051f243810923517c28cdbde0e00d309650cfbb0fdc363496e4760", func := "euclid/euclidlaw03.TermFree", spec := "termFree", unfollowed := true, recurses := true, named := ["euclid/term.shapes"], loops := true, apart := false, laid := [("euclid/term.shapes", laid_euclid_term_shapes)] }
def TermFreeSaid : Prop := termFreeRow.holds Tryd.pinned (OpenSpec.ofChange termFreeSpec)

/-- ITS FALSE NEIGHBOUR: 'it returns false'. Refute it at one input. -/
def termFreeWrong : ChangeSpec := { name := "termFree", fn := fun _ => fun
  | [d1, d2] => { results := [.lit (.bool false)], args := [d1, d2] }
  | _ => none }
def TermFreeWrongFalsely : Prop := termFreeRow.holds Tryd.pinned (OpenSpec.ofChange termFreeWrong)

/-- 'euclidlaw03.TermConstants': WHATEVER THE INPUT: true; the input reads as it did. -/
def termConstantsSpec : ChangeSpec := { name := "termConstants", fn := fun _ => fun
  | [d] => { results := [.lit (.bool true)], args := [d] }
  | _ => none }
def termConstantsRow : OpenClaim := { program := "ytbiifkpelldciaadoor", sum := "420f04a8ff051f243810923517c28cdbde0e00d309650cfbb0fdc363496e4760", func := "euclid/euclidlaw03.TermConstants", spec := "termConstants", unfollowed := true, recurses := true, named := ["euclid/term.shapes"], loops := true, apart := false, laid := [("euclid/term.shapes", laid_euclid_term_shapes)] }
def TermConstantsSaid : Prop := termConstantsRow.holds Tryd.pinned (OpenSpec.ofChange termConstantsSpec)

/-- ITS FALSE NEIGHBOUR: 'it returns false'. Refute it at one input. -/
def termConstantsWrong : ChangeSpec := { name := "termConstants", fn := fun _ => fun
  | [d] => { results := [.lit (.bool false)], args := [d] }
  | _ => none }
def TermConstantsWrongFalsely : Prop := termConstantsRow.holds Tryd.pinned (OpenSpec.ofChange termConstantsWrong)

/-- 'euclidlaw03.TermScopes': WHATEVER THE INPUT: true; the input reads as it did. -/
def termScopesSpec : ChangeSpec := { name := "termScopes", fn := fun _ => fun
  | [d1, d2, d3] => { results := [.lit (.bool true)], args := [d1, d2, d3] }
  | _ => none }
def termScopesRow : OpenClaim := { program := "ytbiifkpelldciaadoor", sum := "420f04a8ff051f243810923517c28cdbde0e00d309650cfbb0fdc363496e4760", func := "euclid/euclidlaw03.TermScopes", spec := "termScopes", unfollowed := true, recurses := true, named := ["euclid/term.shapes"], loops := true, apart := false, laid := [("euclid/term.shapes", laid_euclid_term_shapes)] }
def TermScopesSaid : Prop := termScopesRow.holds Tryd.pinned (OpenSpec.ofChange termScopesSpec)

/-- ITS FALSE NEIGHBOUR: 'it returns false'. Refute it at one input. -/
def termScopesWrong : ChangeSpec := { name := "termScopes", fn := fun _ => fun
  | [d1, d2, d3] => { results := [.lit (.bool false)], args := [d1, d2, d3] }
  | _ => none }
def TermScopesWrongFalsely : Prop := termScopesRow.holds Tryd.pinned (OpenSpec.ofChange termScopesWrong)

/-- 'euclidlaw03.TermParts': WHATEVER THE INPUT: true; the input reads as it did. -/
def termPartsSpec : ChangeSpec := { name := "termParts", fn := fun _ => fun
  | [d1, d2] => { results := [.lit (.bool true)], args := [d1, d2] }
  | _ => none }
def termPartsRow : OpenClaim := { program := "ytbiifkpelldciaadoor", sum := "420f04a8ff051f243810923517c28cdbde0e00d309650cfbb0fdc363496e4760", func := "euclid/euclidlaw03.TermParts", spec := "termParts", unfollowed := true, recurses := true, named := ["euclid/term.shapes"], loops := true, apart := false, laid := [("euclid/term.shapes", laid_euclid_term_shapes)] }
def TermPartsSaid : Prop := termPartsRow.holds Tryd.pinned (OpenSpec.ofChange termPartsSpec)

/-- ITS FALSE NEIGHBOUR: 'it returns false'. Refute it at one input. -/
def termPartsWrong : ChangeSpec := { name := "termParts", fn := fun _ => fun
  | [d1, d2] => { results := [.lit (.bool false)], args := [d1, d2] }
  | _ => none }
def TermPartsWrongFalsely : Prop := termPartsRow.holds Tryd.pinned (OpenSpec.ofChange termPartsWrong)

/- THE SECOND FORM. 'bulk': how many values and letters a reading holds, each counted each time it is reached (what is shared counts as often as it is met; a slice's spare places count too). A statement '..UptoSaid' is the law's where the arguments, and the package variables that the reading takes, are together of bulk at most 1048576: NARROWER than '..Said'. Prove '..Said' where nothing that the law and all that it calls make is longer than what came in: it says more and counts as full. Else prove '..UptoSaid'. A law counts once. -/
mutual
def uptoBulk {H : Type} : DataW H → Nat
  | .lit (.string bytes) => bytes.length + 1
  | .lit _ => 1
  | .nil => 1
  | .ptr d => uptoBulk d + 1
  | .slice elems spare => uptoBulkAll elems + uptoBulkAll spare + 1
  | .agg parts => uptoBulkAll parts + 1
  | .iface _ d => uptoBulk d + 1
  | .map entries => uptoBulkEntries entries + 1
  | .held _ => 1
def uptoBulkAll {H : Type} : List (DataW H) → Nat
  | [] => 0
  | d :: r => uptoBulk d + uptoBulkAll r
def uptoBulkEntries {H : Type} : List (Lit × DataW H) → Nat
  | [] => 0
  | x :: r => uptoBulkEntry x + uptoBulkEntries r
def uptoBulkEntry {H : Type} : Lit × DataW H → Nat
  | (.string bytes, d) => bytes.length + uptoBulk d + 1
  | (_, d) => uptoBulk d + 1
 end
def uptoSmall : (H : Type) → List (DataW H) → Bool := fun _ ds => decide (uptoBulkAll ds ≤ 1048576)
def OpenSpec.upto (s : _root_.Go.ChangeSpec) : _root_.Go.OpenSpec := { _root_.Go.OpenSpec.ofChange s with cond := some uptoSmall }

/-- 'euclidlaw03.TermNames', WHERE WHAT IT READS IS OF BULK AT MOST 1048576: true; the input reads as it did. -/
def termNamesUptoRow : OpenClaim := { program := "ytbiifkpelldciaadoor", sum := "420f04a8ff051f243810923517c28cdbde0e00d309650cfbb0fdc363496e4760", func := "euclid/euclidlaw03.TermNames", spec := "termNames", unfollowed := true, recurses := true, named := ["euclid/term.shapes"], apart := false, laid := [("euclid/term.shapes", laid_euclid_term_shapes)], narrowed := true }
def TermNamesUptoSaid : Prop := termNamesUptoRow.holds Tryd.pinned (OpenSpec.upto termNamesSpec)

/-- 'euclidlaw03.TermChecks', WHERE WHAT IT READS IS OF BULK AT MOST 1048576: true; the input reads as it did. -/
def termChecksUptoRow : OpenClaim := { program := "ytbiifkpelldciaadoor", sum := "420f04a8ff051f243810923517c28cdbde0e00d309650cfbb0fdc363496e4760", func := "euclid/euclidlaw03.TermChecks", spec := "termChecks", unfollowed := true, recurses := true, named := ["euclid/term.shapes"], loops := true, apart := false, laid := [("euclid/term.shapes", laid_euclid_term_shapes)], narrowed := true }
def TermChecksUptoSaid : Prop := termChecksUptoRow.holds Tryd.pinned (OpenSpec.upto termChecksSpec)

/-- 'euclidlaw03.TermEquals', WHERE WHAT IT READS IS OF BULK AT MOST 1048576: true; the input reads as it did. -/
def termEqualsUptoRow : OpenClaim := { program := "ytbiifkpelldciaadoor", sum := "420f04a8ff051f243810923517c28cdbde0e00d309650cfbb0fdc363496e4760", func := "euclid/euclidlaw03.TermEquals", spec := "termEquals", unfollowed := true, recurses := true, named := ["euclid/term.shapes"], loops := true, apart := false, laid := [("euclid/term.shapes", laid_euclid_term_shapes)], narrowed := true }
def TermEqualsUptoSaid : Prop := termEqualsUptoRow.holds Tryd.pinned (OpenSpec.upto termEqualsSpec)

/-- 'euclidlaw03.TermMeasures', WHERE WHAT IT READS IS OF BULK AT MOST 1048576: true; the input reads as it did. -/
def termMeasuresUptoRow : OpenClaim := { program := "ytbiifkpelldciaadoor", sum := "420f04a8ff051f243810923517c28cdbde0e00d309650cfbb0fdc363496e4760", func := "euclid/euclidlaw03.TermMeasures", spec := "termMeasures", unfollowed := true, recurses := true, named := ["euclid/term.shapes"], loops := true, apart := false, laid := [("euclid/term.shapes", laid_euclid_term_shapes)], narrowed := true }
def TermMeasuresUptoSaid : Prop := termMeasuresUptoRow.holds Tryd.pinned (OpenSpec.upto termMeasuresSpec)

/-- 'euclidlaw03.TermFree', WHERE WHAT IT READS IS OF BULK AT MOST 1048576: true; the input reads as it did. -/
def termFreeUptoRow : OpenClaim := { program := "ytbiifkpelldciaadoor", sum := "420f04a8ff051f243810923517c28cdbde0e00d309650cfbb0fdc363496e4760", func := "euclid/euclidlaw03.TermFree", spec := "termFree", unfollowed := true, recurses := true, named := ["euclid/term.shapes"], loops := true, apart := false, laid := [("euclid/term.shapes", laid_euclid_term_shapes)], narrowed := true }
def TermFreeUptoSaid : Prop := termFreeUptoRow.holds Tryd.pinned (OpenSpec.upto termFreeSpec)

/-- 'euclidlaw03.TermConstants', WHERE WHAT IT READS IS OF BULK AT MOST 1048576: true; the input reads as it did. -/
def termConstantsUptoRow : OpenClaim := { program := "ytbiifkpelldciaadoor", sum := "420f04a8ff051f243810923517c28cdbde0e00d309650cfbb0fdc363496e4760", func := "euclid/euclidlaw03.TermConstants", spec := "termConstants", unfollowed := true, recurses := true, named := ["euclid/term.shapes"], loops := true, apart := false, laid := [("euclid/term.shapes", laid_euclid_term_shapes)], narrowed := true }
def TermConstantsUptoSaid : Prop := termConstantsUptoRow.holds Tryd.pinned (OpenSpec.upto termConstantsSpec)

/-- 'euclidlaw03.TermScopes', WHERE WHAT IT READS IS OF BULK AT MOST 1048576: true; the input reads as it did. -/
def termScopesUptoRow : OpenClaim := { program := "ytbiifkpelldciaadoor", sum := "420f04a8ff051f243810923517c28cdbde0e00d309650cfbb0fdc363496e4760", func := "euclid/euclidlaw03.TermScopes", spec := "termScopes", unfollowed := true, recurses := true, named := ["euclid/term.shapes"], loops := true, apart := false, laid := [("euclid/term.shapes", laid_euclid_term_shapes)], narrowed := true }
def TermScopesUptoSaid : Prop := termScopesUptoRow.holds Tryd.pinned (OpenSpec.upto termScopesSpec)

/-- 'euclidlaw03.TermParts', WHERE WHAT IT READS IS OF BULK AT MOST 1048576: true; the input reads as it did. -/
def termPartsUptoRow : OpenClaim := { program := "ytbiifkpelldciaadoor", sum := "420f04a8ff051f243810923517c28cdbde0e00d309650cfbb0fdc363496e4760", func := "euclid/euclidlaw03.TermParts", spec := "termParts", unfollowed := true, recurses := true, named := ["euclid/term.shapes"], loops := true, apart := false, laid := [("euclid/term.shapes", laid_euclid_term_shapes)], narrowed := true }
def TermPartsUptoSaid : Prop := termPartsUptoRow.holds Tryd.pinned (OpenSpec.upto termPartsSpec)

end Rows
end Go.Proofs.YtbiifkpelldciaaDoor
