/-
  NARROWER THAN 'FOR EVERY INPUT', by the rows' own cells (each row's printed sentence says how): SubstShifts: loops, laid · SubstReplaces: loops, laid · SubstRenames: loops, laid · SubstAbstracts: loops, laid · SubstMoves: loops, laid · SubstBack: loops, laid · SubstTwice: loops, laid.
  DERIVED. THE GIVEN ROWS OF THIS SEAT. 7 by the template 'for every input the law returns true; each argument reads behind the call as it read before'; 0 by the template 'total and deterministic' (their statements: YtobaeeobfcffoaaDoorTotals.lean).
  GIVEN WITH THE SEED: the statements are not yours to turn. If you find one false, say at which input.
  Laid BY PROGRAM, IN A SANDBOX (cutbox-rows.mjs): the forced cells as the released guide's own fill.sh prints them over the translation fa21ef2e2cc6ad40… (all of the seat's roots in one cut). By AI agents, Wed Nov 11 2026. No macro, syntax, notation, axiom, sorry.
-/
import Derived.Test.YtobaeeobfcffoaaDoorChecked
import GoSem.Claim
import GoSem.ClaimJoined
import GoSem.ClaimMapViews
import Derived.JoinedTies
import Derived.KernelRfl
namespace Go.Proofs.YtobaeeobfcffoaaDoor
/- THE CELL 'sum', in the pinned program and in every row, IS THE sha256 OF THE DUMP (.gsa) THAT YtobaeeobfcffoaaDoorProg.lean LOADS. Nothing in Lean hashes anything: it is a label: what it is worth is what the hold of that sum in a sandbox is worth. -/
noncomputable def Tryd.pinned : Pinned := { name := "ytobaeeobfcffoaadoor", sum := "fa21ef2e2cc6ad409154edf2bbd8dc36dbc71f9a049b7138811c69925bd4b0e7", checked := Tryd.checked }
namespace Rows
def none {H : Type} : Left H := { results := [], args := [] }

/- WHAT THE LISTED PACKAGE-LEVEL VARIABLES READ AS WHEN THE CALL BEGINS. Each datum BY PROGRAM (the guide's laid-datum.mjs) off the statement by which the dump's own 'gosem.cut.vars' lays the variable. In a bare row this is a premise. The card (YtobaeeobfcffoaaDoorCards.lean) ties it to the program's text. -/
def laid_euclid_term_shapes {H : Type} : DataW H := .agg [.agg [.lit (.bool true), .lit (.bool false), .lit (.int .i64 0), .lit (.int .i64 0), .lit (.int .i64 0)], .agg [.lit (.bool false), .lit (.bool false), .lit (.int .i64 0), .lit (.int .i64 0), .lit (.int .i64 0)], .agg [.lit (.bool false), .lit (.bool false), .lit (.int .i64 1), .lit (.int .i64 0), .lit (.int .i64 0)], .agg [.lit (.bool false), .lit (.bool true), .lit (.int .i64 (-1)), .lit (.int .i64 0), .lit (.int .i64 0)], .agg [.lit (.bool false), .lit (.bool false), .lit (.int .i64 0), .lit (.int .i64 2), .lit (.int .i64 0)], .agg [.lit (.bool false), .lit (.bool false), .lit (.int .i64 0), .lit (.int .i64 2), .lit (.int .i64 1)], .agg [.lit (.bool false), .lit (.bool false), .lit (.int .i64 0), .lit (.int .i64 2), .lit (.int .i64 1)], .agg [.lit (.bool false), .lit (.bool false), .lit (.int .i64 0), .lit (.int .i64 2), .lit (.int .i64 1)], .agg [.lit (.bool false), .lit (.bool false), .lit (.int .i64 0), .lit (.int .i64 3), .lit (.int .i64 0)], .agg [.lit (.bool false), .lit (.bool false), .lit (.int .i64 0), .lit (.int .i64 1), .lit (.int .i64 0)], .agg [.lit (.bool false), .lit (.bool false), .lit (.int .i64 0), .lit (.int .i64 1), .lit (.int .i64 0)], .agg [.lit (.bool false), .lit (.bool false), .lit (.int .i64 0), .lit (.int .i64 3), .lit (.int .i64 2)], .agg [.lit (.bool true), .lit (.bool false), .lit (.int .i64 0), .lit (.int .i64 0), .lit (.int .i64 0)]]

/-- 'euclidlaw04.SubstShifts': WHATEVER THE INPUT: true; the input reads as it did. -/
def substShiftsSpec : ChangeSpec := { name := "substShifts", fn := fun _ => fun
  | [d1, d2, d3] => { results := [.lit (.bool true)], args := [d1, d2, d3] }
  | _ => none }
def substShiftsRow : OpenClaim := { program := "ytobaeeobfcffoaadoor", sum := "fa21ef2e2cc6ad409154edf2bbd8dc36dbc71f9a049b7138811c69925bd4b0e7", func := "euclid/euclidlaw04.SubstShifts", spec := "substShifts", unfollowed := true, recurses := true, named := ["euclid/term.shapes"], loops := true, apart := false, laid := [("euclid/term.shapes", laid_euclid_term_shapes)] }
def SubstShiftsSaid : Prop := substShiftsRow.holds Tryd.pinned (OpenSpec.ofChange substShiftsSpec)

/-- ITS FALSE NEIGHBOUR: 'it returns false'. Refute it at one input. -/
def substShiftsWrong : ChangeSpec := { name := "substShifts", fn := fun _ => fun
  | [d1, d2, d3] => { results := [.lit (.bool false)], args := [d1, d2, d3] }
  | _ => none }
def SubstShiftsWrongFalsely : Prop := substShiftsRow.holds Tryd.pinned (OpenSpec.ofChange substShiftsWrong)

/-- 'euclidlaw04.SubstReplaces': WHATEVER THE INPUT: true; the input reads as it did. -/
def substReplacesSpec : ChangeSpec := { name := "substReplaces", fn := fun _ => fun
  | [d1, d2, d3] => { results := [.lit (.bool true)], args := [d1, d2, d3] }
  | _ => none }
def substReplacesRow : OpenClaim := { program := "ytobaeeobfcffoaadoor", sum := "fa21ef2e2cc6ad409154edf2bbd8dc36dbc71f9a049b7138811c69925bd4b0e7", func := "euclid/euclidlaw04.SubstReplaces", spec := "substReplaces", unfollowed := true, recurses := true, named := ["euclid/term.shapes"], loops := true, apart := false, laid := [("euclid/term.shapes", laid_euclid_term_shapes)] }
def SubstReplacesSaid : Prop := substReplacesRow.holds Tryd.pinned (OpenSpec.ofChange substReplacesSpec)

/-- ITS FALSE NEIGHBOUR: 'it returns false'. Refute it at one input. -/
def substReplacesWrong : ChangeSpec := { name := "substReplaces", fn := fun _ => fun
  | [d1, d2, d3] => { results := [.lit (.bool false)], args := [d1, d2, d3] }
  | _ => none }
def SubstReplacesWrongFalsely : Prop := substReplacesRow.holds Tryd.pinned (OpenSpec.ofChange substReplacesWrong)

/-- 'euclidlaw04.SubstRenames': WHATEVER THE INPUT: true; the input reads as it did. -/
def substRenamesSpec : ChangeSpec := { name := "substRenames", fn := fun _ => fun
  | [d1, d2] => { results := [.lit (.bool true)], args := [d1, d2] }
  | _ => none }
def substRenamesRow : OpenClaim := { program := "ytobaeeobfcffoaadoor", sum := "fa21ef2e2cc6ad409154edf2bbd8dc36dbc71f9a049b7138811c69925bd4b0e7", func := "euclid/euclidlaw04.SubstRenames", spec := "substRenames", unfollowed := true, recurses := true, named := ["euclid/term.shapes"], loops := true, apart := false, laid := [("euclid/term.shapes", laid_euclid_term_shapes)] }
def SubstRenamesSaid : Prop := substRenamesRow.holds Tryd.pinned (OpenSpec.ofChange substRenamesSpec)

/-- ITS FALSE NEIGHBOUR: 'it returns false'. Refute it at one input. -/
def substRenamesWrong : ChangeSpec := { name := "substRenames", fn := fun _ => fun
  | [d1, d2] => { results := [.lit (.bool false)], args := [d1, d2] }
  | _ => none }
def SubstRenamesWrongFalsely : Prop := substRenamesRow.holds Tryd.pinned (OpenSpec.ofChange substRenamesWrong)

/-- 'euclidlaw04.SubstAbstracts': WHATEVER THE INPUT: true; the input reads as it did. -/
def substAbstractsSpec : ChangeSpec := { name := "substAbstracts", fn := fun _ => fun
  | [d1, d2] => { results := [.lit (.bool true)], args := [d1, d2] }
  | _ => none }
def substAbstractsRow : OpenClaim := { program := "ytobaeeobfcffoaadoor", sum := "fa21ef2e2cc6ad409154edf2bbd8dc36dbc71f9a049b7138811c69925bd4b0e7", func := "euclid/euclidlaw04.SubstAbstracts", spec := "substAbstracts", unfollowed := true, recurses := true, named := ["euclid/term.shapes"], loops := true, apart := false, laid := [("euclid/term.shapes", laid_euclid_term_shapes)] }
def SubstAbstractsSaid : Prop := substAbstractsRow.holds Tryd.pinned (OpenSpec.ofChange substAbstractsSpec)

/-- ITS FALSE NEIGHBOUR: 'it returns false'. Refute it at one input. -/
def substAbstractsWrong : ChangeSpec := { name := "substAbstracts", fn := fun _ => fun
  | [d1, d2] => { results := [.lit (.bool false)], args := [d1, d2] }
  | _ => none }
def SubstAbstractsWrongFalsely : Prop := substAbstractsRow.holds Tryd.pinned (OpenSpec.ofChange substAbstractsWrong)

/-- 'euclidlaw04.SubstMoves': WHATEVER THE INPUT: true; the input reads as it did. -/
def substMovesSpec : ChangeSpec := { name := "substMoves", fn := fun _ => fun
  | [d1, d2, d3] => { results := [.lit (.bool true)], args := [d1, d2, d3] }
  | _ => none }
def substMovesRow : OpenClaim := { program := "ytobaeeobfcffoaadoor", sum := "fa21ef2e2cc6ad409154edf2bbd8dc36dbc71f9a049b7138811c69925bd4b0e7", func := "euclid/euclidlaw04.SubstMoves", spec := "substMoves", unfollowed := true, recurses := true, named := ["euclid/term.shapes"], loops := true, apart := false, laid := [("euclid/term.shapes", laid_euclid_term_shapes)] }
def SubstMovesSaid : Prop := substMovesRow.holds Tryd.pinned (OpenSpec.ofChange substMovesSpec)

/-- ITS FALSE NEIGHBOUR: 'it returns false'. Refute it at one input. -/
def substMovesWrong : ChangeSpec := { name := "substMoves", fn := fun _ => fun
  | [d1, d2, d3] => { results := [.lit (.bool false)], args := [d1, d2, d3] }
  | _ => none }
def SubstMovesWrongFalsely : Prop := substMovesRow.holds Tryd.pinned (OpenSpec.ofChange substMovesWrong)

/-- 'euclidlaw04.SubstBack': WHATEVER THE INPUT: true; the input reads as it did. -/
def substBackSpec : ChangeSpec := { name := "substBack", fn := fun _ => fun
  | [d1, d2, d3] => { results := [.lit (.bool true)], args := [d1, d2, d3] }
  | _ => none }
def substBackRow : OpenClaim := { program := "ytobaeeobfcffoaadoor", sum := "fa21ef2e2cc6ad409154edf2bbd8dc36dbc71f9a049b7138811c69925bd4b0e7", func := "euclid/euclidlaw04.SubstBack", spec := "substBack", unfollowed := true, recurses := true, named := ["euclid/term.shapes"], loops := true, apart := false, laid := [("euclid/term.shapes", laid_euclid_term_shapes)] }
def SubstBackSaid : Prop := substBackRow.holds Tryd.pinned (OpenSpec.ofChange substBackSpec)

/-- ITS FALSE NEIGHBOUR: 'it returns false'. Refute it at one input. -/
def substBackWrong : ChangeSpec := { name := "substBack", fn := fun _ => fun
  | [d1, d2, d3] => { results := [.lit (.bool false)], args := [d1, d2, d3] }
  | _ => none }
def SubstBackWrongFalsely : Prop := substBackRow.holds Tryd.pinned (OpenSpec.ofChange substBackWrong)

/-- 'euclidlaw04.SubstTwice': WHATEVER THE INPUT: true; the input reads as it did. -/
def substTwiceSpec : ChangeSpec := { name := "substTwice", fn := fun _ => fun
  | [d1, d2, d3] => { results := [.lit (.bool true)], args := [d1, d2, d3] }
  | _ => none }
def substTwiceRow : OpenClaim := { program := "ytobaeeobfcffoaadoor", sum := "fa21ef2e2cc6ad409154edf2bbd8dc36dbc71f9a049b7138811c69925bd4b0e7", func := "euclid/euclidlaw04.SubstTwice", spec := "substTwice", unfollowed := true, recurses := true, named := ["euclid/term.shapes"], loops := true, apart := false, laid := [("euclid/term.shapes", laid_euclid_term_shapes)] }
def SubstTwiceSaid : Prop := substTwiceRow.holds Tryd.pinned (OpenSpec.ofChange substTwiceSpec)

/-- ITS FALSE NEIGHBOUR: 'it returns false'. Refute it at one input. -/
def substTwiceWrong : ChangeSpec := { name := "substTwice", fn := fun _ => fun
  | [d1, d2, d3] => { results := [.lit (.bool false)], args := [d1, d2, d3] }
  | _ => none }
def SubstTwiceWrongFalsely : Prop := substTwiceRow.holds Tryd.pinned (OpenSpec.ofChange substTwiceWrong)

/- THE SECOND FORM. 'bulk': how many values and letters a reading holds, each counted each time it is reached (what is shared counts as often as it is met; a slice's spare places count too). A statement '..UptoSaid' is the law's where the arguments, and the package variables that the reading takes, are together of bulk at most 1048576: NARROWER than '..Said'. Prove '..Said' where nothing that the law and all that it calls make is longer than what came in: it says more and counts as full. Else prove '..UptoSaid'. A law counts once. -/
mutual
def uptoBulk {H : Type} : DataW H → Nat
  | .lit (.string bytes) => bytes.length + 1
  | .lit _ => 1
  | .nil => 1
  | .ptr d => uptoBulk d + 1
  | .slice elems spare => uptoBulkAll elems + uptoBulkAll spare + 1
  | .agg parts => uptoBulkAll parts + 1
  | .iface _ d => uptoBulk d + 1
  | .map entries => uptoBulkEntries entries + 1
  | .held _ => 1
def uptoBulkAll {H : Type} : List (DataW H) → Nat
  | [] => 0
  | d :: r => uptoBulk d + uptoBulkAll r
def uptoBulkEntries {H : Type} : List (Lit × DataW H) → Nat
  | [] => 0
  | x :: r => uptoBulkEntry x + uptoBulkEntries r
def uptoBulkEntry {H : Type} : Lit × DataW H → Nat
  | (.string bytes, d) => bytes.length + uptoBulk d + 1
  | (_, d) => uptoBulk d + 1
 end
def uptoSmall : (H : Type) → List (DataW H) → Bool := fun _ ds => decide (uptoBulkAll ds ≤ 1048576)
def OpenSpec.upto (s : _root_.Go.ChangeSpec) : _root_.Go.OpenSpec := { _root_.Go.OpenSpec.ofChange s with cond := some uptoSmall }

/-- 'euclidlaw04.SubstShifts', WHERE WHAT IT READS IS OF BULK AT MOST 1048576: true; the input reads as it did. -/
def substShiftsUptoRow : OpenClaim := { program := "ytobaeeobfcffoaadoor", sum := "fa21ef2e2cc6ad409154edf2bbd8dc36dbc71f9a049b7138811c69925bd4b0e7", func := "euclid/euclidlaw04.SubstShifts", spec := "substShifts", unfollowed := true, recurses := true, named := ["euclid/term.shapes"], loops := true, apart := false, laid := [("euclid/term.shapes", laid_euclid_term_shapes)], narrowed := true }
def SubstShiftsUptoSaid : Prop := substShiftsUptoRow.holds Tryd.pinned (OpenSpec.upto substShiftsSpec)

/-- 'euclidlaw04.SubstReplaces', WHERE WHAT IT READS IS OF BULK AT MOST 1048576: true; the input reads as it did. -/
def substReplacesUptoRow : OpenClaim := { program := "ytobaeeobfcffoaadoor", sum := "fa21ef2e2cc6ad409154edf2bbd8dc36dbc71f9a049b7138811c69925bd4b0e7", func := "euclid/euclidlaw04.SubstReplaces", spec := "substReplaces", unfollowed := true, recurses := true, named := ["euclid/term.shapes"], loops := true, apart := false, laid := [("euclid/term.shapes", laid_euclid_term_shapes)], narrowed := true }
def SubstReplacesUptoSaid : Prop := substReplacesUptoRow.holds Tryd.pinned (OpenSpec.upto substReplacesSpec)

/-- 'euclidlaw04.SubstRenames', WHERE WHAT IT READS IS OF BULK AT MOST 1048576: true; the input reads as it did. -/
def substRenamesUptoRow : OpenClaim := { program := "ytobaeeobfcffoaadoor", sum := "fa21ef2e2cc6ad409154edf2bbd8dc36dbc71f9a049b7138811c69925bd4b0e7", func := "euclid/euclidlaw04.SubstRenames", spec := "substRenames", unfollowed := true, recurses := true, named := ["euclid/term.shapes"], loops := true, apart := false, laid := [("euclid/term.shapes", laid_euclid_term_shapes)], narrowed := true }
def SubstRenamesUptoSaid : Prop := substRenamesUptoRow.holds Tryd.pinned (OpenSpec.upto substRenamesSpec)

/-- 'euclidlaw04.SubstAbstracts', WHERE WHAT IT READS IS OF BULK AT MOST 1048576: true; the input reads as it did. -/
def substAbstractsUptoRow : OpenClaim := { program := "ytobaeeobfcffoaadoor", sum := "fa21ef2e2cc6ad409154edf2bbd8dc36dbc71f9a049b7138811c69925bd4b0e7", func := "euclid/euclidlaw04.SubstAbstracts", spec := "substAbstracts", unfollowed := true, recurses := true, named := ["euclid/term.shapes"], loops := true, apart := false, laid := [("euclid/term.shapes", laid_euclid_term_shapes)], narrowed := true }
def SubstAbstractsUptoSaid : Prop := substAbstractsUptoRow.holds Tryd.pinned (OpenSpec.upto substAbstractsSpec)

/-- 'euclidlaw04.SubstMoves', WHERE WHAT IT READS IS OF BULK AT MOST 1048576: true; the input reads as it did. -/
def substMovesUptoRow : OpenClaim := { program := "ytobaeeobfcffoaadoor", sum := "fa21ef2e2cc6ad409154edf2bbd8dc36dbc71f9a049b7138811c69925bd4b0e7", func := "euclid/euclidlaw04.SubstMoves", spec := "substMoves", unfollowed := true, recurses := true, named := ["euclid/term.shapes"], loops := true, apart := false, laid := [("euclid/term.shapes", laid_euclid_term_shapes)], narrowed := true }
def SubstMovesUptoSaid : Prop := substMovesUptoRow.holds Tryd.pinned (OpenSpec.upto substMovesSpec)

/-- 'euclidlaw04.SubstBack', WHERE WHAT IT READS IS OF BULK AT MOST 1048576: true; the input reads as it did. -/
def substBackUptoRow : OpenClaim := { program := "ytobaeeobfcffoaadoor", sum := "fa21ef2e2cc6ad409154edf2bbd8dc36dbc71f9a049b7138811c69925bd4b0e7", func := "euclid/euclidlaw04.SubstBack", spec := "substBack", unfollowed := true, recurses := true, named := ["euclid/term.shapes"], loops := true, apart := false, laid := [("euclid/term.shapes", laid_euclid_term_shapes)], narrowed := true }
def SubstBackUptoSaid : Prop := substBackUptoRow.holds Tryd.pinned (OpenSpec.upto substBackSpec)

/-- 'euclidlaw04.SubstTwice', WHERE WHAT IT READS IS OF BULK AT MOST 1048576: true; the input reads as it did. -/
def substTwiceUptoRow : OpenClaim := { program := "ytobaeeobfcffoaadoor", sum := "fa21ef2e2cc6ad409154edf2bbd8dc36dbc71f9a049b7138811c69925bd4b0e7", func := "euclid/euclidlaw04.SubstTwice", spec := "substTwice", unfollowed := true, recurses := true, named := ["euclid/term.shapes"], loops := true, apart := false, laid := [("euclid/term.shapes", laid_euclid_term_shapes)], narrowed := true }
def SubstTwiceUptoSaid : Prop := substTwiceUptoRow.holds Tryd.pinned (OpenSpec.upto substTwiceSpec)

end Rows
end Go.Proofs.YtobaeeobfcffoaaDoor
