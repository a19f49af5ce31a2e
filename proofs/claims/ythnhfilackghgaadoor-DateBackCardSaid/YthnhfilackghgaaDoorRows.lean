/-
  NARROWER THAN 'FOR EVERY INPUT', by the rows' own cells (each row's printed sentence says how): DateMays: laid · DateNumbers: laid · DateMoves: laid · DateBack: laid · DateSteps: laid.
  DERIVED. THE GIVEN ROWS OF THIS SEAT. 5 by the template 'for every input the law returns true; each argument reads behind the call as it read before'; 0 by the template 'total and deterministic' (their statements: YthnhfilackghgaaDoorTotals.lean).
  GIVEN WITH THE SEED: the statements are not yours to turn. If you find one false, say at which input.
  Laid BY PROGRAM, IN A SANDBOX (cutbox-rows.mjs): the forced cells as the released guide's own fill.sh prints them over the translation 0392686bb9a6a5b2… (all of the seat's roots in one cut). By AI agents, Wed Nov 11 2026. No macro, syntax, notation, axiom, sorry.
-/
import Derived.Test.YthnhfilackghgaaDoorChecked
import GoSem.Claim
import GoSem.ClaimJoined
import GoSem.ClaimMapViews
import Derived.JoinedTies
import Derived.KernelRfl
namespace Go.Proofs.YthnhfilackghgaaDoor
/- THE CELL 'sum', in the pinned program and in every row, IS THE sha256 OF THE DUMP (.gsa) THAT YthnhfilackghgaaDoorProg.lean LOADS. Nothing in Lean hashes anything: it is a label: what it is worth is what the hold of that sum in a sandbox is worth. -/
noncomputable def Tryd.pinned : Pinned := { name := "ythnhfilackghgaadoor", sum := "0392686bb9a6a5b23ee03ff08405d85fa8292111c92cc8c08b08f7493e663b76", checked := Tryd.checked }
namespace Rows
def none {H : Type} : Left H := { results := [], args := [] }

/- WHAT THE LISTED PACKAGE-LEVEL VARIABLES READ AS WHEN THE CALL BEGINS. Each datum BY PROGRAM (the guide's laid-datum.mjs) off the statement by which the dump's own 'gosem.cut.vars' lays the variable. In a bare row this is a premise. The card (YthnhfilackghgaaDoorCards.lean) ties it to the program's text. -/
def laid_trivet_date_daysOf {H : Type} : DataW H := .agg [.lit (.int .i64 31), .lit (.int .i64 28), .lit (.int .i64 31), .lit (.int .i64 30), .lit (.int .i64 31), .lit (.int .i64 30), .lit (.int .i64 31), .lit (.int .i64 31), .lit (.int .i64 30), .lit (.int .i64 31), .lit (.int .i64 30), .lit (.int .i64 31)]

/-- 'trivetlaw04.DateMays': WHATEVER THE INPUT: true; the input reads as it did. -/
def dateMaysSpec : ChangeSpec := { name := "dateMays", fn := fun _ => fun
  | [d] => { results := [.lit (.bool true)], args := [d] }
  | _ => none }
def dateMaysRow : OpenClaim := { program := "ythnhfilackghgaadoor", sum := "0392686bb9a6a5b23ee03ff08405d85fa8292111c92cc8c08b08f7493e663b76", func := "trivet/trivetlaw04.DateMays", spec := "dateMays", named := ["trivet/date.daysOf"], apart := false, laid := [("trivet/date.daysOf", laid_trivet_date_daysOf)] }
def DateMaysSaid : Prop := dateMaysRow.holds Tryd.pinned (OpenSpec.ofChange dateMaysSpec)

/-- ITS FALSE NEIGHBOUR: 'it returns false'. Refute it at one input. -/
def dateMaysWrong : ChangeSpec := { name := "dateMays", fn := fun _ => fun
  | [d] => { results := [.lit (.bool false)], args := [d] }
  | _ => none }
def DateMaysWrongFalsely : Prop := dateMaysRow.holds Tryd.pinned (OpenSpec.ofChange dateMaysWrong)

/-- 'trivetlaw04.DateNumbers': WHATEVER THE INPUT: true; the input reads as it did. -/
def dateNumbersSpec : ChangeSpec := { name := "dateNumbers", fn := fun _ => fun
  | [d1, d2] => { results := [.lit (.bool true)], args := [d1, d2] }
  | _ => none }
def dateNumbersRow : OpenClaim := { program := "ythnhfilackghgaadoor", sum := "0392686bb9a6a5b23ee03ff08405d85fa8292111c92cc8c08b08f7493e663b76", func := "trivet/trivetlaw04.DateNumbers", spec := "dateNumbers", named := ["trivet/date.daysOf"], apart := false, laid := [("trivet/date.daysOf", laid_trivet_date_daysOf)] }
def DateNumbersSaid : Prop := dateNumbersRow.holds Tryd.pinned (OpenSpec.ofChange dateNumbersSpec)

/-- ITS FALSE NEIGHBOUR: 'it returns false'. Refute it at one input. -/
def dateNumbersWrong : ChangeSpec := { name := "dateNumbers", fn := fun _ => fun
  | [d1, d2] => { results := [.lit (.bool false)], args := [d1, d2] }
  | _ => none }
def DateNumbersWrongFalsely : Prop := dateNumbersRow.holds Tryd.pinned (OpenSpec.ofChange dateNumbersWrong)

/-- 'trivetlaw04.DateMoves': WHATEVER THE INPUT: true; the input reads as it did. -/
def dateMovesSpec : ChangeSpec := { name := "dateMoves", fn := fun _ => fun
  | [d1, d2] => { results := [.lit (.bool true)], args := [d1, d2] }
  | _ => none }
def dateMovesRow : OpenClaim := { program := "ythnhfilackghgaadoor", sum := "0392686bb9a6a5b23ee03ff08405d85fa8292111c92cc8c08b08f7493e663b76", func := "trivet/trivetlaw04.DateMoves", spec := "dateMoves", named := ["trivet/date.daysOf"], apart := false, laid := [("trivet/date.daysOf", laid_trivet_date_daysOf)] }
def DateMovesSaid : Prop := dateMovesRow.holds Tryd.pinned (OpenSpec.ofChange dateMovesSpec)

/-- ITS FALSE NEIGHBOUR: 'it returns false'. Refute it at one input. -/
def dateMovesWrong : ChangeSpec := { name := "dateMoves", fn := fun _ => fun
  | [d1, d2] => { results := [.lit (.bool false)], args := [d1, d2] }
  | _ => none }
def DateMovesWrongFalsely : Prop := dateMovesRow.holds Tryd.pinned (OpenSpec.ofChange dateMovesWrong)

/-- 'trivetlaw04.DateBack': WHATEVER THE INPUT: true; the input reads as it did. -/
def dateBackSpec : ChangeSpec := { name := "dateBack", fn := fun _ => fun
  | [d] => { results := [.lit (.bool true)], args := [d] }
  | _ => none }
def dateBackRow : OpenClaim := { program := "ythnhfilackghgaadoor", sum := "0392686bb9a6a5b23ee03ff08405d85fa8292111c92cc8c08b08f7493e663b76", func := "trivet/trivetlaw04.DateBack", spec := "dateBack", named := ["trivet/date.daysOf"], apart := false, laid := [("trivet/date.daysOf", laid_trivet_date_daysOf)] }
def DateBackSaid : Prop := dateBackRow.holds Tryd.pinned (OpenSpec.ofChange dateBackSpec)

/-- ITS FALSE NEIGHBOUR: 'it returns false'. Refute it at one input. -/
def dateBackWrong : ChangeSpec := { name := "dateBack", fn := fun _ => fun
  | [d] => { results := [.lit (.bool false)], args := [d] }
  | _ => none }
def DateBackWrongFalsely : Prop := dateBackRow.holds Tryd.pinned (OpenSpec.ofChange dateBackWrong)

/-- 'trivetlaw04.DateSteps': WHATEVER THE INPUT: true; the input reads as it did. -/
def dateStepsSpec : ChangeSpec := { name := "dateSteps", fn := fun _ => fun
  | [d1, d2, d3] => { results := [.lit (.bool true)], args := [d1, d2, d3] }
  | _ => none }
def dateStepsRow : OpenClaim := { program := "ythnhfilackghgaadoor", sum := "0392686bb9a6a5b23ee03ff08405d85fa8292111c92cc8c08b08f7493e663b76", func := "trivet/trivetlaw04.DateSteps", spec := "dateSteps", named := ["trivet/date.daysOf"], apart := false, laid := [("trivet/date.daysOf", laid_trivet_date_daysOf)] }
def DateStepsSaid : Prop := dateStepsRow.holds Tryd.pinned (OpenSpec.ofChange dateStepsSpec)

/-- ITS FALSE NEIGHBOUR: 'it returns false'. Refute it at one input. -/
def dateStepsWrong : ChangeSpec := { name := "dateSteps", fn := fun _ => fun
  | [d1, d2, d3] => { results := [.lit (.bool false)], args := [d1, d2, d3] }
  | _ => none }
def DateStepsWrongFalsely : Prop := dateStepsRow.holds Tryd.pinned (OpenSpec.ofChange dateStepsWrong)

/- THE SECOND FORM. 'bulk': how many values and letters a reading holds, each counted each time it is reached (what is shared counts as often as it is met; a slice's spare places count too). A statement '..UptoSaid' is the law's where the arguments, and the package variables that the reading takes, are together of bulk at most 1048576: NARROWER than '..Said'. Prove '..Said' where nothing that the law and all that it calls make is longer than what came in: it says more and counts as full. Else prove '..UptoSaid'. A law counts once. -/
mutual
def uptoBulk {H : Type} : DataW H → Nat
  | .lit (.string bytes) => bytes.length + 1
  | .lit _ => 1
  | .nil => 1
  | .ptr d => uptoBulk d + 1
  | .slice elems spare => uptoBulkAll elems + uptoBulkAll spare + 1
  | .agg parts => uptoBulkAll parts + 1
  | .iface _ d => uptoBulk d + 1
  | .map entries => uptoBulkEntries entries + 1
  | .held _ => 1
def uptoBulkAll {H : Type} : List (DataW H) → Nat
  | [] => 0
  | d :: r => uptoBulk d + uptoBulkAll r
def uptoBulkEntries {H : Type} : List (Lit × DataW H) → Nat
  | [] => 0
  | x :: r => uptoBulkEntry x + uptoBulkEntries r
def uptoBulkEntry {H : Type} : Lit × DataW H → Nat
  | (.string bytes, d) => bytes.length + uptoBulk d + 1
  | (_, d) => uptoBulk d + 1
 end
def uptoSmall : (H : Type) → List (DataW H) → Bool := fun _ ds => decide (uptoBulkAll ds ≤ 1048576)
def OpenSpec.upto (s : _root_.Go.ChangeSpec) : _root_.Go.OpenSpec := { _root_.Go.OpenSpec.ofChange s with cond := some uptoSmall }

/-- 'trivetlaw04.DateMays', WHERE WHAT IT READS IS OF BULK AT MOST 1048576: true; the input reads as it did. -/
def dateMaysUptoRow : OpenClaim := { program := "ythnhfilackghgaadoor", sum := "0392686bb9a6a5b23ee03ff08405d85fa8292111c92cc8c08b08f7493e663b76", func := "trivet/trivetlaw04.DateMays", spec := "dateMays", named := ["trivet/date.daysOf"], apart := false, laid := [("trivet/date.daysOf", laid_trivet_date_daysOf)], narrowed := true }
def DateMaysUptoSaid : Prop := dateMaysUptoRow.holds Tryd.pinned (OpenSpec.upto dateMaysSpec)

/-- 'trivetlaw04.DateNumbers', WHERE WHAT IT READS IS OF BULK AT MOST 1048576: true; the input reads as it did. -/
def dateNumbersUptoRow : OpenClaim := { program := "ythnhfilackghgaadoor", sum := "0392686bb9a6a5b23ee03ff08405d85fa8292111c92cc8c08b08f7493e663b76", func := "trivet/trivetlaw04.DateNumbers", spec := "dateNumbers", named := ["trivet/date.daysOf"], apart := false, laid := [("trivet/date.daysOf", laid_trivet_date_daysOf)], narrowed := true }
def DateNumbersUptoSaid : Prop := dateNumbersUptoRow.holds Tryd.pinned (OpenSpec.upto dateNumbersSpec)

/-- 'trivetlaw04.DateMoves', WHERE WHAT IT READS IS OF BULK AT MOST 1048576: true; the input reads as it did. -/
def dateMovesUptoRow : OpenClaim := { program := "ythnhfilackghgaadoor", sum := "0392686bb9a6a5b23ee03ff08405d85fa8292111c92cc8c08b08f7493e663b76", func := "trivet/trivetlaw04.DateMoves", spec := "dateMoves", named := ["trivet/date.daysOf"], apart := false, laid := [("trivet/date.daysOf", laid_trivet_date_daysOf)], narrowed := true }
def DateMovesUptoSaid : Prop := dateMovesUptoRow.holds Tryd.pinned (OpenSpec.upto dateMovesSpec)

/-- 'trivetlaw04.DateBack', WHERE WHAT IT READS IS OF BULK AT MOST 1048576: true; the input reads as it did. -/
def dateBackUptoRow : OpenClaim := { program := "ythnhfilackghgaadoor", sum := "0392686bb9a6a5b23ee03ff08405d85fa8292111c92cc8c08b08f7493e663b76", func := "trivet/trivetlaw04.DateBack", spec := "dateBack", named := ["trivet/date.daysOf"], apart := false, laid := [("trivet/date.daysOf", laid_trivet_date_daysOf)], narrowed := true }
def DateBackUptoSaid : Prop := dateBackUptoRow.holds Tryd.pinned (OpenSpec.upto dateBackSpec)

/-- 'trivetlaw04.DateSteps', WHERE WHAT IT READS IS OF BULK AT MOST 1048576: true; the input reads as it did. -/
def dateStepsUptoRow : OpenClaim := { program := "ythnhfilackghgaadoor", sum := "0392686bb9a6a5b23ee03ff08405d85fa8292111c92cc8c08b08f7493e663b76", func := "trivet/trivetlaw04.DateSteps", spec := "dateSteps", named := ["trivet/date.daysOf"], apart := false, laid := [("trivet/date.daysOf", laid_trivet_date_daysOf)], narrowed := true }
def DateStepsUptoSaid : Prop := dateStepsUptoRow.holds Tryd.pinned (OpenSpec.upto dateStepsSpec)

end Rows
end Go.Proofs.YthnhfilackghgaaDoor
