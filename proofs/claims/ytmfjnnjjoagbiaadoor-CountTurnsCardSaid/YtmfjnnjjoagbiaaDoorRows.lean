/-
  NARROWER THAN 'FOR EVERY INPUT', by the rows' own cells (each row's printed sentence says how): CountBetween: laid · CountAccrues: laid · CountTurns: laid · CountMonth: laid.
  DERIVED. THE GIVEN ROWS OF THIS SEAT. 4 by the template 'for every input the law returns true; each argument reads behind the call as it read before'; 0 by the template 'total and deterministic' (their statements: YtmfjnnjjoagbiaaDoorTotals.lean).
  GIVEN WITH THE SEED: the statements are not yours to turn. If you find one false, say at which input.
  Laid BY PROGRAM, IN A SANDBOX (cutbox-rows.mjs): the forced cells as the released guide's own fill.sh prints them over the translation a1a6faf8de0ddcd5… (all of the seat's roots in one cut). By AI agents, Wed Nov 11 2026. No macro, syntax, notation, axiom, sorry.
-/
import Derived.Test.YtmfjnnjjoagbiaaDoorChecked
import GoSem.Claim
import GoSem.ClaimJoined
import GoSem.ClaimMapViews
import Derived.JoinedTies
import Derived.KernelRfl
namespace Go.Proofs.YtmfjnnjjoagbiaaDoor
/- THE CELL 'sum', in the pinned program and in every row, IS THE sha256 OF THE DUMP (.gsa) THAT YtmfjnnjjoagbiaaDoorProg.lean LOADS. Nothing in Lean hashes anything: it is a label: what it is worth is what the hold of that sum in a sandbox is worth. -/
noncomputable def Tryd.pinned : Pinned := { name := "ytmfjnnjjoagbiaadoor", sum := "a1a6faf8de0ddcd5b71d6bf0b6b4e1cd0718ee65e34a95abe4bc34f478728f36", checked := Tryd.checked }
namespace Rows
def none {H : Type} : Left H := { results := [], args := [] }

/- WHAT THE LISTED PACKAGE-LEVEL VARIABLES READ AS WHEN THE CALL BEGINS. Each datum BY PROGRAM (the guide's laid-datum.mjs) off the statement by which the dump's own 'gosem.cut.vars' lays the variable. In a bare row this is a premise. The card (YtmfjnnjjoagbiaaDoorCards.lean) ties it to the program's text. -/
def laid_trivet_date_daysOf {H : Type} : DataW H := .agg [.lit (.int .i64 31), .lit (.int .i64 28), .lit (.int .i64 31), .lit (.int .i64 30), .lit (.int .i64 31), .lit (.int .i64 30), .lit (.int .i64 31), .lit (.int .i64 31), .lit (.int .i64 30), .lit (.int .i64 31), .lit (.int .i64 30), .lit (.int .i64 31)]

/-- 'trivetlaw05.CountBetween': WHATEVER THE INPUT: true; the input reads as it did. -/
def countBetweenSpec : ChangeSpec := { name := "countBetween", fn := fun _ => fun
  | [d1, d2] => { results := [.lit (.bool true)], args := [d1, d2] }
  | _ => none }
def countBetweenRow : OpenClaim := { program := "ytmfjnnjjoagbiaadoor", sum := "a1a6faf8de0ddcd5b71d6bf0b6b4e1cd0718ee65e34a95abe4bc34f478728f36", func := "trivet/trivetlaw05.CountBetween", spec := "countBetween", unfollowed := true, recurses := true, named := ["trivet/date.daysOf", "math/bits.divideError", "math/bits.overflowError"], apart := false, laid := [("trivet/date.daysOf", laid_trivet_date_daysOf)] }
def CountBetweenSaid : Prop := countBetweenRow.holds Tryd.pinned (OpenSpec.ofChange countBetweenSpec)

/-- ITS FALSE NEIGHBOUR: 'it returns false'. Refute it at one input. -/
def countBetweenWrong : ChangeSpec := { name := "countBetween", fn := fun _ => fun
  | [d1, d2] => { results := [.lit (.bool false)], args := [d1, d2] }
  | _ => none }
def CountBetweenWrongFalsely : Prop := countBetweenRow.holds Tryd.pinned (OpenSpec.ofChange countBetweenWrong)

/-- 'trivetlaw05.CountAccrues': WHATEVER THE INPUT: true; the input reads as it did. -/
def countAccruesSpec : ChangeSpec := { name := "countAccrues", fn := fun _ => fun
  | [d1, d2, d3, d4] => { results := [.lit (.bool true)], args := [d1, d2, d3, d4] }
  | _ => none }
def countAccruesRow : OpenClaim := { program := "ytmfjnnjjoagbiaadoor", sum := "a1a6faf8de0ddcd5b71d6bf0b6b4e1cd0718ee65e34a95abe4bc34f478728f36", func := "trivet/trivetlaw05.CountAccrues", spec := "countAccrues", unfollowed := true, recurses := true, named := ["trivet/date.daysOf", "math/bits.divideError", "math/bits.overflowError"], apart := false, laid := [("trivet/date.daysOf", laid_trivet_date_daysOf)] }
def CountAccruesSaid : Prop := countAccruesRow.holds Tryd.pinned (OpenSpec.ofChange countAccruesSpec)

/-- ITS FALSE NEIGHBOUR: 'it returns false'. Refute it at one input. -/
def countAccruesWrong : ChangeSpec := { name := "countAccrues", fn := fun _ => fun
  | [d1, d2, d3, d4] => { results := [.lit (.bool false)], args := [d1, d2, d3, d4] }
  | _ => none }
def CountAccruesWrongFalsely : Prop := countAccruesRow.holds Tryd.pinned (OpenSpec.ofChange countAccruesWrong)

/-- 'trivetlaw05.CountTurns': WHATEVER THE INPUT: true; the input reads as it did. -/
def countTurnsSpec : ChangeSpec := { name := "countTurns", fn := fun _ => fun
  | [d1, d2, d3, d4] => { results := [.lit (.bool true)], args := [d1, d2, d3, d4] }
  | _ => none }
def countTurnsRow : OpenClaim := { program := "ytmfjnnjjoagbiaadoor", sum := "a1a6faf8de0ddcd5b71d6bf0b6b4e1cd0718ee65e34a95abe4bc34f478728f36", func := "trivet/trivetlaw05.CountTurns", spec := "countTurns", unfollowed := true, recurses := true, named := ["trivet/date.daysOf", "math/bits.divideError", "math/bits.overflowError"], apart := false, laid := [("trivet/date.daysOf", laid_trivet_date_daysOf)] }
def CountTurnsSaid : Prop := countTurnsRow.holds Tryd.pinned (OpenSpec.ofChange countTurnsSpec)

/-- ITS FALSE NEIGHBOUR: 'it returns false'. Refute it at one input. -/
def countTurnsWrong : ChangeSpec := { name := "countTurns", fn := fun _ => fun
  | [d1, d2, d3, d4] => { results := [.lit (.bool false)], args := [d1, d2, d3, d4] }
  | _ => none }
def CountTurnsWrongFalsely : Prop := countTurnsRow.holds Tryd.pinned (OpenSpec.ofChange countTurnsWrong)

/-- 'trivetlaw05.CountMonth': WHATEVER THE INPUT: true; the input reads as it did. -/
def countMonthSpec : ChangeSpec := { name := "countMonth", fn := fun _ => fun
  | [d1, d2, d3, d4, d5] => { results := [.lit (.bool true)], args := [d1, d2, d3, d4, d5] }
  | _ => none }
def countMonthRow : OpenClaim := { program := "ytmfjnnjjoagbiaadoor", sum := "a1a6faf8de0ddcd5b71d6bf0b6b4e1cd0718ee65e34a95abe4bc34f478728f36", func := "trivet/trivetlaw05.CountMonth", spec := "countMonth", unfollowed := true, recurses := true, named := ["trivet/date.daysOf", "math/bits.divideError", "math/bits.overflowError"], apart := false, laid := [("trivet/date.daysOf", laid_trivet_date_daysOf)] }
def CountMonthSaid : Prop := countMonthRow.holds Tryd.pinned (OpenSpec.ofChange countMonthSpec)

/-- ITS FALSE NEIGHBOUR: 'it returns false'. Refute it at one input. -/
def countMonthWrong : ChangeSpec := { name := "countMonth", fn := fun _ => fun
  | [d1, d2, d3, d4, d5] => { results := [.lit (.bool false)], args := [d1, d2, d3, d4, d5] }
  | _ => none }
def CountMonthWrongFalsely : Prop := countMonthRow.holds Tryd.pinned (OpenSpec.ofChange countMonthWrong)

/- THE SECOND FORM. 'bulk': how many values and letters a reading holds, each counted each time it is reached (what is shared counts as often as it is met; a slice's spare places count too). A statement '..UptoSaid' is the law's where the arguments, and the package variables that the reading takes, are together of bulk at most 1048576: NARROWER than '..Said'. Prove '..Said' where nothing that the law and all that it calls make is longer than what came in: it says more and counts as full. Else prove '..UptoSaid'. A law counts once. -/
mutual
def uptoBulk {H : Type} : DataW H → Nat
  | .lit (.string bytes) => bytes.length + 1
  | .lit _ => 1
  | .nil => 1
  | .ptr d => uptoBulk d + 1
  | .slice elems spare => uptoBulkAll elems + uptoBulkAll spare + 1
  | .agg parts => uptoBulkAll parts + 1
  | .iface _ d => uptoBulk d + 1
  | .map entries => uptoBulkEntries entries + 1
  | .held _ => 1
def uptoBulkAll {H : Type} : List (DataW H) → Nat
  | [] => 0
  | d :: r => uptoBulk d + uptoBulkAll r
def uptoBulkEntries {H : Type} : List (Lit × DataW H) → Nat
  | [] => 0
  | x :: r => uptoBulkEntry x + uptoBulkEntries r
def uptoBulkEntry {H : Type} : Lit × DataW H → Nat
  | (.string bytes, d) => bytes.length + uptoBulk d + 1
  | (_, d) => uptoBulk d + 1
 end
def uptoSmall : (H : Type) → List (DataW H) → Bool := fun _ ds => decide (uptoBulkAll ds ≤ 1048576)
def OpenSpec.upto (s : _root_.Go.ChangeSpec) : _root_.Go.OpenSpec := { _root_.Go.OpenSpec.ofChange s with cond := some uptoSmall }

/-- 'trivetlaw05.CountBetween', WHERE WHAT IT READS IS OF BULK AT MOST 1048576: true; the input reads as it did. -/
def countBetweenUptoRow : OpenClaim := { program := "ytmfjnnjjoagbiaadoor", sum := "a1a6faf8de0ddcd5b71d6bf0b6b4e1cd0718ee65e34a95abe4bc34f478728f36", func := "trivet/trivetlaw05.CountBetween", spec := "countBetween", unfollowed := true, recurses := true, named := ["trivet/date.daysOf", "math/bits.divideError", "math/bits.overflowError"], apart := false, laid := [("trivet/date.daysOf", laid_trivet_date_daysOf)], narrowed := true }
def CountBetweenUptoSaid : Prop := countBetweenUptoRow.holds Tryd.pinned (OpenSpec.upto countBetweenSpec)

/-- 'trivetlaw05.CountAccrues', WHERE WHAT IT READS IS OF BULK AT MOST 1048576: true; the input reads as it did. -/
def countAccruesUptoRow : OpenClaim := { program := "ytmfjnnjjoagbiaadoor", sum := "a1a6faf8de0ddcd5b71d6bf0b6b4e1cd0718ee65e34a95abe4bc34f478728f36", func := "trivet/trivetlaw05.CountAccrues", spec := "countAccrues", unfollowed := true, recurses := true, named := ["trivet/date.daysOf", "math/bits.divideError", "math/bits.overflowError"], apart := false, laid := [("trivet/date.daysOf", laid_trivet_date_daysOf)], narrowed := true }
def CountAccruesUptoSaid : Prop := countAccruesUptoRow.holds Tryd.pinned (OpenSpec.upto countAccruesSpec)

/-- 'trivetlaw05.CountTurns', WHERE WHAT IT READS IS OF BULK AT MOST 1048576: true; the input reads as it did. -/
def countTurnsUptoRow : OpenClaim := { program := "ytmfjnnjjoagbiaadoor", sum := "a1a6faf8de0ddcd5b71d6bf0b6b4e1cd0718ee65e34a95abe4bc34f478728f36", func := "trivet/trivetlaw05.CountTurns", spec := "countTurns", unfollowed := true, recurses := true, named := ["trivet/date.daysOf", "math/bits.divideError", "math/bits.overflowError"], apart := false, laid := [("trivet/date.daysOf", laid_trivet_date_daysOf)], narrowed := true }
def CountTurnsUptoSaid : Prop := countTurnsUptoRow.holds Tryd.pinned (OpenSpec.upto countTurnsSpec)

/-- 'trivetlaw05.CountMonth', WHERE WHAT IT READS IS OF BULK AT MOST 1048576: true; the input reads as it did. -/
def countMonthUptoRow : OpenClaim := { program := "ytmfjnnjjoagbiaadoor", sum := "a1a6faf8de0ddcd5b71d6bf0b6b4e1cd0718ee65e34a95abe4bc34f478728f36", func := "trivet/trivetlaw05.CountMonth", spec := "countMonth", unfollowed := true, recurses := true, named := ["trivet/date.daysOf", "math/bits.divideError", "math/bits.overflowError"], apart := false, laid := [("trivet/date.daysOf", laid_trivet_date_daysOf)], narrowed := true }
def CountMonthUptoSaid : Prop := countMonthUptoRow.holds Tryd.pinned (OpenSpec.upto countMonthSpec)

end Rows
end Go.Proofs.YtmfjnnjjoagbiaaDoor
