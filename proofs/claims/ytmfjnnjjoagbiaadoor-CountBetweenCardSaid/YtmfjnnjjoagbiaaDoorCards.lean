/-
  DERIVED. GIVEN WITH THE SEED: THE CARDS: each row of YtmfjnnjjoagbiaaDoorRows.lean that lists a variable, with what it lists TIED to the program's text (the seventh form; the later family's looks); each row that meets fmt, with fmt's text TOLD by the authors' own Lean function (tested against real Go, not proved from fmt's source: count such statements apart). THE CARD IS WHAT COUNTS. Prove the row's statement (the work); the ties are given (YtmfjnnjjoagbiaaDoorTie.lean); close each card by the builder's one call (the guide's Derived/Test/ToyasCard.lean, 'card_holds'). Laid BY PROGRAM, IN A SANDBOX (cutbox-door.mjs). By AI agents, Wed Nov 11 2026. No macro, syntax, notation, axiom, sorry.
-/
import Derived.Test.YtmfjnnjjoagbiaaDoorRows
import GoSem.ClaimSeven
namespace Go.Proofs.YtmfjnnjjoagbiaaDoor
namespace Rows

/-- THE TIED CARD OF 'trivetlaw05.CountBetween'. -/
def countBetweenCard : Claim7 := { stood := { row := countBetweenRow, standIns := [], harness := (true, "90b6f7737a3486f0a81500a1c01649fd4f30cbc26dbac2875f5342f2977de4a2"), looks := true }, kinds := [], alts := [], laidByText := true, laidKinds := [.data], laidTests := true, laidLooks := .later }
def CountBetweenCardSaid : Prop := Claim7.holds Tryd.pinned (.plain (OpenSpec.ofChange countBetweenSpec)) countBetweenCard

/-- THE TIED CARD OF 'trivetlaw05.CountAccrues'. -/
def countAccruesCard : Claim7 := { stood := { row := countAccruesRow, standIns := [], harness := (true, "90b6f7737a3486f0a81500a1c01649fd4f30cbc26dbac2875f5342f2977de4a2"), looks := true }, kinds := [], alts := [], laidByText := true, laidKinds := [.data], laidTests := true, laidLooks := .later }
def CountAccruesCardSaid : Prop := Claim7.holds Tryd.pinned (.plain (OpenSpec.ofChange countAccruesSpec)) countAccruesCard

/-- THE TIED CARD OF 'trivetlaw05.CountTurns'. -/
def countTurnsCard : Claim7 := { stood := { row := countTurnsRow, standIns := [], harness := (true, "90b6f7737a3486f0a81500a1c01649fd4f30cbc26dbac2875f5342f2977de4a2"), looks := true }, kinds := [], alts := [], laidByText := true, laidKinds := [.data], laidTests := true, laidLooks := .later }
def CountTurnsCardSaid : Prop := Claim7.holds Tryd.pinned (.plain (OpenSpec.ofChange countTurnsSpec)) countTurnsCard

/-- THE TIED CARD OF 'trivetlaw05.CountMonth'. -/
def countMonthCard : Claim7 := { stood := { row := countMonthRow, standIns := [], harness := (true, "90b6f7737a3486f0a81500a1c01649fd4f30cbc26dbac2875f5342f2977de4a2"), looks := true }, kinds := [], alts := [], laidByText := true, laidKinds := [.data], laidTests := true, laidLooks := .later }
def CountMonthCardSaid : Prop := Claim7.holds Tryd.pinned (.plain (OpenSpec.ofChange countMonthSpec)) countMonthCard

/-- THE SECOND FORM's CARD OF 'trivetlaw05.CountBetween'. -/
def countBetweenUptoCard : Claim7 := { stood := { row := countBetweenUptoRow, standIns := [], harness := (true, "90b6f7737a3486f0a81500a1c01649fd4f30cbc26dbac2875f5342f2977de4a2"), looks := true }, kinds := [], alts := [], laidByText := true, laidKinds := [.data], laidTests := true, laidLooks := .later }
def CountBetweenUptoCardSaid : Prop := Claim7.holds Tryd.pinned (.plain (OpenSpec.upto countBetweenSpec)) countBetweenUptoCard

/-- THE SECOND FORM's CARD OF 'trivetlaw05.CountAccrues'. -/
def countAccruesUptoCard : Claim7 := { stood := { row := countAccruesUptoRow, standIns := [], harness := (true, "90b6f7737a3486f0a81500a1c01649fd4f30cbc26dbac2875f5342f2977de4a2"), looks := true }, kinds := [], alts := [], laidByText := true, laidKinds := [.data], laidTests := true, laidLooks := .later }
def CountAccruesUptoCardSaid : Prop := Claim7.holds Tryd.pinned (.plain (OpenSpec.upto countAccruesSpec)) countAccruesUptoCard

/-- THE SECOND FORM's CARD OF 'trivetlaw05.CountTurns'. -/
def countTurnsUptoCard : Claim7 := { stood := { row := countTurnsUptoRow, standIns := [], harness := (true, "90b6f7737a3486f0a81500a1c01649fd4f30cbc26dbac2875f5342f2977de4a2"), looks := true }, kinds := [], alts := [], laidByText := true, laidKinds := [.data], laidTests := true, laidLooks := .later }
def CountTurnsUptoCardSaid : Prop := Claim7.holds Tryd.pinned (.plain (OpenSpec.upto countTurnsSpec)) countTurnsUptoCard

/-- THE SECOND FORM's CARD OF 'trivetlaw05.CountMonth'. -/
def countMonthUptoCard : Claim7 := { stood := { row := countMonthUptoRow, standIns := [], harness := (true, "90b6f7737a3486f0a81500a1c01649fd4f30cbc26dbac2875f5342f2977de4a2"), looks := true }, kinds := [], alts := [], laidByText := true, laidKinds := [.data], laidTests := true, laidLooks := .later }
def CountMonthUptoCardSaid : Prop := Claim7.holds Tryd.pinned (.plain (OpenSpec.upto countMonthSpec)) countMonthUptoCard
end Rows
end Go.Proofs.YtmfjnnjjoagbiaaDoor
