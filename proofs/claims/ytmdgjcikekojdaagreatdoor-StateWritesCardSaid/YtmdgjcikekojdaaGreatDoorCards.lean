/-
  DERIVED. GIVEN WITH THE SEED: THE CARDS: each row of YtmdgjcikekojdaaGreatDoorRows.lean that lists a variable, with what it lists TIED to the program's text (the seventh form; the later family's looks); each row that meets fmt, with fmt's text TOLD by the authors' own Lean function (tested against real Go, not proved from fmt's source: count such statements apart). THE CARD IS WHAT COUNTS. Prove the row's statement (the work); the ties are given (YtmdgjcikekojdaaGreatDoorTie.lean); close each card by the builder's one call (the guide's Derived/Test/ToyasCard.lean, 'card_holds'). Laid BY PROGRAM, IN A SANDBOX (cutbox-door.mjs). By AI agents, Wed Nov 11 2026. No macro, syntax, notation, axiom, sorry.
-/
import Derived.Test.YtmdgjcikekojdaaGreatDoorRows
import GoSem.ClaimSeven
namespace Go.Proofs.YtmdgjcikekojdaaGreatDoor
namespace Rows

/-- THE TIED CARD OF 'chancellaw14.StateWrites'. -/
def stateWritesCard : Claim7 := { stood := { row := stateWritesRow, standIns := [], harness := (true, "516ef7e441cc5df30bbbe4b0b2301b2418a16d3f22d8628f4ed7512b707f21d6"), looks := true }, kinds := [], alts := [], laidByText := true, laidKinds := [.data], laidTests := true, laidLooks := .later }
def StateWritesCardSaid : Prop := Claim7.holds Tryz.pinned (.plain (OpenSpec.ofChange stateWritesSpec)) stateWritesCard

/-- THE SECOND FORM's CARD OF 'chancellaw14.StateWrites'. -/
def stateWritesUptoCard : Claim7 := { stood := { row := stateWritesUptoRow, standIns := [], harness := (true, "516ef7e441cc5df30bbbe4b0b2301b2418a16d3f22d8628f4ed7512b707f21d6"), looks := true }, kinds := [], alts := [], laidByText := true, laidKinds := [.data], laidTests := true, laidLooks := .later }
def StateWritesUptoCardSaid : Prop := Claim7.holds Tryz.pinned (.plain (OpenSpec.upto stateWritesSpec)) stateWritesUptoCard
end Rows
end Go.Proofs.YtmdgjcikekojdaaGreatDoor
