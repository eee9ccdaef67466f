/-
  DERIVED. GIVEN WITH THE SEED: THE CARDS: each row of YtccaiippoephbaaGreatDoorRows.lean that lists a variable, with what it lists TIED to the program's text (the seventh form; the later family's looks); each row that meets fmt, with fmt's text TOLD by the authors' own Lean function (tested against real Go, not proved from fmt's source: count such statements apart). THE CARD IS WHAT COUNTS. Prove the row's statement (the work); the ties are given (YtccaiippoephbaaGreatDoorTie.lean); close each card by the builder's one call (the guide's Derived/Test/ToyasCard.lean, 'card_holds'). Laid BY PROGRAM, IN A SANDBOX (cutbox-door.mjs). By AI agents, Wed Nov 11 2026. No macro, syntax, notation, axiom, sorry.
-/
import Derived.Test.YtccaiippoephbaaGreatDoorRows
import GoSem.ClaimSeven
namespace Go.Proofs.YtccaiippoephbaaGreatDoor
namespace Rows

/-- THE TIED CARD OF 'chancellaw14.StateRight'. -/
def stateRightCard : Claim7 := { stood := { row := stateRightRow, standIns := [], harness := (true, "fe37b6e64a9811afd3c77a06bbcd1c3dddadc86ff6b411315fa5d39c1689e0ab"), looks := true }, kinds := [], alts := [], laidByText := true, laidKinds := [.data, .data, .pinned], laidTests := true, laidLooks := .later }
def StateRightCardSaid : Prop := Claim7.holds Tryz.pinned (.plain (OpenSpec.ofChange stateRightSpec)) stateRightCard

/-- THE SECOND FORM's CARD OF 'chancellaw14.StateRight'. -/
def stateRightUptoCard : Claim7 := { stood := { row := stateRightUptoRow, standIns := [], harness := (true, "fe37b6e64a9811afd3c77a06bbcd1c3dddadc86ff6b411315fa5d39c1689e0ab"), looks := true }, kinds := [], alts := [], laidByText := true, laidKinds := [.data, .data, .pinned], laidTests := true, laidLooks := .later }
def StateRightUptoCardSaid : Prop := Claim7.holds Tryz.pinned (.plain (OpenSpec.upto stateRightSpec)) stateRightUptoCard
end Rows
end Go.Proofs.YtccaiippoephbaaGreatDoor
