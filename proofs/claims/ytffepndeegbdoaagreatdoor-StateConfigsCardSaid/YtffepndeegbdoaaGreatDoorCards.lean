/-
  DERIVED. GIVEN WITH THE SEED: THE CARDS: each row of YtffepndeegbdoaaGreatDoorRows.lean that lists a variable, with what it lists TIED to the program's text (the seventh form; the later family's looks); each row that meets fmt, with fmt's text TOLD by the authors' own Lean function (tested against real Go, not proved from fmt's source: count such statements apart). THE CARD IS WHAT COUNTS. Prove the row's statement (the work); the ties are given (YtffepndeegbdoaaGreatDoorTie.lean); close each card by the builder's one call (the guide's Derived/Test/ToyasCard.lean, 'card_holds'). Laid BY PROGRAM, IN A SANDBOX (cutbox-door.mjs). By AI agents, Wed Nov 11 2026. No macro, syntax, notation, axiom, sorry.
-/
import Derived.Test.YtffepndeegbdoaaGreatDoorRows
import GoSem.ClaimSeven
namespace Go.Proofs.YtffepndeegbdoaaGreatDoor
namespace Rows

/-- THE TIED CARD OF 'chancellaw14.StateConfigs'. -/
def stateConfigsCard : Claim7 := { stood := { row := stateConfigsRow, standIns := [], harness := (true, "7c80ac2fa9dabc159d9a9bf2719db3f9b9403a5f55fd6aceaf822b9b89b09e99"), looks := true }, kinds := [], alts := [], laidByText := true, laidKinds := [.data, .data, .pinned], laidTests := true, laidLooks := .later }
def StateConfigsCardSaid : Prop := Claim7.holds Tryz.pinned (.plain (OpenSpec.ofChange stateConfigsSpec)) stateConfigsCard

/-- THE TIED CARD OF 'chancellaw14.StateRight'. -/
def stateRightCard : Claim7 := { stood := { row := stateRightRow, standIns := [], harness := (true, "7c80ac2fa9dabc159d9a9bf2719db3f9b9403a5f55fd6aceaf822b9b89b09e99"), looks := true }, kinds := [], alts := [], laidByText := true, laidKinds := [.data, .data, .pinned], laidTests := true, laidLooks := .later }
def StateRightCardSaid : Prop := Claim7.holds Tryz.pinned (.plain (OpenSpec.ofChange stateRightSpec)) stateRightCard

/-- THE SECOND FORM's CARD OF 'chancellaw14.StateConfigs'. -/
def stateConfigsUptoCard : Claim7 := { stood := { row := stateConfigsUptoRow, standIns := [], harness := (true, "7c80ac2fa9dabc159d9a9bf2719db3f9b9403a5f55fd6aceaf822b9b89b09e99"), looks := true }, kinds := [], alts := [], laidByText := true, laidKinds := [.data, .data, .pinned], laidTests := true, laidLooks := .later }
def StateConfigsUptoCardSaid : Prop := Claim7.holds Tryz.pinned (.plain (OpenSpec.upto stateConfigsSpec)) stateConfigsUptoCard

/-- THE SECOND FORM's CARD OF 'chancellaw14.StateRight'. -/
def stateRightUptoCard : Claim7 := { stood := { row := stateRightUptoRow, standIns := [], harness := (true, "7c80ac2fa9dabc159d9a9bf2719db3f9b9403a5f55fd6aceaf822b9b89b09e99"), looks := true }, kinds := [], alts := [], laidByText := true, laidKinds := [.data, .data, .pinned], laidTests := true, laidLooks := .later }
def StateRightUptoCardSaid : Prop := Claim7.holds Tryz.pinned (.plain (OpenSpec.upto stateRightSpec)) stateRightUptoCard
end Rows
end Go.Proofs.YtffepndeegbdoaaGreatDoor
