/-
  DERIVED. GIVEN WITH THE SEED: THE CARDS: each row of YthegkookfpnbeaaGreatDoorRows.lean that lists a variable, with what it lists TIED to the program's text (the seventh form; the later family's looks); each row that meets fmt, with fmt's text TOLD by the authors' own Lean function (tested against real Go, not proved from fmt's source: count such statements apart). THE CARD IS WHAT COUNTS. Prove the row's statement (the work); the ties are given (YthegkookfpnbeaaGreatDoorTie.lean); close each card by the builder's one call (the guide's Derived/Test/ToyasCard.lean, 'card_holds'). Laid BY PROGRAM, IN A SANDBOX (cutbox-door.mjs). By AI agents, Wed Nov 11 2026. No macro, syntax, notation, axiom, sorry.
-/
import Derived.Test.YthegkookfpnbeaaGreatDoorRows
import GoSem.ClaimSeven
namespace Go.Proofs.YthegkookfpnbeaaGreatDoor
namespace Rows

/-- THE TIED CARD OF 'chancellaw14.StateConfigs'. -/
def stateConfigsCard : Claim7 := { stood := { row := stateConfigsRow, standIns := [], harness := (true, "b758a4fad40996e4e74f7e585a7cbf0b6b3e3e6f1c365efe2027dbb6f1d612c0"), looks := true }, kinds := [], alts := [], laidByText := true, laidKinds := [.data, .data, .pinned], laidTests := true, laidLooks := .later }
def StateConfigsCardSaid : Prop := Claim7.holds Tryz.pinned (.plain (OpenSpec.ofChange stateConfigsSpec)) stateConfigsCard

/-- THE TIED CARD OF 'chancellaw14.StateRight'. -/
def stateRightCard : Claim7 := { stood := { row := stateRightRow, standIns := [], harness := (true, "b758a4fad40996e4e74f7e585a7cbf0b6b3e3e6f1c365efe2027dbb6f1d612c0"), looks := true }, kinds := [], alts := [], laidByText := true, laidKinds := [.data, .data, .pinned], laidTests := true, laidLooks := .later }
def StateRightCardSaid : Prop := Claim7.holds Tryz.pinned (.plain (OpenSpec.ofChange stateRightSpec)) stateRightCard

/-- THE TIED CARD OF 'chancellaw14.StateWrites'. -/
def stateWritesCard : Claim7 := { stood := { row := stateWritesRow, standIns := [], harness := (true, "b758a4fad40996e4e74f7e585a7cbf0b6b3e3e6f1c365efe2027dbb6f1d612c0"), looks := true }, kinds := [], alts := [], laidByText := true, laidKinds := [.data], laidTests := true, laidLooks := .later }
def StateWritesCardSaid : Prop := Claim7.holds Tryz.pinned (.plain (OpenSpec.ofChange stateWritesSpec)) stateWritesCard

/-- THE TIED CARD OF 'chancellaw14.StateReads'. -/
def stateReadsCard : Claim7 := { stood := { row := stateReadsRow, standIns := [], harness := (true, "b758a4fad40996e4e74f7e585a7cbf0b6b3e3e6f1c365efe2027dbb6f1d612c0"), looks := true }, kinds := [], alts := [], laidByText := true, laidKinds := [.data], laidTests := true, laidLooks := .later }
def StateReadsCardSaid : Prop := Claim7.holds Tryz.pinned (.plain (OpenSpec.ofChange stateReadsSpec)) stateReadsCard

/-- THE SECOND FORM's CARD OF 'chancellaw14.StateConfigs'. -/
def stateConfigsUptoCard : Claim7 := { stood := { row := stateConfigsUptoRow, standIns := [], harness := (true, "b758a4fad40996e4e74f7e585a7cbf0b6b3e3e6f1c365efe2027dbb6f1d612c0"), looks := true }, kinds := [], alts := [], laidByText := true, laidKinds := [.data, .data, .pinned], laidTests := true, laidLooks := .later }
def StateConfigsUptoCardSaid : Prop := Claim7.holds Tryz.pinned (.plain (OpenSpec.upto stateConfigsSpec)) stateConfigsUptoCard

/-- THE SECOND FORM's CARD OF 'chancellaw14.StateRight'. -/
def stateRightUptoCard : Claim7 := { stood := { row := stateRightUptoRow, standIns := [], harness := (true, "b758a4fad40996e4e74f7e585a7cbf0b6b3e3e6f1c365efe2027dbb6f1d612c0"), looks := true }, kinds := [], alts := [], laidByText := true, laidKinds := [.data, .data, .pinned], laidTests := true, laidLooks := .later }
def StateRightUptoCardSaid : Prop := Claim7.holds Tryz.pinned (.plain (OpenSpec.upto stateRightSpec)) stateRightUptoCard

/-- THE SECOND FORM's CARD OF 'chancellaw14.StateWrites'. -/
def stateWritesUptoCard : Claim7 := { stood := { row := stateWritesUptoRow, standIns := [], harness := (true, "b758a4fad40996e4e74f7e585a7cbf0b6b3e3e6f1c365efe2027dbb6f1d612c0"), looks := true }, kinds := [], alts := [], laidByText := true, laidKinds := [.data], laidTests := true, laidLooks := .later }
def StateWritesUptoCardSaid : Prop := Claim7.holds Tryz.pinned (.plain (OpenSpec.upto stateWritesSpec)) stateWritesUptoCard

/-- THE SECOND FORM's CARD OF 'chancellaw14.StateReads'. -/
def stateReadsUptoCard : Claim7 := { stood := { row := stateReadsUptoRow, standIns := [], harness := (true, "b758a4fad40996e4e74f7e585a7cbf0b6b3e3e6f1c365efe2027dbb6f1d612c0"), looks := true }, kinds := [], alts := [], laidByText := true, laidKinds := [.data], laidTests := true, laidLooks := .later }
def StateReadsUptoCardSaid : Prop := Claim7.holds Tryz.pinned (.plain (OpenSpec.upto stateReadsSpec)) stateReadsUptoCard
end Rows
end Go.Proofs.YthegkookfpnbeaaGreatDoor
