/-
  DERIVED. GIVEN WITH THE SEED: THE CARDS: each row of YtengmiolcfgdiaaGreatDoorRows.lean that lists a variable, with what it lists TIED to the program's text (the seventh form; the later family's looks); each row that meets fmt, with fmt's text TOLD by the authors' own Lean function (tested against real Go, not proved from fmt's source: count such statements apart). THE CARD IS WHAT COUNTS. Prove the row's statement (the work); the ties are given (YtengmiolcfgdiaaGreatDoorTie.lean); close each card by the builder's one call (the guide's Derived/Test/ToyasCard.lean, 'card_holds'). Laid BY PROGRAM, IN A SANDBOX (cutbox-door.mjs). By AI agents, Wed Nov 11 2026. No macro, syntax, notation, axiom, sorry.
-/
import Derived.Test.YtengmiolcfgdiaaGreatDoorRows
import GoSem.ClaimSeven
namespace Go.Proofs.YtengmiolcfgdiaaGreatDoor
namespace Rows

/-- THE TIED CARD OF 'chancellaw05.SegmentDelete'. -/
def segmentDeleteCard : Claim7 := { stood := { row := segmentDeleteRow, standIns := [], harness := (true, "56b9fb6a26309648a6a1773ca4a4eb97c57128ee4d310d8c106089d6359321a7"), looks := false }, kinds := [], alts := [], laidByText := true, laidKinds := [.data, .pinned], laidTests := true, laidLooks := .later }
def SegmentDeleteCardSaid : Prop := Claim7.holds Tryz.pinned (.plain (OpenSpec.ofChange segmentDeleteSpec)) segmentDeleteCard

/-- THE TIED CARD OF 'chancellaw05.SegmentUndoes'. -/
def segmentUndoesCard : Claim7 := { stood := { row := segmentUndoesRow, standIns := [], harness := (true, "56b9fb6a26309648a6a1773ca4a4eb97c57128ee4d310d8c106089d6359321a7"), looks := false }, kinds := [], alts := [], laidByText := true, laidKinds := [.data, .pinned], laidTests := true, laidLooks := .later }
def SegmentUndoesCardSaid : Prop := Claim7.holds Tryz.pinned (.plain (OpenSpec.ofChange segmentUndoesSpec)) segmentUndoesCard

/-- THE TIED CARD OF 'chancellaw05.SegmentTakenBack'. -/
def segmentTakenBackCard : Claim7 := { stood := { row := segmentTakenBackRow, standIns := [], harness := (true, "56b9fb6a26309648a6a1773ca4a4eb97c57128ee4d310d8c106089d6359321a7"), looks := false }, kinds := [], alts := [], laidByText := true, laidKinds := [.data, .pinned], laidTests := true, laidLooks := .later }
def SegmentTakenBackCardSaid : Prop := Claim7.holds Tryz.pinned (.plain (OpenSpec.ofChange segmentTakenBackSpec)) segmentTakenBackCard

/-- THE SECOND FORM's CARD OF 'chancellaw05.SegmentDelete'. -/
def segmentDeleteUptoCard : Claim7 := { stood := { row := segmentDeleteUptoRow, standIns := [], harness := (true, "56b9fb6a26309648a6a1773ca4a4eb97c57128ee4d310d8c106089d6359321a7"), looks := false }, kinds := [], alts := [], laidByText := true, laidKinds := [.data, .pinned], laidTests := true, laidLooks := .later }
def SegmentDeleteUptoCardSaid : Prop := Claim7.holds Tryz.pinned (.plain (OpenSpec.upto segmentDeleteSpec)) segmentDeleteUptoCard

/-- THE SECOND FORM's CARD OF 'chancellaw05.SegmentUndoes'. -/
def segmentUndoesUptoCard : Claim7 := { stood := { row := segmentUndoesUptoRow, standIns := [], harness := (true, "56b9fb6a26309648a6a1773ca4a4eb97c57128ee4d310d8c106089d6359321a7"), looks := false }, kinds := [], alts := [], laidByText := true, laidKinds := [.data, .pinned], laidTests := true, laidLooks := .later }
def SegmentUndoesUptoCardSaid : Prop := Claim7.holds Tryz.pinned (.plain (OpenSpec.upto segmentUndoesSpec)) segmentUndoesUptoCard

/-- THE SECOND FORM's CARD OF 'chancellaw05.SegmentTakenBack'. -/
def segmentTakenBackUptoCard : Claim7 := { stood := { row := segmentTakenBackUptoRow, standIns := [], harness := (true, "56b9fb6a26309648a6a1773ca4a4eb97c57128ee4d310d8c106089d6359321a7"), looks := false }, kinds := [], alts := [], laidByText := true, laidKinds := [.data, .pinned], laidTests := true, laidLooks := .later }
def SegmentTakenBackUptoCardSaid : Prop := Claim7.holds Tryz.pinned (.plain (OpenSpec.upto segmentTakenBackSpec)) segmentTakenBackUptoCard
end Rows
end Go.Proofs.YtengmiolcfgdiaaGreatDoor
