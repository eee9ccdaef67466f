/-
  DERIVED. GIVEN WITH THE SEED: THE CARDS: each row of YtkgdfclpogiemaaGreatDoorRows.lean that lists a variable, with what it lists TIED to the program's text (the seventh form; the later family's looks); each row that meets fmt, with fmt's text TOLD by the authors' own Lean function (tested against real Go, not proved from fmt's source: count such statements apart). THE CARD IS WHAT COUNTS. Prove the row's statement (the work); the ties are given (YtkgdfclpogiemaaGreatDoorTie.lean); close each card by the builder's one call (the guide's Derived/Test/ToyasCard.lean, 'card_holds'). Laid BY PROGRAM, IN A SANDBOX (cutbox-door.mjs). By AI agents, Wed Nov 11 2026. No macro, syntax, notation, axiom, sorry.
-/
import Derived.Test.YtkgdfclpogiemaaGreatDoorRows
import GoSem.ClaimSeven
namespace Go.Proofs.YtkgdfclpogiemaaGreatDoor
namespace Rows

/-- THE TIED CARD OF 'chancellaw05.SegmentDelete'. -/
def segmentDeleteCard : Claim7 := { stood := { row := segmentDeleteRow, standIns := [], harness := (true, "bbb963526ea8cba343adcc6cb74318256d91e4935cd9e7d053e7f38b47c0df35"), looks := false }, kinds := [], alts := [], laidByText := true, laidKinds := [.data, .pinned], laidTests := true, laidLooks := .later }
def SegmentDeleteCardSaid : Prop := Claim7.holds Tryz.pinned (.plain (OpenSpec.ofChange segmentDeleteSpec)) segmentDeleteCard

/-- THE TIED CARD OF 'chancellaw05.SegmentUndoes'. -/
def segmentUndoesCard : Claim7 := { stood := { row := segmentUndoesRow, standIns := [], harness := (true, "bbb963526ea8cba343adcc6cb74318256d91e4935cd9e7d053e7f38b47c0df35"), looks := false }, kinds := [], alts := [], laidByText := true, laidKinds := [.data, .pinned], laidTests := true, laidLooks := .later }
def SegmentUndoesCardSaid : Prop := Claim7.holds Tryz.pinned (.plain (OpenSpec.ofChange segmentUndoesSpec)) segmentUndoesCard

/-- THE SECOND FORM's CARD OF 'chancellaw05.SegmentDelete'. -/
def segmentDeleteUptoCard : Claim7 := { stood := { row := segmentDeleteUptoRow, standIns := [], harness := (true, "bbb963526ea8cba343adcc6cb74318256d91e4935cd9e7d053e7f38b47c0df35"), looks := false }, kinds := [], alts := [], laidByText := true, laidKinds := [.data, .pinned], laidTests := true, laidLooks := .later }
def SegmentDeleteUptoCardSaid : Prop := Claim7.holds Tryz.pinned (.plain (OpenSpec.upto segmentDeleteSpec)) segmentDeleteUptoCard

/-- THE SECOND FORM's CARD OF 'chancellaw05.SegmentUndoes'. -/
def segmentUndoesUptoCard : Claim7 := { stood := { row := segmentUndoesUptoRow, standIns := [], harness := (true, "bbb963526ea8cba343adcc6cb74318256d91e4935cd9e7d053e7f38b47c0df35"), looks := false }, kinds := [], alts := [], laidByText := true, laidKinds := [.data, .pinned], laidTests := true, laidLooks := .later }
def SegmentUndoesUptoCardSaid : Prop := Claim7.holds Tryz.pinned (.plain (OpenSpec.upto segmentUndoesSpec)) segmentUndoesUptoCard
end Rows
end Go.Proofs.YtkgdfclpogiemaaGreatDoor
