/-
  DERIVED. GIVEN WITH THE SEED: THE CARDS: each row of YtoejjicgnhndfaaDoorRows.lean that lists a variable, with what it lists TIED to the program's text (the seventh form; the later family's looks); each row that meets fmt, with fmt's text TOLD by the authors' own Lean function (tested against real Go, not proved from fmt's source: count such statements apart). THE CARD IS WHAT COUNTS. Prove the row's statement (the work); the ties are given (YtoejjicgnhndfaaDoorTie.lean); close each card by the builder's one call (the guide's Derived/Test/ToyasCard.lean, 'card_holds'). Laid BY PROGRAM, IN A SANDBOX (cutbox-door.mjs). By AI agents, Wed Nov 11 2026. No macro, syntax, notation, axiom, sorry.
-/
import Derived.Test.YtoejjicgnhndfaaDoorRows
import GoSem.ClaimSeven
namespace Go.Proofs.YtoejjicgnhndfaaDoor
namespace Rows

/-- THE TIED CARD OF 'chancellaw05.SegmentBack'. -/
def segmentBackCard : Claim7 := { stood := { row := segmentBackRow, standIns := [], harness := (true, "3a977cad1127ddb1e8b4d38ffec3cb5556e3c2924b6afded30eded5dffa0be69"), looks := true }, kinds := [], alts := [], laidByText := true, laidKinds := [.data, .pinned], laidTests := true, laidLooks := .later }
def SegmentBackCardSaid : Prop := Claim7.holds Tryd.pinned (.plain (OpenSpec.ofChange segmentBackSpec)) segmentBackCard

/-- THE TIED CARD OF 'chancellaw06.SheetLoads'. -/
def sheetLoadsCard : Claim7 := { stood := { row := sheetLoadsRow, standIns := [], harness := (true, "3a977cad1127ddb1e8b4d38ffec3cb5556e3c2924b6afded30eded5dffa0be69"), looks := true }, kinds := [], alts := [], laidByText := true, laidKinds := [.data, .pinned], laidTests := true, laidLooks := .later }
def SheetLoadsCardSaid : Prop := Claim7.holds Tryd.pinned (.plain (OpenSpec.ofChange sheetLoadsSpec)) sheetLoadsCard

/-- THE TIED CARD OF 'chancellaw06.SheetFinds'. -/
def sheetFindsCard : Claim7 := { stood := { row := sheetFindsRow, standIns := [], harness := (true, "3a977cad1127ddb1e8b4d38ffec3cb5556e3c2924b6afded30eded5dffa0be69"), looks := true }, kinds := [], alts := [], laidByText := true, laidKinds := [.data, .pinned], laidTests := true, laidLooks := .later }
def SheetFindsCardSaid : Prop := Claim7.holds Tryd.pinned (.plain (OpenSpec.ofChange sheetFindsSpec)) sheetFindsCard

/-- THE TIED CARD OF 'chancellaw06.SheetAfter'. -/
def sheetAfterCard : Claim7 := { stood := { row := sheetAfterRow, standIns := [], harness := (true, "3a977cad1127ddb1e8b4d38ffec3cb5556e3c2924b6afded30eded5dffa0be69"), looks := true }, kinds := [], alts := [], laidByText := true, laidKinds := [.data, .pinned], laidTests := true, laidLooks := .later }
def SheetAfterCardSaid : Prop := Claim7.holds Tryd.pinned (.plain (OpenSpec.ofChange sheetAfterSpec)) sheetAfterCard

/-- THE TIED CARD OF 'chancellaw06.SheetForks'. -/
def sheetForksCard : Claim7 := { stood := { row := sheetForksRow, standIns := [], harness := (true, "3a977cad1127ddb1e8b4d38ffec3cb5556e3c2924b6afded30eded5dffa0be69"), looks := true }, kinds := [], alts := [], laidByText := true, laidKinds := [.data, .pinned], laidTests := true, laidLooks := .later }
def SheetForksCardSaid : Prop := Claim7.holds Tryd.pinned (.plain (OpenSpec.ofChange sheetForksSpec)) sheetForksCard

/-- THE TIED CARD OF 'chancellaw07.UndoLoads'. -/
def undoLoadsCard : Claim7 := { stood := { row := undoLoadsRow, standIns := [], harness := (true, "3a977cad1127ddb1e8b4d38ffec3cb5556e3c2924b6afded30eded5dffa0be69"), looks := true }, kinds := [], alts := [], laidByText := true, laidKinds := [.data, .pinned], laidTests := true, laidLooks := .later }
def UndoLoadsCardSaid : Prop := Claim7.holds Tryd.pinned (.plain (OpenSpec.ofChange undoLoadsSpec)) undoLoadsCard

/-- THE TIED CARD OF 'chancellaw07.UndoPushes'. -/
def undoPushesCard : Claim7 := { stood := { row := undoPushesRow, standIns := [], harness := (true, "3a977cad1127ddb1e8b4d38ffec3cb5556e3c2924b6afded30eded5dffa0be69"), looks := true }, kinds := [], alts := [], laidByText := true, laidKinds := [.data, .pinned], laidTests := true, laidLooks := .later }
def UndoPushesCardSaid : Prop := Claim7.holds Tryd.pinned (.plain (OpenSpec.ofChange undoPushesSpec)) undoPushesCard

/-- THE TIED CARD OF 'chancellaw07.UndoFinds'. -/
def undoFindsCard : Claim7 := { stood := { row := undoFindsRow, standIns := [], harness := (true, "3a977cad1127ddb1e8b4d38ffec3cb5556e3c2924b6afded30eded5dffa0be69"), looks := true }, kinds := [], alts := [], laidByText := true, laidKinds := [.data, .pinned], laidTests := true, laidLooks := .later }
def UndoFindsCardSaid : Prop := Claim7.holds Tryd.pinned (.plain (OpenSpec.ofChange undoFindsSpec)) undoFindsCard

/-- THE TIED CARD OF 'chancellaw07.UndoThings'. -/
def undoThingsCard : Claim7 := { stood := { row := undoThingsRow, standIns := [], harness := (true, "3a977cad1127ddb1e8b4d38ffec3cb5556e3c2924b6afded30eded5dffa0be69"), looks := true }, kinds := [], alts := [], laidByText := true, laidKinds := [.data, .pinned], laidTests := true, laidLooks := .later }
def UndoThingsCardSaid : Prop := Claim7.holds Tryd.pinned (.plain (OpenSpec.ofChange undoThingsSpec)) undoThingsCard

/-- THE TIED CARD OF 'chancellaw07.UndoDepth'. -/
def undoDepthCard : Claim7 := { stood := { row := undoDepthRow, standIns := [], harness := (true, "3a977cad1127ddb1e8b4d38ffec3cb5556e3c2924b6afded30eded5dffa0be69"), looks := true }, kinds := [], alts := [], laidByText := true, laidKinds := [.data, .pinned], laidTests := true, laidLooks := .later }
def UndoDepthCardSaid : Prop := Claim7.holds Tryd.pinned (.plain (OpenSpec.ofChange undoDepthSpec)) undoDepthCard

/-- THE SECOND FORM's CARD OF 'chancellaw05.SegmentBack'. -/
def segmentBackUptoCard : Claim7 := { stood := { row := segmentBackUptoRow, standIns := [], harness := (true, "3a977cad1127ddb1e8b4d38ffec3cb5556e3c2924b6afded30eded5dffa0be69"), looks := true }, kinds := [], alts := [], laidByText := true, laidKinds := [.data, .pinned], laidTests := true, laidLooks := .later }
def SegmentBackUptoCardSaid : Prop := Claim7.holds Tryd.pinned (.plain (OpenSpec.upto segmentBackSpec)) segmentBackUptoCard

/-- THE SECOND FORM's CARD OF 'chancellaw06.SheetLoads'. -/
def sheetLoadsUptoCard : Claim7 := { stood := { row := sheetLoadsUptoRow, standIns := [], harness := (true, "3a977cad1127ddb1e8b4d38ffec3cb5556e3c2924b6afded30eded5dffa0be69"), looks := true }, kinds := [], alts := [], laidByText := true, laidKinds := [.data, .pinned], laidTests := true, laidLooks := .later }
def SheetLoadsUptoCardSaid : Prop := Claim7.holds Tryd.pinned (.plain (OpenSpec.upto sheetLoadsSpec)) sheetLoadsUptoCard

/-- THE SECOND FORM's CARD OF 'chancellaw06.SheetFinds'. -/
def sheetFindsUptoCard : Claim7 := { stood := { row := sheetFindsUptoRow, standIns := [], harness := (true, "3a977cad1127ddb1e8b4d38ffec3cb5556e3c2924b6afded30eded5dffa0be69"), looks := true }, kinds := [], alts := [], laidByText := true, laidKinds := [.data, .pinned], laidTests := true, laidLooks := .later }
def SheetFindsUptoCardSaid : Prop := Claim7.holds Tryd.pinned (.plain (OpenSpec.upto sheetFindsSpec)) sheetFindsUptoCard

/-- THE SECOND FORM's CARD OF 'chancellaw06.SheetAfter'. -/
def sheetAfterUptoCard : Claim7 := { stood := { row := sheetAfterUptoRow, standIns := [], harness := (true, "3a977cad1127ddb1e8b4d38ffec3cb5556e3c2924b6afded30eded5dffa0be69"), looks := true }, kinds := [], alts := [], laidByText := true, laidKinds := [.data, .pinned], laidTests := true, laidLooks := .later }
def SheetAfterUptoCardSaid : Prop := Claim7.holds Tryd.pinned (.plain (OpenSpec.upto sheetAfterSpec)) sheetAfterUptoCard

/-- THE SECOND FORM's CARD OF 'chancellaw06.SheetForks'. -/
def sheetForksUptoCard : Claim7 := { stood := { row := sheetForksUptoRow, standIns := [], harness := (true, "3a977cad1127ddb1e8b4d38ffec3cb5556e3c2924b6afded30eded5dffa0be69"), looks := true }, kinds := [], alts := [], laidByText := true, laidKinds := [.data, .pinned], laidTests := true, laidLooks := .later }
def SheetForksUptoCardSaid : Prop := Claim7.holds Tryd.pinned (.plain (OpenSpec.upto sheetForksSpec)) sheetForksUptoCard

/-- THE SECOND FORM's CARD OF 'chancellaw07.UndoLoads'. -/
def undoLoadsUptoCard : Claim7 := { stood := { row := undoLoadsUptoRow, standIns := [], harness := (true, "3a977cad1127ddb1e8b4d38ffec3cb5556e3c2924b6afded30eded5dffa0be69"), looks := true }, kinds := [], alts := [], laidByText := true, laidKinds := [.data, .pinned], laidTests := true, laidLooks := .later }
def UndoLoadsUptoCardSaid : Prop := Claim7.holds Tryd.pinned (.plain (OpenSpec.upto undoLoadsSpec)) undoLoadsUptoCard

/-- THE SECOND FORM's CARD OF 'chancellaw07.UndoPushes'. -/
def undoPushesUptoCard : Claim7 := { stood := { row := undoPushesUptoRow, standIns := [], harness := (true, "3a977cad1127ddb1e8b4d38ffec3cb5556e3c2924b6afded30eded5dffa0be69"), looks := true }, kinds := [], alts := [], laidByText := true, laidKinds := [.data, .pinned], laidTests := true, laidLooks := .later }
def UndoPushesUptoCardSaid : Prop := Claim7.holds Tryd.pinned (.plain (OpenSpec.upto undoPushesSpec)) undoPushesUptoCard

/-- THE SECOND FORM's CARD OF 'chancellaw07.UndoFinds'. -/
def undoFindsUptoCard : Claim7 := { stood := { row := undoFindsUptoRow, standIns := [], harness := (true, "3a977cad1127ddb1e8b4d38ffec3cb5556e3c2924b6afded30eded5dffa0be69"), looks := true }, kinds := [], alts := [], laidByText := true, laidKinds := [.data, .pinned], laidTests := true, laidLooks := .later }
def UndoFindsUptoCardSaid : Prop := Claim7.holds Tryd.pinned (.plain (OpenSpec.upto undoFindsSpec)) undoFindsUptoCard

/-- THE SECOND FORM's CARD OF 'chancellaw07.UndoThings'. -/
def undoThingsUptoCard : Claim7 := { stood := { row := undoThingsUptoRow, standIns := [], harness := (true, "3a977cad1127ddb1e8b4d38ffec3cb5556e3c2924b6afded30eded5dffa0be69"), looks := true }, kinds := [], alts := [], laidByText := true, laidKinds := [.data, .pinned], laidTests := true, laidLooks := .later }
def UndoThingsUptoCardSaid : Prop := Claim7.holds Tryd.pinned (.plain (OpenSpec.upto undoThingsSpec)) undoThingsUptoCard

/-- THE SECOND FORM's CARD OF 'chancellaw07.UndoDepth'. -/
def undoDepthUptoCard : Claim7 := { stood := { row := undoDepthUptoRow, standIns := [], harness := (true, "3a977cad1127ddb1e8b4d38ffec3cb5556e3c2924b6afded30eded5dffa0be69"), looks := true }, kinds := [], alts := [], laidByText := true, laidKinds := [.data, .pinned], laidTests := true, laidLooks := .later }
def UndoDepthUptoCardSaid : Prop := Claim7.holds Tryd.pinned (.plain (OpenSpec.upto undoDepthSpec)) undoDepthUptoCard
end Rows
end Go.Proofs.YtoejjicgnhndfaaDoor
