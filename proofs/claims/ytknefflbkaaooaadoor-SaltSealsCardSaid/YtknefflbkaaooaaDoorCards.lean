/-
  DERIVED. GIVEN WITH THE SEED: THE CARDS: each row of YtknefflbkaaooaaDoorRows.lean that lists a variable, with what it lists TIED to the program's text (the seventh form; the later family's looks); each row that meets fmt, with fmt's text TOLD by the authors' own Lean function (tested against real Go, not proved from fmt's source: count such statements apart). THE CARD IS WHAT COUNTS. Prove the row's statement (the work); the ties are given (YtknefflbkaaooaaDoorTie.lean); close each card by the builder's one call (the guide's Derived/Test/ToyasCard.lean, 'card_holds'). Laid BY PROGRAM, IN A SANDBOX (cutbox-door.mjs). By AI agents, Wed Nov 11 2026. No macro, syntax, notation, axiom, sorry.
-/
import Derived.Test.YtknefflbkaaooaaDoorRows
import GoSem.ClaimSeven
namespace Go.Proofs.YtknefflbkaaooaaDoor
namespace Rows

/-- THE TIED CARD OF 'chancellaw10.SaltSeals'. -/
def saltSealsCard : Claim7 := { stood := { row := saltSealsRow, standIns := [], harness := (true, "904390118661b52f9c5db9943ea23b54aff1d49e707f25b4dfa943070c12cb0f"), looks := false }, kinds := [], alts := [], laidByText := true, laidKinds := [.data], laidTests := true, laidLooks := .later }
def SaltSealsCardSaid : Prop := Claim7.holds Tryd.pinned (.plain (OpenSpec.ofChange saltSealsSpec)) saltSealsCard

/-- THE TIED CARD OF 'chancellaw10.SaltUsers'. -/
def saltUsersCard : Claim7 := { stood := { row := saltUsersRow, standIns := [], harness := (true, "904390118661b52f9c5db9943ea23b54aff1d49e707f25b4dfa943070c12cb0f"), looks := false }, kinds := [], alts := [], laidByText := true, laidKinds := [.data], laidTests := true, laidLooks := .later }
def SaltUsersCardSaid : Prop := Claim7.holds Tryd.pinned (.plain (OpenSpec.ofChange saltUsersSpec)) saltUsersCard

/-- THE TIED CARD OF 'chancellaw10.SaltFinds'. -/
def saltFindsCard : Claim7 := { stood := { row := saltFindsRow, standIns := [], harness := (true, "904390118661b52f9c5db9943ea23b54aff1d49e707f25b4dfa943070c12cb0f"), looks := false }, kinds := [], alts := [], laidByText := true, laidKinds := [.data], laidTests := true, laidLooks := .later }
def SaltFindsCardSaid : Prop := Claim7.holds Tryd.pinned (.plain (OpenSpec.ofChange saltFindsSpec)) saltFindsCard

/-- THE SECOND FORM's CARD OF 'chancellaw10.SaltSeals'. -/
def saltSealsUptoCard : Claim7 := { stood := { row := saltSealsUptoRow, standIns := [], harness := (true, "904390118661b52f9c5db9943ea23b54aff1d49e707f25b4dfa943070c12cb0f"), looks := false }, kinds := [], alts := [], laidByText := true, laidKinds := [.data], laidTests := true, laidLooks := .later }
def SaltSealsUptoCardSaid : Prop := Claim7.holds Tryd.pinned (.plain (OpenSpec.upto saltSealsSpec)) saltSealsUptoCard

/-- THE SECOND FORM's CARD OF 'chancellaw10.SaltUsers'. -/
def saltUsersUptoCard : Claim7 := { stood := { row := saltUsersUptoRow, standIns := [], harness := (true, "904390118661b52f9c5db9943ea23b54aff1d49e707f25b4dfa943070c12cb0f"), looks := false }, kinds := [], alts := [], laidByText := true, laidKinds := [.data], laidTests := true, laidLooks := .later }
def SaltUsersUptoCardSaid : Prop := Claim7.holds Tryd.pinned (.plain (OpenSpec.upto saltUsersSpec)) saltUsersUptoCard

/-- THE SECOND FORM's CARD OF 'chancellaw10.SaltFinds'. -/
def saltFindsUptoCard : Claim7 := { stood := { row := saltFindsUptoRow, standIns := [], harness := (true, "904390118661b52f9c5db9943ea23b54aff1d49e707f25b4dfa943070c12cb0f"), looks := false }, kinds := [], alts := [], laidByText := true, laidKinds := [.data], laidTests := true, laidLooks := .later }
def SaltFindsUptoCardSaid : Prop := Claim7.holds Tryd.pinned (.plain (OpenSpec.upto saltFindsSpec)) saltFindsUptoCard
end Rows
end Go.Proofs.YtknefflbkaaooaaDoor
