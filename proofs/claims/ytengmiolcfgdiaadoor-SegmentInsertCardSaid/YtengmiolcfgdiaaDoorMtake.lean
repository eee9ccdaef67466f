/- Contract: Take of the plain text. -/
import Derived.Test.YtengmiolcfgdiaaDoorMput
set_option linter.unusedVariables false
namespace Go.Proofs.YtengmiolcfgdiaaDoor.Rig
open Go.RowKit Go.Lib Go.Proofs.YtengmiolcfgdiaaDoor.Rt

def takeLs (ys : List Int) (a b : Nat) : List Int := ys.take a ++ ys.drop b
def cutS (a b : Int) (s : St) : St := if b < s.a then ⟨s.m, s.a - (b - a)⟩ else if a < s.a then ⟨s.m, a⟩ else s
def endT (T : List St) (mk a : Int) : List St := if 0 < mk then siteL T ⟨mk, a⟩ else T
theorem res_cells {W : World} {B : Nat} {T : TypeId} {a1 a2 : Option Addr} {n1 c1 n2 c2 : Nat} (r0 : W.heap[B]? = some (.cells #[.slice none 0 0, .slice none 0 0] T (0, 0))) :
    (W.setCell ⟨B, 0, none⟩ (.slice a1 n1 c1)).cell? ⟨B, 0, none⟩ = some (.slice a1 n1 c1) ∧ ((W.setCell ⟨B, 0, none⟩ (.slice a1 n1 c1)).setCell ⟨B, 1, none⟩ (.slice a2 n2 c2)).cell? ⟨B, 1, none⟩ = some (.slice a2 n2 c2) := by
  have s0 : (W.setCell ⟨B, 0, none⟩ (.slice a1 n1 c1)).heap[B]? = some (.cells #[.slice a1 n1 c1, .slice none 0 0] T (0, 0)) := by
    rw [heap_setCell_same _ _ _ _ _ _ r0]
    rfl
  constructor
  · rw [cell_of_row _ _ _ _ _ _ s0]
    rfl
  · rw [cell_of_row _ _ _ _ _ _ (by rw [heap_setCell_same _ _ _ _ _ _ s0])]
    rfl
theorem give_end {w W : World} {S : List Sp} {L : List St} {B : Nat} {T : TypeId} {a1 a2 : Option Addr} {n1 c1 n2 c2 : Nat} (hB : w.heap.size ≤ B) (r0 : W.heap[B]? = some (.cells #[.slice none 0 0, .slice none 0 0] T (0, 0)))
    (hS : Spans W (.slice a1 n1 c1) S) (hT : Sites W (.slice a2 n2 c2) L) (hb : Below w.heap.size w W) :
    GivesM w S L (.returned (.agg #[.slice a1 n1 c1, .slice a2 n2 c2])) ((W.setCell ⟨B, 0, none⟩ (.slice a1 n1 c1)).setCell ⟨B, 1, none⟩ (.slice a2 n2 c2)) := by
  have s0 : (W.setCell ⟨B, 0, none⟩ (.slice a1 n1 c1)).heap[B]? = some (.cells #[.slice a1 n1 c1, .slice none 0 0] T (0, 0)) := by
    rw [heap_setCell_same _ _ _ _ _ _ r0]
    rfl
  exact ⟨_, _, rfl, Fl.setBlock (Fl.setBlock hS (by decide) r0) (by decide) s0, Fl.setBlock (Fl.setBlock hT (by decide) r0) (by decide) s0, (hb.setCell (p := ⟨B, 0, none⟩) hB _).setCell (p := ⟨B, 1, none⟩) hB _⟩

end Go.Proofs.YtengmiolcfgdiaaDoor.Rig
