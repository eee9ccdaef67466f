/- Contract: Part of the plain text. -/
import Derived.Test.YtengmiolcfgdiaaGreatDoorMtake
import Derived.RegionTactic
import Derived.ChangeAlike
import Derived.BigRegion
set_option linter.unusedVariables false
namespace Go.Proofs.YtengmiolcfgdiaaGreatDoor.Rig
open Go.RowKit Go.Lib Go.Proofs.YtengmiolcfgdiaaGreatDoor.Rt

def partA (at' : Int) (T : List St) : Nat → List St
  | 0 => []
  | i + 1 => if (st T i).a ≤ at' then siteL (partA at' T i) (st T i) else partA at' T i
def partB (at' : Int) (T : List St) : Nat → List St
  | 0 => []
  | i + 1 => if (st T i).a ≤ at' then partB at' T i else siteL (partB at' T i) ⟨(st T i).m, (st T i).a - at'⟩
theorem partA_len (at' : Int) (T : List St) : ∀ i, (partA at' T i).length ≤ i
  | 0 => Nat.le_refl _
  | i + 1 => by
    have h1 := partA_len at' T i
    have h2 := siteL_len (partA at' T i) (st T i)
    unfold partA
    split <;> omega
theorem partB_len (at' : Int) (T : List St) : ∀ i, (partB at' T i).length ≤ i
  | 0 => Nat.le_refl _
  | i + 1 => by
    have h1 := partB_len at' T i
    have h2 := siteL_len (partB at' T i) ⟨(st T i).m, (st T i).a - at'⟩
    unfold partB
    split <;> omega
/-- It hands two marks back. -/
def GivesM2 (w : World) (S : List Sp) (T : List St) (S' : List Sp) (T' : List St) (e : Ending) (w' : World) : Prop := ∃ v1 v2 v3 v4, e = .returned (.tuple #[.agg #[v1, v2], .agg #[v3, v4]]) ∧ Spans w' v1 S ∧ Sites w' v2 T ∧ Spans w' v3 S' ∧ Sites w' v4 T' ∧ Below w.heap.size w w'

theorem set2_fl {W : World} {v : Value} {n k : Nat} {zs : List Int} {B : Nat} {T : TypeId} {a1 a2 : Option Addr} {n1 c1 n2 c2 : Nat} (h : Fl W v n k zs) (hk : 0 < k) (r0 : W.heap[B]? = some (.cells #[.slice none 0 0, .slice none 0 0] T (0, 0))) :
    Fl ((W.setCell ⟨B, 0, none⟩ (.slice a1 n1 c1)).setCell ⟨B, 1, none⟩ (.slice a2 n2 c2)) v n k zs := by
  have s0 : (W.setCell ⟨B, 0, none⟩ (.slice a1 n1 c1)).heap[B]? = some (.cells #[.slice a1 n1 c1, .slice none 0 0] T (0, 0)) := by
    rw [heap_setCell_same _ _ _ _ _ _ r0]
    rfl
  exact Fl.setBlock (Fl.setBlock h hk r0) hk s0
theorem give_end2 {w W : World} {S S' : List Sp} {L L' : List St} {B B' : Nat} {T : TypeId} {a1 a2 a3 a4 : Option Addr} {n1 c1 n2 c2 n3 c3 n4 c4 : Nat} (hB : w.heap.size ≤ B) (hB' : w.heap.size ≤ B') (hne : B' ≠ B) (r1 : W.heap[B]? = some (.cells #[.slice none 0 0, .slice none 0 0] T (0, 0))) (r2 : W.heap[B']? = some (.cells #[.slice none 0 0, .slice none 0 0] T (0, 0)))
    (hS : Spans W (.slice a1 n1 c1) S) (hT : Sites W (.slice a2 n2 c2) L) (hS' : Spans W (.slice a3 n3 c3) S') (hT' : Sites W (.slice a4 n4 c4) L') (hb : Below w.heap.size w W) :
    GivesM2 w S L S' L' (.returned (.tuple #[.agg #[.slice a1 n1 c1, .slice a2 n2 c2], .agg #[.slice a3 n3 c3, .slice a4 n4 c4]])) ((((W.setCell ⟨B, 0, none⟩ (.slice a1 n1 c1)).setCell ⟨B, 1, none⟩ (.slice a2 n2 c2)).setCell ⟨B', 0, none⟩ (.slice a3 n3 c3)).setCell ⟨B', 1, none⟩ (.slice a4 n4 c4)).drew := by
  have r2' : ((W.setCell ⟨B, 0, none⟩ (.slice a1 n1 c1)).setCell ⟨B, 1, none⟩ (.slice a2 n2 c2)).heap[B']? = some (.cells #[.slice none 0 0, .slice none 0 0] T (0, 0)) := by
    rw [Below.heap_setCell _ _ _ _ (by exact hne), Below.heap_setCell _ _ _ _ (by exact hne)]
    exact r2
  have bd : Below ((((W.setCell ⟨B, 0, none⟩ (.slice a1 n1 c1)).setCell ⟨B, 1, none⟩ (.slice a2 n2 c2)).setCell ⟨B', 0, none⟩ (.slice a3 n3 c3)).setCell ⟨B', 1, none⟩ (.slice a4 n4 c4)).heap.size _ _ := (Below.refl _ ((((W.setCell ⟨B, 0, none⟩ (.slice a1 n1 c1)).setCell ⟨B, 1, none⟩ (.slice a2 n2 c2)).setCell ⟨B', 0, none⟩ (.slice a3 n3 c3)).setCell ⟨B', 1, none⟩ (.slice a4 n4 c4))).drew
  refine ⟨_, _, _, _, rfl, ?_, ?_, ?_, ?_, ((((hb.setCell (p := ⟨B, 0, none⟩) hB _).setCell (p := ⟨B, 1, none⟩) hB _).setCell (p := ⟨B', 0, none⟩) hB' _).setCell (p := ⟨B', 1, none⟩) hB' _).drew⟩
  · have h := set2_fl (a1 := a3) (n1 := n3) (c1 := c3) (a2 := a4) (n2 := n4) (c2 := c4) (set2_fl (a1 := a1) (n1 := n1) (c1 := c1) (a2 := a2) (n2 := n2) (c2 := c2) hS (by decide) r1) (by decide) r2'
    exact Fl.below h bd (Nat.le_refl _)
  · have h := set2_fl (a1 := a3) (n1 := n3) (c1 := c3) (a2 := a4) (n2 := n4) (c2 := c4) (set2_fl (a1 := a1) (n1 := n1) (c1 := c1) (a2 := a2) (n2 := n2) (c2 := c2) hT (by decide) r1) (by decide) r2'
    exact Fl.below h bd (Nat.le_refl _)
  · have h := set2_fl (a1 := a3) (n1 := n3) (c1 := c3) (a2 := a4) (n2 := n4) (c2 := c4) (set2_fl (a1 := a1) (n1 := n1) (c1 := c1) (a2 := a2) (n2 := n2) (c2 := c2) hS' (by decide) r1) (by decide) r2'
    exact Fl.below h bd (Nat.le_refl _)
  · have h := set2_fl (a1 := a3) (n1 := n3) (c1 := c3) (a2 := a4) (n2 := n4) (c2 := c4) (set2_fl (a1 := a1) (n1 := n1) (c1 := c1) (a2 := a2) (n2 := n2) (c2 := c2) hT' (by decide) r1) (by decide) r2'
    exact Fl.below h bd (Nat.le_refl _)

end Go.Proofs.YtengmiolcfgdiaaGreatDoor.Rig
