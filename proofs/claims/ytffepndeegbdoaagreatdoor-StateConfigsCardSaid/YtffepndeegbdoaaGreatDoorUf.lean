/- Salt: Find of the plain text. -/
import Derived.Test.YtffepndeegbdoaaGreatDoorUr
set_option linter.unusedVariables false
set_option linter.unusedSimpArgs false
set_option maxRecDepth 100000
namespace Go.Proofs.YtffepndeegbdoaaGreatDoor.Slt
open Go.RowKit Go.Lib Go.Proofs.YtffepndeegbdoaaGreatDoor.Bx

def firstU (A : List Us) (nm : ByteArray) : Option Nat := A.findIdx? fun y => decide (y.n = nm)
def findU (A : List Us) (nm pw : ByteArray) : Nat × Bool :=
  match firstU A nm with
  | none => (0, false)
  | some i => if bytesN (us A i).l = sealL (bytesN (us A i).s) (bytesN pw) then (i, true) else (0, false)
theorem us_at {A : List Us} {i : Nat} (hi : i < A.length) : us A i = A[i] := by unfold us; rw [List.getD_eq_getElem?_getD, List.getElem?_eq_getElem hi]; rfl
theorem find_some {A : List Us} {nm pw : ByteArray} {i : Nat} (hi : i < A.length) (h : (us A i).n = nm) (h' : ∀ j, j < i → (us A j).n ≠ nm) : findU A nm pw = if bytesN (us A i).l = sealL (bytesN (us A i).s) (bytesN pw) then (i, true) else (0, false) := by
  have e : firstU A nm = some i := by
    unfold firstU
    rw [List.findIdx?_eq_some_iff_getElem]
    refine ⟨hi, decide_eq_true (by rw [← us_at hi]; exact h), fun j hj => ?_⟩
    rw [decide_eq_true_iff, ← us_at (by omega)]
    exact h' j hj
  unfold findU
  rw [e]
theorem find_none {A : List Us} {nm pw : ByteArray} (h' : ∀ j, j < A.length → (us A j).n ≠ nm) : findU A nm pw = (0, false) := by
  have e : firstU A nm = none := by
    unfold firstU
    rw [List.findIdx?_eq_none_iff]
    intro y hy
    obtain ⟨j, hj, rfl⟩ := List.getElem_of_mem hy
    have := h' j hj
    rw [us_at hj] at this
    exact decide_eq_false this
  unfold findU
  rw [e]
end Go.Proofs.YtffepndeegbdoaaGreatDoor.Slt
