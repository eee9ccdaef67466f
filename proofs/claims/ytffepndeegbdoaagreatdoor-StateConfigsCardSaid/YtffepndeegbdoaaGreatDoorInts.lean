/- A slice of ints in memory; opened out of a reading. -/
import Derived.Test.YtffepndeegbdoaaGreatDoorRt
import Derived.Test.YtffepndeegbdoaaGreatDoorLift
import Derived.OneCell
import Derived.Deep.Slices
import Derived.Deep.Fields
import Derived.Deep.Draws
import Derived.Lib.Hide
set_option linter.unusedVariables false
namespace Go.Proofs.YtffepndeegbdoaaGreatDoor.Rig
open Go.RowKit Go.Lib Go.Proofs.YtffepndeegbdoaaGreatDoor.Rt

def i64 (x : Int) : Prop := -9223372036854775808 ≤ x ∧ x ≤ 9223372036854775807

/-- The slice v has the ints xs. -/
def Ints (w : World) (v : Value) (xs : List Int) : Prop :=
  (∀ x ∈ xs, i64 x) ∧ ∃ a cap, v = .slice a xs.length cap ∧ xs.length ≤ cap ∧ cap ≤ maxLen ∧ (xs = [] ∨ ∃ b off, a = some ⟨b, off, none⟩ ∧ b < w.heap.size ∧ ∀ j, j < xs.length → w.cell? ⟨b, off + j, none⟩ = some (.int .i64 (at_ xs j)))
theorem Ints.below {w w' : World} {v : Value} {xs : List Int} (h : Ints w v xs) {B : Nat} (hb : Below B w w') (hB : w.heap.size ≤ B) : Ints w' v xs := by
  obtain ⟨h0, a, cap, rfl, h1, h2, h3⟩ := h
  refine ⟨h0, a, cap, rfl, h1, h2, ?_⟩
  rcases h3 with rfl | ⟨b, off, rfl, hlt, hc⟩
  · exact .inl rfl
  · refine .inr ⟨b, off, rfl, Nat.lt_of_lt_of_le hlt hb.size, fun j hj => ?_⟩
    rw [hb.cell (p := ⟨b, off + j, none⟩) (Nat.lt_of_lt_of_le hlt hB)]
    exact hc j hj
theorem at_mem {xs : List Int} {j : Nat} (h : j < xs.length) : at_ xs j ∈ xs := by
  unfold at_
  rw [List.getD_eq_getElem?_getD, List.getElem?_eq_getElem h]
  exact List.getElem_mem h
theorem Ints.open_ {w : World} {v : Value} {xs : List Int} (h : Ints w v xs) :
    ∃ a cap, v = .slice a xs.length cap ∧ xs.length ≤ cap ∧ cap ≤ 9223372036854775807 ∧ ∀ j, j < xs.length → ∃ b off, a = some ⟨b, off, none⟩ ∧ b < w.heap.size ∧ (-9223372036854775808 ≤ at_ xs j ∧ at_ xs j ≤ 9223372036854775807) ∧ w.cell? ⟨b, off + j, none⟩ = some (.int .i64 (at_ xs j)) := by
  obtain ⟨h0, a, cap, rfl, h1, h2, h3⟩ := h
  unfold maxLen at h2
  refine ⟨a, cap, rfl, h1, h2, fun j hj => ?_⟩
  rcases h3 with rfl | ⟨b, off, rfl, hlt, hc⟩
  · exact absurd hj (by simp)
  · exact ⟨b, off, rfl, hlt, h0 _ (at_mem hj), hc j hj⟩
theorem Ints.is_slice {w : World} {v : Value} {xs : List Int} (h : Ints w v xs) : ∃ a cap, v = .slice a xs.length cap := by
  obtain ⟨_, a, cap, rfl, _⟩ := h
  exact ⟨a, cap, rfl⟩
theorem Ints.nil_ (w : World) : Ints w (.slice none 0 0) [] := ⟨fun _ h => by simp at h, none, 0, rfl, Nat.le_refl _, by unfold maxLen; omega, .inl rfl⟩
theorem Ints.lt {w : World} {v : Value} {xs : List Int} (h : Ints w v xs) : xs.length ≤ 9223372036854775807 := by
  obtain ⟨_, a, cap, rfl, h1, h2, _⟩ := h
  unfold maxLen at h2
  omega

theorem ret_bool {a b : Bool} (h : a = b) : Ending.returned (.bool a) = .returned (.bool b) := by rw [h]
theorem below_more {w w1 w2 : World} {B : Nat} (h1 : Below B w w1) (h2 : Below w1.heap.size w1 w2) (hB : B ≤ w.heap.size := by exact Nat.le_refl _) : Below B w w2 :=
  h1.trans (h2.mono (Nat.le_trans hB h1.size))
theorem below_cell {B : Nat} {w w' : World} (h : Below B w w') {b o : Nat} {v : Value} (hb : b < B) (hc : w.cell? ⟨b, o, none⟩ = some v) : w'.cell? ⟨b, o, none⟩ = some v := by
  rw [h.cell (p := ⟨b, o, none⟩) hb]
  exact hc
theorem below_drews {B : Nat} {a w : World} (h : Below B a w) (n : Nat) : Below B a (w.drewN n) := ⟨h.os, h.tape, h.output, h.size, h.block⟩

section
open Go.ChangeShapes Go.WideShapes Go.Deep
variable {H : Type} {enc : TypeId × Value → H}
theorem cellsOf_int : Tryz.prog.cellsOf 3 = 1 := by kernel_rfl
theorem cellsOf_ints : Tryz.prog.cellsOf 45 = 1 := by kernel_rfl

theorem int_bounds {n : Int} (h : (Lit.int .i64 n).wf = true) : i64 n := by
  simpa [i64, Lit.wf, IntKind.min, IntKind.max, IntKind.signed, IntKind.bits] using h
theorem add_block (b o k : Nat) : ((⟨b, o, none⟩ : Addr).add k).block = b := by unfold Addr.add; split <;> rfl
theorem add_off (b o k : Nat) : ((⟨b, o, none⟩ : Addr).add k).off = o + k := by
  unfold Addr.add
  by_cases h : k = 0
  · rw [if_pos h, h, Nat.add_zero]
  · rw [if_neg h]

theorem lt_of_cell {w : World} {b o : Nat} {v : Value} (h : w.cell? ⟨b, o, none⟩ = some v) : b < w.heap.size := by
  rcases Nat.lt_or_ge b w.heap.size with h' | h'
  · exact h'
  · simp [World.cell?, Array.getElem?_eq_none h'] at h

/-- A value that is read as a slice of ints. -/
theorem ints_of {W : World} {n : Nat} {x : DataW H × List MemPlace} {c : Value} (h : DataW.trod enc Tryz.prog W 0 (fun _ => true) true n 45 [c] = some x) : ∃ xs, Ints W c xs := by
  rcases open_slice Tryz.underlying45 h with ⟨hcs, _⟩ | ⟨a, len, cap, m, n', D, Pl, hcs, _, hl, hm, hmm, _, hel⟩
  · simp at hcs
    subst hcs
    exact ⟨[], Ints.nil_ _⟩
  · simp at hcs
    subst hcs
    simp only [if_true] at hmm
    have hall : ∀ i, i < len → ∃ z : Int, i64 z ∧ W.cell? (a.add i) = some (.int .i64 z) := fun i hi => by
      obtain ⟨cs', hc, ht⟩ := hel i (by omega)
      rw [cellsOf_int, Nat.mul_one] at hc
      obtain ⟨_, hlen, _⟩ := World.cells?_some hc
      match cs', hlen with
      | [v], _ =>
        obtain ⟨q, e0, -, w0⟩ := DataW.trod_int Tryz.underlying3 ht
        simp at e0
        subst e0
        exact ⟨q, int_bounds w0, cell_of_cells?_one hc⟩
    by_cases h0 : len = 0
    · subst h0
      exact ⟨[], fun _ h => by simp at h, some a, cap, rfl, Nat.zero_le _, hm, .inl rfl⟩
    · obtain ⟨b, o, sp⟩ := a
      have hsp : sp = none := by
        obtain ⟨z, _, h1⟩ := hall 0 (by omega)
        simpa [Addr.add] using World.cell?_spot h1
      subst hsp
      have hall' : ∀ i, i < len → ∃ z : Int, i64 z ∧ W.cell? ⟨b, o + i, none⟩ = some (.int .i64 z) := fun i hi => by
        obtain ⟨z, h0, h1⟩ := hall i hi
        have hadd : (⟨b, o, none⟩ : Addr).add i = ⟨b, o + i, none⟩ := by unfold Addr.add; split <;> simp_all
        rw [hadd] at h1
        exact ⟨z, h0, h1⟩
      have hch := fun i : Fin len => hall' i.1 i.2
      let A : List Int := List.ofFn fun i : Fin len => (hch i).choose
      have hA : A.length = len := List.length_ofFn
      have hg : ∀ i (hi : i < len), at_ A i = (hch ⟨i, hi⟩).choose := fun i hi => by
        unfold at_
        rw [List.getD_eq_getElem?_getD, List.getElem?_eq_getElem (by rw [hA]; exact hi)]
        simp [A]
      refine ⟨A, ?_, some ⟨b, o, none⟩, cap, by rw [hA], by omega, hm, .inr ⟨b, o, rfl, ?_, ?_⟩⟩
      · intro x hx
        obtain ⟨i, hi, rfl⟩ := List.getElem_of_mem hx
        have hi' : i < len := by omega
        have : A[i] = at_ A i := by unfold at_; rw [List.getD_eq_getElem?_getD, List.getElem?_eq_getElem hi]; rfl
        rw [this, hg i hi']
        exact (hch ⟨i, hi'⟩).choose_spec.1
      · obtain ⟨z, _, h1⟩ := hall' 0 (by omega)
        exact lt_of_cell h1
      · intro j hj
        have hj' : j < len := by omega
        rw [hg j hj']
        exact (hch ⟨j, hj'⟩).choose_spec.2

end
end Go.Proofs.YtffepndeegbdoaaGreatDoor.Rig
