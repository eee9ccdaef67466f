/- Desk: seats. -/
import Derived.Test.YtkbjbmhplocdnaaBx
import Derived.Test.YtkbjbmhplocdnaaRw
import Derived.OpenShut
import Derived.Lib.Strings
import Derived.BigQuiet
import Derived.Deep.DeepCutAuto
import Derived.Deep.CutBlock
import Derived.Deep.LoopGhost
import Derived.Deep.RegionHeld3
set_option linter.unusedVariables false
set_option linter.unusedSimpArgs false
set_option maxRecDepth 100000
namespace Go.Proofs.Ytkbjbmhplocdnaa.Dsk
open Go.RowKit Go.Lib Go.Proofs.Ytkbjbmhplocdnaa.Bx

/-- A seat: token, user, used, number, answer. -/
structure Se where
  t : ByteArray
  u : Int
  d : Int
  q : Int
  a : ByteArray
def i64 (x : Int) : Prop := -9223372036854775808 ≤ x ∧ x ≤ 9223372036854775807
def cellsS (y : Se) : List Value := [.string y.t, .int .i64 y.u, .int .i64 y.d, .int .i64 y.q, .string y.a]
def good (y : Se) : Prop := i64 y.u ∧ i64 y.d ∧ i64 y.q
theorem cellsS_one (y : Se) : ∀ q ∈ cellsS y, q.oneCell' = true := fun q hq => by
  simp only [cellsS, List.mem_cons, List.not_mem_nil, or_false] at hq
  rcases hq with rfl | rfl | rfl | rfl | rfl <;> rfl
/-- Seats that are read. -/
def Seats (w : World) (v : Value) (A : List Se) : Prop := Rk.RowK 5 w v (A.map cellsS) ∧ ∀ y ∈ A, good y
theorem Seats.below {w w' : World} {v : Value} {A : List Se} (h : Seats w v A) (hb : Below w.heap.size w w') : Seats w' v A := ⟨h.1.below hb (Nat.le_refl _), h.2⟩
theorem Seats.nil_ (w : World) : Seats w (.slice none 0 0) [] := ⟨Rk.RowK.nil_ _ _, fun _ h => by simp at h⟩
theorem Seats.is_slice {w : World} {v : Value} {A : List Se} (h : Seats w v A) : ∃ a cap, v = .slice a A.length cap ∧ A.length ≤ cap ∧ cap ≤ maxLen := by
  obtain ⟨_, a, cap, e, h1, h2, _⟩ := h.1
  rw [List.length_map] at e h1
  exact ⟨a, cap, e, h1, h2⟩
def se (A : List Se) (i : Nat) : Se := A.getD i ⟨ByteArray.empty, 0, 0, 0, ByteArray.empty⟩
theorem se_at {A : List Se} {i : Nat} (hi : i < A.length) : se A i = A[i] := by unfold se; rw [List.getD_eq_getElem?_getD, List.getElem?_eq_getElem hi]; rfl
theorem Seats.get {w : World} {a : Option Addr} {n cap : Nat} {A : List Se} (h : Seats w (.slice a n cap) A) {j : Nat} (hj : j < A.length) :
    ∃ b off, a = some ⟨b, off, none⟩ ∧ b < w.heap.size ∧ w.cell? ⟨b, off + j * 5, none⟩ = some (.string (se A j).t) ∧ w.cell? ⟨b, off + j * 5 + 1, none⟩ = some (.int .i64 (se A j).u) ∧ w.cell? ⟨b, off + j * 5 + 2, none⟩ = some (.int .i64 (se A j).d) ∧ w.cell? ⟨b, off + j * 5 + 3, none⟩ = some (.int .i64 (se A j).q) ∧ w.cell? ⟨b, off + j * 5 + 4, none⟩ = some (.string (se A j).a) ∧ good (se A j) := by
  obtain ⟨⟨_, a', cap', e, h1, h2, h3⟩, hg⟩ := h
  injection e with e _ _
  subst e
  rcases h3 with h3 | ⟨b, off, rfl, hb, hc⟩
  · simp at h3
    subst h3
    simp at hj
  · have hc' : ∀ i u, (cellsS (se A j))[i]? = some u → w.cell? ⟨b, off + j * 5 + i, none⟩ = some u := fun i u hu => hc j (by rw [List.length_map]; exact hj) i u (by rw [List.getElem_map, ← se_at hj]; exact hu)
    exact ⟨b, off, rfl, hb, hc' 0 _ rfl, hc' 1 _ rfl, hc' 2 _ rfl, hc' 3 _ rfl, hc' 4 _ rfl, by rw [se_at hj]; exact hg _ (List.getElem_mem hj)⟩
/-- Seats of the call's own. -/
def OSe (base : Nat) (w : World) (v : Value) (A : List Se) : Prop := Rk.OwnK 28 5 base w v (A.map cellsS) ∧ ∀ y ∈ A, good y
theorem OSe.nil_ (base : Nat) (w : World) : OSe base w (.slice none 0 0) [] := ⟨Rk.OwnK.nil_ _ _ _ _, fun _ h => by simp at h⟩
theorem OSe.seats {base : Nat} {w : World} {v : Value} {A : List Se} (h : OSe base w v A) : Seats w v A := ⟨h.1.row, h.2⟩
theorem OSe.below {base : Nat} {w w' : World} {v : Value} {A : List Se} (h : OSe base w v A) (hb : Below w.heap.size w w') : OSe base w' v A := ⟨h.1.below hb, h.2⟩
theorem OSe.is_slice {base : Nat} {w : World} {v : Value} {A : List Se} (h : OSe base w v A) : ∃ a cap, v = .slice a A.length cap := by
  obtain ⟨a, cap, e, _⟩ := h.seats.is_slice
  exact ⟨a, cap, e⟩
theorem infoSe : (Try.prog.info? 28).map (fun i => (i.zero, i.size, i.bytes)) = some (some (.agg #[.string (ByteArray.mk #[]), .int .i64 0, .int .i64 0, .int .i64 0, .string (ByteArray.mk #[])]), 5, 56) := by kernel_rfl
theorem str_empty (s : ByteArray) : s.toList.isEmpty = decide (s.size = 0) := by
  rw [Lib.toList_data]
  show s.data.toList.isEmpty = decide (s.data.toList.length = 0)
  cases s.data.toList with
  | nil => rfl
  | cons a l => simp
theorem str_eq (s t : ByteArray) : (s.toList == t.toList) = decide (s = t) := by
  rw [Lib.toList_data, Lib.toList_data]
  by_cases h : s = t
  · subst h; simp
  · rw [decide_eq_false h]
    simp only [beq_eq_false_iff_ne, ne_eq]
    intro e
    exact h (by cases s; cases t; congr; exact Array.toList_inj.1 e)
/-! what the document asks -/
def plO (A : List Se) (tok : ByteArray) : Option Nat := A.findIdx? fun y => decide (y.t = tok)
def plI (A : List Se) (tok : ByteArray) : Int := match plO A tok with
  | some i => i
  | none => -1
theorem pl_some {A : List Se} {tok : ByteArray} {i : Nat} (hi : i < A.length) (h : (se A i).t = tok) (h' : ∀ j, j < i → (se A j).t ≠ tok) : plO A tok = some i := by
  unfold plO
  rw [List.findIdx?_eq_some_iff_getElem]
  refine ⟨hi, decide_eq_true (by rw [← se_at hi]; exact h), fun j hj => ?_⟩
  rw [decide_eq_true_iff, ← se_at (by omega)]
  exact h' j hj
theorem pl_none {A : List Se} {tok : ByteArray} (h' : ∀ j, j < A.length → (se A j).t ≠ tok) : plO A tok = none := by
  unfold plO
  rw [List.findIdx?_eq_none_iff]
  intro y hy
  obtain ⟨j, hj, rfl⟩ := List.getElem_of_mem hy
  have := h' j hj
  rw [se_at hj] at this
  exact decide_eq_false this
theorem pl_lt {A : List Se} {tok : ByteArray} {i : Nat} (h : plO A tok = some i) : i < A.length ∧ (se A i).t = tok := by
  unfold plO at h
  rw [List.findIdx?_eq_some_iff_getElem] at h
  obtain ⟨hi, h1, _⟩ := h
  exact ⟨hi, by rw [se_at hi]; exact of_decide_eq_true h1⟩
def pastB (now ttl : Int) (y : Se) : Bool := decide (ttl < now - y.d)
def liveO (A : List Se) (tok : ByteArray) (now ttl : Int) : Option Nat := match plO A tok with
  | some i => if pastB now ttl (se A i) then none else some i
  | none => none
def whoE (A : List Se) (tok : ByteArray) (now ttl : Int) : Int × Bool := match liveO A tok now ttl with
  | some i => ((se A i).u, true)
  | none => (0, false)
def beginE (A : List Se) (tok : ByteArray) (q now ttl : Int) : ByteArray × Int := match liveO A tok now ttl with
  | some i => if q = (se A i).q then ((se A i).a, 9) else if q < (se A i).q then (ByteArray.mk #[], 8) else (ByteArray.mk #[], 0)
  | none => (ByteArray.mk #[], 2)
def fresh (A : List Se) (now ttl : Int) : List Se := A.filter fun y => !pastB now ttl y
def openE (A : List Se) (tok : ByteArray) (u now ttl most : Int) : List Se × Int :=
  if tok.size = 0 ∨ (plO (fresh A now ttl) tok).isSome then (A, 9)
  else if most ≤ (fresh A now ttl).length then (A, 4)
  else (fresh A now ttl ++ [⟨tok, u, now, 0, ByteArray.mk #[]⟩], 0)
def doneE (A : List Se) (tok : ByteArray) (q now : Int) (a : ByteArray) : List Se := match plO A tok with
  | some i => A.set i ⟨(se A i).t, (se A i).u, now, q, a⟩
  | none => A
def closeE (A : List Se) (tok : ByteArray) : List Se := A.filter fun y => !decide (y.t = tok)
end Go.Proofs.Ytkbjbmhplocdnaa.Dsk
