/- Salt: lists of numbers in memory; the product of limbs, as a plain function, and its bounds. -/
import Derived.Test.YtffepndeegbdoaaGreatDoorBx
import Derived.Deep.DeepCutAuto
import Derived.Deep.CutBlock
import Derived.Deep.LoopGhost
set_option linter.unusedVariables false
set_option linter.unusedSimpArgs false
set_option maxRecDepth 100000
namespace Go.Proofs.YtffepndeegbdoaaGreatDoor.Slt
open Go.RowKit Go.Lib Go.Proofs.YtffepndeegbdoaaGreatDoor.Bx

/-- A slice of numbers that is read. -/
def Nums (k : IntKind) (w : World) (v : Value) (l : List Nat) : Prop :=
  ∃ a cap, v = .slice a l.length cap ∧ l.length ≤ cap ∧ cap ≤ maxLen ∧ ∀ j (hj : j < l.length), ∃ b off, a = some ⟨b, off, none⟩ ∧ b < w.heap.size ∧ w.cell? ⟨b, off + j, none⟩ = some (.int k (l[j] : Nat))
theorem Nums.below {k : IntKind} {w w' : World} {v : Value} {l : List Nat} (h : Nums k w v l) (hb : Below w.heap.size w w') : Nums k w' v l := by
  obtain ⟨a, cap, rfl, h1, h2, h3⟩ := h
  refine ⟨a, cap, rfl, h1, h2, fun j hj => ?_⟩
  obtain ⟨b, off, e, hlt, hc⟩ := h3 j hj
  exact ⟨b, off, e, Nat.lt_of_lt_of_le hlt hb.size, vcell hb hlt hc⟩
def toC (k : IntKind) (l : List Nat) : Array Value := (l.map fun x => Value.int k (x : Nat)).toArray
theorem toC_set (k : IntKind) (l : List Nat) (i x : Nat) : (toC k l).setIfInBounds i (.int k (x : Nat)) = toC k (l.set i x) := by
  unfold toC
  rw [List.setIfInBounds_toArray, List.map_set]
theorem toC_cell {w : World} {b : Nat} {ty : TypeId} {k : IntKind} {l : List Nat} (h : w.heap[b]? = some (.cells (toC k l) ty (0, 0))) {i : Nat} (hi : i < l.length) : w.cell? ⟨b, i, none⟩ = some (.int k (l[i] : Nat)) := by
  rw [cell_of_row _ _ _ _ _ _ h]
  simp [toC, hi]
theorem toC_nums {w : World} {b : Nat} {ty : TypeId} {k : IntKind} {l : List Nat} (h : w.heap[b]? = some (.cells (toC k l) ty (0, 0))) (hm : l.length ≤ maxLen) : Nums k w (.slice (some ⟨b, 0, none⟩) l.length l.length) l :=
  ⟨_, _, rfl, Nat.le_refl _, hm, fun j hj => ⟨b, 0, rfl, (Array.getElem?_eq_some_iff.1 h).1, by rw [Nat.zero_add]; exact toC_cell h hj⟩⟩

/-! limbs -/
def stepT (ai : Nat) (b : List Nat) (i : Nat) (st : List Nat × Nat) (j : Nat) : List Nat × Nat := (st.1.set (i + j) ((st.1.getD (i + j) 0 + ai * b.getD j 0 + st.2) % 65536), (st.1.getD (i + j) 0 + ai * b.getD j 0 + st.2) / 65536)
def inT (a b out : List Nat) (i k : Nat) : List Nat × Nat := (List.range k).foldl (stepT (a.getD i 0) b i) (out, 0)
def rowT (a b : List Nat) (out : List Nat) (i : Nat) : List Nat := (inT a b out i b.length).1.set (i + b.length) ((inT a b out i b.length).1.getD (i + b.length) 0 + (inT a b out i b.length).2)
def outT (a b : List Nat) (i : Nat) : List Nat := (List.range i).foldl (rowT a b) (List.replicate (a.length + b.length) 0)
def timesL (a b : List Nat) : List Nat := outT a b a.length
theorem inT_zero (a b out : List Nat) (i : Nat) : inT a b out i 0 = (out, 0) := rfl
theorem inT_succ (a b out : List Nat) (i k : Nat) : inT a b out i (k + 1) = stepT (a.getD i 0) b i (inT a b out i k) k := by
  unfold inT
  rw [List.range_succ, List.foldl_append]
  rfl
theorem outT_succ (a b : List Nat) (i : Nat) : outT a b (i + 1) = rowT a b (outT a b i) i := by
  unfold outT
  rw [List.range_succ, List.foldl_append]
  rfl
theorem inT_len (a b out : List Nat) (i : Nat) : ∀ k, (inT a b out i k).1.length = out.length
  | 0 => rfl
  | k + 1 => by
    rw [inT_succ]
    unfold stepT
    rw [List.length_set]
    exact inT_len a b out i k
theorem outT_len (a b : List Nat) : ∀ i, (outT a b i).length = a.length + b.length
  | 0 => by unfold outT; simp
  | i + 1 => by
    rw [outT_succ]
    unfold rowT
    rw [List.length_set, inT_len]
    exact outT_len a b i
def Limb (l : List Nat) : Prop := ∀ i, l.getD i 0 < 65536
theorem getD_set (l : List Nat) (i x j : Nat) : (l.set i x).getD j 0 = if i = j ∧ i < l.length then x else l.getD j 0 := by
  rw [List.getD_eq_getElem?_getD, List.getD_eq_getElem?_getD, List.getElem?_set]
  by_cases h : i = j
  · subst h
    by_cases h2 : i < l.length
    · simp [h2]
    · simp [h2, List.getElem?_eq_none (Nat.not_lt.1 h2)]
  · simp [h]
theorem Limb.set {l : List Nat} (h : Limb l) (i : Nat) {x : Nat} (hx : x < 65536) : Limb (l.set i x) := fun j => by
  rw [getD_set]
  split
  · exact hx
  · exact h j
theorem mul_lt {a b : Nat} (ha : a < 65536) (hb : b < 65536) : a * b ≤ 4294836225 := Nat.le_trans (Nat.mul_le_mul (Nat.le_of_lt_succ ha) (Nat.le_of_lt_succ hb)) (by decide)
theorem inT_ok {a b out : List Nat} {i : Nat} (ha : Limb a) (hb : Limb b) (ho : Limb out) : ∀ k, Limb (inT a b out i k).1 ∧ (inT a b out i k).2 < 65536
  | 0 => ⟨ho, by show 0 < 65536; decide⟩
  | k + 1 => by
    obtain ⟨h1, h2⟩ := inT_ok (i := i) ha hb ho k
    rw [inT_succ]
    unfold stepT
    have := h1 (i + k)
    have := mul_lt (ha i) (hb k)
    exact ⟨h1.set _ (Nat.mod_lt _ (by decide)), by show _ / _ < _; omega⟩
theorem inT_high {a b out : List Nat} {i : Nat} (hz : ∀ q, i + b.length ≤ q → out.getD q 0 = 0) : ∀ k, k ≤ b.length → ∀ q, i + b.length ≤ q → (inT a b out i k).1.getD q 0 = 0
  | 0, _ => hz
  | k + 1, hk => fun q hq => by
    rw [inT_succ]
    unfold stepT
    rw [getD_set, if_neg (by omega)]
    exact inT_high hz k (by omega) q hq
theorem outT_ok {a b : List Nat} (ha : Limb a) (hb : Limb b) : ∀ i, Limb (outT a b i) ∧ ∀ q, i + b.length ≤ q → (outT a b i).getD q 0 = 0
  | 0 => by
    have e : ∀ q, (outT a b 0).getD q 0 = 0 := fun q => by
      unfold outT
      rw [List.range_zero, List.foldl_nil, List.getD_eq_getElem?_getD, List.getElem?_replicate]
      split <;> rfl
    exact ⟨fun q => by rw [e]; decide, fun q _ => e q⟩
  | i + 1 => by
    obtain ⟨h1, h2⟩ := outT_ok ha hb i
    rw [outT_succ]
    unfold rowT
    obtain ⟨h3, h4⟩ := inT_ok (i := i) ha hb h1 b.length
    have h5 := inT_high (a := a) (b := b) h2 b.length (Nat.le_refl _)
    refine ⟨h3.set _ (by rw [h5 _ (Nat.le_refl _)]; omega), fun q hq => ?_⟩
    rw [getD_set, if_neg (by omega)]
    exact h5 q (by omega)
end Go.Proofs.YtffepndeegbdoaaGreatDoor.Slt
