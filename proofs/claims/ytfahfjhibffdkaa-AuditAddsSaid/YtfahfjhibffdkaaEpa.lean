/- Audit: Page of the program. -/
import Derived.Test.YtfahfjhibffdkaaEa
set_option linter.unusedVariables false
set_option linter.unusedSimpArgs false
set_option maxRecDepth 100000
namespace Go.Proofs.Ytfahfjhibffdkaa.Aud
open Go.RowKit Go.Lib Go.Proofs.Ytfahfjhibffdkaa.Rig Go.Proofs.Ytfahfjhibffdkaa.Rt Go.Proofs.Ytfahfjhibffdkaa.Bx

/-- The page as it grows: of the entries that are seen among the first k, those behind the first f0, n0 at most; and how many are still passed over. -/
def pgE (f : En → Bool) (A : List En) (f0 n0 k : Nat) : List En := (((A.take k).filter f).drop f0).take n0
def skE (f : En → Bool) (A : List En) (f0 k : Nat) : Nat := f0 - ((A.take k).filter f).length
theorem pg_no {f : En → Bool} {A : List En} {f0 n0 k : Nat} (hk : k < A.length) (h : f A[k] = false) : pgE f A f0 n0 (k + 1) = pgE f A f0 n0 k ∧ skE f A f0 (k + 1) = skE f A f0 k := by
  unfold pgE skE
  rw [filter_take f A hk, h]
  simp
theorem pg_skip {f : En → Bool} {A : List En} {f0 n0 k : Nat} (hk : k < A.length) (h : f A[k] = true) (hs : 0 < skE f A f0 k) : pgE f A f0 n0 (k + 1) = pgE f A f0 n0 k ∧ skE f A f0 (k + 1) = skE f A f0 k - 1 := by
  unfold pgE
  unfold skE at hs ⊢
  rw [filter_take f A hk, h]
  simp only [if_true, List.length_append, List.length_singleton]
  refine ⟨?_, by omega⟩
  rw [List.drop_of_length_le (by simp; omega), List.drop_of_length_le (by omega)]
theorem pg_yes {f : En → Bool} {A : List En} {f0 n0 k : Nat} (hk : k < A.length) (h : f A[k] = true) (hs : skE f A f0 k = 0) (hn : (pgE f A f0 n0 k).length < n0) : pgE f A f0 n0 (k + 1) = pgE f A f0 n0 k ++ [A[k]] ∧ skE f A f0 (k + 1) = 0 := by
  unfold pgE at hn ⊢
  unfold skE at hs ⊢
  rw [filter_take f A hk, h]
  simp only [if_true, List.length_append, List.length_singleton]
  refine ⟨?_, by omega⟩
  rw [List.length_take, List.length_drop] at hn
  rw [List.drop_append_of_le_length (by omega), List.take_append]
  congr 1
  exact List.take_of_length_le (by rw [List.length_drop]; simp; omega)
theorem pg_full {f : En → Bool} {A : List En} {f0 n0 k : Nat} (hn : n0 ≤ (pgE f A f0 n0 k).length) : pgE f A f0 n0 k = ((A.filter f).drop f0).take n0 := by
  unfold pgE at hn ⊢
  rw [List.length_take, List.length_drop] at hn
  have e : A.filter f = (A.take k).filter f ++ (A.drop k).filter f := by rw [← List.filter_append, List.take_append_drop]
  by_cases h0 : n0 = 0
  · subst h0; simp
  rw [e, List.drop_append_of_le_length (by omega), List.take_append_of_le_length (by rw [List.length_drop]; omega)]
theorem pg_len (f : En → Bool) (A : List En) (f0 n0 k : Nat) : (pgE f A f0 n0 k).length ≤ n0 := by unfold pgE; rw [List.length_take]; omega
end Go.Proofs.Ytfahfjhibffdkaa.Aud
