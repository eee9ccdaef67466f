/- Words: Number, Text, Flag, Len of the plain text's reader. -/
import Derived.Test.YtmdgjcikekojdaaGreatDoorZg
set_option linter.unusedVariables false
set_option linter.unusedSimpArgs false
set_option maxRecDepth 100000
namespace Go.Proofs.YtmdgjcikekojdaaGreatDoor.Wds
open Go.RowKit Go.Lib Go.Proofs.YtmdgjcikekojdaaGreatDoor.Bx Go.Proofs.YtmdgjcikekojdaaGreatDoor.Frm

theorem val_snoc (l : List UInt8) (x : UInt8) : valN (l ++ [x]) = valN l * 256 + x.toNat := by
  unfold valN
  rw [List.foldl_append]
  rfl
theorem val_lt : ∀ (k : Nat) (l : List UInt8), l.length = k → valN l < 256 ^ k := by
  intro k
  induction k with
  | zero =>
    intro l h
    obtain rfl := List.eq_nil_of_length_eq_zero h
    decide
  | succ k ih =>
    intro l h
    obtain ⟨l', x, rfl⟩ : ∃ l' x, l = l' ++ [x] := ⟨l.dropLast, l.getLast (by intro e; rw [e] at h; cases h), (List.dropLast_concat_getLast _).symm⟩
    rw [List.length_append, List.length_singleton] at h
    have h1 := ih l' (by omega)
    have h2 := x.toNat_lt
    rw [val_snoc, Nat.pow_succ]
    omega
theorem val_next {t : List UInt8} {i : Nat} (h : i < t.length) : valN (t.take (i + 1)) = valN (t.take i) * 256 + (t.getD i 0).toNat := by
  rw [List.take_succ_eq_append_getElem h, val_snoc, List.getD_eq_getElem?_getD, List.getElem?_eq_getElem h]
  rfl
theorem wrap_back (m : Nat) : IntKind.i64.wrap (m : Int) = back m := by
  rw [IntKind.wrap_i64]
  unfold back
  split <;> omega
end Go.Proofs.YtmdgjcikekojdaaGreatDoor.Wds
