/- Frame: the walk of FrameMany. -/
import Derived.Test.YtffejfpbeimngaaDoorFf
set_option linter.unusedVariables false
set_option linter.unusedSimpArgs false
namespace Go.Proofs.YtffejfpbeimngaaDoor.Frm
open Go.RowKit Go.Lib Go.Proofs.YtffejfpbeimngaaDoor.Bx

def S (X : List (List UInt8)) (i : Nat) : List UInt8 := (X.take i).flatMap wrapB
theorem S_next {X : List (List UInt8)} {i : Nat} (h : i < X.length) : S X (i + 1) = S X i ++ wrapB (tx X i) := by
  unfold S
  rw [List.take_succ_eq_append_getElem h, List.flatMap_append, tx_at h]
  simp
theorem S_all {X : List (List UInt8)} {i : Nat} (h : X.length ≤ i) : S X i = X.flatMap wrapB := by
  unfold S
  rw [List.take_of_length_le h]
theorem slice_to (w : World) (l : List UInt8) {j : Nat} (hj : j ≤ l.length) : (Instr.slice 9 (.string (mkB l)) none (some (.int .i64 (j : Nat))) none).run Tryd.prog w = .ok (.string (mkB (l.take j))) w := by
  rw [run_slice_string_to_if w 9 (mkB l) .i64 (j : Int) Tryd.underlying9, if_pos ⟨by omega, by rw [mkB_size]; omega⟩]
  show Result.ok (Value.string ((mkB l).extract 0 (j : Int).toNat)) w = _
  rw [mkB_extract, Int.toNat_natCast, List.drop_zero]
end Go.Proofs.YtffejfpbeimngaaDoor.Frm
