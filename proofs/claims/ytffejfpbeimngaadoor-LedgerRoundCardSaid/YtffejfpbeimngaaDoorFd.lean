/- Frame: Split of the plain text. -/
import Derived.Test.YtffejfpbeimngaaDoorFc
import Derived.Laws.Strings3
set_option linter.unusedVariables false
set_option linter.unusedSimpArgs false
set_option maxRecDepth 100000
namespace Go.Proofs.YtffejfpbeimngaaDoor.Frm
open Go.RowKit Go.Lib Go.Proofs.YtffejfpbeimngaaDoor.Bx

theorem infoS : (Tryd.prog.info? 9).map (fun i => (i.zero, i.size, i.bytes)) = some (some (.string ⟨#[]⟩), 1, 16) := by kernel_rfl
theorem cellsT_app (X Y : List (List UInt8)) : cellsT (X ++ Y) = cellsT X ++ cellsT Y := List.map_append
theorem byte_run (w : World) (l : List UInt8) (k : IntKind) {i : Nat} (hi : i < l.length) : (Instr.index 9 (.string (mkB l)) (.int k (i : Nat))).run Tryd.prog w = .ok (.int .u8 ((l.getD i 0).toNat : Nat)) w := by
  have hi' : i < (mkB l).size := by rw [mkB_size]; exact hi
  have e : (mkB l)[i]'hi' = l[i] := rfl
  rw [run_index_string w 9 (mkB l) k (i : Int) Tryd.underlying9, dif_pos ⟨by omega, by omega⟩, List.getD_eq_getElem?_getD, List.getElem?_eq_getElem hi]
  simp only [Option.getD_some]
  show Result.ok (Value.int .u8 (((mkB l)[i]'hi').toNat : Nat)) w = _
  rw [e]
  rfl
theorem slice_from (w : World) (l : List UInt8) {i : Nat} (hi : i ≤ l.length) : (Instr.slice 9 (.string (mkB l)) (some (.int .i64 (i : Nat))) none none).run Tryd.prog w = .ok (.string (mkB (l.drop i))) w := by
  rw [run_slice_string_from_if w 9 (mkB l) .i64 (i : Int) Tryd.underlying9, if_pos ⟨by omega, by rw [mkB_size]; omega⟩]
  show Result.ok (Value.string ((mkB l).extract (i : Int).toNat (mkB l).size)) w = _
  rw [mkB_extract, mkB_size, List.take_length, Int.toNat_natCast]
theorem slice_mid (w : World) (l : List UInt8) {i j : Nat} (hj : j ≤ l.length) (hij : i ≤ j) : (Instr.slice 9 (.string (mkB l)) (some (.int .i64 (i : Nat))) (some (.int .i64 (j : Nat))) none).run Tryd.prog w = .ok (.string (mkB ((l.take j).drop i))) w := by
  rw [run_slice_string w 9 (mkB l) .i64 .i64 (i : Int) (j : Int) Tryd.underlying9 (by omega) (by omega) (by rw [mkB_size]; omega), mkB_extract, Int.toNat_natCast, Int.toNat_natCast]
def Gave (w : World) (p : Res) (e : Ending) (w' : World) : Prop := ∃ v, e = .returned (.tuple #[v, .string (mkB p.2.1), .bool p.2.2]) ∧ OStrs w.heap.size w' v p.1 ∧ Below w.heap.size w w'
end Go.Proofs.YtffejfpbeimngaaDoor.Frm
