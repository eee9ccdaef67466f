/- Cells of rows of three, of one. -/
import Derived.Test.YtkgdfclpogiemaaDoorV
set_option linter.unusedVariables false
namespace Go.Proofs.YtkgdfclpogiemaaDoor.Seg
open Go.RowKit Go.Lib Go.Proofs.YtkgdfclpogiemaaDoor.Rt Go.Proofs.YtkgdfclpogiemaaDoor.Rig
theorem three_cells {w : World} {B : Nat} {x y z : Value} {ty : TypeId} (r : w.heap[B]? = some (.cells #[x, y, z] ty (0, 0))) : w.cell? ⟨B, 0, none⟩ = some x ∧ w.cell? ⟨B, 1, none⟩ = some y ∧ w.cell? ⟨B, 2, none⟩ = some z := by
  refine ⟨?_, ?_, ?_⟩ <;> (rw [cell_of_row _ _ _ _ _ _ r]; rfl)
theorem one_cell1 {w : World} {B : Nat} {x : Value} {ty : TypeId} (r : w.heap[B]? = some (.cells #[x] ty (0, 0))) : w.cell? ⟨B, 0, none⟩ = some x := by rw [cell_of_row _ _ _ _ _ _ r]; rfl
end Go.Proofs.YtkgdfclpogiemaaDoor.Seg
