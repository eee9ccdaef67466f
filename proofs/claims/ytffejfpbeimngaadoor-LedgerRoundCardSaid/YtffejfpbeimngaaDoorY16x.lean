/- A call of a function as a step of a drawn region that is walked by go_region_law. -/
import Derived.Test.YtffejfpbeimngaaDoorY16d
import Derived.Shelf.Abstract
set_option linter.unusedVariables false
set_option linter.unusedSimpArgs false
set_option maxRecDepth 100000
namespace Go.Proofs.YtffejfpbeimngaaDoor.Plt
open Go.RowKit Go.Lib Go.Proofs.YtffejfpbeimngaaDoor.Bx
theorem step_call {P : Program} {w : World} {ops : Array Oper} {o : Oper} {a : Act} {K : Act → World → Prop} {Q : Exit → Act → World → Prop} {E : Prop} (hgd : o.guard = none) (g : FuncId) (xs : Array Operand) (ts : Array TypeId)
    (ho : o.op = .call { callee := .value (.func g), args := xs, argTypes := ts }) (he : ∀ args w, (callFunc g args).run P w = .ok (.enter g args) w) (argl : List Value) (hx0 : xs.toList.map a.eval = argl) (R : Ending → World → Prop) (hc : Calls P g argl.toArray w R)
    (h : ∀ e w', R e w' → ∃ v, e = .returned v ∧ K (a.put o.dst v) w') : if Region.wanted o (yielded ops a.tmps) = true then Oper.wp P o a w K Q else E := by
  have hx : xs.map a.eval = argl.toArray := by rw [← Array.toList_inj, Array.toList_map, hx0]
  have hw : Region.wanted o (yielded ops a.tmps) = true := by simp [Region.wanted, hgd]
  rw [if_pos hw]
  unfold Oper.wp execOp
  simp only [ho, resolve, invoke, Sem.run_bind, Sem.run_pure, Result.andThen_ok, hx, Act.eval, Deferred.ofValue, Sem.run_pure, Array.append_empty, Array.empty_append, he]
  rw [Oper.upon_enter]
  refine hc.mono ?_
  intro e w' hr
  obtain ⟨v, rfl, hk⟩ := h e w' hr
  exact hk
end Go.Proofs.YtffejfpbeimngaaDoor.Plt
