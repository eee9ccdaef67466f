/- Desk: two seats compared. -/
import Derived.Test.YtkbjbmhplocdnaaDb
import Derived.Laws.StructEq
set_option linter.unusedVariables false
set_option linter.unusedSimpArgs false
set_option maxRecDepth 100000
namespace Go.Proofs.Ytkbjbmhplocdnaa.Dsk
open Go.RowKit Go.Lib Go.Proofs.Ytkbjbmhplocdnaa.Bx
def eqS (y z : Se) : Bool := decide (y.t = z.t) && decide (y.u = z.u) && decide (y.d = z.d) && decide (y.q = z.q) && decide (y.a = z.a)
theorem list5 {α : Type} {l : List α} (h : l.length = 5) : ∃ a b c d e, l = [a, b, c, d, e] := by
  match l, h with
  | [a, b, c, d, e], _ => exact ⟨a, b, c, d, e, rfl⟩
theorem seat_eq (y z : Se) (w : World) : (Op.equalIn 10000 28 (.agg #[.string y.t, .int .i64 y.u, .int .i64 y.d, .int .i64 y.q, .string y.a]) (.agg #[.string z.t, .int .i64 z.u, .int .i64 z.d, .int .i64 z.q, .string z.a])).run Try.prog w = .ok (eqS y z) w := by
  rw [run_equalIn_agg w 9999 28 _ _ (by kernel_rfl) (by kernel_rfl)]
  have hf : (Try.prog.fieldsOf 28).toList.map (fun f => (decide (f.name = "_"), f.type, f.offset)) = [(false, 9, 0), (false, 3, 1), (false, 3, 2), (false, 3, 3), (false, 9, 4)] := by kernel_rfl
  generalize (Try.prog.fieldsOf 28).toList = fs at hf ⊢
  obtain ⟨f0, f1, f2, f3, f4, rfl⟩ := list5 (by have h := congrArg List.length hf; rwa [List.length_map] at h)
  simp only [List.map_cons, List.map_nil, List.cons.injEq, Prod.mk.injEq, decide_eq_false_iff_not, and_true] at hf
  obtain ⟨⟨n0, t0, o0⟩, ⟨n1, t1, o1⟩, ⟨n2, t2, o2⟩, ⟨n3, t3, o3⟩, n4, t4, o4⟩ := hf
  have e0 := str_eq y.t z.t
  have e4 := str_eq y.a z.a
  simp [Op.eqFields, n0, n1, n2, n3, n4, t0, t1, t2, t3, t4, o0, o1, o2, o3, o4, go_sem, e0, e4]
  unfold eqS
  by_cases h1 : y.t = z.t <;> by_cases h2 : y.u = z.u <;> by_cases h3 : y.d = z.d <;> by_cases h4 : y.q = z.q <;> by_cases h5 : y.a = z.a <;> simp [h1, h2, h3, h4, h5]
theorem seat_guard : Try.prog.eqGuardType Try.prog.depth 28 = false := by kernel_rfl
end Go.Proofs.Ytkbjbmhplocdnaa.Dsk
