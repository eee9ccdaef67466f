/- Undo: a plain value by value, opened. -/
import Derived.Test.YtoejjicgnhndfaaDoorUo
set_option linter.unusedVariables false
set_option maxRecDepth 100000
namespace Go.Proofs.YtoejjicgnhndfaaDoor.Und
open Go.RowKit Go.Lib Go.Proofs.YtoejjicgnhndfaaDoor.Rk Go.Proofs.YtoejjicgnhndfaaDoor.Rig
section
open Go.ChangeShapes Go.WideShapes Go.Deep
variable {H : Type} {enc : TypeId × Value → H}
theorem open_undo {W : World} {v : Value} {d : DataW H} {p : List MemPlace} {base : Nat} (hv : Value.okWide Tryd.prog W .any base 88 v) (h : DataW.Trod enc Tryd.prog W 0 (fun _ => true) true 88 v d p) (hw : (d.weights Tryd.prog 88).all (· ≤ reachBytes) = true) : ∃ y : U, v = y.val ∧ y.good := by
  obtain ⟨cs, rfl, hsz⟩ := okWide_struct Tryd.underlying88 hv
  obtain ⟨l⟩ := cs
  match l, hsz.trans cellsOf_undo with
  | [c0, c1, c2, c3, c4], _ =>
    obtain ⟨fuel, hf⟩ := h
    obtain ⟨xs, m, _, hx, _, hlen, hg⟩ := DataW.trod_struct Tryd.underlying88 hf
    have hl5 : xs.length = 5 := hlen
    match xs, hl5 with
    | [x0, x1, x2, x3, x4], _ =>
      have g0 : DataW.trod enc Tryd.prog W 0 (fun _ => true) true m 3 (([c0, c1, c2, c3, c4].drop 0).take (Tryd.prog.cellsOf 3)) = some x0 := hg 0 _ rfl
      have g1 : DataW.trod enc Tryd.prog W 0 (fun _ => true) true m 3 (([c0, c1, c2, c3, c4].drop 1).take (Tryd.prog.cellsOf 3)) = some x1 := hg 1 _ rfl
      have g2 : DataW.trod enc Tryd.prog W 0 (fun _ => true) true m 3 (([c0, c1, c2, c3, c4].drop 2).take (Tryd.prog.cellsOf 3)) = some x2 := hg 2 _ rfl
      have g3 : DataW.trod enc Tryd.prog W 0 (fun _ => true) true m 3 (([c0, c1, c2, c3, c4].drop 3).take (Tryd.prog.cellsOf 3)) = some x3 := hg 3 _ rfl
      have g4 : DataW.trod enc Tryd.prog W 0 (fun _ => true) true m 9 (([c0, c1, c2, c3, c4].drop 4).take (Tryd.prog.cellsOf 9)) = some x4 := hg 4 _ rfl
      rw [ucellsOf_int] at g0 g1 g2 g3
      rw [ucellsOf_str] at g4
      obtain ⟨a0, e0, -, w0⟩ := DataW.trod_int Tryd.underlying3 g0
      obtain ⟨a1, e1, -, w1⟩ := DataW.trod_int Tryd.underlying3 g1
      obtain ⟨a2, e2, -, w2⟩ := DataW.trod_int Tryd.underlying3 g2
      obtain ⟨a3, e3, -, w3⟩ := DataW.trod_int Tryd.underlying3 g3
      obtain ⟨s, e4, ex4, w4⟩ := DataW.trod_string Tryd.underlying9 g4
      simp at e0 e1 e2 e3 e4
      subst e0 e1 e2 e3 e4
      refine ⟨⟨a0, a1, a2, a3, s.data.toList⟩, ?_, int_bounds w0, int_bounds w1, int_bounds w2, int_bounds w3, ?_⟩
      · unfold U.val
        rw [Let.mk_self]
      · have hmem : s.data.toList.length ∈ d.weights Tryd.prog 88 := by
          have hd1 := congrArg Prod.fst hx
          simp only at hd1
          rw [hd1]
          simp only [DataW.weights, Tryd.underlying88]
          refine DataW.weights_mem_each (j := 4) (t := 9) (d := x4.1) rfl rfl _ ?_
          rw [ex4]
          simp [DataW.weights]
        have h2 : s.data.toList.length ≤ reachBytes := by simpa using List.all_eq_true.1 hw _ hmem
        exact Nat.le_trans h2 (by decide)
end
end Go.Proofs.YtoejjicgnhndfaaDoor.Und
