/- Plate: acts, opened out of an argument's reading. -/
import Derived.Test.YtegnpkolmnmeiaaY16r
import Derived.Test.YtegnpkolmnmeiaaRo
import Derived.Test.YtegnpkolmnmeiaaLift
set_option linter.unusedVariables false
set_option linter.unusedSimpArgs false
set_option maxRecDepth 100000
namespace Go.Proofs.Ytegnpkolmnmeiaa.Plt
open Go.RowKit Go.Lib Go.Proofs.Ytegnpkolmnmeiaa.Bx

structure Ac where
  q : Int
  a : Int
  t : ByteArray
  pk : List Int
def in64 (x : Int) : Prop := -9223372036854775808 ≤ x ∧ x ≤ 9223372036854775807
def actR (w : World) (x : List Value) (y : Ac) : Prop := ∃ pv, x = [.int .i64 y.q, .int .i64 y.a, .string y.t, pv] ∧ Rk.RowK 1 w pv (cellsZ y.pk) ∧ in64 y.q ∧ in64 y.a ∧ y.t.size ≤ 9223372036854775807 ∧ ∀ z ∈ y.pk, in64 z
section
open Go.ChangeShapes Go.WideShapes Go.Deep
variable {H : Type} {enc : TypeId × Value → H}
theorem cellsOf_act : Try.prog.cellsOf 37 = 4 := by kernel_rfl
theorem cellsOf_str : Try.prog.cellsOf 9 = 1 := by kernel_rfl
theorem cellsOf_i : Try.prog.cellsOf 3 = 1 := by kernel_rfl
theorem cellsOf_is : Try.prog.cellsOf 34 = 1 := by kernel_rfl
def intR (w : World) (x : List Value) (z : Int) : Prop := x = [.int .i64 z] ∧ in64 z
theorem rows_ints {W : World} {c : Value} {pk : List Int} (h : Rk.Rows 1 intR W c pk) : Rk.RowK 1 W c (cellsZ pk) ∧ ∀ z ∈ pk, in64 z := by
  obtain ⟨p, h1, h2, h3⟩ := h
  have e : p.map Prod.fst = cellsZ pk := by
    rw [← h1]
    unfold cellsZ
    rw [List.map_map]
    exact List.map_congr_left fun x hx => (h3 x hx).1
  rw [e] at h2
  refine ⟨h2, fun z hz => ?_⟩
  rw [← h1] at hz
  obtain ⟨x, hx, rfl⟩ := List.mem_map.1 hz
  exact (h3 x hx).2
theorem lit64 {x : Int} (h : (Lit.int .i64 x).wf = true) : in64 x := by simpa [in64, Lit.wf, IntKind.min, IntKind.max, IntKind.signed, IntKind.bits] using h
theorem open_act {W : World} (fuel : Nat) (cs : List Value) (x : DataW H × List MemPlace) (hsz : cs.length = 4) (hf : DataW.trod enc Try.prog W 0 (fun _ => true) true fuel 37 cs = some x) : ∃ y : Ac, actR W cs y := by
  match cs, hsz with
  | [c0, c1, c2, c3], _ =>
    obtain ⟨xs, m, _, hx, _, hxl, hg⟩ := DataW.trod_struct Try.underlying37 hf
    have hxs : xs.length = 4 := hxl
    match xs, hxs with
    | [x0, x1, x2, x3], _ =>
      have g0 : DataW.trod enc Try.prog W 0 (fun _ => true) true m 3 (([c0, c1, c2, c3].drop 0).take (Try.prog.cellsOf 3)) = some x0 := hg 0 _ rfl
      have g1 : DataW.trod enc Try.prog W 0 (fun _ => true) true m 3 (([c0, c1, c2, c3].drop 1).take (Try.prog.cellsOf 3)) = some x1 := hg 1 _ rfl
      have g2 : DataW.trod enc Try.prog W 0 (fun _ => true) true m 9 (([c0, c1, c2, c3].drop 2).take (Try.prog.cellsOf 9)) = some x2 := hg 2 _ rfl
      have g3 : DataW.trod enc Try.prog W 0 (fun _ => true) true m 34 (([c0, c1, c2, c3].drop 3).take (Try.prog.cellsOf 34)) = some x3 := hg 3 _ rfl
      rw [cellsOf_i] at g0 g1
      rw [cellsOf_str] at g2
      rw [cellsOf_is] at g3
      obtain ⟨a0, e0, -, w0⟩ := DataW.trod_int Try.underlying3 g0
      obtain ⟨a1, e1, -, w1⟩ := DataW.trod_int Try.underlying3 g1
      obtain ⟨a2, e2, -, w2⟩ := DataW.trod_string Try.underlying9 g2
      simp at e0 e1 e2
      subst e0 e1 e2
      have g3' : DataW.trod enc Try.prog W 0 (fun _ => true) true m 34 [c3] = some x3 := g3
      obtain ⟨pk, hp⟩ := Rk.rows_at (R := intR) Try.underlying34 cellsOf_i (by decide) g3' (fun m cs y hl ht => by
        match cs, hl with
        | [d0], _ =>
          obtain ⟨z, e, -, wz⟩ := DataW.trod_int Try.underlying3 ht
          simp at e
          subst e
          exact ⟨z, rfl, lit64 wz⟩)
      obtain ⟨h1, h2⟩ := rows_ints hp
      exact ⟨⟨a0, a1, a2, pk⟩, c3, rfl, h1, lit64 w0, lit64 w1, by have := w2; unfold maxLen at this; omega, h2⟩
theorem open_pacts {W : World} {v : Value} {d : DataW H} {p : List MemPlace} {base : Nat} (hv : Value.okWide Try.prog W .any base 22 v) (h : DataW.Trod enc Try.prog W 0 (fun _ => true) true 22 v d p) : ∃ A : List Ac, Rk.Rows 4 actR W v A :=
  Rk.open_rows Try.underlying22 cellsOf_act (by decide) hv h open_act
end
end Go.Proofs.Ytegnpkolmnmeiaa.Plt
