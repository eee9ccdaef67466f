/- Words: a call's plain values opened out of an argument's reading. -/
import Derived.Test.YthegkookfpnbeaaGt
import Derived.Test.YthegkookfpnbeaaRo
set_option linter.unusedVariables false
set_option linter.unusedSimpArgs false
set_option maxRecDepth 100000
namespace Go.Proofs.Ythegkookfpnbeaa.Wds
open Go.RowKit Go.Lib Go.Proofs.Ythegkookfpnbeaa.Bx Go.Proofs.Ythegkookfpnbeaa.Frm

section
open Go.ChangeShapes Go.WideShapes Go.Deep
variable {H : Type} {enc : TypeId × Value → H}
theorem cellsOf_str : Try.prog.cellsOf 9 = 1 := by kernel_rfl
theorem cellsOf_i : Try.prog.cellsOf 3 = 1 := by kernel_rfl
theorem cellsOf_b : Try.prog.cellsOf 4 = 1 := by kernel_rfl
theorem cellsOf_six : Try.prog.cellsOf 22 = 6 := by kernel_rfl
theorem cellsOf_plain : Try.prog.cellsOf 24 = 13 := by kernel_rfl
theorem in64_wf {a : Int} (h : (Lit.int .i64 a).wf = true) : in64 a := by
  unfold in64
  simpa [Lit.wf, IntKind.min, IntKind.max, IntKind.signed, IntKind.bits] using h
theorem six_of {W : World} {m : Nat} {x : DataW H × List MemPlace} {c0 c1 c2 c3 c4 c5 : Value} (ht : DataW.trod enc Try.prog W 0 (fun _ => true) true m 22 [c0, c1, c2, c3, c4, c5] = some x) : ∃ a0 a1 a2 a3 a4 a5 : Int, c0 = .int .i64 a0 ∧ c1 = .int .i64 a1 ∧ c2 = .int .i64 a2 ∧ c3 = .int .i64 a3 ∧ c4 = .int .i64 a4 ∧ c5 = .int .i64 a5 ∧ in64 a0 ∧ in64 a1 ∧ in64 a2 ∧ in64 a3 ∧ in64 a4 ∧ in64 a5 := by
  obtain ⟨xs, m, _, _, _, hxl, hg⟩ := DataW.trod_array Try.underlying22 ht
  match xs, hxl with
  | [x0, x1, x2, x3, x4, x5], _ =>
    have g0 := hg 0 (by decide)
    have g1 := hg 1 (by decide)
    have g2 := hg 2 (by decide)
    have g3 := hg 3 (by decide)
    have g4 := hg 4 (by decide)
    have g5 := hg 5 (by decide)
    rw [cellsOf_i] at g0 g1 g2 g3 g4 g5
    obtain ⟨a0, e0, -, w0⟩ := DataW.trod_int Try.underlying3 g0
    obtain ⟨a1, e1, -, w1⟩ := DataW.trod_int Try.underlying3 g1
    obtain ⟨a2, e2, -, w2⟩ := DataW.trod_int Try.underlying3 g2
    obtain ⟨a3, e3, -, w3⟩ := DataW.trod_int Try.underlying3 g3
    obtain ⟨a4, e4, -, w4⟩ := DataW.trod_int Try.underlying3 g4
    obtain ⟨a5, e5, -, w5⟩ := DataW.trod_int Try.underlying3 g5
    simp at e0 e1 e2 e3 e4 e5
    exact ⟨a0, a1, a2, a3, a4, a5, e0, e1, e2, e3, e4, e5, in64_wf w0, in64_wf w1, in64_wf w2, in64_wf w3, in64_wf w4, in64_wf w5⟩
theorem open_plain {W : World} {v : Value} {d : DataW H} {p : List MemPlace} {base : Nat} (hv : Value.okWide Try.prog W .any base 24 v) (h : DataW.Trod enc Try.prog W 0 (fun _ => true) true 24 v d p) :
    ∃ q : Pl, v = plV q ∧ okP q ∧ q.tok.length ≤ 9223372036854775807 ∧ q.text.length ≤ 9223372036854775807 ∧ q.more.length ≤ 9223372036854775807 := by
  obtain ⟨cs, rfl, hsz⟩ := okWide_struct Try.underlying24 hv
  obtain ⟨fuel, hf⟩ := h
  obtain ⟨l⟩ := cs
  match l, hsz.trans cellsOf_plain with
  | [c0, c1, c2, c3, c4, c5, c6, c7, c8, c9, c10, c11, c12], _ =>
    obtain ⟨xs, m, _, hx, _, hxl, hg⟩ := DataW.trod_struct Try.underlying24 hf
    have hxs : xs.length = 8 := hxl
    match xs, hxs with
    | [x0, x1, x2, x3, x4, x5, x6, x7], _ =>
      have g0 : DataW.trod enc Try.prog W 0 (fun _ => true) true m 3 (([c0, c1, c2, c3, c4, c5, c6, c7, c8, c9, c10, c11, c12].drop 0).take (Try.prog.cellsOf 3)) = some x0 := hg 0 _ rfl
      have g1 : DataW.trod enc Try.prog W 0 (fun _ => true) true m 9 (([c0, c1, c2, c3, c4, c5, c6, c7, c8, c9, c10, c11, c12].drop 1).take (Try.prog.cellsOf 9)) = some x1 := hg 1 _ rfl
      have g2 : DataW.trod enc Try.prog W 0 (fun _ => true) true m 3 (([c0, c1, c2, c3, c4, c5, c6, c7, c8, c9, c10, c11, c12].drop 2).take (Try.prog.cellsOf 3)) = some x2 := hg 2 _ rfl
      have g3 : DataW.trod enc Try.prog W 0 (fun _ => true) true m 22 (([c0, c1, c2, c3, c4, c5, c6, c7, c8, c9, c10, c11, c12].drop 3).take (Try.prog.cellsOf 22)) = some x3 := hg 3 _ rfl
      have g4 : DataW.trod enc Try.prog W 0 (fun _ => true) true m 9 (([c0, c1, c2, c3, c4, c5, c6, c7, c8, c9, c10, c11, c12].drop 9).take (Try.prog.cellsOf 9)) = some x4 := hg 4 _ rfl
      have g5 : DataW.trod enc Try.prog W 0 (fun _ => true) true m 9 (([c0, c1, c2, c3, c4, c5, c6, c7, c8, c9, c10, c11, c12].drop 10).take (Try.prog.cellsOf 9)) = some x5 := hg 5 _ rfl
      have g6 : DataW.trod enc Try.prog W 0 (fun _ => true) true m 4 (([c0, c1, c2, c3, c4, c5, c6, c7, c8, c9, c10, c11, c12].drop 11).take (Try.prog.cellsOf 4)) = some x6 := hg 6 _ rfl
      have g7 : DataW.trod enc Try.prog W 0 (fun _ => true) true m 4 (([c0, c1, c2, c3, c4, c5, c6, c7, c8, c9, c10, c11, c12].drop 12).take (Try.prog.cellsOf 4)) = some x7 := hg 7 _ rfl
      rw [cellsOf_i] at g0 g2
      rw [cellsOf_str] at g1 g4 g5
      rw [cellsOf_b] at g6 g7
      rw [cellsOf_six] at g3
      obtain ⟨a0, e0, -, w0⟩ := DataW.trod_int Try.underlying3 g0
      obtain ⟨a1, e1, -, l1⟩ := DataW.trod_string Try.underlying9 g1
      obtain ⟨a2, e2, -, w2⟩ := DataW.trod_int Try.underlying3 g2
      obtain ⟨n0, n1, n2, n3, n4, n5, r0, r1, r2, r3, r4, r5, i0, i1, i2, i3, i4, i5⟩ := six_of (c0 := c3) (c1 := c4) (c2 := c5) (c3 := c6) (c4 := c7) (c5 := c8) (by simpa using g3)
      obtain ⟨a4, e4, -, l4⟩ := DataW.trod_string Try.underlying9 g4
      obtain ⟨a5, e5, -, l5⟩ := DataW.trod_string Try.underlying9 g5
      obtain ⟨a6, e6, -⟩ := DataW.trod_bool Try.underlying4 g6
      obtain ⟨a7, e7, -⟩ := DataW.trod_bool Try.underlying4 g7
      simp at e0 e1 e2 e4 e5 e6 e7
      subst e0 e1 e2 e4 e5 e6 e7 r0 r1 r2 r3 r4 r5
      have mb : ∀ b : ByteArray, mkB b.data.toList = b := fun b => by cases b; rfl
      refine ⟨⟨a0, a1.data.toList, a2, [n0, n1, n2, n3, n4, n5], a4.data.toList, a5.data.toList, a6, a7⟩, ?_, ⟨rfl, in64_wf w0, in64_wf w2, ?_⟩, l1, l4, l5⟩
      · simp [plV, nn, mb]
      · intro z hz
        simp only [List.mem_cons, List.not_mem_nil, or_false] at hz
        rcases hz with rfl | rfl | rfl | rfl | rfl | rfl <;> assumption
end
end Go.Proofs.Ythegkookfpnbeaa.Wds
