/- Words: an answer opened out of an argument's reading. -/
import Derived.Test.YthegkookfpnbeaaKp
import Derived.Test.YthegkookfpnbeaaRo
import Derived.Test.YthegkookfpnbeaaInts
set_option linter.unusedVariables false
set_option linter.unusedSimpArgs false
set_option maxRecDepth 100000
namespace Go.Proofs.Ythegkookfpnbeaa.Wds
open Go.RowKit Go.Lib Go.Proofs.Ythegkookfpnbeaa.Bx Go.Proofs.Ythegkookfpnbeaa.Frm


section
open Go.ChangeShapes Go.WideShapes Go.Deep
variable {H : Type} {enc : TypeId × Value → H}
theorem kcells_str : Try.prog.cellsOf 9 = 1 := by kernel_rfl
theorem kcells_i : Try.prog.cellsOf 3 = 1 := by kernel_rfl
theorem kcells_b : Try.prog.cellsOf 4 = 1 := by kernel_rfl
theorem kcells_runs : Try.prog.cellsOf 43 = 1 := by kernel_rfl
theorem kcells_ens : Try.prog.cellsOf 44 = 1 := by kernel_rfl
theorem kcells_run : Try.prog.cellsOf 114 = 4 := by kernel_rfl
theorem kcells_ans : Try.prog.cellsOf 46 = 6 := by kernel_rfl
theorem n64_wf {a : Int} (h : (Lit.int .i64 a).wf = true) : n64 a := by
  unfold n64
  simpa [Lit.wf, IntKind.min, IntKind.max, IntKind.signed, IntKind.bits] using h
theorem mkB_back (b : ByteArray) : mkB b.data.toList = b := by cases b; rfl
/-- A run's cells, with what a reading says of them. -/
def RunP (W : World) (cs : List Value) (y : Run) : Prop := cs = runC y ∧ n64 y.i ∧ n64 y.l ∧ y.t.length ≤ 9223372036854775807
theorem run_of {W : World} {m : Nat} {x : DataW H × List MemPlace} {cs : List Value} (hl : cs.length = 4) (ht : DataW.trod enc Try.prog W 0 (fun _ => true) true m 114 cs = some x) : ∃ y : Run, RunP W cs y := by
  obtain ⟨xs, m, _, hx, _, hxl, hg⟩ := DataW.trod_struct Try.underlying114 ht
  match cs, hl with
  | [c0, c1, c2, c3], _ =>
    have hxs : xs.length = 4 := hxl
    match xs, hxs with
    | [x0, x1, x2, x3], _ =>
      have g0 : DataW.trod enc Try.prog W 0 (fun _ => true) true m 3 ((([c0, c1, c2, c3] : List Value).drop 0).take (Try.prog.cellsOf 3)) = some x0 := hg 0 _ rfl
      have g1 : DataW.trod enc Try.prog W 0 (fun _ => true) true m 3 ((([c0, c1, c2, c3] : List Value).drop 1).take (Try.prog.cellsOf 3)) = some x1 := hg 1 _ rfl
      have g2 : DataW.trod enc Try.prog W 0 (fun _ => true) true m 4 ((([c0, c1, c2, c3] : List Value).drop 2).take (Try.prog.cellsOf 4)) = some x2 := hg 2 _ rfl
      have g3 : DataW.trod enc Try.prog W 0 (fun _ => true) true m 9 ((([c0, c1, c2, c3] : List Value).drop 3).take (Try.prog.cellsOf 9)) = some x3 := hg 3 _ rfl
      rw [kcells_i] at g0 g1
      rw [kcells_b] at g2
      rw [kcells_str] at g3
      obtain ⟨a0, e0, -, w0⟩ := DataW.trod_int Try.underlying3 g0
      obtain ⟨a1, e1, -, w1⟩ := DataW.trod_int Try.underlying3 g1
      obtain ⟨a2, e2, -⟩ := DataW.trod_bool Try.underlying4 g2
      obtain ⟨a3, e3, -, l3⟩ := DataW.trod_string Try.underlying9 g3
      simp at e0 e1 e2 e3
      subst e0 e1 e2 e3
      exact ⟨⟨a0, a1, a2, a3.data.toList⟩, by unfold runC; rw [mkB_back], n64_wf w0, n64_wf w1, l3⟩
theorem rns_of {W : World} {v : Value} {R : List Run} (h : Rk.Rows 4 RunP W v R) : Rns W v R ∧ ∀ x ∈ R, n64 x.i ∧ n64 x.l ∧ x.t.length ≤ 9223372036854775807 := by
  obtain ⟨p, rfl, h2, h3⟩ := h
  refine ⟨?_, fun x hx => ?_⟩
  · unfold Rns
    have e : p.map Prod.fst = (p.map Prod.snd).map runC := by
      rw [List.map_map]
      exact List.map_congr_left fun x hx => (h3 x hx).1
    rw [← e]
    exact h2
  · obtain ⟨y, hy, rfl⟩ := List.mem_map.1 hx
    exact (h3 y hy).2
theorem ens_nums {P : Nat → Prop} {W : World} {v : Value} {E : List Ent} (h : Aud.EnsP P W v E) : ∀ x ∈ E, n64 x.u ∧ n64 x.o ∧ n64 x.s ∧ (∀ y ∈ x.S, n64 y) ∧ ∀ y ∈ x.L, n64 y := by
  obtain ⟨p, rfl, h2, h3⟩ := h
  intro x hx
  obtain ⟨y, hy, rfl⟩ := List.mem_map.1 hx
  obtain ⟨sv, lv, _, ⟨i1, i2, i3⟩, s1, s2⟩ := h3 y hy
  exact ⟨i1, i2, i3, s1.1.1, s2.1.1⟩
theorem open_answer {W : World} {v : Value} {d : DataW H} {p : List MemPlace} {base : Nat} (hv : Value.okWide Try.prog W .any base 46 v) (h : DataW.Trod enc Try.prog W 0 (fun _ => true) true 46 v d p) : ∃ a : An, AnV W v a ∧ bigA a ∧ numsA a := by
  obtain ⟨cs, rfl, hsz⟩ := okWide_struct Try.underlying46 hv
  obtain ⟨fuel, hf⟩ := h
  obtain ⟨l⟩ := cs
  match l, hsz.trans kcells_ans with
  | [c0, c1, c2, c3, c4, c5], _ =>
    obtain ⟨xs, m, _, hx, _, hxl, hg⟩ := DataW.trod_struct Try.underlying46 hf
    have hxs : xs.length = 6 := hxl
    match xs, hxs with
    | [x0, x1, x2, x3, x4, x5], _ =>
      have g0 : DataW.trod enc Try.prog W 0 (fun _ => true) true m 3 ((([c0, c1, c2, c3, c4, c5] : List Value).drop 0).take (Try.prog.cellsOf 3)) = some x0 := hg 0 _ rfl
      have g1 : DataW.trod enc Try.prog W 0 (fun _ => true) true m 9 ((([c0, c1, c2, c3, c4, c5] : List Value).drop 1).take (Try.prog.cellsOf 9)) = some x1 := hg 1 _ rfl
      have g2 : DataW.trod enc Try.prog W 0 (fun _ => true) true m 3 ((([c0, c1, c2, c3, c4, c5] : List Value).drop 2).take (Try.prog.cellsOf 3)) = some x2 := hg 2 _ rfl
      have g3 : DataW.trod enc Try.prog W 0 (fun _ => true) true m 3 ((([c0, c1, c2, c3, c4, c5] : List Value).drop 3).take (Try.prog.cellsOf 3)) = some x3 := hg 3 _ rfl
      have g4 : DataW.trod enc Try.prog W 0 (fun _ => true) true m 43 ((([c0, c1, c2, c3, c4, c5] : List Value).drop 4).take (Try.prog.cellsOf 43)) = some x4 := hg 4 _ rfl
      have g5 : DataW.trod enc Try.prog W 0 (fun _ => true) true m 44 ((([c0, c1, c2, c3, c4, c5] : List Value).drop 5).take (Try.prog.cellsOf 44)) = some x5 := hg 5 _ rfl
      rw [kcells_i] at g0 g2 g3
      rw [kcells_str] at g1
      rw [kcells_runs] at g4
      rw [kcells_ens] at g5
      obtain ⟨a0, e0, -, w0⟩ := DataW.trod_int Try.underlying3 g0
      obtain ⟨a1, e1, -, l1⟩ := DataW.trod_string Try.underlying9 g1
      obtain ⟨a2, e2, -, w2⟩ := DataW.trod_int Try.underlying3 g2
      obtain ⟨a3, e3, -, w3⟩ := DataW.trod_int Try.underlying3 g3
      simp at e0 e1 e2 e3
      subst e0 e1 e2 e3
      obtain ⟨R, hR⟩ := Rk.rows_at (R := RunP) Try.underlying43 kcells_run (by decide) (by simpa using g4) fun m cs x hl ht => run_of hl ht
      obtain ⟨E, hE⟩ := Rk.rows_at (R := Aud.EnP (· < W.heap.size)) Try.underlying44 Aud.cellsOf_entry (by decide) (by simpa using g5) fun m cs x hl ht => Aud.en_of hl ht
      have hE' : Aud.EnsP (· < W.heap.size) W c5 E := hE
      obtain ⟨r1, r2⟩ := rns_of hR
      exact ⟨⟨a0, a1.data.toList, a2, a3, R, E⟩, ⟨c4, c5, by simp [mkB_back], r1, hE'.mono fun _ _ _ => trivial⟩, ⟨l1, fun x hx => (r2 x hx).2.2⟩, n64_wf w2, n64_wf w3, fun x hx => ⟨(r2 x hx).1, (r2 x hx).2.1⟩, ens_nums hE'⟩
end
end Go.Proofs.Ythegkookfpnbeaa.Wds
