/- Undo: the laws' arguments opened: plain values (a struct by value; a slice of them), with the reach's bound on their texts. -/
import Derived.Test.YtoejjicgnhndfaaDoorUd
import Derived.Test.YtoejjicgnhndfaaDoorLift
import Derived.OneCell
import Derived.SizedLaws
import Derived.Deep.Slices
import Derived.Deep.Fields
set_option linter.unusedVariables false
set_option maxRecDepth 100000
namespace Go.Proofs.YtoejjicgnhndfaaDoor.Und
open Go.RowKit Go.Lib Go.Proofs.YtoejjicgnhndfaaDoor.Rk Go.Proofs.YtoejjicgnhndfaaDoor.Rig

theorem cellsOf_undo : Tryd.prog.cellsOf 88 = 5 := by kernel_rfl
theorem ucellsOf_int : Tryd.prog.cellsOf 3 = 1 := by kernel_rfl
theorem ucellsOf_str : Tryd.prog.cellsOf 9 = 1 := by kernel_rfl
section
open Go.ChangeShapes Go.WideShapes Go.Deep
variable {H : Type} {enc : TypeId × Value → H}
theorem weights_all {P : Program} {e : TypeId} : ∀ {l : List (DataW H)} {x : DataW H}, x ∈ l → ∀ n ∈ x.weights P e, n ∈ DataW.weightsAll P e l
  | y :: l, x, hx, n, hn => by
    simp only [DataW.weightsAll, List.mem_append]
    rcases List.mem_cons.1 hx with rfl | hx
    · exact .inl hn
    · exact .inr (weights_all hx n hn)
theorem undo_cells {W : World} {a : Addr} {n : Nat} {x : DataW H × List MemPlace} {cs : List Value} (hc : W.cells? 0 a 5 = some cs) (ht : DataW.trod enc Tryd.prog W 0 (fun _ => true) true n 88 cs = some x) :
    a.spot = none ∧ ∃ y : U, cs = y.cells ∧ (i64 y.k ∧ i64 y.d ∧ i64 y.m ∧ i64 y.l) ∧ (y.t.length ∈ x.1.weights Tryd.prog 88) ∧ W.cell? ⟨a.block, a.off, none⟩ = some (.int .i64 y.k) ∧ ∀ i u, y.cells[i]? = some u → W.cell? ⟨a.block, a.off + i, none⟩ = some u := by
  obtain ⟨_, hl, hat⟩ := World.cells?_some hc
  obtain ⟨xs, m, _, hx, _, hxl, hg⟩ := DataW.trod_struct Tryd.underlying88 ht
  match cs, hl with
  | [c0, c1, c2, c3, c4], _ =>
    have hxs : xs.length = 5 := hxl
    match xs, hxs with
    | [x0, x1, x2, x3, x4], _ =>
      have g0 : DataW.trod enc Tryd.prog W 0 (fun _ => true) true m 3 (([c0, c1, c2, c3, c4].drop 0).take (Tryd.prog.cellsOf 3)) = some x0 := hg 0 _ rfl
      have g1 : DataW.trod enc Tryd.prog W 0 (fun _ => true) true m 3 (([c0, c1, c2, c3, c4].drop 1).take (Tryd.prog.cellsOf 3)) = some x1 := hg 1 _ rfl
      have g2 : DataW.trod enc Tryd.prog W 0 (fun _ => true) true m 3 (([c0, c1, c2, c3, c4].drop 2).take (Tryd.prog.cellsOf 3)) = some x2 := hg 2 _ rfl
      have g3 : DataW.trod enc Tryd.prog W 0 (fun _ => true) true m 3 (([c0, c1, c2, c3, c4].drop 3).take (Tryd.prog.cellsOf 3)) = some x3 := hg 3 _ rfl
      have g4 : DataW.trod enc Tryd.prog W 0 (fun _ => true) true m 9 (([c0, c1, c2, c3, c4].drop 4).take (Tryd.prog.cellsOf 9)) = some x4 := hg 4 _ rfl
      rw [ucellsOf_int] at g0 g1 g2 g3
      rw [ucellsOf_str] at g4
      obtain ⟨a0, e0, -, w0⟩ := DataW.trod_int Tryd.underlying3 g0
      obtain ⟨a1, e1, -, w1⟩ := DataW.trod_int Tryd.underlying3 g1
      obtain ⟨a2, e2, -, w2⟩ := DataW.trod_int Tryd.underlying3 g2
      obtain ⟨a3, e3, -, w3⟩ := DataW.trod_int Tryd.underlying3 g3
      obtain ⟨s, e4, ex4, w4⟩ := DataW.trod_string Tryd.underlying9 g4
      simp at e0 e1 e2 e3 e4
      subst e0 e1 e2 e3 e4
      have h0 := hat 0 (by omega)
      have h1 := hat 1 (by omega)
      have h2 := hat 2 (by omega)
      have h3 := hat 3 (by omega)
      have h4 := hat 4 (by omega)
      obtain ⟨b, o, sp⟩ := a
      have hsp : sp = none := by simpa [Addr.add] using World.cell?_spot h0
      subst hsp
      have k0 : W.cell? ⟨b, o, none⟩ = some (.int .i64 a0) := by simpa [Addr.add] using h0
      have k1 : W.cell? ⟨b, o + 1, none⟩ = some (.int .i64 a1) := by simpa [Addr.add] using h1
      have k2 : W.cell? ⟨b, o + 2, none⟩ = some (.int .i64 a2) := by simpa [Addr.add] using h2
      have k3 : W.cell? ⟨b, o + 3, none⟩ = some (.int .i64 a3) := by simpa [Addr.add] using h3
      have k4 : W.cell? ⟨b, o + 4, none⟩ = some (.string (Let.mk s.data.toList)) := by rw [Let.mk_self]; simpa [Addr.add] using h4
      refine ⟨rfl, ⟨a0, a1, a2, a3, s.data.toList⟩, by unfold U.cells; simp only; rw [Let.mk_self], ⟨int_bounds w0, int_bounds w1, int_bounds w2, int_bounds w3⟩, ?_, k0, fun i u hu => ?_⟩
      · rw [hx]
        simp only [DataW.weights, Tryd.underlying88]
        refine DataW.weights_mem_each (j := 4) (t := 9) (d := x4.1) rfl rfl _ ?_
        rw [ex4]
        simp [DataW.weights]
      · unfold U.cells at hu
        match i, hu with
        | 0, hu => injection hu with hu; subst hu; exact k0
        | 1, hu => injection hu with hu; subst hu; exact k1
        | 2, hu => injection hu with hu; subst hu; exact k2
        | 3, hu => injection hu with hu; subst hu; exact k3
        | 4, hu => injection hu with hu; subst hu; exact k4
        | i + 5, hu => simp at hu
/-- A slice of plain values. -/
theorem open_undos {W : World} {v : Value} {d : DataW H} {p : List MemPlace} {base : Nat} (hv : Value.okWide Tryd.prog W .any base 81 v) (h : DataW.Trod enc Tryd.prog W 0 (fun _ => true) true 81 v d p) (hw : (d.weights Tryd.prog 81).all (· ≤ reachBytes) = true) : ∃ A : List U, Us W v A := by
  obtain ⟨a0, len, cap, rfl⟩ := okWide_slice Tryd.underlying81 hv
  obtain ⟨fuel, hf⟩ := h
  rcases open_slice Tryd.underlying81 hf with ⟨hcs, _⟩ | ⟨a, len', cap', m, n, D, Pl, hcs, _, hl, hm, hmm, hd, hel⟩
  · simp [Value.cells] at hcs
    obtain ⟨rfl, rfl, rfl⟩ := hcs
    exact ⟨[], RowK.nil_ _ _, fun _ h => by simp at h⟩
  · simp [Value.cells] at hcs
    obtain ⟨rfl, rfl, rfl⟩ := hcs
    simp only [if_true] at hmm
    have hd1 : d = .slice ((List.range len).map D) ((List.range (m - len)).map fun j => D (len + j)) := congrArg Prod.fst hd
    have hall : ∀ i, i < len → (a.add (i * 5)).spot = none ∧ ∃ y : U, y.good ∧ W.cell? ⟨(a.add (i * 5)).block, (a.add (i * 5)).off, none⟩ = some (.int .i64 y.k) ∧ ∀ q u, y.cells[q]? = some u → W.cell? ⟨(a.add (i * 5)).block, (a.add (i * 5)).off + q, none⟩ = some u := by
      intro i hi
      obtain ⟨cs', hc, ht⟩ := hel i (by omega)
      rw [cellsOf_undo] at hc
      obtain ⟨h1, y, _, ⟨g1, g2, g3, g4⟩, h3, h5, h4⟩ := undo_cells hc ht
      refine ⟨h1, y, ⟨g1, g2, g3, g4, ?_⟩, h5, h4⟩
      have hmem : y.t.length ∈ d.weights Tryd.prog 81 := by
        rw [hd1]
        simp only [DataW.weights, Tryd.underlying81]
        refine List.mem_cons_of_mem _ (List.mem_append_left _ (weights_all (x := D i) (List.mem_map_of_mem (List.mem_range.2 hi)) _ h3))
      have := List.all_eq_true.1 hw _ hmem
      have h47 := reachBytes_lt
      simp at this
      omega
    by_cases h0 : len = 0
    · subst h0
      exact ⟨[], ⟨fun _ h => by simp at h, some a, cap, rfl, Nat.zero_le _, hm, .inl rfl⟩, fun _ h => by simp at h⟩
    · obtain ⟨b, o, sp⟩ := a
      have hsp : sp = none := by
        have h1 := (hall 0 (by omega)).1
        simpa [Addr.add] using h1
      subst hsp
      have hall' : ∀ i, i < len → ∃ y : U, y.good ∧ W.cell? ⟨b, o + i * 5, none⟩ = some (.int .i64 y.k) ∧ ∀ q u, y.cells[q]? = some u → W.cell? ⟨b, o + i * 5 + q, none⟩ = some u := by
        intro i hi
        obtain ⟨_, y, g, c0, cq⟩ := hall i hi
        rw [kadd] at c0 cq
        exact ⟨y, g, c0, cq⟩
      have hch := fun i : Fin len => hall' i.1 i.2
      let A : List U := List.ofFn fun i : Fin len => (hch i).choose
      have hA : A.length = len := List.length_ofFn
      have hAi : ∀ i (hi : i < A.length), A[i] = (hch ⟨i, by omega⟩).choose := fun i hi => by simp [A]
      obtain ⟨y0, _, hc0, _⟩ := hall' 0 (by omega)
      rw [Nat.zero_mul, Nat.add_zero] at hc0
      refine ⟨A, ⟨fun x hx => ?_, some ⟨b, o, none⟩, cap, by rw [List.length_map, hA], by rw [List.length_map]; omega, hm, .inr ⟨b, o, rfl, World.block_lt_of_cell? _ _ hc0, fun j hj q u hu => ?_⟩⟩, fun y hy => ?_⟩
      · obtain ⟨y, _, rfl⟩ := List.mem_map.1 hx
        rfl
      · rw [List.length_map] at hj
        rw [List.getElem_map, hAi j hj] at hu
        exact (hch ⟨j, by omega⟩).choose_spec.2.2 q u hu
      · obtain ⟨j, hj, rfl⟩ := List.getElem_of_mem hy
        rw [hAi j hj]
        exact (hch ⟨j, by omega⟩).choose_spec.1
end
end Go.Proofs.YtoejjicgnhndfaaDoor.Und
