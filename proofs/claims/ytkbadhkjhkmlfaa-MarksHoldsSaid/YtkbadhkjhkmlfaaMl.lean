/- What the laws of marks have in common: arguments opened; what may be asked; the same marks. -/
import Derived.Test.YtkbadhkjhkmlfaaPright
import Derived.Test.YtkbadhkjhkmlfaaPjoin
import Derived.Test.YtkbadhkjhkmlfaaPof
import Derived.Test.YtkbadhkjhkmlfaaPdrop
import Derived.Deep.RegionHeld3
set_option linter.unusedVariables false
namespace Go.Proofs.Ytkbadhkjhkmlfaa.Rig
open Go.RowKit Go.Lib Go.Proofs.Ytkbadhkjhkmlfaa.Rt

section
open Go.ChangeShapes Go.WideShapes Go.Deep
variable {H : Type} {enc : TypeId × Value → H}
theorem cellsOf_span : Try.prog.cellsOf 26 = 3 := by kernel_rfl
theorem cellsOf_site : Try.prog.cellsOf 41 = 2 := by kernel_rfl
theorem cellsOf_spans : Try.prog.cellsOf 22 = 1 := by kernel_rfl
theorem cellsOf_sites : Try.prog.cellsOf 23 = 1 := by kernel_rfl
def SpAt (W : World) (b off : Nat) (y : Sp) : Prop := Sp.good y ∧ W.cell? ⟨b, off, none⟩ = some (.int .i64 y.m) ∧ W.cell? ⟨b, off + 1, none⟩ = some (.int .i64 y.f) ∧ W.cell? ⟨b, off + 2, none⟩ = some (.int .i64 y.t)
def StAt (W : World) (b off : Nat) (y : St) : Prop := St.good y ∧ W.cell? ⟨b, off, none⟩ = some (.int .i64 y.m) ∧ W.cell? ⟨b, off + 1, none⟩ = some (.int .i64 y.a)
theorem span_cells {W : World} {a : Addr} {n : Nat} {x : DataW H × List MemPlace} {cs : List Value} (hc : W.cells? 0 a 3 = some cs) (ht : DataW.trod enc Try.prog W 0 (fun _ => true) true n 26 cs = some x) :
    a.spot = none ∧ ∃ y : Sp, SpAt W a.block a.off y := by
  obtain ⟨_, hl, hat⟩ := World.cells?_some hc
  obtain ⟨xs, m, _, _, _, hxl, hf⟩ := DataW.trod_struct Try.underlying26 ht
  match cs, hl with
  | [c0, c1, c2], _ =>
    have hxs : xs.length = 3 := hxl
    match xs, hxs with
    | [x0, x1, x2], _ =>
      have g0 : DataW.trod enc Try.prog W 0 (fun _ => true) true m 3 (([c0, c1, c2].drop 0).take (Try.prog.cellsOf 3)) = some x0 := hf 0 _ rfl
      have g1 : DataW.trod enc Try.prog W 0 (fun _ => true) true m 3 (([c0, c1, c2].drop 1).take (Try.prog.cellsOf 3)) = some x1 := hf 1 _ rfl
      have g2 : DataW.trod enc Try.prog W 0 (fun _ => true) true m 3 (([c0, c1, c2].drop 2).take (Try.prog.cellsOf 3)) = some x2 := hf 2 _ rfl
      rw [cellsOf_int] at g0 g1 g2
      obtain ⟨q, e0, -, w0⟩ := DataW.trod_int Try.underlying3 g0
      obtain ⟨f, e1, -, w1⟩ := DataW.trod_int Try.underlying3 g1
      obtain ⟨t, e2, -, w2⟩ := DataW.trod_int Try.underlying3 g2
      simp at e0 e1 e2
      subst e0 e1 e2
      have h0 := hat 0 (by omega)
      have h1 := hat 1 (by omega)
      have h2 := hat 2 (by omega)
      obtain ⟨b, o, sp⟩ := a
      have hsp : sp = none := by simpa [Addr.add] using World.cell?_spot h0
      subst hsp
      refine ⟨rfl, ⟨q, f, t⟩, ⟨int_bounds w0, int_bounds w1, int_bounds w2⟩, ?_, ?_, ?_⟩
      · simpa [Addr.add] using h0
      · simpa [Addr.add] using h1
      · simpa [Addr.add] using h2
theorem site_cells {W : World} {a : Addr} {n : Nat} {x : DataW H × List MemPlace} {cs : List Value} (hc : W.cells? 0 a 2 = some cs) (ht : DataW.trod enc Try.prog W 0 (fun _ => true) true n 41 cs = some x) :
    a.spot = none ∧ ∃ y : St, StAt W a.block a.off y := by
  obtain ⟨_, hl, hat⟩ := World.cells?_some hc
  obtain ⟨xs, m, _, _, _, hxl, hf⟩ := DataW.trod_struct Try.underlying41 ht
  match cs, hl with
  | [c0, c1], _ =>
    have hxs : xs.length = 2 := hxl
    match xs, hxs with
    | [x0, x1], _ =>
      have g0 : DataW.trod enc Try.prog W 0 (fun _ => true) true m 3 (([c0, c1].drop 0).take (Try.prog.cellsOf 3)) = some x0 := hf 0 _ rfl
      have g1 : DataW.trod enc Try.prog W 0 (fun _ => true) true m 3 (([c0, c1].drop 1).take (Try.prog.cellsOf 3)) = some x1 := hf 1 _ rfl
      rw [cellsOf_int] at g0 g1
      obtain ⟨q, e0, -, w0⟩ := DataW.trod_int Try.underlying3 g0
      obtain ⟨f, e1, -, w1⟩ := DataW.trod_int Try.underlying3 g1
      simp at e0 e1
      subst e0 e1
      have h0 := hat 0 (by omega)
      have h1 := hat 1 (by omega)
      obtain ⟨b, o, sp⟩ := a
      have hsp : sp = none := by simpa [Addr.add] using World.cell?_spot h0
      subst hsp
      refine ⟨rfl, ⟨q, f⟩, ⟨int_bounds w0, int_bounds w1⟩, ?_, ?_⟩
      · simpa [Addr.add] using h0
      · simpa [Addr.add] using h1
theorem at_fl3 (S : List Sp) {j : Nat} (h : j < S.length * 3) : ∃ i r, i < S.length ∧ r < 3 ∧ j = i * 3 + r ∧ at_ (fl3 S) j = (match r with | 0 => (sp S i).m | 1 => (sp S i).f | _ => (sp S i).t) := by
  refine ⟨j / 3, j % 3, by omega, Nat.mod_lt _ (by omega), by omega, ?_⟩
  obtain ⟨h0, h1, h2⟩ := fl3_at S (j / 3) (by omega)
  rcases (show j % 3 = 0 ∨ j % 3 = 1 ∨ j % 3 = 2 by omega) with e | e | e <;> rw [e]
  · show _ = (sp S (j / 3)).m
    rw [← h0]; congr 1; omega
  · show _ = (sp S (j / 3)).f
    rw [← h1]; congr 1; omega
  · show _ = (sp S (j / 3)).t
    rw [← h2]; congr 1; omega
theorem at_fl2 (S : List St) {j : Nat} (h : j < S.length * 2) : ∃ i r, i < S.length ∧ r < 2 ∧ j = i * 2 + r ∧ at_ (fl2 S) j = (match r with | 0 => (st S i).m | _ => (st S i).a) := by
  refine ⟨j / 2, j % 2, by omega, Nat.mod_lt _ (by omega), by omega, ?_⟩
  obtain ⟨h0, h1⟩ := fl2_at S (j / 2) (by omega)
  rcases (show j % 2 = 0 ∨ j % 2 = 1 by omega) with e | e <;> rw [e]
  · show _ = (st S (j / 2)).m
    rw [← h0]; congr 1; omega
  · show _ = (st S (j / 2)).a
    rw [← h1]; congr 1; omega
theorem spans_mk {W : World} {b o len cap : Nat} {S : List Sp} (hA : S.length = len) (hl : len ≤ cap) (hm : cap ≤ maxLen) (h : ∀ i, i < len → SpAt W b (o + i * 3) (sp S i)) (hb : 0 < len → b < W.heap.size) : Spans W (.slice (some ⟨b, o, none⟩) len cap) S := by
  subst hA
  refine ⟨fl3_len S, fun x hx => ?_, _, cap, rfl, hl, hm, ?_⟩
  · obtain ⟨j, hj, rfl⟩ := List.getElem_of_mem hx
    have hj' : j < S.length * 3 := by rwa [fl3_len] at hj
    obtain ⟨i, r, hi, hr, _, e⟩ := at_fl3 S hj'
    rw [at_get hj] at e
    rw [e]
    obtain ⟨⟨g1, g2, g3⟩, _⟩ := h i hi
    split <;> assumption
  · by_cases h0 : S.length = 0
    · exact .inl h0
    · refine .inr ⟨b, o, rfl, hb (by omega), fun j hj => ?_⟩
      obtain ⟨i, r, hi, hr, rfl, e⟩ := at_fl3 S hj
      rw [e]
      obtain ⟨_, c0, c1, c2⟩ := h i hi
      rcases (show r = 0 ∨ r = 1 ∨ r = 2 by omega) with rfl | rfl | rfl
      · exact c0
      · rw [← Nat.add_assoc]; exact c1
      · rw [← Nat.add_assoc]; exact c2
theorem sites_mk {W : World} {b o len cap : Nat} {S : List St} (hA : S.length = len) (hl : len ≤ cap) (hm : cap ≤ maxLen) (h : ∀ i, i < len → StAt W b (o + i * 2) (st S i)) (hb : 0 < len → b < W.heap.size) : Sites W (.slice (some ⟨b, o, none⟩) len cap) S := by
  subst hA
  refine ⟨fl2_len S, fun x hx => ?_, _, cap, rfl, hl, hm, ?_⟩
  · obtain ⟨j, hj, rfl⟩ := List.getElem_of_mem hx
    have hj' : j < S.length * 2 := by rwa [fl2_len] at hj
    obtain ⟨i, r, hi, hr, _, e⟩ := at_fl2 S hj'
    rw [at_get hj] at e
    rw [e]
    obtain ⟨⟨g1, g2⟩, _⟩ := h i hi
    split <;> assumption
  · by_cases h0 : S.length = 0
    · exact .inl h0
    · refine .inr ⟨b, o, rfl, hb (by omega), fun j hj => ?_⟩
      obtain ⟨i, r, hi, hr, rfl, e⟩ := at_fl2 S hj
      rw [e]
      obtain ⟨_, c0, c1⟩ := h i hi
      rcases (show r = 0 ∨ r = 1 by omega) with rfl | rfl
      · exact c0
      · rw [← Nat.add_assoc]; exact c1
theorem spans_of {W : World} {n : Nat} {x : DataW H × List MemPlace} {c : Value} (h : DataW.trod enc Try.prog W 0 (fun _ => true) true n 22 [c] = some x) : ∃ S, Spans W c S := by
  rcases open_slice Try.underlying22 h with ⟨hcs, _⟩ | ⟨a, len, cap, m, n', D, Pl, hcs, _, hl, hm, hmm, _, hel⟩
  · simp at hcs
    subst hcs
    exact ⟨[], Spans.nil_ _⟩
  · simp at hcs
    subst hcs
    simp only [if_true] at hmm
    have hall : ∀ i, i < len → ∃ y : Sp, (a.add (i * 3)).spot = none ∧ SpAt W (a.add (i * 3)).block (a.add (i * 3)).off y := fun i hi => by
      obtain ⟨cs', hc, ht⟩ := hel i (by omega)
      rw [cellsOf_span] at hc
      obtain ⟨h1, y, h2⟩ := span_cells hc ht
      exact ⟨y, h1, h2⟩
    by_cases h0 : len = 0
    · subst h0
      exact ⟨[], rfl, fun _ h => by simp [fl3] at h, _, cap, rfl, Nat.zero_le _, hm, .inl rfl⟩
    · obtain ⟨b, o, sp'⟩ := a
      have hsp : sp' = none := by
        obtain ⟨y, h1, _⟩ := hall 0 (by omega)
        simpa [Addr.add] using h1
      subst hsp
      have hall' : ∀ i, i < len → ∃ y : Sp, SpAt W b (o + i * 3) y := fun i hi => by
        obtain ⟨y, _, c⟩ := hall i hi
        rw [add_block, add_off] at c
        exact ⟨y, c⟩
      have hch := fun i : Fin len => hall' i.1 i.2
      let A : List Sp := List.ofFn fun i : Fin len => (hch i).choose
      have hA : A.length = len := List.length_ofFn
      refine ⟨A, spans_mk hA (by omega) hm (fun i hi => ?_) (fun _ => ?_)⟩
      · have hAi : sp A i = (hch ⟨i, hi⟩).choose := by
          unfold sp
          rw [List.getD_eq_getElem?_getD, List.getElem?_eq_getElem (by omega)]
          simp [A]
        rw [hAi]
        exact (hch ⟨i, hi⟩).choose_spec
      · obtain ⟨y, _, h1, _⟩ := hall' 0 (by omega)
        exact lt_of_cell h1
theorem sites_of {W : World} {n : Nat} {x : DataW H × List MemPlace} {c : Value} (h : DataW.trod enc Try.prog W 0 (fun _ => true) true n 23 [c] = some x) : ∃ S, Sites W c S := by
  rcases open_slice Try.underlying23 h with ⟨hcs, _⟩ | ⟨a, len, cap, m, n', D, Pl, hcs, _, hl, hm, hmm, _, hel⟩
  · simp at hcs
    subst hcs
    exact ⟨[], Sites.nil_ _⟩
  · simp at hcs
    subst hcs
    simp only [if_true] at hmm
    have hall : ∀ i, i < len → ∃ y : St, (a.add (i * 2)).spot = none ∧ StAt W (a.add (i * 2)).block (a.add (i * 2)).off y := fun i hi => by
      obtain ⟨cs', hc, ht⟩ := hel i (by omega)
      rw [cellsOf_site] at hc
      obtain ⟨h1, y, h2⟩ := site_cells hc ht
      exact ⟨y, h1, h2⟩
    by_cases h0 : len = 0
    · subst h0
      exact ⟨[], rfl, fun _ h => by simp [fl2] at h, _, cap, rfl, Nat.zero_le _, hm, .inl rfl⟩
    · obtain ⟨b, o, sp'⟩ := a
      have hsp : sp' = none := by
        obtain ⟨y, h1, _⟩ := hall 0 (by omega)
        simpa [Addr.add] using h1
      subst hsp
      have hall' : ∀ i, i < len → ∃ y : St, StAt W b (o + i * 2) y := fun i hi => by
        obtain ⟨y, _, c⟩ := hall i hi
        rw [add_block, add_off] at c
        exact ⟨y, c⟩
      have hch := fun i : Fin len => hall' i.1 i.2
      let A : List St := List.ofFn fun i : Fin len => (hch i).choose
      have hA : A.length = len := List.length_ofFn
      refine ⟨A, sites_mk hA (by omega) hm (fun i hi => ?_) (fun _ => ?_)⟩
      · have hAi : st A i = (hch ⟨i, hi⟩).choose := by
          unfold st
          rw [List.getD_eq_getElem?_getD, List.getElem?_eq_getElem (by omega)]
          simp [A]
        rw [hAi]
        exact (hch ⟨i, hi⟩).choose_spec
      · obtain ⟨y, _, h1, _⟩ := hall' 0 (by omega)
        exact lt_of_cell h1
theorem open_spans {W : World} {v : Value} {d : DataW H} {p : List MemPlace} {base : Nat} (hv : Value.okWide Try.prog W .any base 22 v) (h : DataW.Trod enc Try.prog W 0 (fun _ => true) true 22 v d p) : ∃ S : List Sp, Spans W v S := by
  obtain ⟨a0, len, cap, rfl⟩ := okWide_slice Try.underlying22 hv
  obtain ⟨fuel, hf⟩ := h
  exact spans_of (n := fuel) (by simpa [Value.cells] using hf)
theorem open_sites {W : World} {v : Value} {d : DataW H} {p : List MemPlace} {base : Nat} (hv : Value.okWide Try.prog W .any base 23 v) (h : DataW.Trod enc Try.prog W 0 (fun _ => true) true 23 v d p) : ∃ S : List St, Sites W v S := by
  obtain ⟨a0, len, cap, rfl⟩ := okWide_slice Try.underlying23 hv
  obtain ⟨fuel, hf⟩ := h
  exact sites_of (n := fuel) (by simpa [Value.cells] using hf)

/-- A case: marks, how many letters, two places. -/
structure Cs (W : World) (v : Value) (S : List Sp) (T : List St) (n a b : Int) : Prop where
  is : ∃ sv tv, v = .agg #[sv, tv, .int .i64 n, .int .i64 a, .int .i64 b] ∧ Spans W sv S ∧ Sites W tv T
  gn : i64 n
  ga : i64 a
  gb : i64 b
theorem cellsOf_case : Try.prog.cellsOf 33 = 5 := by kernel_rfl
theorem open_case {W : World} {v : Value} {d : DataW H} {p : List MemPlace} {base : Nat} (hv : Value.okWide Try.prog W .any base 33 v) (h : DataW.Trod enc Try.prog W 0 (fun _ => true) true 33 v d p) :
    ∃ S T n a b, Cs W v S T n a b := by
  obtain ⟨cs, rfl, hsz⟩ := okWide_struct Try.underlying33 hv
  obtain ⟨l⟩ := cs
  match l, hsz.trans cellsOf_case with
  | [c0, c1, c2, c3, c4], _ =>
    obtain ⟨fuel, hf⟩ := h
    obtain ⟨xs, m, _, hx, _, hlen, hg⟩ := DataW.trod_struct Try.underlying33 hf
    have hl5 : xs.length = 5 := hlen
    match xs, hl5 with
    | [x0, x1, x2, x3, x4], _ =>
      have g0 : DataW.trod enc Try.prog W 0 (fun _ => true) true m 22 (([c0, c1, c2, c3, c4].drop 0).take (Try.prog.cellsOf 22)) = some x0 := hg 0 _ rfl
      have g1 : DataW.trod enc Try.prog W 0 (fun _ => true) true m 23 (([c0, c1, c2, c3, c4].drop 1).take (Try.prog.cellsOf 23)) = some x1 := hg 1 _ rfl
      have g2 : DataW.trod enc Try.prog W 0 (fun _ => true) true m 3 (([c0, c1, c2, c3, c4].drop 2).take (Try.prog.cellsOf 3)) = some x2 := hg 2 _ rfl
      have g3 : DataW.trod enc Try.prog W 0 (fun _ => true) true m 3 (([c0, c1, c2, c3, c4].drop 3).take (Try.prog.cellsOf 3)) = some x3 := hg 3 _ rfl
      have g4 : DataW.trod enc Try.prog W 0 (fun _ => true) true m 3 (([c0, c1, c2, c3, c4].drop 4).take (Try.prog.cellsOf 3)) = some x4 := hg 4 _ rfl
      rw [cellsOf_int] at g2 g3 g4
      rw [cellsOf_spans] at g0
      rw [cellsOf_sites] at g1
      obtain ⟨a2, e2, -, w2⟩ := DataW.trod_int Try.underlying3 g2
      obtain ⟨a3, e3, -, w3⟩ := DataW.trod_int Try.underlying3 g3
      obtain ⟨a4, e4, -, w4⟩ := DataW.trod_int Try.underlying3 g4
      simp at e2 e3 e4
      subst e2 e3 e4
      obtain ⟨S, hS⟩ := spans_of (c := c0) (by simpa using g0)
      obtain ⟨T, hT⟩ := sites_of (c := c1) (by simpa using g1)
      exact ⟨S, T, a2, a3, a4, ⟨c0, c1, rfl, hS, hT⟩, int_bounds w2, int_bounds w3, int_bounds w4⟩
end
end Go.Proofs.Ytkbadhkjhkmlfaa.Rig
