/- The acts of MarksHolds: a slice of structs of four ints, opened. -/
import Derived.Test.YtkbadhkjhkmlfaaMl
set_option linter.unusedVariables false
namespace Go.Proofs.Ytkbadhkjhkmlfaa.Rig
open Go.RowKit Go.Lib Go.Proofs.Ytkbadhkjhkmlfaa.Rt

structure Ac where
  what : Int
  at_ : Int
  n : Int
  mark : Int
def ac (A : List Ac) (j : Nat) : Ac := A.getD j ⟨0, 0, 0, 0⟩
def AcAt (W : World) (b o : Nat) (y : Ac) : Prop :=
  (i64 y.what ∧ i64 y.at_ ∧ i64 y.n ∧ i64 y.mark) ∧ W.cell? ⟨b, o, none⟩ = some (.int .i64 y.what) ∧ W.cell? ⟨b, o + 1, none⟩ = some (.int .i64 y.at_) ∧ W.cell? ⟨b, o + 2, none⟩ = some (.int .i64 y.n) ∧ W.cell? ⟨b, o + 3, none⟩ = some (.int .i64 y.mark)
def Acts (W : World) (v : Value) (A : List Ac) : Prop :=
  ∃ a cap, v = .slice a A.length cap ∧ A.length ≤ cap ∧ cap ≤ 9223372036854775807 ∧ ∀ j, j < A.length → ∃ b off, a = some ⟨b, off, none⟩ ∧ b < W.heap.size ∧ AcAt W b (off + j * 4) (ac A j)
section
open Go.ChangeShapes Go.WideShapes Go.Deep
variable {H : Type} {enc : TypeId × Value → H}
theorem cellsOf_act : Try.prog.cellsOf 60 = 4 := by kernel_rfl
theorem act_cells {W : World} {a : Addr} {n : Nat} {x : DataW H × List MemPlace} {cs : List Value} (hc : W.cells? 0 a 4 = some cs) (ht : DataW.trod enc Try.prog W 0 (fun _ => true) true n 60 cs = some x) :
    a.spot = none ∧ ∃ y : Ac, AcAt W a.block a.off y := by
  obtain ⟨_, hl, hat⟩ := World.cells?_some hc
  obtain ⟨xs, m, _, _, _, hxl, hf⟩ := DataW.trod_struct Try.underlying60 ht
  match cs, hl with
  | [c0, c1, c2, c3], _ =>
    have hxs : xs.length = 4 := hxl
    match xs, hxs with
    | [x0, x1, x2, x3], _ =>
      have g0 : DataW.trod enc Try.prog W 0 (fun _ => true) true m 3 (([c0, c1, c2, c3].drop 0).take (Try.prog.cellsOf 3)) = some x0 := hf 0 _ rfl
      have g1 : DataW.trod enc Try.prog W 0 (fun _ => true) true m 3 (([c0, c1, c2, c3].drop 1).take (Try.prog.cellsOf 3)) = some x1 := hf 1 _ rfl
      have g2 : DataW.trod enc Try.prog W 0 (fun _ => true) true m 3 (([c0, c1, c2, c3].drop 2).take (Try.prog.cellsOf 3)) = some x2 := hf 2 _ rfl
      have g3 : DataW.trod enc Try.prog W 0 (fun _ => true) true m 3 (([c0, c1, c2, c3].drop 3).take (Try.prog.cellsOf 3)) = some x3 := hf 3 _ rfl
      rw [cellsOf_int] at g0 g1 g2 g3
      obtain ⟨q0, e0, -, w0⟩ := DataW.trod_int Try.underlying3 g0
      obtain ⟨q1, e1, -, w1⟩ := DataW.trod_int Try.underlying3 g1
      obtain ⟨q2, e2, -, w2⟩ := DataW.trod_int Try.underlying3 g2
      obtain ⟨q3, e3, -, w3⟩ := DataW.trod_int Try.underlying3 g3
      simp at e0 e1 e2 e3
      subst e0 e1 e2 e3
      have h0 := hat 0 (by omega)
      have h1 := hat 1 (by omega)
      have h2 := hat 2 (by omega)
      have h3 := hat 3 (by omega)
      obtain ⟨b, o, sp⟩ := a
      have hsp : sp = none := by simpa [Addr.add] using World.cell?_spot h0
      subst hsp
      refine ⟨rfl, ⟨q0, q1, q2, q3⟩, ⟨int_bounds w0, int_bounds w1, int_bounds w2, int_bounds w3⟩, ?_, ?_, ?_, ?_⟩
      · simpa [Addr.add] using h0
      · simpa [Addr.add] using h1
      · simpa [Addr.add] using h2
      · simpa [Addr.add] using h3
theorem acts_of {W : World} {n : Nat} {x : DataW H × List MemPlace} {c : Value} (h : DataW.trod enc Try.prog W 0 (fun _ => true) true n 56 [c] = some x) : ∃ S, Acts W c S := by
  rcases open_slice Try.underlying56 h with ⟨hcs, _⟩ | ⟨a, len, cap, m, n', D, Pl, hcs, _, hl, hm, hmm, _, hel⟩
  · simp at hcs
    subst hcs
    exact ⟨[], none, 0, rfl, Nat.le_refl _, by omega, fun j hj => by simp at hj⟩
  · simp at hcs
    subst hcs
    simp only [if_true] at hmm
    unfold maxLen at hm
    have hall : ∀ i, i < len → ∃ y : Ac, (a.add (i * 4)).spot = none ∧ AcAt W (a.add (i * 4)).block (a.add (i * 4)).off y := fun i hi => by
      obtain ⟨cs', hc, ht⟩ := hel i (by omega)
      rw [cellsOf_act] at hc
      obtain ⟨h1, y, h2⟩ := act_cells hc ht
      exact ⟨y, h1, h2⟩
    by_cases h0 : len = 0
    · subst h0
      exact ⟨[], _, cap, rfl, Nat.zero_le _, hm, fun j hj => by simp at hj⟩
    · obtain ⟨b, o, sp'⟩ := a
      have hsp : sp' = none := by
        obtain ⟨y, h1, _⟩ := hall 0 (by omega)
        simpa [Addr.add] using h1
      subst hsp
      have hall' : ∀ i, i < len → ∃ y : Ac, AcAt W b (o + i * 4) y := fun i hi => by
        obtain ⟨y, _, c⟩ := hall i hi
        rw [add_block, add_off] at c
        exact ⟨y, c⟩
      have hch := fun i : Fin len => hall' i.1 i.2
      let A : List Ac := List.ofFn fun i : Fin len => (hch i).choose
      have hA : A.length = len := List.length_ofFn
      refine ⟨A, _, cap, by rw [hA], by omega, hm, fun i hi => ⟨b, o, rfl, ?_, ?_⟩⟩
      · obtain ⟨y, _, h1, _⟩ := hall' 0 (by omega)
        exact lt_of_cell h1
      · have hAi : ac A i = (hch ⟨i, by omega⟩).choose := by
          unfold ac
          rw [List.getD_eq_getElem?_getD, List.getElem?_eq_getElem (by omega)]
          simp [A]
        rw [hAi]
        exact (hch ⟨i, by omega⟩).choose_spec
theorem open_acts {W : World} {v : Value} {d : DataW H} {p : List MemPlace} {base : Nat} (hv : Value.okWide Try.prog W .any base 56 v) (h : DataW.Trod enc Try.prog W 0 (fun _ => true) true 56 v d p) : ∃ S : List Ac, Acts W v S := by
  obtain ⟨a0, len, cap, rfl⟩ := okWide_slice Try.underlying56 hv
  obtain ⟨fuel, hf⟩ := h
  exact acts_of (n := fuel) (by simpa [Value.cells] using hf)
end
end Go.Proofs.Ytkbadhkjhkmlfaa.Rig
