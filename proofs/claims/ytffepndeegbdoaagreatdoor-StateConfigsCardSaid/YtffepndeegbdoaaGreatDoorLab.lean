/- Labels in memory: a slice of labels; opened out of an argument's reading. -/
import Derived.Test.YtffepndeegbdoaaGreatDoorInts
set_option linter.unusedVariables false
set_option maxRecDepth 100000
namespace Go.Proofs.YtffepndeegbdoaaGreatDoor.Rig
open Go.RowKit Go.Lib Go.Proofs.YtffepndeegbdoaaGreatDoor.Rt

/-- The four cells of a label. -/
def LbAt (w : World) (b off : Nat) (x : Lb) : Prop :=
  ∃ rv sv, i64 x.p ∧ i64 x.o ∧ w.cell? ⟨b, off, none⟩ = some (.int .i64 x.p) ∧ w.cell? ⟨b, off + 1, none⟩ = some (.int .i64 x.o) ∧ w.cell? ⟨b, off + 2, none⟩ = some rv ∧ w.cell? ⟨b, off + 3, none⟩ = some sv ∧ Ints w rv x.r ∧ Ints w sv x.s
theorem LbAt.below {w w' : World} {b off : Nat} {x : Lb} (h : LbAt w b off x) {B : Nat} (hb : Below B w w') (hB : w.heap.size ≤ B) (hlt : b < w.heap.size) : LbAt w' b off x := by
  obtain ⟨rv, sv, h1, h2, h3, h4, h5, h6, h7, h8⟩ := h
  refine ⟨rv, sv, h1, h2, ?_, ?_, ?_, ?_, h7.below hb hB, h8.below hb hB⟩
  · rw [hb.cell (p := ⟨b, off, none⟩) (Nat.lt_of_lt_of_le hlt hB)]; exact h3
  · rw [hb.cell (p := ⟨b, off + 1, none⟩) (Nat.lt_of_lt_of_le hlt hB)]; exact h4
  · rw [hb.cell (p := ⟨b, off + 2, none⟩) (Nat.lt_of_lt_of_le hlt hB)]; exact h5
  · rw [hb.cell (p := ⟨b, off + 3, none⟩) (Nat.lt_of_lt_of_le hlt hB)]; exact h6

/-- The slice v has the labels L. -/
def Labs (w : World) (v : Value) (L : List Lb) : Prop :=
  ∃ a cap, v = .slice a L.length cap ∧ L.length ≤ cap ∧ cap ≤ maxLen ∧ (L = [] ∨ ∃ b off, a = some ⟨b, off, none⟩ ∧ b < w.heap.size ∧ ∀ j, j < L.length → LbAt w b (off + j * 4) (lb L j))
theorem Labs.below {w w' : World} {v : Value} {L : List Lb} (h : Labs w v L) {B : Nat} (hb : Below B w w') (hB : w.heap.size ≤ B) : Labs w' v L := by
  obtain ⟨a, cap, rfl, h1, h2, h3⟩ := h
  refine ⟨a, cap, rfl, h1, h2, ?_⟩
  rcases h3 with rfl | ⟨b, off, rfl, hlt, hc⟩
  · exact .inl rfl
  · exact .inr ⟨b, off, rfl, Nat.lt_of_lt_of_le hlt hb.size, fun j hj => (hc j hj).below hb hB hlt⟩
theorem Labs.open_ {w : World} {v : Value} {L : List Lb} (h : Labs w v L) :
    ∃ a cap, v = .slice a L.length cap ∧ L.length ≤ cap ∧ cap ≤ 9223372036854775807 ∧ ∀ j, j < L.length → ∃ b off, a = some ⟨b, off, none⟩ ∧ b < w.heap.size ∧ LbAt w b (off + j * 4) (lb L j) := by
  obtain ⟨a, cap, rfl, h1, h2, h3⟩ := h
  unfold maxLen at h2
  refine ⟨a, cap, rfl, h1, h2, fun j hj => ?_⟩
  rcases h3 with rfl | ⟨b, off, rfl, hlt, hc⟩
  · exact absurd hj (by simp)
  · exact ⟨b, off, rfl, hlt, hc j hj⟩
theorem Labs.nil_ (w : World) : Labs w (.slice none 0 0) [] := ⟨none, 0, rfl, Nat.le_refl _, by unfold maxLen; omega, .inl rfl⟩

section
open Go.ChangeShapes Go.WideShapes Go.Deep
variable {H : Type} {enc : TypeId × Value → H}
theorem cellsOf_label : Tryz.prog.cellsOf 47 = 4 := by kernel_rfl

/-- An element that is read as a label: its four cells. -/
theorem label_cells {W : World} {a : Addr} {n : Nat} {x : DataW H × List MemPlace} {cs : List Value} (hc : W.cells? 0 a 4 = some cs) (ht : DataW.trod enc Tryz.prog W 0 (fun _ => true) true n 47 cs = some x) :
    a.spot = none ∧ ∃ y : Lb, LbAt W a.block a.off y := by
  obtain ⟨_, hl, hat⟩ := World.cells?_some hc
  obtain ⟨xs, m, _, _, _, hxl, hf⟩ := DataW.trod_struct Tryz.underlying47 ht
  match cs, hl with
  | [c0, c1, c2, c3], _ =>
    have hxs : xs.length = 4 := hxl
    match xs, hxs with
    | [x0, x1, x2, x3], _ =>
      have g0 : DataW.trod enc Tryz.prog W 0 (fun _ => true) true m 3 (([c0, c1, c2, c3].drop 0).take (Tryz.prog.cellsOf 3)) = some x0 := hf 0 _ rfl
      have g1 : DataW.trod enc Tryz.prog W 0 (fun _ => true) true m 3 (([c0, c1, c2, c3].drop 1).take (Tryz.prog.cellsOf 3)) = some x1 := hf 1 _ rfl
      have g2 : DataW.trod enc Tryz.prog W 0 (fun _ => true) true m 45 (([c0, c1, c2, c3].drop 2).take (Tryz.prog.cellsOf 45)) = some x2 := hf 2 _ rfl
      have g3 : DataW.trod enc Tryz.prog W 0 (fun _ => true) true m 45 (([c0, c1, c2, c3].drop 3).take (Tryz.prog.cellsOf 45)) = some x3 := hf 3 _ rfl
      rw [cellsOf_int] at g0 g1
      rw [cellsOf_ints] at g2 g3
      obtain ⟨q, e0, -, w0⟩ := DataW.trod_int Tryz.underlying3 g0
      obtain ⟨f, e1, -, w1⟩ := DataW.trod_int Tryz.underlying3 g1
      simp at e0 e1
      subst e0 e1
      obtain ⟨r, hr⟩ := ints_of (c := c2) (by simpa using g2)
      obtain ⟨s, hs⟩ := ints_of (c := c3) (by simpa using g3)
      have h0 := hat 0 (by omega)
      have h1 := hat 1 (by omega)
      have h2 := hat 2 (by omega)
      have h3 := hat 3 (by omega)
      obtain ⟨b, o, sp⟩ := a
      have hsp : sp = none := by simpa [Addr.add] using World.cell?_spot h0
      subst hsp
      refine ⟨rfl, ⟨q, f, r, s⟩, c2, c3, int_bounds w0, int_bounds w1, ?_, ?_, ?_, ?_, hr, hs⟩
      · simpa [Addr.add] using h0
      · simpa [Addr.add] using h1
      · simpa [Addr.add] using h2
      · simpa [Addr.add] using h3

theorem open_labels {W : World} {v : Value} {d : DataW H} {p : List MemPlace} {base : Nat} (hv : Value.okWide Tryz.prog W .any base 23 v) (h : DataW.Trod enc Tryz.prog W 0 (fun _ => true) true 23 v d p) :
    ∃ L : List Lb, Labs W v L := by
  obtain ⟨a0, len, cap, rfl⟩ := okWide_slice Tryz.underlying23 hv
  obtain ⟨fuel, hf⟩ := h
  rcases open_slice Tryz.underlying23 hf with ⟨hcs, _⟩ | ⟨a, len', cap', m, n, D, Pl, hcs, _, hl, hm, hmm, _, hel⟩
  · simp [Value.cells] at hcs
    obtain ⟨rfl, rfl, rfl⟩ := hcs
    exact ⟨[], Labs.nil_ _⟩
  · simp [Value.cells] at hcs
    obtain ⟨rfl, rfl, rfl⟩ := hcs
    simp only [if_true] at hmm
    have hall : ∀ i, i < len → ∃ y : Lb, (a.add (i * 4)).spot = none ∧ LbAt W (a.add (i * 4)).block (a.add (i * 4)).off y := fun i hi => by
      obtain ⟨cs', hc, ht⟩ := hel i (by omega)
      rw [cellsOf_label] at hc
      obtain ⟨h1, y, h2⟩ := label_cells hc ht
      exact ⟨y, h1, h2⟩
    by_cases h0 : len = 0
    · subst h0
      exact ⟨[], some a, cap, rfl, Nat.zero_le _, hm, .inl rfl⟩
    · obtain ⟨b, o, sp⟩ := a
      have hsp : sp = none := by
        obtain ⟨y, h1, _⟩ := hall 0 (by omega)
        simpa [Addr.add] using h1
      subst hsp
      have hall' : ∀ i, i < len → ∃ y : Lb, LbAt W b (o + i * 4) y := fun i hi => by
        obtain ⟨y, _, c⟩ := hall i hi
        rw [add_block, add_off] at c
        exact ⟨y, c⟩
      have hch := fun i : Fin len => hall' i.1 i.2
      let A : List Lb := List.ofFn fun i : Fin len => (hch i).choose
      have hA : A.length = len := List.length_ofFn
      refine ⟨A, _, cap, by rw [hA], by omega, hm, .inr ⟨b, o, rfl, ?_, ?_⟩⟩
      · obtain ⟨y, rv, sv, _, _, h1, _⟩ := hall' 0 (by omega)
        exact lt_of_cell h1
      · intro i hi
        have hi' : i < len := by omega
        have hAi : lb A i = (hch ⟨i, hi'⟩).choose := by
          unfold lb
          rw [List.getD_eq_getElem?_getD, List.getElem?_eq_getElem hi]
          simp [A]
        rw [hAi]
        exact (hch ⟨i, hi'⟩).choose_spec
end
end Go.Proofs.YtffepndeegbdoaaGreatDoor.Rig
