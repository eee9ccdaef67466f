/- View: pieces as plain values; a slice of them; the laws' argument opened. -/
import Derived.Test.YtcpdoicbekcpeaaDoorRk
import Derived.Test.YtcpdoicbekcpeaaDoorLift
import Derived.Lib.Hide
import Derived.OneCell
import Derived.SizedLaws
import Derived.Deep.Slices
import Derived.Deep.Fields
set_option linter.unusedVariables false
set_option maxRecDepth 100000
namespace Go.Proofs.YtcpdoicbekcpeaaDoor.Vi
open Go.RowKit Go.Lib Go.Proofs.YtcpdoicbekcpeaaDoor.Rk

def in64 (x : Int) : Prop := -9223372036854775808 ≤ x ∧ x ≤ 9223372036854775807
/-- A piece. -/
structure Pc where
  i : Int
  l : Int
  n : Int
  o : Bool
def Pc.good (y : Pc) : Prop := in64 y.i ∧ in64 y.l ∧ in64 y.n
def Pc.cells (y : Pc) : List Value := [.int .i64 y.i, .int .i64 y.l, .int .i64 y.n, .bool y.o]
def Pc.val (y : Pc) : Value := .agg #[.int .i64 y.i, .int .i64 y.l, .int .i64 y.n, .bool y.o]
/-- A slice of them. -/
def Pcs (w : World) (v : Value) (A : List Pc) : Prop := RowK 4 w v (A.map Pc.cells) ∧ ∀ y ∈ A, y.good
theorem Pcs.below {w w' : World} {v : Value} {A : List Pc} (h : Pcs w v A) {B : Nat} (hb : Below B w w') (hB : w.heap.size ≤ B) : Pcs w' v A := ⟨h.1.below hb hB, h.2⟩
theorem Pcs.open_ {w : World} {v : Value} {A : List Pc} (h : Pcs w v A) : ∃ a cap, v = .slice a A.length cap ∧ A.length ≤ cap ∧ cap ≤ maxLen ∧ ∀ j (hj : j < A.length), ∃ b off, a = some ⟨b, off, none⟩ ∧ b < w.heap.size ∧ A[j].good ∧
    w.cell? ⟨b, off + j * 4, none⟩ = some (.int .i64 A[j].i) ∧ w.cell? ⟨b, off + j * 4 + 1, none⟩ = some (.int .i64 A[j].l) ∧ w.cell? ⟨b, off + j * 4 + 2, none⟩ = some (.int .i64 A[j].n) ∧ w.cell? ⟨b, off + j * 4 + 3, none⟩ = some (.bool A[j].o) := by
  obtain ⟨⟨_, a, cap, e, h1, h2, h3⟩, hg⟩ := h
  rw [List.length_map] at e h1
  refine ⟨a, cap, e, h1, h2, fun j hj => ?_⟩
  rcases h3 with h3 | ⟨b, off, rfl, hb, hc⟩
  · have : A.length = 0 := by rw [← List.length_map (f := Pc.cells), h3]; rfl
    omega
  · have hc' := hc j (by rw [List.length_map]; exact hj)
    simp only [List.getElem_map] at hc'
    exact ⟨b, off, rfl, hb, hg _ (List.getElem_mem hj), hc' 0 _ rfl, hc' 1 _ rfl, hc' 2 _ rfl, hc' 3 _ rfl⟩

theorem cellsOf_piece : Tryd.prog.cellsOf 89 = 4 := by kernel_rfl
theorem vcellsOf_int : Tryd.prog.cellsOf 3 = 1 := by kernel_rfl
theorem vcellsOf_bool : Tryd.prog.cellsOf 4 = 1 := by kernel_rfl
theorem vint_bounds {x : Int} (h : (Lit.int .i64 x).wf = true) : in64 x := by simpa [in64, Lit.wf, IntKind.min, IntKind.max, IntKind.signed, IntKind.bits] using h
section
open Go.ChangeShapes Go.WideShapes Go.Deep
variable {H : Type} {enc : TypeId × Value → H}
theorem piece_cells {W : World} {a : Addr} {n : Nat} {x : DataW H × List MemPlace} {cs : List Value} (hc : W.cells? 0 a 4 = some cs) (ht : DataW.trod enc Tryd.prog W 0 (fun _ => true) true n 89 cs = some x) :
    a.spot = none ∧ ∃ y : Pc, cs = y.cells ∧ y.good ∧ W.cell? ⟨a.block, a.off, none⟩ = some (.int .i64 y.i) ∧ ∀ i u, y.cells[i]? = some u → W.cell? ⟨a.block, a.off + i, none⟩ = some u := by
  obtain ⟨_, hl, hat⟩ := World.cells?_some hc
  obtain ⟨xs, m, _, hx, _, hxl, hg⟩ := DataW.trod_struct Tryd.underlying89 ht
  match cs, hl with
  | [c0, c1, c2, c3], _ =>
    have hxs : xs.length = 4 := hxl
    match xs, hxs with
    | [x0, x1, x2, x3], _ =>
      have g0 : DataW.trod enc Tryd.prog W 0 (fun _ => true) true m 3 (([c0, c1, c2, c3].drop 0).take (Tryd.prog.cellsOf 3)) = some x0 := hg 0 _ rfl
      have g1 : DataW.trod enc Tryd.prog W 0 (fun _ => true) true m 3 (([c0, c1, c2, c3].drop 1).take (Tryd.prog.cellsOf 3)) = some x1 := hg 1 _ rfl
      have g2 : DataW.trod enc Tryd.prog W 0 (fun _ => true) true m 3 (([c0, c1, c2, c3].drop 2).take (Tryd.prog.cellsOf 3)) = some x2 := hg 2 _ rfl
      have g3 : DataW.trod enc Tryd.prog W 0 (fun _ => true) true m 4 (([c0, c1, c2, c3].drop 3).take (Tryd.prog.cellsOf 4)) = some x3 := hg 3 _ rfl
      rw [vcellsOf_int] at g0 g1 g2
      rw [vcellsOf_bool] at g3
      obtain ⟨a0, e0, -, w0⟩ := DataW.trod_int Tryd.underlying3 g0
      obtain ⟨a1, e1, -, w1⟩ := DataW.trod_int Tryd.underlying3 g1
      obtain ⟨a2, e2, -, w2⟩ := DataW.trod_int Tryd.underlying3 g2
      obtain ⟨s, e3, -, w3⟩ := DataW.trod_bool Tryd.underlying4 g3
      simp at e0 e1 e2 e3
      subst e0 e1 e2 e3
      have h0 := hat 0 (by omega)
      have h1 := hat 1 (by omega)
      have h2 := hat 2 (by omega)
      have h3 := hat 3 (by omega)
      obtain ⟨b, o, sp⟩ := a
      have hsp : sp = none := by simpa [Addr.add] using World.cell?_spot h0
      subst hsp
      have k0 : W.cell? ⟨b, o, none⟩ = some (.int .i64 a0) := by simpa [Addr.add] using h0
      have k1 : W.cell? ⟨b, o + 1, none⟩ = some (.int .i64 a1) := by simpa [Addr.add] using h1
      have k2 : W.cell? ⟨b, o + 2, none⟩ = some (.int .i64 a2) := by simpa [Addr.add] using h2
      have k3 : W.cell? ⟨b, o + 3, none⟩ = some (.bool s) := by simpa [Addr.add] using h3
      refine ⟨rfl, ⟨a0, a1, a2, s⟩, rfl, ⟨vint_bounds w0, vint_bounds w1, vint_bounds w2⟩, k0, fun i u hu => ?_⟩
      unfold Pc.cells at hu
      match i, hu with
      | 0, hu => injection hu with hu; subst hu; exact k0
      | 1, hu => injection hu with hu; subst hu; exact k1
      | 2, hu => injection hu with hu; subst hu; exact k2
      | 3, hu => injection hu with hu; subst hu; exact k3
      | i + 4, hu => simp at hu
/-- A slice of plain values. -/
theorem open_pieces {W : World} {v : Value} {d : DataW H} {p : List MemPlace} {base : Nat} (hv : Value.okWide Tryd.prog W .any base 85 v) (h : DataW.Trod enc Tryd.prog W 0 (fun _ => true) true 85 v d p) : ∃ A : List Pc, Pcs W v A := by
  obtain ⟨a0, len, cap, rfl⟩ := okWide_slice Tryd.underlying85 hv
  obtain ⟨fuel, hf⟩ := h
  rcases open_slice Tryd.underlying85 hf with ⟨hcs, _⟩ | ⟨a, len', cap', m, n, D, Pl, hcs, _, hl, hm, hmm, hd, hel⟩
  · simp [Value.cells] at hcs
    obtain ⟨rfl, rfl, rfl⟩ := hcs
    exact ⟨[], RowK.nil_ _ _, fun _ h => by simp at h⟩
  · simp [Value.cells] at hcs
    obtain ⟨rfl, rfl, rfl⟩ := hcs
    simp only [if_true] at hmm
    have hall : ∀ i, i < len → (a.add (i * 4)).spot = none ∧ ∃ y : Pc, y.good ∧ W.cell? ⟨(a.add (i * 4)).block, (a.add (i * 4)).off, none⟩ = some (.int .i64 y.i) ∧ ∀ q u, y.cells[q]? = some u → W.cell? ⟨(a.add (i * 4)).block, (a.add (i * 4)).off + q, none⟩ = some u := by
      intro i hi
      obtain ⟨cs', hc, ht⟩ := hel i (by omega)
      rw [cellsOf_piece] at hc
      obtain ⟨h1, y, _, hg, h5, h4⟩ := piece_cells hc ht
      exact ⟨h1, y, hg, h5, h4⟩
    by_cases h0 : len = 0
    · subst h0
      exact ⟨[], ⟨fun _ h => by simp at h, some a, cap, rfl, Nat.zero_le _, hm, .inl rfl⟩, fun _ h => by simp at h⟩
    · obtain ⟨b, o, sp⟩ := a
      have hsp : sp = none := by
        have h1 := (hall 0 (by omega)).1
        simpa [Addr.add] using h1
      subst hsp
      have hall' : ∀ i, i < len → ∃ y : Pc, y.good ∧ W.cell? ⟨b, o + i * 4, none⟩ = some (.int .i64 y.i) ∧ ∀ q u, y.cells[q]? = some u → W.cell? ⟨b, o + i * 4 + q, none⟩ = some u := by
        intro i hi
        obtain ⟨_, y, g, c0, cq⟩ := hall i hi
        rw [kadd] at c0 cq
        exact ⟨y, g, c0, cq⟩
      have hch := fun i : Fin len => hall' i.1 i.2
      let A : List Pc := List.ofFn fun i : Fin len => (hch i).choose
      have hA : A.length = len := List.length_ofFn
      have hAi : ∀ i (hi : i < A.length), A[i] = (hch ⟨i, by omega⟩).choose := fun i hi => by simp [A]
      obtain ⟨y0, _, hc0, _⟩ := hall' 0 (by omega)
      rw [Nat.zero_mul, Nat.add_zero] at hc0
      refine ⟨A, ⟨fun x hx => ?_, some ⟨b, o, none⟩, cap, by rw [List.length_map, hA], by rw [List.length_map]; omega, hm, .inr ⟨b, o, rfl, World.block_lt_of_cell? _ _ hc0, fun j hj q u hu => ?_⟩⟩, fun y hy => ?_⟩
      · obtain ⟨y, _, rfl⟩ := List.mem_map.1 hx
        rfl
      · rw [List.length_map] at hj
        rw [List.getElem_map, hAi j hj] at hu
        exact (hch ⟨j, by omega⟩).choose_spec.2.2 q u hu
      · obtain ⟨j, hj, rfl⟩ := List.getElem_of_mem hy
        rw [hAi j hj]
        exact (hch ⟨j, by omega⟩).choose_spec.1
end
end Go.Proofs.YtcpdoicbekcpeaaDoor.Vi
