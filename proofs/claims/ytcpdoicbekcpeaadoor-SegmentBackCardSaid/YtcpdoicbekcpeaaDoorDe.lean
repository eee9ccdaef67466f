/- Segments: a slice of what is asked, opened. -/
import Derived.Test.YtcpdoicbekcpeaaDoorQs
import Derived.OneCell
import Derived.Deep.Slices
import Derived.Deep.Fields
set_option linter.unusedVariables false
set_option maxRecDepth 100000
namespace Go.Proofs.YtcpdoicbekcpeaaDoor.Seg
open Go.RowKit Go.Lib Go.Proofs.YtcpdoicbekcpeaaDoor.Rt Go.Proofs.YtcpdoicbekcpeaaDoor.Rig

/-- The cells of the deeds. -/
def DeedsAt (W : World) (b off : Nat) (A : List Deed) : Prop := ∀ i (h : i < A.length), A[i].good ∧ W.cell? ⟨b, off + i * 5, none⟩ = some (.int .i64 A[i].at_) ∧ W.cell? ⟨b, off + i * 5 + 1, none⟩ = some (.int .i64 A[i].n) ∧ W.cell? ⟨b, off + i * 5 + 2, none⟩ = some (.int .i64 A[i].mark) ∧ W.cell? ⟨b, off + i * 5 + 3, none⟩ = some (.int .i64 A[i].quota) ∧ W.cell? ⟨b, off + i * 5 + 4, none⟩ = some (.string (Let.mk A[i].t))
theorem DeedsAt.below {W W' : World} {b off : Nat} {A : List Deed} (h : DeedsAt W b off A) (hb : Below W.heap.size W W') (hlt : b < W.heap.size) : DeedsAt W' b off A := fun i hi => by
  obtain ⟨g, d0, d1, d2, d3, d4⟩ := h i hi
  have e := hb.block b hlt
  refine ⟨g, ?_, ?_, ?_, ?_, ?_⟩
  · rw [← d0]; simp only [World.cell?, e]
  · rw [← d1]; simp only [World.cell?, e]
  · rw [← d2]; simp only [World.cell?, e]
  · rw [← d3]; simp only [World.cell?, e]
  · rw [← d4]; simp only [World.cell?, e]

section
open Go.ChangeShapes Go.WideShapes Go.Deep
variable {H : Type} {enc : TypeId × Value → H}
theorem deed_cells {W : World} {a : Addr} {n : Nat} {x : DataW H × List MemPlace} {cs : List Value} (hc : W.cells? 0 a 5 = some cs) (ht : DataW.trod enc Tryd.prog W 0 (fun _ => true) true n 27 cs = some x) :
    a.spot = none ∧ ∃ y : Deed, y.good ∧ W.cell? ⟨a.block, a.off, none⟩ = some (.int .i64 y.at_) ∧ W.cell? ⟨a.block, a.off + 1, none⟩ = some (.int .i64 y.n) ∧ W.cell? ⟨a.block, a.off + 2, none⟩ = some (.int .i64 y.mark) ∧ W.cell? ⟨a.block, a.off + 3, none⟩ = some (.int .i64 y.quota) ∧ W.cell? ⟨a.block, a.off + 4, none⟩ = some (.string (Let.mk y.t)) := by
  obtain ⟨_, hl, hat⟩ := World.cells?_some hc
  obtain ⟨xs, m, _, _, _, hxl, hg⟩ := DataW.trod_struct Tryd.underlying27 ht
  match cs, hl with
  | [c0, c1, c2, c3, c4], _ =>
    have hxs : xs.length = 5 := hxl
    match xs, hxs with
    | [x0, x1, x2, x3, x4], _ =>
      have g0 : DataW.trod enc Tryd.prog W 0 (fun _ => true) true m 3 (([c0, c1, c2, c3, c4].drop 0).take (Tryd.prog.cellsOf 3)) = some x0 := hg 0 _ rfl
      have g1 : DataW.trod enc Tryd.prog W 0 (fun _ => true) true m 3 (([c0, c1, c2, c3, c4].drop 1).take (Tryd.prog.cellsOf 3)) = some x1 := hg 1 _ rfl
      have g2 : DataW.trod enc Tryd.prog W 0 (fun _ => true) true m 3 (([c0, c1, c2, c3, c4].drop 2).take (Tryd.prog.cellsOf 3)) = some x2 := hg 2 _ rfl
      have g3 : DataW.trod enc Tryd.prog W 0 (fun _ => true) true m 3 (([c0, c1, c2, c3, c4].drop 3).take (Tryd.prog.cellsOf 3)) = some x3 := hg 3 _ rfl
      have g4 : DataW.trod enc Tryd.prog W 0 (fun _ => true) true m 9 (([c0, c1, c2, c3, c4].drop 4).take (Tryd.prog.cellsOf 9)) = some x4 := hg 4 _ rfl
      rw [cellsOf_int] at g0 g1 g2 g3
      rw [cellsOf_str] at g4
      obtain ⟨a0, e0, -, w0⟩ := DataW.trod_int Tryd.underlying3 g0
      obtain ⟨a1, e1, -, w1⟩ := DataW.trod_int Tryd.underlying3 g1
      obtain ⟨a2, e2, -, w2⟩ := DataW.trod_int Tryd.underlying3 g2
      obtain ⟨a3, e3, -, w3⟩ := DataW.trod_int Tryd.underlying3 g3
      obtain ⟨s, e4, -, w4⟩ := DataW.trod_string Tryd.underlying9 g4
      simp at e0 e1 e2 e3 e4
      subst e0 e1 e2 e3 e4
      have h0 := hat 0 (by omega)
      have h1 := hat 1 (by omega)
      have h2 := hat 2 (by omega)
      have h3 := hat 3 (by omega)
      have h4 := hat 4 (by omega)
      obtain ⟨b, o, sp⟩ := a
      have hsp : sp = none := by simpa [Addr.add] using World.cell?_spot h0
      subst hsp
      refine ⟨rfl, ⟨a0, a1, a2, a3, s.data.toList⟩, ⟨int_bounds w0, int_bounds w1, int_bounds w2, int_bounds w3, w4⟩, ?_, ?_, ?_, ?_, ?_⟩
      · simpa [Addr.add] using h0
      · simpa [Addr.add] using h1
      · simpa [Addr.add] using h2
      · simpa [Addr.add] using h3
      · show W.cell? _ = some (.string (Let.mk s.data.toList))
        rw [Let.mk_self]
        simpa [Addr.add] using h4
theorem dadd_block (b o k : Nat) : ((⟨b, o, none⟩ : Addr).add k).block = b := by unfold Addr.add; split <;> rfl
theorem dadd_off (b o k : Nat) : ((⟨b, o, none⟩ : Addr).add k).off = o + k := by
  unfold Addr.add
  by_cases h : k = 0
  · rw [if_pos h, h, Nat.add_zero]
  · rw [if_neg h]
theorem open_sdeeds {W : World} {v : Value} {d : DataW H} {p : List MemPlace} {base : Nat} (hv : Value.okWide Tryd.prog W .any base 28 v) (h : DataW.Trod enc Tryd.prog W 0 (fun _ => true) true 28 v d p) :
    ∃ (a : Option Addr) (cap : Nat) (A : List Deed), v = .slice a A.length cap ∧ A.length ≤ cap ∧ cap ≤ maxLen ∧ (A = [] ∨ ∃ b off, a = some ⟨b, off, none⟩ ∧ b < W.heap.size ∧ DeedsAt W b off A) := by
  obtain ⟨a0, len, cap, rfl⟩ := okWide_slice Tryd.underlying28 hv
  obtain ⟨fuel, hf⟩ := h
  rcases open_slice Tryd.underlying28 hf with ⟨hcs, _⟩ | ⟨a, len', cap', m, n, D, Pl, hcs, _, hl, hm, hmm, _, hel⟩
  · simp [Value.cells] at hcs
    obtain ⟨rfl, rfl, rfl⟩ := hcs
    exact ⟨none, 0, [], rfl, Nat.le_refl _, Nat.zero_le _, .inl rfl⟩
  · simp [Value.cells] at hcs
    obtain ⟨rfl, rfl, rfl⟩ := hcs
    simp only [if_true] at hmm
    have hall : ∀ i, i < len → ∃ y : Deed, y.good ∧ (a.add (i * 5)).spot = none ∧ W.cell? ⟨(a.add (i * 5)).block, (a.add (i * 5)).off, none⟩ = some (.int .i64 y.at_) ∧ W.cell? ⟨(a.add (i * 5)).block, (a.add (i * 5)).off + 1, none⟩ = some (.int .i64 y.n) ∧ W.cell? ⟨(a.add (i * 5)).block, (a.add (i * 5)).off + 2, none⟩ = some (.int .i64 y.mark) ∧ W.cell? ⟨(a.add (i * 5)).block, (a.add (i * 5)).off + 3, none⟩ = some (.int .i64 y.quota) ∧ W.cell? ⟨(a.add (i * 5)).block, (a.add (i * 5)).off + 4, none⟩ = some (.string (Let.mk y.t)) := by
      intro i hi
      obtain ⟨cs', hc, ht⟩ := hel i (by omega)
      rw [cellsOf_sdeed] at hc
      obtain ⟨h1, y, h2, h3⟩ := deed_cells hc ht
      exact ⟨y, h2, h1, h3⟩
    by_cases h0 : len = 0
    · subst h0
      exact ⟨some a, cap, [], rfl, Nat.zero_le _, hm, .inl rfl⟩
    · obtain ⟨b, o, sp⟩ := a
      have hsp : sp = none := by
        obtain ⟨y, _, h1, _⟩ := hall 0 (by omega)
        simpa [Addr.add] using h1
      subst hsp
      have hall' : ∀ i, i < len → ∃ y : Deed, y.good ∧ W.cell? ⟨b, o + i * 5, none⟩ = some (.int .i64 y.at_) ∧ W.cell? ⟨b, o + i * 5 + 1, none⟩ = some (.int .i64 y.n) ∧ W.cell? ⟨b, o + i * 5 + 2, none⟩ = some (.int .i64 y.mark) ∧ W.cell? ⟨b, o + i * 5 + 3, none⟩ = some (.int .i64 y.quota) ∧ W.cell? ⟨b, o + i * 5 + 4, none⟩ = some (.string (Let.mk y.t)) := by
        intro i hi
        obtain ⟨y, g, _, c0, c1, c2, c3, c4⟩ := hall i hi
        rw [dadd_block, dadd_off] at c0 c1 c2 c3 c4
        exact ⟨y, g, c0, c1, c2, c3, c4⟩
      have hch := fun i : Fin len => hall' i.1 i.2
      let A : List Deed := List.ofFn fun i : Fin len => (hch i).choose
      have hA : A.length = len := List.length_ofFn
      have hcell0 : W.cell? ⟨b, o, none⟩ ≠ none := by
        obtain ⟨y, _, h1, _⟩ := hall' 0 (by omega)
        rw [show o + 0 * 5 = o by omega] at h1
        rw [h1]
        simp
      refine ⟨_, cap, A, by rw [hA], by omega, hm, .inr ⟨b, o, rfl, ?_, ?_⟩⟩
      · rcases Nat.lt_or_ge b W.heap.size with h | h
        · exact h
        · exact absurd (by simp [World.cell?, Array.getElem?_eq_none h]) hcell0
      · intro i hi
        have hi' : i < len := by omega
        have hAi : A[i] = (hch ⟨i, hi'⟩).choose := by simp [A]
        rw [hAi]
        exact (hch ⟨i, hi'⟩).choose_spec
end
end Go.Proofs.YtcpdoicbekcpeaaDoor.Seg
