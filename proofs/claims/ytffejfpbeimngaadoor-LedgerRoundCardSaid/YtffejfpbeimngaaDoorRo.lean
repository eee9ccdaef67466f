/- Rows of elements of k cells each with a meaning, opened out of an argument's reading. -/
import Derived.Test.YtffejfpbeimngaaDoorRk
import Derived.OneCell
import Derived.SizedLaws
import Derived.Deep.Slices
import Derived.Deep.Fields
set_option linter.unusedVariables false
set_option linter.unusedSimpArgs false
namespace Go.Proofs.YtffejfpbeimngaaDoor.Rk
open Go.RowKit

section
open Go.ChangeShapes Go.WideShapes Go.Deep
variable {H : Type} {enc : TypeId × Value → H} {P : Program}
/-- .. of a cell that is read as a slice. -/
theorem rows_at {α : Type} {R : World → List Value → α → Prop} {W : World} {c : Value} {x : DataW H × List MemPlace} {tS e : TypeId} {k fuel : Nat} (ht : P.underlying tS = some (.slice e)) (hk : P.cellsOf e = k) (hk0 : 0 < k)
    (hf : DataW.trod enc P W 0 (fun _ => true) true fuel tS [c] = some x)
    (hR : ∀ m cs x, cs.length = k → DataW.trod enc P W 0 (fun _ => true) true m e cs = some x → ∃ y : α, R W cs y) : ∃ A : List α, Rows k R W c A := by
  rcases open_slice ht hf with ⟨hcs, _⟩ | ⟨a, len, cap, m, n, D, Pl, hcs, _, hl, hm, hmm, hd, hel⟩
  · simp at hcs
    subst hcs
    exact ⟨[], Rows.nil_ _ _ _⟩
  · simp at hcs
    subst hcs
    simp only [if_true] at hmm
    have hall : ∀ i, i < len → (a.add (i * k)).spot = none ∧ ∃ (x : List Value) (y : α), x.length = k ∧ R W x y ∧ (∃ u, W.cell? ⟨(a.add (i * k)).block, (a.add (i * k)).off, none⟩ = some u) ∧ ∀ q u, x[q]? = some u → W.cell? ⟨(a.add (i * k)).block, (a.add (i * k)).off + q, none⟩ = some u := by
      intro i hi
      obtain ⟨cs', hc, ht'⟩ := hel i (by omega)
      rw [hk] at hc
      obtain ⟨_, hl5, hat⟩ := World.cells?_some hc
      obtain ⟨y, hy⟩ := hR _ _ _ hl5 ht'
      clear hc ht'
      generalize a.add (i * k) = ad at *
      obtain ⟨b, o, sp⟩ := ad
      have h0 := hat 0 hk0
      rw [List.getElem?_eq_getElem (show 0 < cs'.length by omega)] at h0
      have hsp : sp = none := by simpa [Addr.add] using World.cell?_spot h0
      subst hsp
      refine ⟨rfl, cs', y, hl5, hy, ⟨_, by simpa [Addr.add] using h0⟩, fun q u hq => ?_⟩
      have hq5 : q < k := by
        rcases Nat.lt_or_ge q k with z | z
        · exact z
        · rw [List.getElem?_eq_none (by omega)] at hq; cases hq
      have h1 := hat q hq5
      rw [kadd] at h1
      rw [h1, hq]
    by_cases h0 : len = 0
    · subst h0
      exact ⟨[], [], rfl, ⟨fun _ h => by simp at h, some a, cap, rfl, Nat.zero_le _, hm, .inl rfl⟩, fun _ h => by simp at h⟩
    · obtain ⟨b, o, sp⟩ := a
      have hsp : sp = none := by
        have h1 := (hall 0 (by omega)).1
        simpa [Addr.add] using h1
      subst hsp
      have hall' : ∀ i, i < len → ∃ z : List Value × α, z.1.length = k ∧ R W z.1 z.2 ∧ (∃ u, W.cell? ⟨b, o + i * k, none⟩ = some u) ∧ ∀ q u, z.1[q]? = some u → W.cell? ⟨b, o + i * k + q, none⟩ = some u := by
        intro i hi
        obtain ⟨_, x, g, hx, hg, c0, cq⟩ := hall i hi
        rw [kadd] at c0 cq
        exact ⟨(x, g), hx, hg, c0, cq⟩
      have hch := fun i : Fin len => hall' i.1 i.2
      let A : List (List Value × α) := List.ofFn fun i : Fin len => (hch i).choose
      have hA : A.length = len := List.length_ofFn
      have hAi : ∀ i (hi : i < A.length), A[i] = (hch ⟨i, by omega⟩).choose := fun i hi => by simp [A]
      obtain ⟨y0, _, _, ⟨u0, hc0⟩, _⟩ := hall' 0 (by omega)
      rw [Nat.zero_mul, Nat.add_zero] at hc0
      refine ⟨A.map Prod.snd, A, rfl, ⟨fun x hx => ?_, some ⟨b, o, none⟩, cap, by rw [List.length_map, hA], by rw [List.length_map]; omega, hm, .inr ⟨b, o, rfl, World.block_lt_of_cell? _ _ hc0, fun j hj q u hu => ?_⟩⟩, fun x hx => ?_⟩
      · obtain ⟨y, hy, rfl⟩ := List.mem_map.1 hx
        obtain ⟨j, hj, rfl⟩ := List.getElem_of_mem hy
        rw [hAi j hj]
        exact (hch ⟨j, by omega⟩).choose_spec.1
      · rw [List.length_map] at hj
        rw [List.getElem_map, hAi j hj] at hu
        exact (hch ⟨j, by omega⟩).choose_spec.2.2.2 q u hu
      · obtain ⟨j, hj, rfl⟩ := List.getElem_of_mem hx
        rw [hAi j hj]
        exact (hch ⟨j, by omega⟩).choose_spec.2.1
theorem open_rows {α : Type} {R : World → List Value → α → Prop} {W : World} {v : Value} {d : DataW H} {p : List MemPlace} {base : Nat} {tS e : TypeId} {k : Nat} (ht : P.underlying tS = some (.slice e)) (hk : P.cellsOf e = k) (hk0 : 0 < k)
    (hv : Value.okWide P W .any base tS v) (h : DataW.Trod enc P W 0 (fun _ => true) true tS v d p)
    (hR : ∀ m cs x, cs.length = k → DataW.trod enc P W 0 (fun _ => true) true m e cs = some x → ∃ y : α, R W cs y) : ∃ A : List α, Rows k R W v A := by
  obtain ⟨a0, len, cap, rfl⟩ := okWide_slice ht hv
  obtain ⟨fuel, hf⟩ := h
  exact rows_at ht hk hk0 (by simpa [Value.cells] using hf) hR
end
end Go.Proofs.YtffejfpbeimngaaDoor.Rk
