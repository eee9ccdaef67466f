/- Plate: what a Lay leaves in memory. -/
import Derived.Test.YtffejfpbeimngaaDoorY16c
set_option linter.unusedVariables false
set_option linter.unusedSimpArgs false
set_option maxRecDepth 100000
namespace Go.Proofs.YtffejfpbeimngaaDoor.Plt
open Go.RowKit Go.Lib Go.Proofs.YtffejfpbeimngaaDoor.Bx

section
variable {base B G : Nat} {w w1 w2 w3 w6 w9 : World} {v v6 v9 : Value} {u : Nat → Value} {L : List Nat} {D : DK} {M : Nat → Prop}
/-- Behind a row that grew, and the store of its new header into the disk's block. -/
theorem Dx.more (h : Dx base w1 B G v u L D M) {k : Nat} (hk : k < D.n) (hnot : k ∉ L) (hb : Below w1.heap.size w1 w2) (g : w2.grownBy w9 v.ownBlock) (hat : v9.ownBlock = v.ownBlock ∨ v9.ownBlock = some w2.heap.size) (o : Rk.OwnK 3 1 base w9 v9 (cellsN L ++ [[.int .i64 (k : Nat)]])) :
    w9.cell? ⟨B, 0, none⟩ = some (.slice (some ⟨G, 0, none⟩) D.n D.n) ∧ w9.cell? ⟨B, 1, none⟩ = some v ∧ w9.frozen? ⟨B, 1, none⟩ = false ∧
    Hid (Dx base (w9.setCell ⟨B, 1, none⟩ v9) B G v9 u (L ++ [k]) D (fun i => M i ∨ i = k) ∧ Chg (Ft B G v u D.n) w1 (w9.setCell ⟨B, 1, none⟩ v9) ∧ ∀ g, Ft B G v9 u D.n g → Ft B G v u D.n g ∨ w1.heap.size ≤ g) := by
  have hs : ∀ q, q < w1.heap.size → v.ownBlock ≠ some q → w9.heap[q]? = w1.heap[q]? := fun q hq hn => (g.block q (Nat.lt_of_lt_of_le hq hb.size) (fun e => hn e.symm)).trans (hb.block q hq)
  have hBl := (h.lt B (.inl rfl)).2
  have hGl := (h.lt G (.inr (.inl rfl))).2
  have hB9 : w9.heap[B]? = some (.cells #[.slice (some ⟨G, 0, none⟩) D.n D.n, v, .bool D.off, .int .i64 D.left] 44 (0, 0)) := by rw [hs B hBl h.neBv]; exact h.blk
  obtain ⟨a, b, c, d⟩ := four_cells hB9
  have hvB : v9.ownBlock ≠ some B := by
    rcases hat with e | e
    · rw [e]; exact h.neBv
    · rw [e]; intro e'; injection e' with e'; have := hb.size; omega
  have hc : ∀ k, k ≠ B → (w9.setCell ⟨B, 1, none⟩ v9).heap[k]? = w9.heap[k]? := fun k hk => Below.heap_setCell _ _ _ _ hk
  refine ⟨a, b, free_at hB9, ⟨h.hB, h.hG, ?_, h.pl.same ((hc G (fun e => h.neBG e.symm)).trans (hs G hGl h.neGv)), h.n1, h.n2, h.left1, h.left2, ?_, ?_, ?_, ?_, h.apart⟩, ?_, ?_⟩
  · rw [set_block hB9]; rfl
  · have e : cellsN (L ++ [k]) = cellsN L ++ [[.int .i64 (k : Nat)]] := by unfold cellsN; rw [List.map_append]; rfl
    rw [e]
    exact own_same o (fun g e => hc g (fun e' => hvB (by rw [e, e'])))
  · rw [List.nodup_append]
    refine ⟨h.nod, by simp, fun x hx y hy e => ?_⟩
    simp at hy
    subst hy
    subst e
    exact hnot hx
  · intro i
    rw [List.mem_append, h.mem i]
    simp only [List.mem_singleton]
    constructor
    · rintro (⟨q1, q2⟩ | rfl)
      · exact ⟨q1, .inl q2⟩
      · exact ⟨hk, .inr rfl⟩
    · rintro ⟨q1, q2 | q2⟩
      · exact .inl ⟨q1, q2⟩
      · exact .inr q2
  · intro i hi
    exact own_same (h.row i hi) (fun g e => (hc g (fun e' => h.neBu hi (by rw [e, e']))).trans (hs g ((h.row i hi).block g e).2 (h.neuv hi e)))
  · refine Chg.set ?_ (.inl (.inl rfl)) _
    exact (Chg.of_below hb).trans (Chg.of_grown (F := fun g => v.ownBlock = some g) g (fun g e => e)) (fun g e => .inl (.inr (.inr (.inl e))))
  · rintro q (rfl | rfl | e | e)
    · exact .inl (.inl rfl)
    · exact .inl (.inr (.inl rfl))
    · rcases hat with e' | e'
      · exact .inl (.inr (.inr (.inl (e'.symm.trans e))))
      · rw [e'] at e
        injection e with e
        exact .inr (by have := hb.size; omega)
    · exact .inl (.inr (.inr (.inr e)))
/-- Behind a plate's row that grew, and the store of its new header into the plates' block. -/
theorem Dx.put (h : Dx base w1 B G v u L D M) {k : Nat} (hk : k < D.n) (hM : ∀ i, M i ↔ Loo D i ∨ i = k) (x : ByteArray) (hb : Below w1.heap.size w1 w2) (g : w2.grownBy w9 (u k).ownBlock) (hat : v9.ownBlock = (u k).ownBlock ∨ v9.ownBlock = some w2.heap.size) (o : Rk.OwnK 9 1 base w9 v9 (cellsT (D.P k).l ++ [[.string x]])) :
    w9.cell? ⟨G, k * 2, none⟩ = some (.string (D.P k).f) ∧ w9.cell? ⟨G, k * 2 + 1, none⟩ = some (u k) ∧ w9.frozen? ⟨G, k * 2 + 1, none⟩ = false ∧
    Hid (Dm base (w9.setCell ⟨G, k * 2 + 1, none⟩ v9) B G v (upd u k v9) L ⟨D.n, upd D.P k ⟨(D.P k).f, (D.P k).l ++ [x]⟩, D.off, D.left⟩ ∧ Chg (Ft B G v u D.n) w1 (w9.setCell ⟨G, k * 2 + 1, none⟩ v9) ∧ ∀ g, Ft B G v (upd u k v9) D.n g → Ft B G v u D.n g ∨ w1.heap.size ≤ g) := by
  have hs : ∀ q, q < w1.heap.size → (u k).ownBlock ≠ some q → w9.heap[q]? = w1.heap[q]? := fun q hq hn => (g.block q (Nat.lt_of_lt_of_le hq hb.size) (fun e => hn e.symm)).trans (hb.block q hq)
  have hBl := (h.lt B (.inl rfl)).2
  have hGl := (h.lt G (.inr (.inl rfl))).2
  have hG9 : Gm w9 G D.n D.P u := h.pl.same (hs G hGl (h.neGu hk))
  obtain ⟨a, b, c, d⟩ := hG9.cells hk
  have hvG : v9.ownBlock ≠ some G := by
    rcases hat with e | e
    · rw [e]; exact h.neGu hk
    · rw [e]; intro e'; injection e' with e'; have := hb.size; omega
  have hc : ∀ q, q ≠ G → (w9.setCell ⟨G, k * 2 + 1, none⟩ v9).heap[q]? = w9.heap[q]? := fun q hq => Below.heap_setCell _ _ _ _ hq
  have hap : ∀ i, i < D.n → i ≠ k → ∀ g, v9.ownBlock = some g → (u i).ownBlock ≠ some g := by
    intro i hi hne g e e'
    rcases hat with q | q
    · exact h.apart i k hi hk hne g e' (q.symm.trans e)
    · rw [q] at e
      injection e with e
      have := ((h.row i hi).block g e').2
      have := hb.size
      omega
  refine ⟨a, b, d, ⟨h.hB, h.hG, ?_, hG9.setU hk v9 _, h.n1, h.n2, h.left1, h.left2, ?_, h.nod, ?_, ?_, ?_⟩, ?_, ?_⟩
  · rw [hc B h.neBG, hs B hBl (h.neBu hk)]; exact h.blk
  · exact own_same h.own (fun g e => (hc g (fun e' => h.neGv (by rw [e, e']))).trans (hs g (h.own.block g e).2 (fun e' => h.neuv hk e' e)))
  · intro i
    rw [h.mem i, hM i]
    unfold Loo
    by_cases e : i = k
    · subst e
      simp only [upd_same]
      simp
    · simp only [upd_other _ _ e]
      simp [e]
  · intro i hi
    by_cases e : i = k
    · subst e
      simp only [upd_same]
      have e1 : cellsT ((D.P i).l ++ [x]) = cellsT (D.P i).l ++ [[.string x]] := by unfold cellsT; rw [List.map_append]; rfl
      rw [e1]
      exact own_same o (fun g e => hc g (fun e' => hvG (by rw [e, e'])))
    · simp only [upd_other _ _ e]
      exact own_same (h.row i hi) (fun g e1 => (hc g (fun e' => h.neGu hi (by rw [e1, e']))).trans (hs g ((h.row i hi).block g e1).2 (fun e' => h.apart i k hi hk e g e1 e')))
  · intro i j hi hj hne q e1
    by_cases ei : i = k
    · subst ei
      rw [upd_same] at e1
      rw [upd_other _ _ (fun e => hne e.symm)]
      exact hap j hj (fun e => hne e.symm) q e1
    · rw [upd_other _ _ ei] at e1
      by_cases ej : j = k
      · subst ej
        rw [upd_same]
        exact fun e2 => hap i hi ei q e2 e1
      · rw [upd_other _ _ ej]
        exact h.apart i j hi hj hne q e1
  · refine Chg.set ?_ (.inl (.inr (.inl rfl))) _
    exact (Chg.of_below hb).trans (Chg.of_grown (F := fun g => (u k).ownBlock = some g) g (fun g e => e)) (fun g e => .inl (.inr (.inr (.inr ⟨k, hk, e⟩))))
  · rintro q (rfl | rfl | e | ⟨i, hi, e⟩)
    · exact .inl (.inl rfl)
    · exact .inl (.inr (.inl rfl))
    · exact .inl (.inr (.inr (.inl e)))
    · by_cases ei : i = k
      · subst ei
        rw [upd_same] at e
        rcases hat with e' | e'
        · exact .inl (.inr (.inr (.inr ⟨i, hi, e'.symm.trans e⟩)))
        · rw [e'] at e
          injection e with e
          exact .inr (by have := hb.size; omega)
      · rw [upd_other _ _ ei] at e
        exact .inl (.inr (.inr (.inr ⟨i, hi, e⟩)))
theorem Ft_one {n : Nat} : ∀ g, OneB B g → Ft B G v u n g := fun g e => .inl e
end
end Go.Proofs.YtffejfpbeimngaaDoor.Plt
