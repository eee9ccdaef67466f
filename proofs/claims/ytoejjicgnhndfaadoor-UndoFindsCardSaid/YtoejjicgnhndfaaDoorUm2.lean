/- Undo: what a stack keeps, however many are pushed; a stack stays where a variable of its own kind is stored; the tail of a row. -/
import Derived.Test.YtoejjicgnhndfaaDoorUl
set_option linter.unusedVariables false
set_option maxRecDepth 100000
namespace Go.Proofs.YtoejjicgnhndfaaDoor.Und
open Go.RowKit Go.Lib Go.Proofs.YtoejjicgnhndfaaDoor.Rk Go.Proofs.YtoejjicgnhndfaaDoor.Rig

theorem depth_len (A : List U) {k D : Nat} (hk : k ≤ A.length) : ((A.take k).drop (k - D)).length = k - (k - D) := by
  rw [List.length_drop, List.length_take, Nat.min_eq_left hk]
theorem depth_push (A : List U) {k D : Nat} (hk : k < A.length) (hD : 1 ≤ D) : pushA ((A.take k).drop (k - D)) A[k] D = (A.take (k + 1)).drop (k + 1 - D) ∧ (pushO ((A.take k).drop (k - D)) D).isSome = decide (D ≤ k) := by
  have hl := depth_len A (k := k) (D := D) (Nat.le_of_lt hk)
  have hm : max (D : Int) 1 = (D : Int) := by omega
  unfold pushA pushO
  rw [hm, hl, List.take_succ_eq_append_getElem hk]
  by_cases h : D ≤ k
  · rw [if_pos (by omega), if_pos (by omega), List.tail_drop, List.drop_append_of_le_length (by rw [List.length_take]; omega), show k - D + 1 = k + 1 - D by omega]
    refine ⟨rfl, ?_⟩
    rw [decide_eq_true h]
    cases hh : ((A.take k).drop (k - D)) with
    | nil => rw [hh] at hl; simp at hl; omega
    | cons z zs => rfl
  · rw [if_neg (by omega), if_neg (by omega), decide_eq_false h, show k - D = 0 by omega, show k + 1 - D = 0 by omega]
    exact ⟨rfl, rfl⟩
theorem depth_out {k D : Nat} : (k + 1 - D) = (k - D) + (if D ≤ k then 1 else 0) := by
  split <;> omega
/-- A stack stays where a variable that holds a stack is stored. -/
theorem Stk.set {w : World} {s : Value} {A : List U} {B : Nat} {a : Option Addr} {n c : Nat} {u : Value} {ty : TypeId} (h : Stk w s A) (r : w.heap[B]? = some (.cells #[.slice a n c] ty (0, 0))) (hty : ty ≠ 142) : Stk (w.setCell ⟨B, 0, none⟩ u) s A := by
  obtain ⟨p, h1, ⟨h0, a', cap, e, h2, h3, h4⟩, hp⟩ := h
  have hT : ∀ x ∈ p, Th (w.setCell ⟨B, 0, none⟩ u) x.1 x.2 := fun x hx => (hp x hx).grown (ugrown_set w B 0 u) (fun b hb e => by
    injection e with e
    subst e
    obtain ⟨cs', hc⟩ := hb
    rw [r] at hc
    injection hc with hc
    injection hc with _ q
    exact hty q)
  refine ⟨p, h1, ⟨h0, a', cap, e, h2, h3, ?_⟩, hT⟩
  rcases h4 with h4 | ⟨b, off, rfl, hb, hc⟩
  · exact .inl h4
  · refine .inr ⟨b, off, rfl, by simpa using hb, fun j hj i v hv => ?_⟩
    have hcell := hc j hj i v hv
    by_cases hbB : b = B
    · exfalso
      subst hbB
      rw [cell_of_row _ _ _ _ _ _ r] at hcell
      have hjp : j < p.length := by rwa [List.length_map] at hj
      rw [List.getElem_map] at hv
      obtain ⟨v0, e0, hv0⟩ := hp _ (List.getElem_mem hjp)
      rw [e0] at hv
      rcases i with _ | i
      · injection hv with hv
        subst hv
        obtain ⟨t, q, e1⟩ := hv0.iface
        generalize off + j * 1 + 0 = z at hcell
        rcases z with _ | z
        · injection hcell with hcell
          rw [e1] at hcell
          cases hcell
        · simp at hcell
      · simp at hv
    · have : (w.setCell ⟨B, 0, none⟩ u).heap[b]? = w.heap[b]? := Below.heap_setCell _ _ _ _ hbB
      unfold World.cell? at hcell ⊢
      rw [this]
      exact hcell
/-- The last ones of a row. -/
theorem RowK.drop {k : Nat} {w : World} {b off n cap : Nat} {xs : List (List Value)} (m : Nat) (h : RowK k w (.slice (some ⟨b, off, none⟩) n cap) xs) (hn : m < n) : RowK k w (.slice (some ⟨b, off + m * k, none⟩) (n - m) (cap - m)) (xs.drop m) := by
  obtain ⟨h0, a, c, e, h1, h2, h3⟩ := h
  injection e with e1 e2 e3
  subst e1 e3
  have hl : (xs.drop m).length = n - m := by rw [List.length_drop, e2]
  refine ⟨fun x hx => h0 x (List.mem_of_mem_drop hx), _, _, by rw [hl], by rw [hl]; omega, by omega, ?_⟩
  rcases h3 with h3 | ⟨b', off', e, hb, hc⟩
  · rw [h3] at e2; simp at e2; omega
  · injection e with e
    injection e with e1 e4 _
    subst e1 e4
    refine .inr ⟨b, off + m * k, rfl, hb, fun j hj i u hu => ?_⟩
    have := hc (m + j) (by rw [hl] at hj; omega) i u (by rw [List.getElem_drop] at hu; exact hu)
    rw [show off + m * k + j * k + i = off + (m + j) * k + i by rw [Nat.add_mul]; omega]
    exact this
end Go.Proofs.YtoejjicgnhndfaaDoor.Und
