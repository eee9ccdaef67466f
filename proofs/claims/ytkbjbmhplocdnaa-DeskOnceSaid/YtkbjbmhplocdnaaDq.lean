/- Desk: a row cut, its end cleared; a list whose elements go as it is walked (no program's calls). -/
import Derived.Test.YtkbjbmhplocdnaaDn
import Derived.Laws.IdiomCopy
set_option linter.unusedVariables false
set_option linter.unusedSimpArgs false
set_option maxRecDepth 100000
namespace Go.Proofs.Ytkbjbmhplocdnaa.Dsk
open Go.RowKit Go.Lib Go.Proofs.Ytkbjbmhplocdnaa.Bx

theorem setCells_keep {g : Nat} {e : TypeId} : ∀ (vs : List Value) (o : Nat) (w : World) (cur : Array Value), w.heap[g]? = some (.cells cur e (0, 0)) →
    ∃ cur', (w.setCells g o vs).heap[g]? = some (.cells cur' e (0, 0)) ∧ cur'.size = cur.size ∧ ∀ m, m ≤ o → cur'.toList.take m = cur.toList.take m
  | [], o, w, cur, h => ⟨cur, h, rfl, fun _ _ => rfl⟩
  | v :: vs, o, w, cur, h => by
    obtain ⟨cur', h1, h2, h3⟩ := setCells_keep vs (o + 1) (w.setCell ⟨g, o, none⟩ v) _ (set_block h)
    refine ⟨cur', h1, by rw [h2]; simp, fun m hm => ?_⟩
    rw [h3 m (by omega), Array.toList_setIfInBounds, List.take_set]
    exact List.set_eq_of_length_le (by rw [List.length_take]; omega)
theorem below_setCells {B g : Nat} (hg : B ≤ g) {a : World} : ∀ (vs : List Value) (o : Nat) (w : World), Below B a w → Below B a (w.setCells g o vs)
  | [], _, _, h => h
  | v :: vs, o, w, h => below_setCells hg vs (o + 1) _ (below_put h hg v)
theorem flat_take {k : Nat} : ∀ (xs : List (List Value)), (∀ x ∈ xs, x.length = k) → ∀ i, (xs.take i).flatten = xs.flatten.take (i * k)
  | [], _, i => by simp
  | x :: xs, hk, i => by
    have hx : x.length = k := hk x List.mem_cons_self
    cases i with
    | zero => simp
    | succ i => rw [List.take_succ_cons, List.flatten_cons, List.flatten_cons, flat_take xs (fun z hz => hk z (List.mem_cons_of_mem _ hz)) i, Nat.succ_mul, show i * k + k = x.length + i * k by omega, List.take_length_add_append]
theorem own_cut {e : TypeId} {k base : Nat} {w : World} {g n cap : Nat} {xs : List (List Value)} (h : Rk.OwnK e k base w (.slice (some ⟨g, 0, none⟩) n cap) xs) {i : Nat} (hi : i ≤ xs.length) {o : Nat} (ho : i * k ≤ o) (vs : List Value) :
    Rk.OwnK e k base (w.setCells g o vs) (.slice (some ⟨g, 0, none⟩) i cap) (xs.take i) := by
  obtain ⟨h0, h1⟩ := h
  have hl : (xs.take i).length = i := by rw [List.length_take]; omega
  refine ⟨fun x hx => h0 x (List.mem_of_mem_take hx), ?_⟩
  rw [hl]
  obtain ⟨h2, h3⟩ := h1
  have hk : ∀ x ∈ xs, x.length = k := fun x hx => (h0 x hx).1
  rcases h3 with ⟨e1, _⟩ | ⟨g', cap', cur, e1, hb, hg, hle, hm, hsz, htake⟩
  · cases e1
  · injection e1 with e1 e2 e3
    injection e1 with e1
    injection e1 with e1 _ _
    subst e1 e2 e3
    obtain ⟨cur', c1, c2, c3⟩ := setCells_keep vs o w cur hg
    refine ⟨?_, .inr ⟨g, cap, cur', rfl, hb, c1, by omega, hm, by rw [c2]; exact hsz, ?_⟩⟩
    · rw [flat_take xs hk, List.length_take, h2]
      exact Nat.min_eq_left (Nat.mul_le_mul_right k hi)
    · rw [c3 _ ho, flat_take xs hk, ← htake, List.take_take, Nat.min_eq_left (Nat.mul_le_mul_right k hi)]
def zSeat : List Value := [.string (ByteArray.mk #[]), .int .i64 0, .int .i64 0, .int .i64 0, .string (ByteArray.mk #[])]
theorem clear_seats (w : World) (b o n c : Nat) (hn : 0 < n) (hc : ∀ j, j < n * 5 → (w.cell? ⟨b, o + j, none⟩).isSome = true) (hf : ∀ j, w.frozen? ⟨b, j, none⟩ = false) :
    ∃ vs, ∀ ty, (Builtin.clear_ #[22] ty #[.slice (some ⟨b, o, none⟩) n c]).run Try.prog w = .ok (.tuple #[]) (w.setCells b o vs) := by
  have hv := Try.zeroValue28
  have hsz : (Builtin.zeroCells zSeat.toArray n).toList.length = n * 5 := by simp [Builtin.zeroCells, zSeat]
  have h1 : ∀ v ∈ (Builtin.zeroCells zSeat.toArray n).toList, v.oneCell' = true := fun v hv => by
    simp only [Builtin.zeroCells, Array.toList_map, Array.toList_range, List.mem_map, List.mem_range] at hv
    obtain ⟨i, _, rfl⟩ := hv
    have h5 : i % 5 < 5 := Nat.mod_lt _ (by decide)
    show (zSeat.toArray[i % 5]!).oneCell' = true
    have : ∀ j, j < 5 → (zSeat.toArray[j]!).oneCell' = true := by
      intro j hj
      match j, hj with
      | 0, _ => rfl
      | 1, _ => rfl
      | 2, _ => rfl
      | 3, _ => rfl
      | 4, _ => rfl
    exact this _ h5
  have hst := run_storeCells_cells (P := Try.prog) b o (Builtin.zeroCells zSeat.toArray n).toList 0 w (by rw [hsz]; simpa using hc) (fun j _ => hf _) h1
  simp only [Nat.add_zero] at hst
  obtain ⟨m, rfl⟩ : ∃ m, n = m + 1 := ⟨n - 1, by omega⟩
  refine ⟨(Builtin.zeroCells zSeat.toArray (m + 1)).toList, fun ty => ?_⟩
  have hz : (Value.agg zSeat.toArray).cells = zSeat.toArray := rfl
  have hv' : ∀ w, Sem.run Try.prog (zeroValue 28) w = .ok (.agg zSeat.toArray) w := hv
  simp [Builtin.clear_, run_underlying Try.underlying22, hv', hz, hst]
/-- Of A's first j elements those that stay stand in D's first i; behind them D is as A. -/
def FL (p : Se → Bool) (A : List Se) (i j : Nat) (D : List Se) : Prop := D.length = A.length ∧ D.take i = (A.take j).filter (fun y => !p y) ∧ D.drop j = A.drop j ∧ i < j ∧ j ≤ A.length
theorem FL.start {p : Se → Bool} {A : List Se} {i : Nat} (h : ixO p A = some i) : FL p A i (i + 1) A := by
  obtain ⟨hi, h1, h2⟩ := ix_lt h
  refine ⟨rfl, ?_, rfl, by omega, by omega⟩
  rw [filter_next hi, show (!p (se A i)) = false by rw [h1]; rfl, if_neg (by simp), List.append_nil, List.filter_eq_self.2]
  intro y hy
  obtain ⟨j, hj, rfl⟩ := List.getElem_of_mem hy
  rw [List.length_take] at hj
  rw [List.getElem_take, ← se_at (by omega), h2 j (by omega)]
  rfl
theorem FL.get {p : Se → Bool} {A D : List Se} {i j : Nat} (h : FL p A i j D) (hj : j < A.length) : se D j = se A j := by
  obtain ⟨h1, _, h3, _, _⟩ := h
  rw [se_at hj, se_at (by omega)]
  have := congrArg (fun l => l[0]?) h3
  simp only [List.getElem?_drop, Nat.add_zero, List.getElem?_eq_getElem hj, List.getElem?_eq_getElem (show j < D.length by omega)] at this
  exact Option.some.inj this
theorem FL.skip {p : Se → Bool} {A D : List Se} {i j : Nat} (h : FL p A i j D) (hj : j < A.length) (hp : p (se A j) = true) : FL p A i (j + 1) D := by
  obtain ⟨h1, h2, h3, h4, h5⟩ := h
  refine ⟨h1, by rw [h2, filter_next hj, hp]; simp, ?_, by omega, by omega⟩
  rw [← List.drop_drop, ← List.drop_drop, h3]
theorem FL.keep {p : Se → Bool} {A D : List Se} {i j : Nat} (h : FL p A i j D) (hj : j < A.length) (hp : p (se A j) = false) : FL p A (i + 1) (j + 1) (D.set i (se A j)) := by
  obtain ⟨h1, h2, h3, h4, h5⟩ := h
  have hi : i < D.length := by omega
  refine ⟨by rw [List.length_set]; exact h1, ?_, ?_, by omega, by omega⟩
  · rw [List.take_succ_eq_append_getElem (by rw [List.length_set]; exact hi), List.getElem_set_self, List.take_set, List.set_eq_of_length_le (by rw [List.length_take]; omega), h2, filter_next hj, hp]
    rfl
  · rw [List.drop_set_of_lt (by omega), ← List.drop_drop, ← List.drop_drop, h3]
theorem FL.done {p : Se → Bool} {A D : List Se} {i : Nat} (h : FL p A i A.length D) : D.take i = A.filter fun y => !p y := by
  rw [h.2.1, List.take_length]
theorem OSe.put5 {base : Nat} {w : World} {g n cap : Nat} {X : List Se} (h : OSe base w (.slice (some ⟨g, 0, none⟩) n cap) X) {i : Nat} (hi : i < X.length) {y : Se} (hy : good y) :
    OSe base (((((w.setCell ⟨g, i * 5, none⟩ (.string y.t)).setCell ⟨g, i * 5 + 1, none⟩ (.int .i64 y.u)).setCell ⟨g, i * 5 + 2, none⟩ (.int .i64 y.d)).setCell ⟨g, i * 5 + 3, none⟩ (.int .i64 y.q)).setCell ⟨g, i * 5 + 4, none⟩ (.string y.a)) (.slice (some ⟨g, 0, none⟩) n cap) (X.set i y) := by
  have step : ∀ {w : World} {xs : List (List Value)} {o : Nat} {u : Value} {c : List Value}, Rk.OwnK 28 5 base w (.slice (some ⟨g, 0, none⟩) n cap) (xs.set i c) → i < xs.length → o < 5 → u.oneCell' = true → Rk.OwnK 28 5 base (w.setCell ⟨g, i * 5 + o, none⟩ u) (.slice (some ⟨g, 0, none⟩) n cap) (xs.set i (c.set o u)) := fun {w xs o u c} h hi ho hu => by
    have h1 := own_set h (i := i) (o := o) (u := u) (by rw [List.length_set]; exact hi) ho hu
    rw [List.set_set, List.getElem_set_self] at h1
    exact h1
  have hl : i < (X.map cellsS).length := by rw [List.length_map]; exact hi
  have h0 : Rk.OwnK 28 5 base w (.slice (some ⟨g, 0, none⟩) n cap) ((X.map cellsS).set i (cellsS (se X i))) := by
    rw [se_at hi, ← List.getElem_map cellsS (h := hl), List.set_getElem_self]
    exact h.1
  have h5 := step (step (step (step (step h0 hl (o := 0) (u := .string y.t) (by decide) rfl) hl (o := 1) (u := .int .i64 y.u) (by decide) rfl) hl (o := 2) (u := .int .i64 y.d) (by decide) rfl) hl (o := 3) (u := .int .i64 y.q) (by decide) rfl) hl (o := 4) (u := .string y.a) (by decide) rfl
  rw [show i * 5 + 0 = i * 5 from Nat.add_zero _] at h5
  refine ⟨?_, fun z hz => ?_⟩
  · rw [List.map_set]
    exact h5
  · rcases List.mem_or_eq_of_mem_set hz with hz | rfl
    · exact h.2 z hz
    · exact hy
theorem size_set (w : World) (a : Addr) (u : Value) : (w.setCell a u).heap.size = w.heap.size := by simp
/-- What is told of a row's cells, all of them. -/
theorem OSe.somes {base : Nat} {w : World} {g n cap : Nat} {X : List Se} (h : OSe base w (.slice (some ⟨g, 0, none⟩) n cap) X) : (∀ j, j < X.length * 5 → (w.cell? ⟨g, j, none⟩).isSome = true) ∧ ∀ j, w.frozen? ⟨g, j, none⟩ = false := by
  rcases h.1.2.2 with ⟨e, h0⟩ | ⟨g', cap', cur, h1, h2, h3, h4, h5, h6, h7⟩
  · cases e
  · injection h1 with e1 _ e3
    injection e1 with e1
    injection e1 with e1 _ _
    subst e1 e3
    rw [List.length_map] at h4
    refine ⟨fun j hj => ?_, fun j => free_at h3⟩
    rw [cell_of_row _ _ _ _ _ _ h3, Array.getElem?_eq_getElem (by rw [h6]; exact Nat.lt_of_lt_of_le hj (Nat.mul_le_mul_right 5 h4))]
    rfl
theorem OSe.cut {base : Nat} {w : World} {g n cap : Nat} {X : List Se} (h : OSe base w (.slice (some ⟨g, 0, none⟩) n cap) X) {i : Nat} (hi : i ≤ X.length) (vs : List Value) : OSe base (w.setCells g (i * 5) vs) (.slice (some ⟨g, 0, none⟩) i cap) (X.take i) := by
  refine ⟨?_, fun y hy => h.2 y (List.mem_of_mem_take hy)⟩
  rw [List.map_take]
  exact own_cut h.1 (by rw [List.length_map]; exact hi) (Nat.le_refl _) vs
theorem OSe.at5 {base : Nat} {w : World} {g n cap : Nat} {X : List Se} (h : OSe base w (.slice (some ⟨g, 0, none⟩) n cap) X) {i : Nat} (hi : i < X.length) : ∃ u0 u1 u2 u3 u4, w.cell? ⟨g, i * 5, none⟩ = some u0 ∧ w.cell? ⟨g, i * 5 + 1, none⟩ = some u1 ∧ w.cell? ⟨g, i * 5 + 2, none⟩ = some u2 ∧ w.cell? ⟨g, i * 5 + 3, none⟩ = some u3 ∧ w.cell? ⟨g, i * 5 + 4, none⟩ = some u4 ∧ w.frozen? ⟨g, i * 5, none⟩ = false ∧ w.frozen? ⟨g, i * 5 + 1, none⟩ = false ∧ w.frozen? ⟨g, i * 5 + 2, none⟩ = false ∧ w.frozen? ⟨g, i * 5 + 3, none⟩ = false ∧ w.frozen? ⟨g, i * 5 + 4, none⟩ = false := by
  obtain ⟨g', cap', e1, _, hcell, hfree⟩ := h.at_ hi
  injection e1 with e1 e2 e3
  injection e1 with e1
  injection e1 with e1 _ _
  subst e1
  have h0 := hcell 0 _ rfl
  rw [Nat.add_zero] at h0
  exact ⟨_, _, _, _, _, h0, hcell 1 _ rfl, hcell 2 _ rfl, hcell 3 _ rfl, hcell 4 _ rfl, hfree _, hfree _, hfree _, hfree _, hfree _⟩
end Go.Proofs.Ytkbjbmhplocdnaa.Dsk
