/- Plate: the program's Loose. -/
import Derived.Test.YtffejfpbeimngaaDoorY16e
import Derived.Test.YtffejfpbeimngaaDoorShelf
import Derived.Sort.Grow
set_option linter.unusedVariables false
set_option linter.unusedSimpArgs false
set_option maxRecDepth 100000
namespace Go.Proofs.YtffejfpbeimngaaDoor.Plt
open Go.RowKit Go.Lib Go.Proofs.YtffejfpbeimngaaDoor.Bx
open Go.Sort (Holds putRow grow onCells mapBlock holds_putRow)

def intsN (L : List Nat) : List Int := L.map fun i => ((i : Nat) : Int)
theorem intsN_len (L : List Nat) : (intsN L).length = L.length := List.length_map _
theorem intsN_get {L : List Nat} {j : Nat} (h : j < L.length) : (intsN L).getD j 0 = ((L.getD j 0 : Nat) : Int) := by
  unfold intsN
  rw [List.getD_eq_getElem?_getD, List.getD_eq_getElem?_getD, List.getElem?_map, List.getElem?_eq_getElem h]
  rfl
theorem cellsN_ints (L : List Nat) : (cellsN L).flatten = (intsN L).map (Value.int .i64) := by
  unfold cellsN intsN
  induction L with
  | nil => rfl
  | cons x L ih =>
    rw [List.map_cons, List.flatten_cons, ih]
    rfl
theorem row_ints {w : World} {v : Value} {L : List Nat} (h : Rk.RowK 1 w v (cellsN L)) : ∃ a c, v = .slice a L.length c ∧ L.length ≤ c ∧ c ≤ 9223372036854775807 ∧ ∀ j, j < L.length → ∃ b off, a = some ⟨b, off, none⟩ ∧ b < w.heap.size ∧ w.cell? ⟨b, off + j, none⟩ = some (.int .i64 ((L.getD j 0 : Nat) : Int)) := by
  obtain ⟨_, a, c, e, h1, h2, h3⟩ := h
  rw [cellsN_len] at e h1
  unfold maxLen at h2
  refine ⟨a, c, e, h1, h2, fun j hj => ?_⟩
  rcases h3 with h3 | ⟨b, off, rfl, hb, hc⟩
  · have := cellsN_len L
    rw [h3] at this
    simp at this
    omega
  · refine ⟨b, off, rfl, hb, ?_⟩
    have := hc j (by rw [cellsN_len]; exact hj) 0
    unfold cellsN at this
    simp only [List.getElem_map, Nat.mul_one, Nat.add_zero] at this
    rw [List.getD_eq_getElem?_getD, List.getElem?_eq_getElem hj]
    exact this _ rfl
theorem row_ints_at {w : World} {a : Option Addr} {n c : Nat} {L : List Nat} (h : Rk.RowK 1 w (.slice a n c) (cellsN L)) {j : Nat} (hj : j < L.length) : ∃ b off, a = some ⟨b, off, none⟩ ∧ b < w.heap.size ∧ w.cell? ⟨b, off + j, none⟩ = some (.int .i64 ((L.getD j 0 : Nat) : Int)) := by
  obtain ⟨a', c', e, _, _, h3⟩ := row_ints h
  injection e with e1 e2 e3
  subst e1
  exact h3 j hj
/-- slices.Clone at ints that are read. -/
theorem clone_any {v : Value} {L : List Nat} (w : World) (h : Rk.RowK 1 w v (cellsN L)) (hn : L.length ≤ 20000) : Calls Tryd.prog 37 #[v] w fun e w' => ∃ v', e = .returned v' ∧ w'.ownsRow w.heap.size 3 1 v' L.length ((intsN L).map (Value.int .i64)) ∧ Below w.heap.size w w' := by
  obtain ⟨a, c, rfl, h1, h2, h3⟩ := row_ints h
  by_cases h0 : L.length = 0
  · obtain rfl : L = [] := List.eq_nil_of_length_eq_zero h0
    cases a with
    | none =>
      refine (Tryd.slices_Clone_int_nil 0 c w).mono ?_
      rintro e w' ⟨rfl, rfl⟩
      exact ⟨_, rfl, World.ownsRow_nil _ _ _ _, Below.refl _ _⟩
    | some ad =>
      refine (Tryd.slices_Clone_int_zero ad c w).mono ?_
      rintro e w' ⟨v', rfl, ho, _, hb⟩
      exact ⟨v', rfl, ho, hb⟩
  · obtain ⟨b, off, rfl, _, _⟩ := h3 0 (by omega)
    refine (Tryd.slices_Clone_int b off L.length c (intsN L) w (by rw [intsN_len]; exact Nat.le_refl _) (by omega) (fun j hj => ?_)).mono ?_
    · rw [intsN_len] at hj
      obtain ⟨b', off', e, _, hc⟩ := h3 j hj
      injection e with e
      injection e with e1 e2
      subst e1 e2
      rw [intsN_get hj]
      exact hc
    · rintro e w' ⟨v', rfl, ho, _, hb⟩
      rw [← intsN_len L, List.take_length] at ho
      rw [← intsN_len L]
      exact ⟨v', rfl, ho, hb⟩
def sortN (L : List Nat) : List Int := (intsN L).mergeSort fun x y => decide (x ≤ y)
theorem sortN_is {D : DK} {L : List Nat} (hn : L.Nodup) (hm : ∀ i, i ∈ L ↔ i < D.n ∧ Loo D i) : sortN L = intsN (looseL D) := by
  have h1 : (sortN L).Perm (intsN L) := List.mergeSort_perm _ _
  have h2 : L.Perm (looseL D) := (List.perm_ext_iff_of_nodup hn (loose_nodup D)).2 fun i => (hm i).trans (loose_mem D i).symm
  refine List.Perm.eq_of_pairwise (le := fun x y : Int => x ≤ y) (fun a b _ _ p q => Int.le_antisymm p q) ?_ ?_ (h1.trans (h2.map _))
  · have := List.pairwise_mergeSort (le := fun x y : Int => decide (x ≤ y)) (fun a b c h1 h2 => by simp at *; omega) (fun a b => by simp; omega) (intsN L)
    simpa [sortN] using this
  · refine List.Pairwise.map (R := fun x y : Nat => x < y) _ (fun a b h => by show (a : Int) ≤ (b : Int); omega) ?_
    exact List.Pairwise.filter _ List.pairwise_lt_range
theorem row_of_holds {w : World} {g cap : Nat} {L : List Nat} (hg : g < w.heap.size) (hc : L.length ≤ cap) (hm : cap ≤ maxLen) (h : Holds (Value.int .i64) w g 0 (intsN L).toArray) : Rk.RowK 1 w (.slice (some ⟨g, 0, none⟩) L.length cap) (cellsN L) := by
  refine ⟨fun x hx => ?_, some ⟨g, 0, none⟩, cap, by rw [cellsN_len], by rw [cellsN_len]; exact hc, hm, .inr ⟨g, 0, rfl, hg, fun j hj i u hu => ?_⟩⟩
  · obtain ⟨y, _, rfl⟩ := List.mem_map.1 hx
    rfl
  · rw [cellsN_len] at hj
    have h1 := (h j (by simpa [intsN] using hj)).1
    have e1 : (cellsN L)[j]'(by rw [cellsN_len]; exact hj) = [Value.int .i64 ((L[j] : Nat) : Int)] := by
      unfold cellsN
      rw [List.getElem_map]
    rw [e1] at hu
    have hi : i = 0 := by
      rcases Nat.eq_zero_or_pos i with q | q
      · exact q
      · rw [List.getElem?_eq_none (by exact q)] at hu; cases hu
    subst hi
    have hu' : some (Value.int .i64 ((L[j] : Nat) : Int)) = some u := hu
    injection hu' with hu'
    subst hu'
    rw [Nat.mul_one, Nat.add_zero]
    rw [Nat.zero_add] at h1 ⊢
    rw [h1, getElem!_pos (intsN L).toArray j (by simpa [intsN] using hj)]
    simp [intsN]
theorem grown_put {w : World} {g n : Nat} {os : Array Obj} (d : Array Int) : w.grownBy (grow (putRow (Value.int .i64) (Sort.ahead w n) g 0 d) os) (some g) := by
  refine ⟨rfl, rfl, rfl, ?_, fun k hk hne => ?_⟩
  · show _ ≤ (w.heap.modify g (onCells _) ++ os).size
    simp
  · show (w.heap.modify g (onCells _) ++ os)[k]? = _
    rw [Array.getElem?_append_left (by simpa using hk), Array.getElem?_modify, if_neg (fun e => hne (by rw [e]))]
theorem holds_grow {w : World} {g : Nat} {d : Array Int} {os : Array Obj} (h : Holds (Value.int .i64) w g 0 d) (hg : g < w.heap.size) : Holds (Value.int .i64) (grow w os) g 0 d := fun j hj => by
  have := h j hj
  have e : (grow w os).heap[g]? = w.heap[g]? := by
    show (w.heap ++ os)[g]? = _
    rw [Array.getElem?_append_left hg]
  exact ⟨by rw [← this.1]; unfold World.cell?; rw [e], by rw [← this.2]; unfold World.frozen?; rw [e]⟩
theorem sorti_any {base : Nat} {v : Value} {L : List Nat} {D : DK} (w : World) (h : w.ownsRow base 3 1 v L.length ((intsN L).map (Value.int .i64))) (hs : base ≤ w.heap.size) (hl : L.length ≤ 100000) (hn : L.Nodup) (hm : ∀ i, i ∈ L ↔ i < D.n ∧ Loo D i) :
    Calls Tryd.prog 38 #[v] w fun e w' => e = .returned (.tuple #[]) ∧ Rk.RowK 1 w' v (cellsN (looseL D)) ∧ (∀ b, v.ownBlock = some b → base ≤ b) ∧ Below base w w' := by
  have hll : (looseL D).length = L.length := by
    have := congrArg List.length (sortN_is hn hm)
    unfold sortN at this
    rw [List.length_mergeSort, intsN_len, intsN_len] at this
    exact this.symm
  rcases h.2 with ⟨rfl, h0⟩ | ⟨g, cap, cur, rfl, hb, hg, hle, hmx, hsz, htake⟩
  · rw [h0] at hll
    have e : looseL D = [] := List.eq_nil_of_length_eq_zero hll
    refine (AnyM.slices_Sort_int_none Tryd.sortInt none 0 w).mono ?_
    rintro e w' ⟨rfl, rfl⟩
    exact ⟨rfl, by rw [‹looseL D = []›]; exact Rk.RowK.nil_ _ _, fun b e => (by cases e), Below.refl _ _⟩
  · have hH : Holds (Value.int .i64) w g 0 (intsN L).toArray := fun j hj => by
      have hj' : j < (intsN L).length := by simpa using hj
      have hc := World.ownsRow.cells h (g := g) rfl j (.int .i64 (intsN L)[j]) (by rw [List.getElem?_map, List.getElem?_eq_getElem hj']; rfl)
      rw [Rk.kadd, Nat.zero_add] at hc
      refine ⟨?_, World.ownsRow.frozenAt h _⟩
      rw [Nat.zero_add, hc, getElem!_pos (intsN L).toArray j hj]
      simp
    have hgs := (Array.getElem?_eq_some_iff.1 hg).1
    have hc := AnyM.slices_Sort_int Tryd.sortInt g 0 cap (intsN L) w hH hgs (by rw [intsN_len]; omega)
    rw [intsN_len] at hc
    refine hc.mono ?_
    rintro e w' ⟨rfl, n, os, rfl⟩
    refine ⟨rfl, ?_, fun j e => (by have e' : g = j := (by simpa [Value.ownBlock] using e); omega), (Below.refl base w).grown (grown_put _) hs (fun j e => by injection e with e; omega)⟩
    rw [← hll]
    refine row_of_holds (Nat.lt_of_lt_of_le hgs (grown_put (w := w) (g := g) (n := n) (os := os) ((intsN L).mergeSort fun x y => decide (x ≤ y)).toArray).size) (by rw [hll]; exact hle) hmx ?_
    refine holds_grow ?_ (by simpa using hgs)
    rw [← sortN_is hn hm]
    exact holds_putRow _ _ _ _ _ _ (Go.Sort.holds_ahead _ _ n _ _ _ hH) (by simp)
section
variable {base B G : Nat} {w : World} {v : Value} {u : Nat → Value} {L : List Nat} {D : DK}
theorem list_lt (hd : Dm base w B G v u L D) : L.length ≤ 16384 := Nat.le_trans (nodup_len D.n L hd.nod (fun x hx => ((hd.mem x).1 hx).1)) hd.n2
def Listed (w : World) (L : List Nat) : Ending → World → Prop := fun e w' => ∃ v', e = .returned v' ∧ Rk.RowK 1 w' v' (cellsN L) ∧ (∀ b, v'.ownBlock = some b → w.heap.size ≤ b) ∧ Below w.heap.size w w'
theorem loose_any (hd : Dm base w B G v u L D) : Calls Tryd.prog 28 #[.pointer (some ⟨B, 0, none⟩)] w (Listed w (looseL D)) := by
  obtain ⟨c0, c1, c2, c3, _⟩ := Dx.cells hd
  have CC := Lib.hid (clone_any w hd.own.row (Nat.le_trans (list_lt hd) (by omega)))
  have CS : Hid (∀ v' w1, w1.ownsRow w.heap.size 3 1 v' L.length ((intsN L).map (Value.int .i64)) → Below w.heap.size w w1 → Calls Tryd.prog 38 #[v'] w1 fun e w' => e = .returned (.tuple #[]) ∧ Rk.RowK 1 w' v' (cellsN (looseL D)) ∧ (∀ b, v'.ownBlock = some b → w.heap.size ≤ b) ∧ Below w.heap.size w1 w') := fun v' w1 ho hb => sorti_any w1 ho hb.size (Nat.le_trans (list_lt hd) (by omega)) hd.nod hd.mem
  clear hd c2 c3 c0
  go_enter Tryd.func28, Tryd.ntmps28
  go_wp2_with fail
  refine CC.out.mono ?_
  rintro e w1 ⟨v1, rfl, o1, b1⟩
  have C2 := Lib.hid (CS.out v1 w1 o1 b1)
  have B1 := Lib.hid b1
  clear o1 b1 CC CS
  go_wp2_with fail
  refine C2.out.mono ?_
  rintro e w2 ⟨rfl, r2, s2, b2⟩
  have R2 := Lib.hid r2
  have S2 := Lib.hid s2
  have B2 := Lib.hid (B1.out.trans b2)
  clear r2 s2 b2 C2
  go_wp2_with fail
  go_ret
  exact ⟨_, rfl, R2.out, S2.out, B2.out⟩
theorem loose_nil (w : World) : Calls Tryd.prog 28 #[.pointer none] w fun e w' => e = .returned (.slice none 0 0) ∧ w = w' := by
  go_enter Tryd.func28, Tryd.ntmps28
  go_wp2_with fail
  go_ret
  exact ⟨rfl, rfl⟩
end
end Go.Proofs.YtffejfpbeimngaaDoor.Plt
