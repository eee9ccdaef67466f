/- Appends of ints onto a row of the call's own, as steps of a walk. -/
import Derived.Test.YtffepndeegbdoaaGreatDoorOwn
import Derived.WalkKit
import Derived.Laws.AppendOwnNone
import Derived.Test.YtffepndeegbdoaaGreatDoorRight
import Derived.Test.YtffepndeegbdoaaGreatDoorRise
import Derived.Test.YtffepndeegbdoaaGreatDoorShelf
import Derived.Deep.LoopGhost
set_option linter.unusedVariables false
namespace Go.Proofs.YtffepndeegbdoaaGreatDoor.Rig
open Go.RowKit Go.Lib Go.Proofs.YtffepndeegbdoaaGreatDoor.Rt

theorem infoI : (Tryz.prog.info? 3).map (fun i => (i.zero, i.size, i.bytes)) = some (some (.int .i64 0), 1, 8) := by kernel_rfl

/-- Nothing is appended of a nil slice, whatever its capacity reads as. -/
theorem run_append_nil {P : Program} (w : World) (base : Nat) (t ty e : TypeId) (i : TypeInfo) (size : Nat) (ht : P.underlying t = some (.slice e)) (hi : P.info? e = some i)
    (v : Value) (n : Nat) (xs : List Value) (hown : w.ownsRow base e size v n xs) (c : Nat) : (Builtin.append_ #[t, t] ty #[v, .slice none 0 c]).run P w = .ok v w := by
  rcases hown.2 with ⟨rfl, rfl⟩ | ⟨g, cap, cur, rfl, _, _, hnc, _⟩
  · simp [Builtin.append_, run_underlying ht, sizeOf, typeInfo, hi, Builtin.lenOf, Builtin.firstCells]
  · simp [Builtin.append_, run_underlying ht, sizeOf, typeInfo, hi, Builtin.lenOf, Builtin.firstCells, hnc, storeCells]

set_option maxRecDepth 100000 in
/-- An append of ints, whatever slice they come from, onto a row of the call's own. -/
theorem wpList_append_ints {w : World} {ops : Array Oper} {rest : List Oper} {o : Oper} {a : Act} {Q : Exit → Act → World → Prop} (hgd : o.guard = none) (s x : Operand)
    (ho : o.op = .call { callee := .builtin .append, args := #[s, x], argTypes := #[45, 45] }) (base : Nat) (v : Value) (n : Nat) (ys : List Value) (hs : a.eval s = v) (hown : w.ownsRow base 3 1 v n ys)
    (u : Value) (xs : List Int) (hx : a.eval x = u) (hI : Ints w u xs) (hlen : n + xs.length ≤ 100000) (hbase : base ≤ w.heap.size)
    (h : ∀ v' w', w'.ownsRow base 3 1 v' (n + xs.length) (ys ++ ints xs) → w.grownBy w' v.ownBlock → wpList Tryz.prog ops Q rest (a.put o.dst v') w') : wpList Tryz.prog ops Q (o :: rest) a w := by
  obtain ⟨i0, hi, hz0, hz1, hz2⟩ := info_parts infoI
  obtain ⟨_, ad, cap, rfl, h1, h2, h3⟩ := hI
  cases ad with
  | none =>
    have he : xs = [] := by
      rcases h3 with rfl | ⟨b, off, e, _⟩
      · rfl
      · cases e
    subst he
    refine wpList_plain hgd fun K hK => ?_
    have hrun := run_append_nil (P := Tryz.prog) w base 45 o.type 3 i0 1 Tryz.underlying45 hi v n ys hown cap
    unfold Oper.wp
    have hx' : a.eval x = .slice none 0 cap := hx
    simp [execOp, ho, resolve, invoke, builtin, hs, hx', hrun, Result.andThen]
    refine hK _ _ (h v w ?_ (World.grownBy.refl w _))
    rw [show ys ++ ints [] = ys from List.append_nil _]
    exact hown
  | some ad =>
    refine wpList_append_own w hgd s x 45 ho base 3 i0 (.int .i64 0) 1 8 Tryz.underlying45 hi hz0 hz1 hz2 rfl (by decide) v n ys hs hown ad xs.length cap (ints xs) hx (by rw [ints_len, Nat.mul_one]) ?_ ints_one (by unfold maxLen; omega) (by omega) hbase ?_
    · intro j z hj
      rcases h3 with rfl | ⟨b, off, e, _, hc⟩
      · simp [ints] at hj
      · injection e with e
        subst e
        have hj' : j < xs.length := by rw [← ints_len xs]; exact (List.getElem?_eq_some_iff.1 hj).1
        rw [ints_get hj'] at hj
        have hadd : (⟨b, off, none⟩ : Addr).add j = ⟨b, off + j, none⟩ := by unfold Addr.add; split <;> simp_all
        rw [hadd, hc j hj']
        exact hj
    · intro v' w' h1 h2 _
      exact h v' w' h1 h2

/-- An append of one int that lies in a block of its own. -/
theorem wpList_append_one {w : World} {ops : Array Oper} {rest : List Oper} {o : Oper} {a : Act} {Q : Exit → Act → World → Prop} (hgd : o.guard = none) (s x : Operand)
    (ho : o.op = .call { callee := .builtin .append, args := #[s, x], argTypes := #[45, 45] }) (base : Nat) (v : Value) (ys : List Int) (hs : a.eval s = v) (hown : OwnI base w v ys)
    (b : Nat) (y : Int) (hx : a.eval x = .slice (some ⟨b, 0, none⟩) 1 1) (hb : w.heap[b]? = some (.cells #[.int .i64 y] 3 (0, 0))) (hy : i64 y) (hlen : ys.length ≤ 10000) (hbase : base ≤ w.heap.size)
    (h : ∀ v' w', OwnI base w' v' (ys ++ [y]) → w.grownBy w' v.ownBlock → wpList Tryz.prog ops Q rest (a.put o.dst v') w') : wpList Tryz.prog ops Q (o :: rest) a w := by
  have hI : Ints w (.slice (some ⟨b, 0, none⟩) 1 1) [y] := by
    refine ⟨fun x hx => by simp at hx; subst hx; exact hy, _, 1, rfl, Nat.le_refl _, by unfold maxLen; omega, .inr ⟨b, 0, rfl, ?_, fun j hj => ?_⟩⟩
    · rcases Nat.lt_or_ge b w.heap.size with h | h
      · exact h
      · rw [Array.getElem?_eq_none h] at hb; cases hb
    · obtain rfl : j = 0 := by simp at hj; omega
      rw [cell_of_row w b _ _ _ (0, 0) hb]
      rfl
  refine wpList_append_ints hgd s x ho base v ys.length (ints ys) hs hown.1 _ [y] hx hI (by simp; omega) hbase ?_
  intro v' w' h1 h2
  refine h v' w' ⟨?_, fun z hz => ?_⟩ h2
  · rw [ints_app, List.length_append]
    exact h1
  · rw [List.mem_append, List.mem_singleton] at hz
    rcases hz with hz | rfl
    · exact hown.2 z hz
    · exact hy

end Go.Proofs.YtffepndeegbdoaaGreatDoor.Rig
/- Contracts: with, Copy and Grant of the plain text. -/
set_option linter.unusedVariables false
namespace Go.Proofs.YtffepndeegbdoaaGreatDoor.Rig
open Go.RowKit Go.Lib Go.Proofs.YtffepndeegbdoaaGreatDoor.Rt

theorem below_own {w w0 w' : World} {base : Nat} {v : Value} {ys : List Int} {o : Obj} {B : Nat} (hb : Below B w0 w) (hB : B ≤ base) (hbase : base ≤ w.heap.size) (hown : OwnI base w v ys) (hg : (w.alloc o).grownBy w' v.ownBlock) : Below B w0 w' :=
  (hb.alloc (by omega) o).grown hg (by simp; omega) (fun k hk => by have := (hown.block k hk).1; omega)
theorem outN_in {xs : List Int} {u : Int} {on : Bool} {k : Nat} (h : inK xs u on k) : outN xs u on (k + 1) = (outN xs u on k ++ [u]) ++ [at_ xs k] := by
  have ho : on = true := h.1
  conv => lhs; unfold outN
  rw [if_pos h, if_pos (.inl ho), List.append_assoc]
theorem outN_at {xs : List Int} {u : Int} {on : Bool} {k : Nat} (h : ¬ inK xs u on k) (h2 : on = true ∨ at_ xs k ≠ u) : outN xs u on (k + 1) = outN xs u on k ++ [at_ xs k] := by
  conv => lhs; unfold outN
  rw [if_neg h, if_pos h2, List.nil_append]
theorem outN_no {xs : List Int} {u : Int} {on : Bool} {k : Nat} (h : ¬ inK xs u on k) (h2 : ¬ (on = true ∨ at_ xs k ≠ u)) : outN xs u on (k + 1) = outN xs u on k := by
  conv => lhs; unfold outN
  rw [if_neg h, if_neg h2, List.nil_append, List.append_nil]

end Go.Proofs.YtffepndeegbdoaaGreatDoor.Rig
/- Contracts: slices.Insert of one int, slices.Delete of one, set. -/
set_option linter.unusedVariables false
namespace Go.Proofs.YtffepndeegbdoaaGreatDoor.Rig
open Go.RowKit Go.Lib Go.Proofs.YtffepndeegbdoaaGreatDoor.Rt

theorem at_app_left {xs ys : List Int} {j : Nat} (h : j < xs.length) : at_ (xs ++ ys) j = at_ xs j := by
  unfold at_
  rw [List.getD_eq_getElem?_getD, List.getD_eq_getElem?_getD, List.getElem?_append_left h]
theorem at_app_right {xs ys : List Int} {j : Nat} (h : xs.length ≤ j) : at_ (xs ++ ys) j = at_ ys (j - xs.length) := by
  unfold at_
  rw [List.getD_eq_getElem?_getD, List.getD_eq_getElem?_getD, List.getElem?_append_right h]
theorem at_take {xs : List Int} {i j : Nat} (h : j < i) : at_ (xs.take i) j = at_ xs j := by
  unfold at_
  rw [List.getD_eq_getElem?_getD, List.getD_eq_getElem?_getD, List.getElem?_take_of_lt h]
theorem at_drop (xs : List Int) (i j : Nat) : at_ (xs.drop i) j = at_ xs (i + j) := by
  unfold at_
  rw [List.getD_eq_getElem?_getD, List.getD_eq_getElem?_getD, List.getElem?_drop]

/-- With u at place i. -/
def insL (xs : List Int) (i : Nat) (u : Int) : List Int := xs.take i ++ ([u] ++ xs.drop i)
theorem insL_len {xs : List Int} {i : Nat} (u : Int) (h : i ≤ xs.length) : (insL xs i u).length = xs.length + 1 := by
  unfold insL
  simp
  omega
theorem insL_at {xs : List Int} {i : Nat} (u : Int) (h : i ≤ xs.length) (j : Nat) : at_ (insL xs i u) j = if j < i then at_ xs j else if j = i then u else at_ xs (j - 1) := by
  have hl : (xs.take i).length = i := by rw [List.length_take]; omega
  unfold insL
  by_cases h1 : j < i
  · rw [if_pos h1, at_app_left (by omega), at_take h1]
  · rw [if_neg h1, at_app_right (by omega), hl]
    by_cases h2 : j = i
    · subst h2
      rw [if_pos rfl, Nat.sub_self]
      rfl
    · rw [if_neg h2, at_app_right (by simp; omega), at_drop]
      simp
      congr 1
      omega
theorem insL_mem {xs : List Int} {i : Nat} {u x : Int} (h : x ∈ insL xs i u) : x = u ∨ x ∈ xs := by
  unfold insL at h
  simp only [List.mem_append, List.mem_singleton] at h
  rcases h with h | h | h
  · exact .inr (List.mem_of_mem_take h)
  · exact .inl h
  · exact .inr (List.mem_of_mem_drop h)

/-- It hands ints back that it owns; but for block row all is as it was. -/
def GivesI (base : Nat) (w : World) (row : Option Nat) (ys : List Int) (e : Ending) (w' : World) : Prop := ∃ v', e = .returned v' ∧ OwnI base w' v' ys ∧ w.grownBy w' row

theorem block_isSome {w : World} {g cap j : Nat} {cur : Array Value} {t : TypeId} (h : w.heap[g]? = some (.cells cur t (0, 0))) (hs : cur.size = cap) (hj : j < cap) : (w.cell? ⟨g, j, none⟩).isSome = true := by
  rw [cell_of_row w g j cur t (0, 0) h, Array.getElem?_eq_getElem (by omega)]
  rfl
theorem block_frozen {w : World} {g j : Nat} {cur : Array Value} {t : TypeId} (h : w.heap[g]? = some (.cells cur t (0, 0))) : w.frozen? ⟨g, j, none⟩ = false := frozen_of_row w g j cur t h

theorem mapBlock_block {w : World} {g : Nat} {cur : Array Value} {t : TypeId} (f : Array Value → Array Value) (h : w.heap[g]? = some (.cells cur t (0, 0))) : (Sort.mapBlock w g f).heap[g]? = some (.cells (f cur) t (0, 0)) := by
  unfold Sort.mapBlock
  simp [Array.getElem?_modify, h, Sort.onCells]
theorem mapBlock_grown (w : World) (g : Nat) (f : Array Value → Array Value) : w.grownBy (Sort.mapBlock w g f) (some g) := by
  refine ⟨rfl, rfl, rfl, by simp [Sort.mapBlock], fun k hk hne => ?_⟩
  unfold Sort.mapBlock
  simp only [Array.getElem?_modify]
  rw [if_neg (fun e => hne (by rw [e]))]

end Go.Proofs.YtffepndeegbdoaaGreatDoor.Rig
/- Contracts: slices.BinarySearch of users, set. -/
set_option linter.unusedVariables false
namespace Go.Proofs.YtffepndeegbdoaaGreatDoor.Rig
open Go.RowKit Go.Lib Go.Proofs.YtffepndeegbdoaaGreatDoor.Rt

theorem count_lt {xs : List Int} {u : Int} (h : xs.Pairwise (· < ·)) (hc : xs.contains u = true) : xs.countP (· < u) < xs.length := by
  have h1 := set_drop h true hc
  have h2 := congrArg List.length h1
  rw [List.length_drop] at h2
  simp at h2
  omega

end Go.Proofs.YtffepndeegbdoaaGreatDoor.Rig
/- Labels in memory that a call owns; contracts: slices.Clone of both, clone. -/
set_option linter.unusedVariables false
namespace Go.Proofs.YtffepndeegbdoaaGreatDoor.Rig
open Go.RowKit Go.Lib Go.Proofs.YtffepndeegbdoaaGreatDoor.Rt

def cellAt (L : List Lb) (z : Nat → Value) (i : Nat) : Value :=
  if i % 4 = 0 then .int .i64 (lb L (i / 4)).p else if i % 4 = 1 then .int .i64 (lb L (i / 4)).o else if i % 4 = 2 then z (2 * (i / 4)) else z (2 * (i / 4) + 1)
def cellsL (L : List Lb) (z : Nat → Value) : List Value := (List.range (L.length * 4)).map (cellAt L z)
theorem cellsL_len (L : List Lb) (z : Nat → Value) : (cellsL L z).length = L.length * 4 := by simp [cellsL]
theorem cellsL_get {L : List Lb} {z : Nat → Value} {i : Nat} (h : i < L.length * 4) : (cellsL L z)[i]? = some (cellAt L z i) := by
  unfold cellsL
  rw [List.getElem?_map, List.getElem?_range h]
  rfl
/-- The lists of all labels, one behind the other. -/
def listOf (L : List Lb) (m : Nat) : List Int := if m % 2 = 0 then (lb L (m / 2)).r else (lb L (m / 2)).s
theorem listOf_r (L : List Lb) (k : Nat) : listOf L (2 * k) = (lb L k).r := by
  unfold listOf
  rw [if_pos (by omega), show 2 * k / 2 = k by omega]
theorem listOf_s (L : List Lb) (k : Nat) : listOf L (2 * k + 1) = (lb L k).s := by
  unfold listOf
  rw [if_neg (by omega), show (2 * k + 1) / 2 = k by omega]
def posOf (m : Nat) : Nat := 4 * (m / 2) + 2 + m % 2
def upd (z : Nat → Value) (m : Nat) (u : Value) : Nat → Value := fun i => if i = m then u else z i
theorem cells_upd (L : List Lb) (z : Nat → Value) (m : Nat) (u : Value) (hm : m < 2 * L.length) : (cellsL L z).set (posOf m) u = cellsL L (upd z m u) := by
  apply List.ext_getElem?
  intro i
  by_cases hi : i < L.length * 4
  · rw [List.getElem?_set, cellsL_get hi]
    rw [cellsL_get hi, cellsL_len]
    unfold posOf
    by_cases e : 4 * (m / 2) + 2 + m % 2 = i
    · rw [if_pos e, if_pos (by omega)]
      unfold cellAt upd
      rw [if_neg (by omega), if_neg (by omega)]
      by_cases h2 : i % 4 = 2
      · rw [if_pos h2, if_pos (by omega)]
      · rw [if_neg h2, if_pos (by omega)]
    · rw [if_neg e]
      unfold cellAt upd
      by_cases h0 : i % 4 = 0
      · rw [if_pos h0, if_pos h0]
      by_cases h1 : i % 4 = 1
      · rw [if_neg h0, if_pos h1, if_neg h0, if_pos h1]
      by_cases h2 : i % 4 = 2
      · rw [if_neg h0, if_neg h1, if_pos h2, if_neg h0, if_neg h1, if_pos h2, if_neg (by omega)]
      · rw [if_neg h0, if_neg h1, if_neg h2, if_neg h0, if_neg h1, if_neg h2, if_neg (by omega)]
  · rw [List.getElem?_eq_none (by rw [List.length_set, cellsL_len]; omega), List.getElem?_eq_none (by rw [cellsL_len]; omega)]

def OwnL (base : Nat) (w : World) (g cap : Nat) (L : List Lb) (z : Nat → Value) : Prop := w.ownsRow base 47 4 (.slice (some ⟨g, 0, none⟩) L.length cap) L.length (cellsL L z)
theorem OwnL.cell {base : Nat} {w : World} {g cap : Nat} {L : List Lb} {z : Nat → Value} (h : OwnL base w g cap L z) {i : Nat} (hi : i < L.length * 4) : w.cell? ⟨g, i, none⟩ = some (cellAt L z i) := by
  rw [World.ownsRow.cellAt h i hi, cellsL_get hi]
theorem cellAt_p (L : List Lb) (z : Nat → Value) (k : Nat) : cellAt L z (k * 4) = .int .i64 (lb L k).p := by
  unfold cellAt
  rw [if_pos (by omega), show k * 4 / 4 = k by omega]
theorem cellAt_o (L : List Lb) (z : Nat → Value) (k : Nat) : cellAt L z (k * 4 + 1) = .int .i64 (lb L k).o := by
  unfold cellAt
  rw [if_neg (by omega), if_pos (by omega), show (k * 4 + 1) / 4 = k by omega]
theorem cellAt_r (L : List Lb) (z : Nat → Value) (k : Nat) : cellAt L z (k * 4 + 2) = z (2 * k) := by
  unfold cellAt
  rw [if_neg (by omega), if_neg (by omega), if_pos (by omega), show (k * 4 + 2) / 4 = k by omega]
theorem cellAt_s (L : List Lb) (z : Nat → Value) (k : Nat) : cellAt L z (k * 4 + 3) = z (2 * k + 1) := by
  unfold cellAt
  rw [if_neg (by omega), if_neg (by omega), if_neg (by omega), show (k * 4 + 3) / 4 = k by omega]
theorem owns_below {w w' : World} {base k : Nat} {e : TypeId} {v : Value} {n : Nat} {xs : List Value} (h : w.ownsRow base e k v n xs) (hb : Below w.heap.size w w') : w'.ownsRow base e k v n xs :=
  h.kept (grown_below hb none) (by cases hv : v.ownBlock <;> simp)
theorem OwnL.below {base : Nat} {w w' : World} {g cap : Nat} {L : List Lb} {z : Nat → Value} (h : OwnL base w g cap L z) (hb : Below w.heap.size w w') : OwnL base w' g cap L z := owns_below h hb
theorem OwnL.frozen {base : Nat} {w : World} {g cap : Nat} {L : List Lb} {z : Nat → Value} (h : OwnL base w g cap L z) (i : Nat) : w.frozen? ⟨g, i, none⟩ = false := World.ownsRow.frozenAt h i
theorem OwnL.lt {base : Nat} {w : World} {g cap : Nat} {L : List Lb} {z : Nat → Value} (h : OwnL base w g cap L z) : base ≤ g ∧ g < w.heap.size := World.ownsRow.lt h g rfl
/-- A slice of ints lies in another block than labels. -/
theorem own_apart {base B : Nat} {w : World} {g cap : Nat} {L : List Lb} {z : Nat → Value} {v : Value} {xs : List Int} (h : OwnL base w g cap L z) (hv : OwnI B w v xs) : v.ownBlock ≠ some g := by
  intro e
  rcases hv.1.2 with ⟨rfl, _⟩ | ⟨g', cap', cur', rfl, _, hg', _⟩
  · cases e
  · obtain rfl : g' = g := by simpa [Value.ownBlock] using e
    rcases h.2 with ⟨h', _⟩ | ⟨g2, cap2, cur2, h', _, hg2, _⟩
    · cases h'
    · simp only [Value.slice.injEq, Option.some.injEq, Addr.mk.injEq, and_true, true_and] at h'
      obtain ⟨rfl, rfl⟩ := h'
      rw [hg'] at hg2
      simp at hg2

def Cl (base g cap : Nat) (L : List Lb) (z0 : Nat → Value) (t : Nat) (W : World) : Prop := ∃ z, OwnL base W g cap L z ∧ (∀ m, m < t → OwnI base W (z m) (listOf L m)) ∧ (∀ m, t ≤ m → z m = z0 m) ∧ (∀ i j, i < j → j < t → (z i).ownBlock = none ∨ (z i).ownBlock ≠ (z j).ownBlock)
theorem Cl.below {base g cap : Nat} {L : List Lb} {z0 : Nat → Value} {t : Nat} {W W' : World} (h : Cl base g cap L z0 t W) (hb : Below W.heap.size W W') : Cl base g cap L z0 t W' := by
  obtain ⟨z, h1, h2, h3, h4⟩ := h
  exact ⟨z, h1.below hb, fun m hm => (h2 m hm).below hb, h3, h4⟩
theorem Cl.step {base g cap : Nat} {L : List Lb} {z0 : Nat → Value} {t : Nat} {W W1 : World} {v : Value} (h : Cl base g cap L z0 t W) (ht : t < 2 * L.length) (hb : Below W.heap.size W W1) (hbase : base ≤ W.heap.size) (hv : OwnI W.heap.size W1 v (listOf L t)) :
    Cl base g cap L z0 (t + 1) (W1.setCell ⟨g, posOf t, none⟩ v) := by
  obtain ⟨z, h1, h2, h3, h4⟩ := h
  have o1 := h1.below hb
  obtain ⟨s1, s2⟩ := World.ownsRow.stored o1 (posOf t) v
  rw [cells_upd L z t v ht] at s1
  refine ⟨upd z t v, s1, fun m hm => ?_, fun m hm => ?_, fun i j hij hj => ?_⟩
  · unfold upd
    by_cases e : m = t
    · subst e
      rw [if_pos rfl]
      exact (hv.mono hbase).kept s2 (.inr (own_apart o1 hv))
    · rw [if_neg e]
      have := (h2 m (by omega)).below hb
      exact this.kept s2 (.inr (own_apart o1 this))
  · unfold upd
    rw [if_neg (by omega)]
    exact h3 m (by omega)
  · unfold upd
    by_cases e : j = t
    · subst e
      rw [if_neg (by omega), if_pos rfl]
      cases hz : (z i).ownBlock with
      | none => exact .inl rfl
      | some a =>
        right
        intro hc
        have l1 := ((h2 i hij).block a hz).2
        have l2 := (hv.block a hc.symm).1
        omega
    · rw [if_neg (by omega), if_neg e]
      exact h4 i j hij (by omega)

/-- The labels' numbers are ints. -/
def GoodL (L : List Lb) : Prop := ∀ j, j < L.length → i64 (lb L j).p ∧ i64 (lb L j).o
theorem Labs.good {w : World} {v : Value} {L : List Lb} (h : Labs w v L) : GoodL L := by
  obtain ⟨a, cap, rfl, h1, h2, h3⟩ := h
  intro j hj
  rcases h3 with rfl | ⟨b, off, rfl, hlt, hc⟩
  · exact absurd hj (by simp)
  · obtain ⟨rv, sv, p, o, _⟩ := hc j hj
    exact ⟨p, o⟩
theorem OwnL.labs {base : Nat} {w : World} {g cap : Nat} {L : List Lb} {z : Nat → Value} (h : OwnL base w g cap L z) (hL : GoodL L) (hz : ∀ m, m < 2 * L.length → Ints w (z m) (listOf L m)) : Labs w (.slice (some ⟨g, 0, none⟩) L.length cap) L := by
  have hlt := h.lt.2
  have hcap : L.length ≤ cap ∧ cap ≤ maxLen := by
    rcases h.2 with ⟨h', _⟩ | ⟨g2, cap2, cur2, h', _, _, hle, hm, _⟩
    · cases h'
    · simp only [Value.slice.injEq, Option.some.injEq, Addr.mk.injEq, and_true, true_and] at h'
      obtain ⟨rfl, rfl⟩ := h'
      exact ⟨hle, hm⟩
  refine ⟨_, cap, rfl, hcap.1, hcap.2, .inr ⟨g, 0, rfl, hlt, fun j hj => ?_⟩⟩
  obtain ⟨hp, ho⟩ := hL j hj
  have hr := hz (2 * j) (by omega)
  have hs := hz (2 * j + 1) (by omega)
  rw [listOf_r] at hr
  rw [listOf_s] at hs
  refine ⟨_, _, hp, ho, ?_, ?_, ?_, ?_, hr, hs⟩
  · rw [Nat.zero_add, h.cell (by omega), cellAt_p]
  · rw [Nat.zero_add, h.cell (by omega), cellAt_o]
  · rw [Nat.zero_add, h.cell (by omega), cellAt_r]
  · rw [Nat.zero_add, h.cell (by omega), cellAt_s]

theorem infoL : (Tryz.prog.info? 47).map (fun i => (i.zero, i.size, i.bytes)) = some (some (.agg #[.int .i64 0, .int .i64 0, .slice none 0 0, .slice none 0 0]), 4, 64) := by kernel_rfl
end Go.Proofs.YtffepndeegbdoaaGreatDoor.Rig
/- Contracts: Copy and Grant of the plain text. -/
set_option linter.unusedVariables false
namespace Go.Proofs.YtffepndeegbdoaaGreatDoor.Rig
open Go.RowKit Go.Lib Go.Proofs.YtffepndeegbdoaaGreatDoor.Rt

def cellsN (L : List Lb) (z : Nat → Value) (k : Nat) : List Value := (List.range (k * 4)).map (cellAt L z)
theorem cellsN_all (L : List Lb) (z : Nat → Value) : cellsN L z L.length = cellsL L z := rfl
theorem cellsN_succ (L : List Lb) (z : Nat → Value) (k : Nat) : cellsN L z (k + 1) = cellsN L z k ++ [.int .i64 (lb L k).p, .int .i64 (lb L k).o, z (2 * k), z (2 * k + 1)] := by
  unfold cellsN
  rw [show (k + 1) * 4 = k * 4 + 1 + 1 + 1 + 1 by omega, List.range_succ, List.range_succ, List.range_succ, List.range_succ]
  simp only [List.map_append, List.map_cons, List.map_nil, List.append_assoc, List.cons_append, List.nil_append]
  rw [cellAt_p, cellAt_o, show k * 4 + 1 + 1 = k * 4 + 2 by omega, cellAt_r, show k * 4 + 2 + 1 = k * 4 + 3 by omega, cellAt_s]
theorem cellsN_same (L : List Lb) (z z' : Nat → Value) (k : Nat) (h : ∀ m, m < 2 * k → z m = z' m) : cellsN L z k = cellsN L z' k := by
  unfold cellsN
  refine List.map_congr_left fun i hi => ?_
  rw [List.mem_range] at hi
  unfold cellAt
  rw [h (2 * (i / 4)) (by omega), h (2 * (i / 4) + 1) (by omega)]

def RC (base : Nat) (L : List Lb) (k : Nat) (W : World) (out : Value) : Prop := ∃ z, W.ownsRow base 47 4 out k (cellsN L z k) ∧ ∀ m, m < 2 * k → OwnI base W (z m) (listOf L m)
theorem own_apart2 {base B : Nat} {w : World} {out v : Value} {k : Nat} {cs : List Value} {xs : List Int} (h : w.ownsRow base 47 4 out k cs) (hv : OwnI B w v xs) : v.ownBlock = none ∨ v.ownBlock ≠ out.ownBlock := by
  rcases hv.1.2 with ⟨rfl, _⟩ | ⟨g', cap', cur', rfl, _, hg', _⟩
  · exact .inl rfl
  · right
    intro e
    rcases h.2 with ⟨rfl, _⟩ | ⟨g2, cap2, cur2, rfl, _, hg2, _⟩
    · cases e
    · obtain rfl : g' = g2 := by simpa [Value.ownBlock] using e
      rw [hg'] at hg2
      simp at hg2
theorem RC.step {base : Nat} {L : List Lb} {k : Nat} {W1 W2 : World} {out out' rv sv : Value} {z : Nat → Value} (h1 : W1.ownsRow base 47 4 out k (cellsN L z k)) (h2 : ∀ m, m < 2 * k → OwnI base W1 (z m) (listOf L m))
    (hr : OwnI base W1 rv (listOf L (2 * k))) (hs : OwnI base W1 sv (listOf L (2 * k + 1))) (hg : W1.grownBy W2 out.ownBlock)
    (ho : W2.ownsRow base 47 4 out' (k + 1) (cellsN L z k ++ [.int .i64 (lb L k).p, .int .i64 (lb L k).o, rv, sv])) : RC base L (k + 1) W2 out' := by
  refine ⟨upd (upd z (2 * k) rv) (2 * k + 1) sv, ?_, fun m hm => ?_⟩
  · rw [cellsN_succ, cellsN_same L _ z k (fun m hm => by unfold upd; rw [if_neg (by omega), if_neg (by omega)])]
    have e1 : upd (upd z (2 * k) rv) (2 * k + 1) sv (2 * k) = rv := by unfold upd; rw [if_neg (by omega), if_pos rfl]
    have e2 : upd (upd z (2 * k) rv) (2 * k + 1) sv (2 * k + 1) = sv := by unfold upd; rw [if_pos rfl]
    rw [e1, e2]
    exact ho
  · have key : ∀ {v : Value} {xs : List Int}, OwnI base W1 v xs → OwnI base W2 v xs := fun hv => hv.kept hg (own_apart2 h1 hv)
    unfold upd
    by_cases c1 : m = 2 * k + 1
    · rw [if_pos c1, c1]
      exact key hs
    by_cases c2 : m = 2 * k
    · rw [if_neg c1, if_pos c2, c2]
      exact key hr
    · rw [if_neg c1, if_neg c2]
      exact key (h2 m (by omega))

theorem own_form {base : Nat} {w : World} {e : TypeId} {size n : Nat} {v : Value} {xs : List Value} (h : w.ownsRow base e size v n xs) : ∃ a c, v = .slice a n c := by
  rcases h.2 with ⟨rfl, rfl⟩ | ⟨g, cap, cur, rfl, _⟩
  · exact ⟨_, _, rfl⟩
  · exact ⟨_, _, rfl⟩

theorem own_apart3 {B : Nat} {w : World} {X : Nat} {cs : Array Value} {v : Value} {xs : List Int} (h : w.heap[X]? = some (.cells cs 47 (0, 0))) (hv : OwnI B w v xs) : v.ownBlock ≠ some X := by
  intro e
  rcases hv.1.2 with ⟨rfl, _⟩ | ⟨g', cap', cur', rfl, _, hg', _⟩
  · cases e
  · obtain rfl : g' = X := by simpa [Value.ownBlock] using e
    rw [hg'] at h
    simp at h
/-- What has turned behind the append onto a new row. -/
theorem made_grown {W w5 : World} {o : Obj} {v : Value} (h : (W.alloc o).grownBy w5 v.ownBlock) (hv : ∀ k, v.ownBlock = some k → W.heap.size ≤ k) : Below W.heap.size W w5 :=
  ((Below.refl _ W).alloc (Nat.le_refl _) o).grown h (by simp) hv

/-- It hands labels back that it owns. -/
def ROwn (base : Nat) (w : World) (v : Value) (L : List Lb) : Prop := ∃ g cap z, v = .slice (some ⟨g, 0, none⟩) L.length cap ∧ OwnL base w g cap L z ∧ ∀ m, m < 2 * L.length → OwnI base w (z m) (listOf L m)
def RCopied (w : World) (L : List Lb) (e : Ending) (w' : World) : Prop := ∃ v, e = .returned v ∧ ROwn w.heap.size w' v L ∧ Below w.heap.size w w'

theorem ints_own {base : Nat} {w : World} {v : Value} {xs : List Int} (h : w.ownsRow base 3 1 v (0 + xs.length) ([] ++ ints xs)) (hx : ∀ x ∈ xs, i64 x) : OwnI base w v xs := by
  rw [Nat.zero_add, List.nil_append] at h
  exact ⟨h, hx⟩
theorem made0 (base : Nat) (W : World) (h : base ≤ W.heap.size) : (W.alloc (.cells #[] 3)).ownsRow base 3 1 (.slice (some ⟨W.heap.size, 0, none⟩) 0 0) 0 [] := by
  have := World.ownsRow_made (base := base) (size := 1) (e := 3) W #[] 0 h (Nat.zero_le _) (by simp)
  simpa using this

set_option maxRecDepth 100000 in
set_option maxHeartbeats 4000000 in
theorem copy_any {v : Value} {L : List Lb} (w : World) (h : Labs w v L) (h1 : 1 ≤ L.length) (h12 : L.length ≤ 12) (hlen : ∀ m, m < 2 * L.length → (listOf L m).length ≤ 1000) :
    Calls Tryz.prog 37 #[v] w (RCopied w L) := by
  obtain ⟨a, cap, rfl, hlc, hcap, hc⟩ := h.open_
  have H := Lib.hid hc
  have HN0 := Lib.hid hlen
  obtain ⟨n, hn⟩ : ∃ n, n = L.length := ⟨_, rfl⟩
  rw [← hn] at hlc h1 h12 ⊢
  have HN := Lib.hid hn
  obtain ⟨i0, hi, hz0, hz1, hz2⟩ := info_parts infoL
  clear hc hlen hn h
  go_enter Tryz.func37, Tryz.ntmps37
  go_wp2_with fail
  go_loopw [3, 4] (fun t i wr => ∃ k : Nat, k ≤ n ∧ i = .int .i64 k ∧ Hid (RC w.heap.size L k wr t) ∧ Below w.heap.size w wr) (fun _ i _ => n - (RowKit.intOf i).toNat)
  case atStart => exact ⟨0, Nat.zero_le _, rfl, ⟨fun _ => undef, World.ownsRow_nil _ _ _ _, fun m hm => absurd hm (by omega)⟩, Below.refl _ _⟩
  case round =>
    obtain ⟨k, hk, rfl, HO, hbel⟩ := hrel
    have hbs := hbel.size
    by_cases hlt : k < n
    · have hkl : k < L.length := by rw [← HN.out]; exact hlt
      obtain ⟨b, off, rfl, hb, rv, sv, ⟨p1, p2⟩, ⟨o1, o2⟩, c0, c1, c2, c3, hr, hs⟩ := H.out k hkl
      have hlr : (lb L k).r.length ≤ 1000 := by have := HN0.out (2 * k) (by omega); rwa [listOf_r] at this
      have hls : (lb L k).s.length ≤ 1000 := by have := HN0.out (2 * k + 1) (by omega); rwa [listOf_s] at this
      obtain ⟨z, hz, hzI⟩ := HO.out
      obtain ⟨ao, co, rfl⟩ := own_form hz
      have FIN := Lib.hid (fun (W1 W2 : World) (out' r5 s6 : Value) q1 q2 q3 q4 q5 q6 => @RC.step w.heap.size L k W1 W2 (.slice ao k co) out' r5 s6 z q1 q2 q3 q4 q5 q6)
      rw [listOf_r, listOf_s] at FIN
      generalize lb L k = x at *
      obtain ⟨p, o, r, s⟩ := x
      simp only at p1 p2 o1 o2 c0 c1 c2 c3 hr hs hlr hls FIN
      replace c0 := below_cell hbel hb c0
      replace c1 := below_cell hbel hb c1
      replace c2 := below_cell hbel hb c2
      replace c3 := below_cell hbel hb c3
      replace hr := hr.below hbel (Nat.le_refl _)
      replace hs := hs.below hbel (Nat.le_refl _)
      have HRX := Lib.hid hr.1
      have HSX := Lib.hid hs.1
      obtain ⟨ra, rc, rfl⟩ := hr.is_slice
      obtain ⟨sa, sc, rfl⟩ := hs.is_slice
      obtain ⟨W1, hW1⟩ : ∃ W1, W1 = wr.alloc (.cells #[.int .i64 p, .int .i64 o, .slice ra r.length rc, .slice sa s.length sc] 47) := ⟨_, rfl⟩
      have bW1 : Below wr.heap.size wr W1 := by rw [hW1]; exact (Below.refl _ _).alloc (Nat.le_refl _) _
      have X1 : W1.heap[wr.heap.size]? = some (.cells #[.int .i64 p, .int .i64 o, .slice ra r.length rc, .slice sa s.length sc] 47 (0, 0)) := by rw [hW1]; exact heap_alloc_new _ _
      have z1 : W1.heap.size = wr.heap.size + 1 := by rw [hW1]; simp
      have A1 : Hid ((W1.alloc (.cells #[] 3)).ownsRow w.heap.size 3 1 (.slice (some ⟨wr.heap.size + 1, 0, none⟩) 0 0) 0 []) := by
        have := made0 w.heap.size W1 (by omega)
        rw [z1] at this
        exact this
      have A2 : Hid (Ints (W1.alloc (.cells #[] 3)) (.slice ra r.length rc) r) := (hr.below bW1 (Nat.le_refl _)).below ((Below.refl _ W1).alloc (Nat.le_refl _) _) (Nat.le_refl _)
      have A3 : Hid (0 + r.length ≤ 100000) := by show _ ≤ _; omega
      have A4 : Hid (w.heap.size ≤ (W1.alloc (.cells #[] 3)).heap.size) := by show _ ≤ _; simp; omega
      have B1 := Lib.hid (below_more hbel bW1)
      have HZW := Lib.hid hz
      have HZJ := Lib.hid hzI
      have HS1 := Lib.hid hs
      rw [hW1] at A1 A2 A4
      have HW := Lib.hid hW1
      have HX1 := Lib.hid X1
      have HZ1 := Lib.hid z1
      have HB := Lib.hid hbel
      clear hz hzI hr hs bW1 hW1 X1 z1 H HO hbel
      go_wp2_with (at_builtin; refine wpList_append_ints rfl _ _ rfl w.heap.size _ 0 [] rfl A1.out _ r rfl A2.out A3.out A4.out ?_)
      intro v5 w5 h5 g5
      rw [← HW.out] at g5
      have b5 : Below W1.heap.size W1 w5 := made_grown g5 (fun k' e => by
        have e : wr.heap.size + 1 = k' := by simpa [Value.ownBlock] using e
        have := HZ1.out
        omega)
      have O5 : Hid (OwnI w.heap.size w5 v5 r) := ⟨h5, HRX.out⟩
      have X5 : w5.heap[wr.heap.size]? = some (.cells #[.int .i64 p, .int .i64 o, .slice ra r.length rc, .slice sa s.length sc] 47 (0, 0)) := by
        rw [b5.block _ (by have := HZ1.out; omega)]
        exact HX1.out
      have x2 : w5.cell? ⟨wr.heap.size, 2, none⟩ = some (.slice ra r.length rc) := by rw [cell_of_row _ _ _ _ _ _ X5]; rfl
      have f2 : w5.frozen? ⟨wr.heap.size, 2, none⟩ = false := block_frozen X5
      obtain ⟨a5, c5, rfl⟩ := O5.out.is_slice
      obtain ⟨W5, hW5⟩ : ∃ W5, W5 = w5.setCell ⟨wr.heap.size, 2, none⟩ (.slice a5 r.length c5) := ⟨_, rfl⟩
      have Y5 : W5.heap[wr.heap.size]? = some (.cells #[.int .i64 p, .int .i64 o, .slice a5 r.length c5, .slice sa s.length sc] 47 (0, 0)) := by
        rw [hW5, heap_setCell_same _ _ _ _ _ _ X5]
        rfl
      have G5 : w5.grownBy W5 (some wr.heap.size) := by rw [hW5]; exact setCells_grown [_] 2 w5
      have P5 := Lib.hid (O5.out.kept G5 (.inr (own_apart3 X5 O5.out)))
      have s5 : W5.heap.size = w5.heap.size := by rw [hW5]; simp
      have e5 : wr.heap.size + 1 ≤ w5.heap.size := by have := b5.size; have := HZ1.out; omega
      have q5 : Below wr.heap.size wr W5 := by
        have q : Below wr.heap.size wr w5 := below_more (by rw [HW.out]; exact (Below.refl _ _).alloc (Nat.le_refl _) _) b5 (by have := HZ1.out; omega)
        rw [hW5]
        exact q.setCell (Nat.le_refl _) _
      have A5 : Hid ((W5.alloc (.cells #[] 3)).ownsRow w.heap.size 3 1 (.slice (some ⟨w5.heap.size, 0, none⟩) 0 0) 0 []) := by
        have := made0 w.heap.size W5 (by omega)
        rw [s5] at this
        exact this
      have hs5 : Ints W5 (.slice sa s.length sc) s := HS1.out.below q5 (Nat.le_refl _)
      have A6 : Hid (Ints (W5.alloc (.cells #[] 3)) (.slice sa s.length sc) s) := hs5.below ((Below.refl _ W5).alloc (Nat.le_refl _) _) (Nat.le_refl _)
      have A7 : Hid (0 + s.length ≤ 100000) := by show _ ≤ _; omega
      have A8 : Hid (w.heap.size ≤ (W5.alloc (.cells #[] 3)).heap.size) := by show _ ≤ _; simp; omega
      have x3 : w5.cell? ⟨wr.heap.size, 3, none⟩ = some (.slice sa s.length sc) := by rw [cell_of_row _ _ _ _ _ _ X5]; rfl
      have x3' : W5.cell? ⟨wr.heap.size, 3, none⟩ = some (.slice sa s.length sc) := by rw [cell_of_row _ _ _ _ _ _ Y5]; rfl
      have x3'' : (W5.alloc (.cells #[] 3)).cell? ⟨wr.heap.size, 3, none⟩ = some (.slice sa s.length sc) := below_cell ((Below.refl _ W5).alloc (Nat.le_refl _) _) (by omega) x3'
      rw [hW5] at A5 A6 A8 x3' x3''
      have HW5 := Lib.hid hW5
      have HY5 := Lib.hid Y5
      have HQ5 := Lib.hid q5
      clear h5 g5 b5 X5 hW5 Y5 G5 q5 hs5 A1 A2 A3 A4
      go_wp2_with (at_builtin; refine wpList_append_ints rfl _ _ rfl w.heap.size _ 0 [] rfl A5.out _ s rfl A6.out A7.out A8.out ?_)
      intro v6 w6 h6 g6
      rw [← HW5.out] at g6
      have b6 : Below W5.heap.size W5 w6 := made_grown g6 (fun k' e => by
        have e : w5.heap.size = k' := by simpa [Value.ownBlock] using e
        omega)
      have O6 : Hid (OwnI w.heap.size w6 v6 s) := ⟨h6, HSX.out⟩
      have X6 : w6.heap[wr.heap.size]? = some (.cells #[.int .i64 p, .int .i64 o, .slice a5 r.length c5, .slice sa s.length sc] 47 (0, 0)) := by
        rw [b6.block _ (by omega)]
        exact HY5.out
      have y3 : w6.cell? ⟨wr.heap.size, 3, none⟩ = some (.slice sa s.length sc) := by rw [cell_of_row _ _ _ _ _ _ X6]; rfl
      have f3 : w6.frozen? ⟨wr.heap.size, 3, none⟩ = false := block_frozen X6
      have P6 := Lib.hid (P5.out.below b6)
      obtain ⟨a6, c6, rfl⟩ := O6.out.is_slice
      obtain ⟨W6, hW6⟩ : ∃ W6, W6 = w6.setCell ⟨wr.heap.size, 3, none⟩ (.slice a6 s.length c6) := ⟨_, rfl⟩
      have Y6 : W6.heap[wr.heap.size]? = some (.cells #[.int .i64 p, .int .i64 o, .slice a5 r.length c5, .slice a6 s.length c6] 47 (0, 0)) := by
        rw [hW6, heap_setCell_same _ _ _ _ _ _ X6]
        rfl
      have G6 : w6.grownBy W6 (some wr.heap.size) := by rw [hW6]; exact setCells_grown [_] 3 w6
      have R6 := Lib.hid (O6.out.kept G6 (.inr (own_apart3 X6 O6.out)))
      have T6 := Lib.hid (P6.out.kept G6 (.inr (own_apart3 X6 P6.out)))
      have s6 : W6.heap.size = w6.heap.size := by rw [hW6]; simp
      have e6 : w5.heap.size ≤ w6.heap.size := by have := b6.size; omega
      have q6 : Below wr.heap.size wr W6 := by
        have q : Below wr.heap.size wr w6 := below_more HQ5.out b6 (by omega)
        rw [hW6]
        exact q.setCell (Nat.le_refl _) _
      have l0 : w6.cell? ⟨wr.heap.size, 0, none⟩ = some (.int .i64 p) := by rw [cell_of_row _ _ _ _ _ _ X6]; rfl
      have l1 : w6.cell? ⟨wr.heap.size, 1, none⟩ = some (.int .i64 o) := by rw [cell_of_row _ _ _ _ _ _ X6]; rfl
      have l2 : w6.cell? ⟨wr.heap.size, 2, none⟩ = some (.slice a5 r.length c5) := by rw [cell_of_row _ _ _ _ _ _ X6]; rfl
      have bA : Below W6.heap.size W6 (W6.alloc (.cells #[.int .i64 p, .int .i64 o, .slice a5 r.length c5, .slice a6 s.length c6] 47)) := (Below.refl _ _).alloc (Nat.le_refl _) _
      have D1 : Hid ((W6.alloc (.cells #[.int .i64 p, .int .i64 o, .slice a5 r.length c5, .slice a6 s.length c6] 47)).ownsRow w.heap.size 47 4 (.slice ao k co) k (cellsN L z k)) := owns_below (owns_below HZW.out q6) bA
      have D2 : Hid (∀ j u, [Value.int .i64 p, .int .i64 o, .slice a5 r.length c5, .slice a6 s.length c6][j]? = some u → (W6.alloc (.cells #[.int .i64 p, .int .i64 o, .slice a5 r.length c5, .slice a6 s.length c6] 47)).cell? ((⟨w6.heap.size, 0, none⟩ : Addr).add j) = some u) := fun j u hj => by
        have hadd : (⟨w6.heap.size, 0, none⟩ : Addr).add j = ⟨w6.heap.size, j, none⟩ := by unfold Addr.add; split <;> simp_all
        rw [hadd, ← s6, cell_of_row _ _ _ _ _ _ (heap_alloc_new W6 _)]
        simpa using hj
      have D3 : Hid (∀ u ∈ [Value.int .i64 p, .int .i64 o, .slice a5 r.length c5, .slice a6 s.length c6], u.oneCell' = true) := fun u hu => by
        simp at hu
        rcases hu with rfl | rfl | rfl | rfl <;> rfl
      have D4 : Hid (k + 1 ≤ maxLen) := by show _ ≤ _; unfold maxLen; omega
      have D5 : Hid ((k + 1) * 64 ≤ 140737488355328) := by show _ ≤ _; omega
      have D6 : Hid (w.heap.size ≤ (W6.alloc (.cells #[.int .i64 p, .int .i64 o, .slice a5 r.length c5, .slice a6 s.length c6] 47)).heap.size) := by show _ ≤ _; simp; omega
      have FA := Lib.hid (FIN.out (W6.alloc (.cells #[.int .i64 p, .int .i64 o, .slice a5 r.length c5, .slice a6 s.length c6] 47)))
      have FI : Hid (∀ m, m < 2 * k → OwnI w.heap.size (W6.alloc (.cells #[.int .i64 p, .int .i64 o, .slice a5 r.length c5, .slice a6 s.length c6] 47)) (z m) (listOf L m)) := fun m hm => ((HZJ.out m hm).below q6).below bA
      have FR := Lib.hid (T6.out.below bA)
      have FS := Lib.hid (R6.out.below bA)
      have FB := Lib.hid (below_more (below_more HB.out q6) bA)
      rw [hW6] at D1 D2 D6
      have HW6 := Lib.hid hW6
      clear h6 g6 b6 X6 hW6 Y6 G6 q6 bA A5 A6 A7 A8
      go_wp2_with (at_builtin; refine wpList_append_own _ rfl _ _ 23 rfl w.heap.size 47 i0 _ 4 64 Tryz.underlying23 hi hz0 hz1 hz2 rfl (by decide) _ k _ rfl D1.out ⟨w6.heap.size, 0, none⟩ 1 1 [.int .i64 p, .int .i64 o, .slice a5 r.length c5, .slice a6 s.length c6] rfl rfl D2.out D3.out D4.out D5.out D6.out ?_)
      intro v8 w8 h8 g8 _
      rw [← HW6.out] at g8
      have K8 := Lib.hid (FA.out w8 v8 (.slice a5 r.length c5) (.slice a6 s.length c6) (by rw [HW6.out]; exact D1.out) FI.out FR.out FS.out g8 h8)
      have B8 := Lib.hid (FB.out.grown g8 (by have := FB.out.size; exact this) (fun k' e => (World.ownsRow.lt D1.out k' e).1))
      clear g8 h8 D1 D2 D3 D4 D5 D6 FA FI FR FS FB FIN
      go_wp2_with fail
      go_roundw
      case rel => exact ⟨k + 1, by omega, by go_num, K8.out, B8.out⟩
      case measure => simp [RowKit.intOf]; omega
    · obtain rfl : k = n := by omega
      have HB := Lib.hid hbel
      obtain ⟨z, hz, hzI⟩ := HO.out
      obtain ⟨g, cap', hv⟩ : ∃ g cap', _ = Value.slice (some ⟨g, 0, none⟩) k cap' := by
        rcases hz.2 with ⟨_, h0⟩ | ⟨g, cap', _, hv, _⟩
        · omega
        · exact ⟨g, cap', hv⟩
      subst hv
      have HZ := Lib.hid hz
      have HI := Lib.hid hzI
      clear H HN0 hbel HO hz hzI
      go_wp2_with fail
      go_ret
      refine ⟨_, rfl, ⟨g, cap', z, ?_, ?_, ?_⟩, HB.out⟩
      · rw [← HN.out]
        rfl
      · have q := HZ.out
        unfold OwnL
        rw [← HN.out, ← cellsN_all, ← HN.out]
        exact q
      · rw [← HN.out]
        exact HI.out
end Go.Proofs.YtffepndeegbdoaaGreatDoor.Rig
