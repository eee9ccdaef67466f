/- A slice of ints in memory; opened out of a reading. Slices of ints that a call owns: kept, written, grown. Appends of ints onto a row of the call's own, as steps of a walk. -/
import Derived.Test.YtfahfjhibffdkaaQA1
import Derived.Test.YtfahfjhibffdkaaLift
import Derived.OneCell
import Derived.Deep.Slices
import Derived.Deep.Fields
import Derived.Deep.Draws
import Derived.Lib.Hide
import Derived.Laws.AppendOwn
import Derived.Laws.OwnMore
import Derived.OwnWalk
import Derived.Laws.IdiomCopy
import Derived.Sort.Row
import Derived.WalkKit
import Derived.Laws.AppendOwnNone
set_option linter.unusedVariables false
set_option maxRecDepth 100000
namespace Go.Proofs.Ytfahfjhibffdkaa.Rig
open Go.RowKit Go.Lib Go.Proofs.Ytfahfjhibffdkaa.Rt

def i64 (x : Int) : Prop := -9223372036854775808 ≤ x ∧ x ≤ 9223372036854775807

/-- The slice v has the ints xs. -/
def Ints (w : World) (v : Value) (xs : List Int) : Prop :=
  (∀ x ∈ xs, i64 x) ∧ ∃ a cap, v = .slice a xs.length cap ∧ xs.length ≤ cap ∧ cap ≤ maxLen ∧ (xs = [] ∨ ∃ b off, a = some ⟨b, off, none⟩ ∧ b < w.heap.size ∧ ∀ j, j < xs.length → w.cell? ⟨b, off + j, none⟩ = some (.int .i64 (at_ xs j)))
theorem Ints.below {w w' : World} {v : Value} {xs : List Int} (h : Ints w v xs) {B : Nat} (hb : Below B w w') (hB : w.heap.size ≤ B) : Ints w' v xs := by
  obtain ⟨h0, a, cap, rfl, h1, h2, h3⟩ := h
  refine ⟨h0, a, cap, rfl, h1, h2, ?_⟩
  rcases h3 with rfl | ⟨b, off, rfl, hlt, hc⟩
  · exact .inl rfl
  · refine .inr ⟨b, off, rfl, Nat.lt_of_lt_of_le hlt hb.size, fun j hj => ?_⟩
    rw [hb.cell (p := ⟨b, off + j, none⟩) (Nat.lt_of_lt_of_le hlt hB)]
    exact hc j hj
theorem at_mem {xs : List Int} {j : Nat} (h : j < xs.length) : at_ xs j ∈ xs := by
  unfold at_
  rw [List.getD_eq_getElem?_getD, List.getElem?_eq_getElem h]
  exact List.getElem_mem h
theorem Ints.open_ {w : World} {v : Value} {xs : List Int} (h : Ints w v xs) :
    ∃ a cap, v = .slice a xs.length cap ∧ xs.length ≤ cap ∧ cap ≤ 9223372036854775807 ∧ ∀ j, j < xs.length → ∃ b off, a = some ⟨b, off, none⟩ ∧ b < w.heap.size ∧ (-9223372036854775808 ≤ at_ xs j ∧ at_ xs j ≤ 9223372036854775807) ∧ w.cell? ⟨b, off + j, none⟩ = some (.int .i64 (at_ xs j)) := by
  obtain ⟨h0, a, cap, rfl, h1, h2, h3⟩ := h
  unfold maxLen at h2
  refine ⟨a, cap, rfl, h1, h2, fun j hj => ?_⟩
  rcases h3 with rfl | ⟨b, off, rfl, hlt, hc⟩
  · exact absurd hj (by simp)
  · exact ⟨b, off, rfl, hlt, h0 _ (at_mem hj), hc j hj⟩
theorem Ints.is_slice {w : World} {v : Value} {xs : List Int} (h : Ints w v xs) : ∃ a cap, v = .slice a xs.length cap := by
  obtain ⟨_, a, cap, rfl, _⟩ := h
  exact ⟨a, cap, rfl⟩
theorem Ints.nil_ (w : World) : Ints w (.slice none 0 0) [] := ⟨fun _ h => by simp at h, none, 0, rfl, Nat.le_refl _, by unfold maxLen; omega, .inl rfl⟩
theorem Ints.lt {w : World} {v : Value} {xs : List Int} (h : Ints w v xs) : xs.length ≤ 9223372036854775807 := by
  obtain ⟨_, a, cap, rfl, h1, h2, _⟩ := h
  unfold maxLen at h2
  omega

theorem ret_bool {a b : Bool} (h : a = b) : Ending.returned (.bool a) = .returned (.bool b) := by rw [h]
theorem below_more {w w1 w2 : World} {B : Nat} (h1 : Below B w w1) (h2 : Below w1.heap.size w1 w2) (hB : B ≤ w.heap.size := by exact Nat.le_refl _) : Below B w w2 :=
  h1.trans (h2.mono (Nat.le_trans hB h1.size))
theorem below_cell {B : Nat} {w w' : World} (h : Below B w w') {b o : Nat} {v : Value} (hb : b < B) (hc : w.cell? ⟨b, o, none⟩ = some v) : w'.cell? ⟨b, o, none⟩ = some v := by
  rw [h.cell (p := ⟨b, o, none⟩) hb]
  exact hc
theorem below_drews {B : Nat} {a w : World} (h : Below B a w) (n : Nat) : Below B a (w.drewN n) := ⟨h.os, h.tape, h.output, h.size, h.block⟩

section
open Go.ChangeShapes Go.WideShapes Go.Deep
variable {H : Type} {enc : TypeId × Value → H}
theorem cellsOf_int : Try.prog.cellsOf 3 = 1 := by kernel_rfl
theorem cellsOf_ints : Try.prog.cellsOf 23 = 1 := by kernel_rfl

theorem int_bounds {n : Int} (h : (Lit.int .i64 n).wf = true) : i64 n := by
  simpa [i64, Lit.wf, IntKind.min, IntKind.max, IntKind.signed, IntKind.bits] using h
theorem add_block (b o k : Nat) : ((⟨b, o, none⟩ : Addr).add k).block = b := by unfold Addr.add; split <;> rfl
theorem add_off (b o k : Nat) : ((⟨b, o, none⟩ : Addr).add k).off = o + k := by
  unfold Addr.add
  by_cases h : k = 0
  · rw [if_pos h, h, Nat.add_zero]
  · rw [if_neg h]

theorem lt_of_cell {w : World} {b o : Nat} {v : Value} (h : w.cell? ⟨b, o, none⟩ = some v) : b < w.heap.size := by
  rcases Nat.lt_or_ge b w.heap.size with h' | h'
  · exact h'
  · simp [World.cell?, Array.getElem?_eq_none h'] at h

/-- A value that is read as a slice of ints. -/
theorem ints_of {W : World} {n : Nat} {x : DataW H × List MemPlace} {c : Value} (h : DataW.trod enc Try.prog W 0 (fun _ => true) true n 23 [c] = some x) : ∃ xs, Ints W c xs := by
  rcases open_slice Try.underlying23 h with ⟨hcs, _⟩ | ⟨a, len, cap, m, n', D, Pl, hcs, _, hl, hm, hmm, _, hel⟩
  · simp at hcs
    subst hcs
    exact ⟨[], Ints.nil_ _⟩
  · simp at hcs
    subst hcs
    simp only [if_true] at hmm
    have hall : ∀ i, i < len → ∃ z : Int, i64 z ∧ W.cell? (a.add i) = some (.int .i64 z) := fun i hi => by
      obtain ⟨cs', hc, ht⟩ := hel i (by omega)
      rw [cellsOf_int, Nat.mul_one] at hc
      obtain ⟨_, hlen, _⟩ := World.cells?_some hc
      match cs', hlen with
      | [v], _ =>
        obtain ⟨q, e0, -, w0⟩ := DataW.trod_int Try.underlying3 ht
        simp at e0
        subst e0
        exact ⟨q, int_bounds w0, cell_of_cells?_one hc⟩
    by_cases h0 : len = 0
    · subst h0
      exact ⟨[], fun _ h => by simp at h, some a, cap, rfl, Nat.zero_le _, hm, .inl rfl⟩
    · obtain ⟨b, o, sp⟩ := a
      have hsp : sp = none := by
        obtain ⟨z, _, h1⟩ := hall 0 (by omega)
        simpa [Addr.add] using World.cell?_spot h1
      subst hsp
      have hall' : ∀ i, i < len → ∃ z : Int, i64 z ∧ W.cell? ⟨b, o + i, none⟩ = some (.int .i64 z) := fun i hi => by
        obtain ⟨z, h0, h1⟩ := hall i hi
        have hadd : (⟨b, o, none⟩ : Addr).add i = ⟨b, o + i, none⟩ := by unfold Addr.add; split <;> simp_all
        rw [hadd] at h1
        exact ⟨z, h0, h1⟩
      have hch := fun i : Fin len => hall' i.1 i.2
      let A : List Int := List.ofFn fun i : Fin len => (hch i).choose
      have hA : A.length = len := List.length_ofFn
      have hg : ∀ i (hi : i < len), at_ A i = (hch ⟨i, hi⟩).choose := fun i hi => by
        unfold at_
        rw [List.getD_eq_getElem?_getD, List.getElem?_eq_getElem (by rw [hA]; exact hi)]
        simp [A]
      refine ⟨A, ?_, some ⟨b, o, none⟩, cap, by rw [hA], by omega, hm, .inr ⟨b, o, rfl, ?_, ?_⟩⟩
      · intro x hx
        obtain ⟨i, hi, rfl⟩ := List.getElem_of_mem hx
        have hi' : i < len := by omega
        have : A[i] = at_ A i := by unfold at_; rw [List.getD_eq_getElem?_getD, List.getElem?_eq_getElem hi]; rfl
        rw [this, hg i hi']
        exact (hch ⟨i, hi'⟩).choose_spec.1
      · obtain ⟨z, _, h1⟩ := hall' 0 (by omega)
        exact lt_of_cell h1
      · intro j hj
        have hj' : j < len := by omega
        rw [hg j hj']
        exact (hch ⟨j, hj'⟩).choose_spec.2

end
end Go.Proofs.Ytfahfjhibffdkaa.Rig

namespace Go.Proofs.Ytfahfjhibffdkaa.Rig
open Go.RowKit Go.Lib Go.Proofs.Ytfahfjhibffdkaa.Rt

def ints (xs : List Int) : List Value := xs.map (Value.int .i64)
theorem ints_len (xs : List Int) : (ints xs).length = xs.length := by simp [ints]
theorem ints_get {xs : List Int} {j : Nat} (h : j < xs.length) : (ints xs)[j]? = some (.int .i64 (at_ xs j)) := by
  unfold ints
  rw [List.getElem?_map, List.getElem?_eq_getElem h, at_get h]
  rfl
theorem ints_app (xs ys : List Int) : ints (xs ++ ys) = ints xs ++ ints ys := by simp [ints]
theorem ints_one : ∀ {xs : List Int}, ∀ u ∈ ints xs, u.oneCell' = true := by
  intro xs u hu
  unfold ints at hu
  rw [List.mem_map] at hu
  obtain ⟨x, _, rfl⟩ := hu
  rfl

/-- The slice v is the call's own (its block among those from base on), and has the ints xs. -/
def OwnI (base : Nat) (w : World) (v : Value) (xs : List Int) : Prop := w.ownsRow base 3 1 v xs.length (ints xs) ∧ ∀ x ∈ xs, i64 x

theorem OwnI.ints {base : Nat} {w : World} {v : Value} {xs : List Int} (h : OwnI base w v xs) : Ints w v xs := by
  obtain ⟨h1, h2⟩ := h
  refine ⟨h2, ?_⟩
  rcases h1.2 with ⟨rfl, h0⟩ | ⟨g, cap, cur, rfl, hb, hg, hle, hm, hsz, htake⟩
  · have : xs = [] := List.eq_nil_of_length_eq_zero h0
    subst this
    exact ⟨none, 0, rfl, Nat.le_refl _, Nat.zero_le _, .inl rfl⟩
  · refine ⟨some ⟨g, 0, none⟩, cap, rfl, hle, hm, .inr ⟨g, 0, rfl, (Array.getElem?_eq_some_iff.1 hg).1, fun j hj => ?_⟩⟩
    have hc := World.ownsRow.cells h1 (g := g) rfl j (.int .i64 (at_ xs j)) (ints_get hj)
    have hadd : (⟨g, 0, none⟩ : Addr).add j = ⟨g, j, none⟩ := by unfold Addr.add; split <;> simp_all
    rw [hadd] at hc
    rw [Nat.zero_add]
    exact hc
theorem OwnI.kept {base : Nat} {w w' : World} {v : Value} {xs : List Int} {row : Option Nat} (h : OwnI base w v xs) (hg : w.grownBy w' row) (hne : v.ownBlock = none ∨ v.ownBlock ≠ row) : OwnI base w' v xs :=
  ⟨h.1.kept hg hne, h.2⟩
theorem grown_below {w w' : World} (hb : Below w.heap.size w w') (row : Option Nat) : w.grownBy w' row := ⟨hb.os, hb.tape, hb.output, hb.size, fun k hk _ => hb.block k hk⟩
theorem OwnI.below {base : Nat} {w w' : World} {v : Value} {xs : List Int} (h : OwnI base w v xs) (hb : Below w.heap.size w w') : OwnI base w' v xs :=
  h.kept (grown_below hb none) (by cases hv : v.ownBlock <;> simp)
theorem owns_mono {base base' : Nat} {w : World} {e : TypeId} {k n : Nat} {v : Value} {xs : List Value} (h : w.ownsRow base e k v n xs) (hb : base' ≤ base) : w.ownsRow base' e k v n xs := by
  refine ⟨h.1, ?_⟩
  rcases h.2 with h0 | ⟨g, cap, cur, h1, h2, h3⟩
  · exact .inl h0
  · exact .inr ⟨g, cap, cur, h1, Nat.le_trans hb h2, h3⟩
theorem OwnI.mono {base base' : Nat} {w : World} {v : Value} {xs : List Int} (h : OwnI base w v xs) (hb : base' ≤ base) : OwnI base' w v xs := ⟨owns_mono h.1 hb, h.2⟩
theorem OwnI.nil_ (base : Nat) (w : World) : OwnI base w (.slice none 0 0) [] := ⟨World.ownsRow_nil _ _ _ _, fun _ h => by simp at h⟩
theorem OwnI.block {base : Nat} {w : World} {v : Value} {xs : List Int} (h : OwnI base w v xs) : ∀ k, v.ownBlock = some k → base ≤ k ∧ k < w.heap.size := h.1.lt
theorem OwnI.one {base : Nat} {w : World} {v : Value} {xs : List Int} (h : OwnI base w v xs) : v.oneCell' = true := by
  rcases h.1.2 with ⟨rfl, h0⟩ | ⟨g, cap, cur, rfl, _⟩ <;> rfl
theorem OwnI.is_slice {base : Nat} {w : World} {v : Value} {xs : List Int} (h : OwnI base w v xs) : ∃ a cap, v = .slice a xs.length cap := h.ints.is_slice

/-- Out of a block and its cells. -/
theorem own_of {base : Nat} {w : World} {g cap : Nat} {ys : List Int} (hb : base ≤ g) (hblk : ∃ cur, w.heap[g]? = some (.cells cur 3 (0, 0)) ∧ cur.size = cap) (hle : ys.length ≤ cap) (hm : cap ≤ maxLen) (hi : ∀ x ∈ ys, i64 x)
    (hc : ∀ j, j < ys.length → w.cell? ⟨g, j, none⟩ = some (.int .i64 (at_ ys j))) : OwnI base w (.slice (some ⟨g, 0, none⟩) ys.length cap) ys := by
  obtain ⟨cur, h1, h2⟩ := hblk
  refine ⟨⟨by rw [ints_len, Nat.mul_one], .inr ⟨g, cap, cur, rfl, hb, h1, hle, hm, by rw [Nat.mul_one]; exact h2, ?_⟩⟩, hi⟩
  rw [Nat.mul_one]
  apply List.ext_getElem?
  intro j
  by_cases hj : j < ys.length
  · rw [ints_get hj, List.getElem?_take_of_lt hj, ← hc j hj, cell_of_row w g j cur _ (0, 0) h1, Array.getElem?_toList]
  · rw [List.getElem?_eq_none (by rw [List.length_take]; omega), List.getElem?_eq_none (by rw [ints_len]; omega)]

theorem setCells_block {g : Nat} {e : TypeId} : ∀ (vs : List Value) (o : Nat) (w : World) (cur : Array Value), w.heap[g]? = some (.cells cur e (0, 0)) →
    ∃ cur', (w.setCells g o vs).heap[g]? = some (.cells cur' e (0, 0)) ∧ cur'.size = cur.size
  | [], o, w, cur, h => ⟨cur, h, rfl⟩
  | v :: vs, o, w, cur, h => by
    obtain ⟨cur', h1, h2⟩ := setCells_block vs (o + 1) (w.setCell ⟨g, o, none⟩ v) _ (heap_setCell_same w g o cur e v h)
    exact ⟨cur', h1, by rw [h2]; simp⟩
theorem setCells_grown {g : Nat} : ∀ (vs : List Value) (o : Nat) (w : World), w.grownBy (w.setCells g o vs) (some g)
  | [], _, w => World.grownBy.refl w _
  | v :: vs, o, w => by
    have h := setCells_grown (g := g) vs (o + 1) (w.setCell ⟨g, o, none⟩ v)
    refine ⟨h.os, h.tape, h.output, Nat.le_trans (by simp) h.size, fun k hk hne => ?_⟩
    show ((w.setCell ⟨g, o, none⟩ v).setCells g (o + 1) vs).heap[k]? = _
    rw [h.block k (by simpa using hk) hne]
    exact heap_setCell_other w ⟨g, o, none⟩ k v (fun e => hne (by rw [e]))
theorem grown_trans {a b c : World} {row : Option Nat} (h1 : a.grownBy b row) (h2 : b.grownBy c row) : a.grownBy c row :=
  ⟨h2.os.trans h1.os, h2.tape.trans h1.tape, h2.output.trans h1.output, Nat.le_trans h1.size h2.size, fun k hk hne => (h2.block k (Nat.lt_of_lt_of_le hk h1.size) hne).trans (h1.block k hk hne)⟩
/-- What is written in a new block is nothing to the old ones. -/
theorem grown_new {a b c : World} {g : Nat} {row : Option Nat} (h1 : a.grownBy b row) (hg : a.heap.size ≤ g) (h2 : b.grownBy c (some g)) : a.grownBy c row :=
  ⟨h2.os.trans h1.os, h2.tape.trans h1.tape, h2.output.trans h1.output, Nat.le_trans h1.size h2.size, fun k hk hne => (h2.block k (Nat.lt_of_lt_of_le hk h1.size) (fun e => by injection e with e; omega)).trans (h1.block k hk hne)⟩
theorem grown_drews {a b : World} {row : Option Nat} (h : a.grownBy b row) (n : Nat) : a.grownBy (b.drewN n) row := ⟨h.os, h.tape, h.output, h.size, h.block⟩
theorem grown_drew {a b : World} {row : Option Nat} (h : a.grownBy b row) : a.grownBy b.drew row := ⟨h.os, h.tape, h.output, h.size, h.block⟩
theorem below_grown {w0 a b : World} {B : Nat} {row : Option Nat} (h : Below B w0 a) (hB : B ≤ a.heap.size) (hr : ∀ k, row = some k → B ≤ k) (hg : a.grownBy b row) : Below B w0 b := h.grown hg hB hr
/-- It hands ints back that it owns; nothing old has turned. -/
def NewI (w : World) (ys : List Int) (e : Ending) (w' : World) : Prop := ∃ v', e = .returned v' ∧ OwnI w.heap.size w' v' ys ∧ Below w.heap.size w w'
end Go.Proofs.Ytfahfjhibffdkaa.Rig

namespace Go.Proofs.Ytfahfjhibffdkaa.Rig
open Go.RowKit Go.Lib Go.Proofs.Ytfahfjhibffdkaa.Rt

theorem infoI : (Try.prog.info? 3).map (fun i => (i.zero, i.size, i.bytes)) = some (some (.int .i64 0), 1, 8) := by kernel_rfl

/-- Nothing is appended of a nil slice, whatever its capacity reads as. -/
theorem run_append_nil {P : Program} (w : World) (base : Nat) (t ty e : TypeId) (i : TypeInfo) (size : Nat) (ht : P.underlying t = some (.slice e)) (hi : P.info? e = some i)
    (v : Value) (n : Nat) (xs : List Value) (hown : w.ownsRow base e size v n xs) (c : Nat) : (Builtin.append_ #[t, t] ty #[v, .slice none 0 c]).run P w = .ok v w := by
  rcases hown.2 with ⟨rfl, rfl⟩ | ⟨g, cap, cur, rfl, _, _, hnc, _⟩
  · simp [Builtin.append_, run_underlying ht, sizeOf, typeInfo, hi, Builtin.lenOf, Builtin.firstCells]
  · simp [Builtin.append_, run_underlying ht, sizeOf, typeInfo, hi, Builtin.lenOf, Builtin.firstCells, hnc, storeCells]

set_option maxRecDepth 100000 in
/-- An append of ints, whatever slice they come from, onto a row of the call's own. -/
theorem wpList_append_ints {w : World} {ops : Array Oper} {rest : List Oper} {o : Oper} {a : Act} {Q : Exit → Act → World → Prop} (hgd : o.guard = none) (s x : Operand)
    (ho : o.op = .call { callee := .builtin .append, args := #[s, x], argTypes := #[23, 23] }) (base : Nat) (v : Value) (n : Nat) (ys : List Value) (hs : a.eval s = v) (hown : w.ownsRow base 3 1 v n ys)
    (u : Value) (xs : List Int) (hx : a.eval x = u) (hI : Ints w u xs) (hlen : n + xs.length ≤ 100000) (hbase : base ≤ w.heap.size)
    (h : ∀ v' w', w'.ownsRow base 3 1 v' (n + xs.length) (ys ++ ints xs) → w.grownBy w' v.ownBlock → wpList Try.prog ops Q rest (a.put o.dst v') w') : wpList Try.prog ops Q (o :: rest) a w := by
  obtain ⟨i0, hi, hz0, hz1, hz2⟩ := info_parts infoI
  obtain ⟨_, ad, cap, rfl, h1, h2, h3⟩ := hI
  cases ad with
  | none =>
    have he : xs = [] := by
      rcases h3 with rfl | ⟨b, off, e, _⟩
      · rfl
      · cases e
    subst he
    refine wpList_plain hgd fun K hK => ?_
    have hrun := run_append_nil (P := Try.prog) w base 23 o.type 3 i0 1 Try.underlying23 hi v n ys hown cap
    unfold Oper.wp
    have hx' : a.eval x = .slice none 0 cap := hx
    simp [execOp, ho, resolve, invoke, builtin, hs, hx', hrun, Result.andThen]
    refine hK _ _ (h v w ?_ (World.grownBy.refl w _))
    rw [show ys ++ ints [] = ys from List.append_nil _]
    exact hown
  | some ad =>
    refine wpList_append_own w hgd s x 23 ho base 3 i0 (.int .i64 0) 1 8 Try.underlying23 hi hz0 hz1 hz2 rfl (by decide) v n ys hs hown ad xs.length cap (ints xs) hx (by rw [ints_len, Nat.mul_one]) ?_ ints_one (by unfold maxLen; omega) (by omega) hbase ?_
    · intro j z hj
      rcases h3 with rfl | ⟨b, off, e, _, hc⟩
      · simp [ints] at hj
      · injection e with e
        subst e
        have hj' : j < xs.length := by rw [← ints_len xs]; exact (List.getElem?_eq_some_iff.1 hj).1
        rw [ints_get hj'] at hj
        have hadd : (⟨b, off, none⟩ : Addr).add j = ⟨b, off + j, none⟩ := by unfold Addr.add; split <;> simp_all
        rw [hadd, hc j hj']
        exact hj
    · intro v' w' h1 h2 _
      exact h v' w' h1 h2

/-- An append of one int that lies in a block of its own. -/
theorem wpList_append_one {w : World} {ops : Array Oper} {rest : List Oper} {o : Oper} {a : Act} {Q : Exit → Act → World → Prop} (hgd : o.guard = none) (s x : Operand)
    (ho : o.op = .call { callee := .builtin .append, args := #[s, x], argTypes := #[23, 23] }) (base : Nat) (v : Value) (ys : List Int) (hs : a.eval s = v) (hown : OwnI base w v ys)
    (b : Nat) (y : Int) (hx : a.eval x = .slice (some ⟨b, 0, none⟩) 1 1) (hb : w.heap[b]? = some (.cells #[.int .i64 y] 3 (0, 0))) (hy : i64 y) (hlen : ys.length ≤ 10000) (hbase : base ≤ w.heap.size)
    (h : ∀ v' w', OwnI base w' v' (ys ++ [y]) → w.grownBy w' v.ownBlock → wpList Try.prog ops Q rest (a.put o.dst v') w') : wpList Try.prog ops Q (o :: rest) a w := by
  have hI : Ints w (.slice (some ⟨b, 0, none⟩) 1 1) [y] := by
    refine ⟨fun x hx => by simp at hx; subst hx; exact hy, _, 1, rfl, Nat.le_refl _, by unfold maxLen; omega, .inr ⟨b, 0, rfl, ?_, fun j hj => ?_⟩⟩
    · rcases Nat.lt_or_ge b w.heap.size with h | h
      · exact h
      · rw [Array.getElem?_eq_none h] at hb; cases hb
    · obtain rfl : j = 0 := by simp at hj; omega
      rw [cell_of_row w b _ _ _ (0, 0) hb]
      rfl
  refine wpList_append_ints hgd s x ho base v ys.length (ints ys) hs hown.1 _ [y] hx hI (by simp; omega) hbase ?_
  intro v' w' h1 h2
  refine h v' w' ⟨?_, fun z hz => ?_⟩ h2
  · rw [ints_app, List.length_append]
    exact h1
  · rw [List.mem_append, List.mem_singleton] at hz
    rcases hz with hz | rfl
    · exact hown.2 z hz
    · exact hy

end Go.Proofs.Ytfahfjhibffdkaa.Rig
