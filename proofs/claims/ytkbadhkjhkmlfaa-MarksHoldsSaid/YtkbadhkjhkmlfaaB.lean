/- Rows of bools: read, owned, appended to; the closure of MarksHolds. -/
import Derived.Test.YtkbadhkjhkmlfaaPjk
import Derived.Deep.RegionLaw
set_option linter.unusedVariables false
namespace Go.Proofs.Ytkbadhkjhkmlfaa.Rig
open Go.RowKit Go.Lib Go.Proofs.Ytkbadhkjhkmlfaa.Rt

def bools (bs : List Bool) : List Value := bs.map Value.bool
theorem bools_len (bs : List Bool) : (bools bs).length = bs.length := by simp [bools]
theorem bools_app (xs ys : List Bool) : bools (xs ++ ys) = bools xs ++ bools ys := by simp [bools]
theorem bools_one {bs : List Bool} : ∀ u ∈ bools bs, u.oneCell' = true := by
  intro u hu
  obtain ⟨b, _, rfl⟩ := List.mem_map.1 hu
  rfl
def bat (bs : List Bool) (j : Nat) : Bool := bs.getD j false
theorem bools_get {bs : List Bool} {j : Nat} (h : j < bs.length) : (bools bs)[j]? = some (.bool (bat bs j)) := by
  unfold bools bat
  rw [List.getElem?_map, List.getD_eq_getElem?_getD, List.getElem?_eq_getElem h]
  rfl
theorem infoBool : (Try.prog.info? 4).map (fun i => (i.zero, i.size, i.bytes)) = some (some (.bool false), 1, 1) := by kernel_rfl
/-- Read. -/
def Bls (w : World) (v : Value) (bs : List Bool) : Prop :=
  ∃ a cap, v = .slice a bs.length cap ∧ bs.length ≤ cap ∧ cap ≤ maxLen ∧ (bs = [] ∨ ∃ b off, a = some ⟨b, off, none⟩ ∧ b < w.heap.size ∧ ∀ j, j < bs.length → w.cell? ⟨b, off + j, none⟩ = some (.bool (bat bs j)))
theorem Bls.below {w w' : World} {v : Value} {bs : List Bool} (h : Bls w v bs) {B : Nat} (hb : Below B w w') (hB : w.heap.size ≤ B) : Bls w' v bs := by
  obtain ⟨a, cap, rfl, h1, h2, h3⟩ := h
  refine ⟨a, cap, rfl, h1, h2, ?_⟩
  rcases h3 with h3 | ⟨b, off, rfl, hlt, hc⟩
  · exact .inl h3
  · refine .inr ⟨b, off, rfl, Nat.lt_of_lt_of_le hlt hb.size, fun j hj => ?_⟩
    rw [hb.cell (p := ⟨b, off + j, none⟩) (Nat.lt_of_lt_of_le hlt hB)]
    exact hc j hj
theorem Bls.is_slice {w : World} {v : Value} {bs : List Bool} (h : Bls w v bs) : ∃ a cap, v = .slice a bs.length cap ∧ bs.length ≤ cap ∧ cap ≤ 9223372036854775807 := by
  obtain ⟨a, cap, rfl, h1, h2, _⟩ := h
  unfold maxLen at h2
  exact ⟨a, cap, rfl, h1, h2⟩
/-- The call's own. -/
def OwnB (base : Nat) (w : World) (v : Value) (bs : List Bool) : Prop := w.ownsRow base 4 1 v bs.length (bools bs)
theorem OwnB.bls {base : Nat} {w : World} {v : Value} {bs : List Bool} (h : OwnB base w v bs) : Bls w v bs := by
  rcases h.2 with ⟨rfl, h0⟩ | ⟨g, cap, cur, rfl, hb, hg, hle, hm, hsz, htake⟩
  · obtain rfl := List.eq_nil_of_length_eq_zero h0
    exact ⟨none, 0, rfl, Nat.le_refl _, Nat.zero_le _, .inl rfl⟩
  · refine ⟨some ⟨g, 0, none⟩, cap, rfl, hle, hm, .inr ⟨g, 0, rfl, (Array.getElem?_eq_some_iff.1 hg).1, fun j hj => ?_⟩⟩
    have hc := World.ownsRow.cells h (g := g) rfl j (.bool (bat bs j)) (bools_get hj)
    have hadd : (⟨g, 0, none⟩ : Addr).add j = ⟨g, j, none⟩ := by unfold Addr.add; split <;> simp_all
    rw [hadd] at hc
    rw [Nat.zero_add]
    exact hc
theorem OwnB.kept {base : Nat} {w w' : World} {v : Value} {bs : List Bool} {row : Option Nat} (h : OwnB base w v bs) (hg : w.grownBy w' row) (hne : v.ownBlock = none ∨ v.ownBlock ≠ row) : OwnB base w' v bs := World.ownsRow.kept h hg hne
theorem OwnB.below {base : Nat} {w w' : World} {v : Value} {bs : List Bool} (h : OwnB base w v bs) (hb : Below w.heap.size w w') : OwnB base w' v bs :=
  h.kept (grown_below hb none) (by cases hv : v.ownBlock <;> simp)
theorem OwnB.nil_ (base : Nat) (w : World) : OwnB base w (.slice none 0 0) [] := World.ownsRow_nil _ _ _ _
theorem OwnB.block {base : Nat} {w : World} {v : Value} {bs : List Bool} (h : OwnB base w v bs) : ∀ b, v.ownBlock = some b → base ≤ b ∧ b < w.heap.size := World.ownsRow.lt h
theorem OwnB.mono {base base' : Nat} {w : World} {v : Value} {bs : List Bool} (h : OwnB base w v bs) (hb : base' ≤ base) : OwnB base' w v bs := owns_mono h hb
theorem row_ne_block {T T' : TypeId} {b n k B : Nat} {w : World} {v : Value} {xs : List Value} {cs : Array Value} (h1 : w.ownsRow b T k v n xs) (hB : w.heap[B]? = some (.cells cs T' (0, 0))) (hT : T ≠ T') : v.ownBlock ≠ some B := fun e => by
  rcases h1.2 with ⟨rfl, _⟩ | ⟨g, cap, cur, rfl, _, hg, _⟩
  · cases e
  · have e' : g = B := by simpa [Value.ownBlock] using e
    subst e'
    rw [hg] at hB
    injection hB with hB
    injection hB with _ q
    exact hT q
theorem bat_take {bs : List Bool} {i j : Nat} (h : j < i) : bat (bs.take i) j = bat bs j := by
  unfold bat
  rw [List.getD_eq_getElem?_getD, List.getD_eq_getElem?_getD, List.getElem?_take_of_lt h]
theorem bat_drop (bs : List Bool) (i j : Nat) : bat (bs.drop i) j = bat bs (i + j) := by
  unfold bat
  rw [List.getD_eq_getElem?_getD, List.getD_eq_getElem?_getD, List.getElem?_drop]
theorem Bls.take_ {w : World} {a : Option Addr} {n c : Nat} {bs : List Bool} (h : Bls w (.slice a n c) bs) (i : Nat) (hi : i ≤ n) : Bls w (.slice a i c) (bs.take i) := by
  obtain ⟨a', cap, hv, h1, h2, h3⟩ := h
  injection hv with e1 e2 e3
  subst e1 e2 e3
  have hl : (bs.take i).length = i := by rw [List.length_take]; omega
  refine ⟨a, c, by rw [hl], by omega, h2, ?_⟩
  rcases h3 with h3 | ⟨b, o, e, hb, hc⟩
  · left; rw [h3, List.take_nil]
  · refine .inr ⟨b, o, e, hb, fun j hj => ?_⟩
    rw [hl] at hj
    rw [bat_take hj]
    exact hc j (by omega)
theorem Bls.drop_some {w : World} {g off n c : Nat} {bs : List Bool} (h : Bls w (.slice (some ⟨g, off, none⟩) n c) bs) (i : Nat) (hi : i ≤ n) : Bls w (.slice (some ⟨g, off + i, none⟩) (n - i) (c - i)) (bs.drop i) := by
  obtain ⟨a', cap, hv, h1, h2, h3⟩ := h
  injection hv with e1 e2 e3
  subst e2 e3
  have hl : (bs.drop i).length = bs.length - i := by rw [List.length_drop]
  refine ⟨some ⟨g, off + i, none⟩, c - i, by rw [hl], by omega, by omega, ?_⟩
  rcases h3 with h3 | ⟨b, o, e, hb, hc⟩
  · left; rw [h3, List.drop_nil]
  · rw [← e1] at e
    injection e with e
    injection e with e2 e3
    subst e2 e3
    refine .inr ⟨g, off + i, rfl, hb, fun j hj => ?_⟩
    rw [hl] at hj
    rw [bat_drop, Nat.add_assoc]
    exact hc (i + j) (by omega)
theorem Bls.none_of {w : World} {a : Option Addr} {c : Nat} (hc : c ≤ maxLen) : Bls w (.slice a 0 c) [] := ⟨a, c, rfl, Nat.zero_le _, hc, .inl rfl⟩

/-- An append of bools, whatever slice they come from, onto a row of the call's own: the run. -/
theorem run_append_bls {w : World} (ty : TypeId) (base : Nat) (v : Value) (xs : List Bool) (hown : OwnB base w v xs) (u : Value) (ys : List Bool) (hI : Bls w u ys) (hlen : xs.length + ys.length ≤ 100000) (hbase : base ≤ w.heap.size) :
    ∃ v' w', (Builtin.append_ #[57, 57] ty #[v, u]).run Try.prog w = .ok v' w' ∧ OwnB base w' v' (xs ++ ys) ∧ w.grownBy w' v.ownBlock := by
  obtain ⟨i0, hi, hz0, hz1, hz2⟩ := info_parts infoBool
  obtain ⟨ad, cap, rfl, h1, h2, h3⟩ := hI
  cases ad with
  | none =>
    have he : ys = [] := by
      rcases h3 with rfl | ⟨b, off, e, _⟩
      · rfl
      · cases e
    subst he
    refine ⟨v, w, run_append_nil (P := Try.prog) w base 57 ty 4 i0 1 Try.underlying57 hi v xs.length (bools xs) hown cap, ?_, World.grownBy.refl w _⟩
    rw [List.append_nil]
    exact hown
  | some ad =>
    obtain ⟨v', w', r1, r2, r3, _⟩ := run_append_own (P := Try.prog) w base 57 ty 4 i0 (.bool false) 1 1 Try.underlying57 hi hz0 hz1 hz2 rfl (by decide) v xs.length (bools xs) hown ad ys.length cap (bools ys) (by rw [bools_len, Nat.mul_one]) (by
      intro j z hj
      rcases h3 with rfl | ⟨b, off, e, _, hc⟩
      · simp [bools] at hj
      · injection e with e
        subst e
        have hj' : j < ys.length := by rw [← bools_len ys]; exact (List.getElem?_eq_some_iff.1 hj).1
        rw [bools_get hj'] at hj
        have hadd : (⟨b, off, none⟩ : Addr).add j = ⟨b, off + j, none⟩ := by unfold Addr.add; split <;> simp_all
        rw [hadd, hc j hj']
        exact hj) bools_one (by unfold maxLen; omega) (by omega) hbase
    refine ⟨v', w', r1, ?_, r3⟩
    unfold OwnB
    rw [bools_app, List.length_append]
    exact r2
theorem wpList_append_bls {w : World} {ops : Array Oper} {rest : List Oper} {o : Oper} {a : Act} {Q : Exit → Act → World → Prop} (hgd : o.guard = none) (s x : Operand)
    (ho : o.op = .call { callee := .builtin .append, args := #[s, x], argTypes := #[57, 57] }) (base : Nat) (v : Value) (xs : List Bool) (hs : a.eval s = v) (hown : OwnB base w v xs)
    (u : Value) (ys : List Bool) (hx : a.eval x = u) (hI : Bls w u ys) (hlen : xs.length + ys.length ≤ 100000) (hbase : base ≤ w.heap.size)
    (h : ∀ v' w', OwnB base w' v' (xs ++ ys) → w.grownBy w' v.ownBlock → wpList Try.prog ops Q rest (a.put o.dst v') w') : wpList Try.prog ops Q (o :: rest) a w := by
  refine wpList_plain hgd fun K hK => ?_
  obtain ⟨v', w', hr, h2, h3⟩ := run_append_bls (w := w) o.type base v xs hown u ys hI hlen hbase
  unfold Oper.wp execOp
  simp only [ho, resolve, invoke, builtin, Sem.run_bind, Sem.run_pure, Result.andThen_ok, List.map_toArray, List.map_cons, List.map_nil, hs, hx, hr]
  exact hK _ _ (h v' w' h2 h3)
/-- .. as a step of a region that draws. -/
theorem step_append_bls {w : World} {ops : Array Oper} {o : Oper} {a : Act} {K : Act → World → Prop} {Q : Exit → Act → World → Prop} {E : Prop} (hgd : o.guard = none) (s x : Operand)
    (ho : o.op = .call { callee := .builtin .append, args := #[s, x], argTypes := #[57, 57] }) (base : Nat) (v : Value) (xs : List Bool) (hs : a.eval s = v) (hown : OwnB base w v xs)
    (u : Value) (ys : List Bool) (hx : a.eval x = u) (hI : Bls w u ys) (hlen : xs.length + ys.length ≤ 100000) (hbase : base ≤ w.heap.size)
    (h : ∀ v' w', OwnB base w' v' (xs ++ ys) → w.grownBy w' v.ownBlock → K (a.put o.dst v') w') : if Region.wanted o (yielded ops a.tmps) = true then Oper.wp Try.prog o a w K Q else E := by
  have hw : Region.wanted o (yielded ops a.tmps) = true := by simp [Region.wanted, hgd]
  rw [if_pos hw]
  obtain ⟨v', w', hr, h2, h3⟩ := run_append_bls (w := w) o.type base v xs hown u ys hI hlen hbase
  unfold Oper.wp execOp
  simp only [ho, resolve, invoke, builtin, Sem.run_bind, Sem.run_pure, Result.andThen_ok, List.map_toArray, List.map_cons, List.map_nil, hs, hx, hr]
  exact h v' w' h2 h3
theorem bls_lit {w : World} {b : Nat} {x : Bool} (h : w.heap[b]? = some (.cells #[.bool x] 4 (0, 0))) : Bls w (.slice (some ⟨b, 0, none⟩) 1 1) [x] := by
  refine ⟨_, 1, rfl, Nat.le_refl _, by unfold maxLen; omega, .inr ⟨b, 0, rfl, (Array.getElem?_eq_some_iff.1 h).1, fun j hj => ?_⟩⟩
  obtain rfl : j = 0 := by simp at hj; omega
  rw [cell_of_row _ _ _ _ _ _ h]
  rfl
end Go.Proofs.Ytkbadhkjhkmlfaa.Rig
