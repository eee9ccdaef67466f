/- Rows of one-cell elements whose block may bear the mark of a conversion ([]byte(s)) behind its cells: an element appended. -/
import Derived.Test.YtffepndeegbdoaaGreatDoorRk
import Derived.Lib.ConvBytes
import Derived.Laws.AppendOwn
set_option linter.unusedVariables false
set_option linter.unusedSimpArgs false
set_option maxRecDepth 100000
namespace Go.Proofs.YtffepndeegbdoaaGreatDoor.Rk
open Go.RowKit

/-- The call's own; nothing of the row is frozen. -/
def OwnT (e : TypeId) (base : Nat) (w : World) (v : Value) (xs : List Value) : Prop :=
  ∃ g cap cur fz, v = .slice (some ⟨g, 0, none⟩) xs.length cap ∧ base ≤ g ∧ w.heap[g]? = some (.cells cur e fz) ∧ (fz.2 = 0 ∨ cap ≤ fz.1) ∧ xs.length ≤ cap ∧ cap ≤ maxLen ∧ cur.size = cap ∧ cur.toList.take xs.length = xs
theorem OwnT.below {e : TypeId} {base : Nat} {w w' : World} {v : Value} {xs : List Value} (h : OwnT e base w v xs) (hb : Below w.heap.size w w') : OwnT e base w' v xs := by
  obtain ⟨g, cap, cur, fz, e1, h1, h2, h3⟩ := h
  exact ⟨g, cap, cur, fz, e1, h1, (hb.block g (Array.getElem?_eq_some_iff.1 h2).1).trans h2, h3⟩
theorem OwnT.cell {e : TypeId} {base : Nat} {w : World} {a : Option Addr} {n cap : Nat} {xs : List Value} (h : OwnT e base w (.slice a n cap) xs) {j : Nat} (hj : j < xs.length) : ∃ g, a = some ⟨g, 0, none⟩ ∧ g < w.heap.size ∧ w.cell? ⟨g, j, none⟩ = some xs[j] := by
  obtain ⟨g, cap', cur, fz, e1, h1, h2, h3, h4, h5, h6, h7⟩ := h
  injection e1 with e1 _ _
  refine ⟨g, e1, (Array.getElem?_eq_some_iff.1 h2).1, ?_⟩
  rw [cell_of_row w g j cur e fz h2]
  have : (cur.toList.take xs.length)[j]? = some xs[j] := by rw [h7, List.getElem?_eq_getElem hj]
  rw [List.getElem?_take] at this
  rw [if_pos hj] at this
  simpa using this
/-- The row that a conversion makes. -/
theorem conv_own (w : World) (e : TypeId) (s : ByteArray) (hs : s.size ≤ 100000) :
    OwnT e w.heap.size (Lib.bytesWorld w e s) (.slice (some ⟨w.heap.size, 0, none⟩) s.size (grownCap w s.size 0 e)) (s.data.toList.map fun b => .int .u8 (b.toNat : Int)) ∧ Below w.heap.size w (Lib.bytesWorld w e s) := by
  have hge := grownCap_ge w s.size 0 e
  have hcm : grownCap w s.size 0 e ≤ maxLen := grownCap_le_maxLen w s.size 0 e (by unfold maxLen; omega)
  have hl : (s.data.toList.map fun b => Value.int .u8 (b.toNat : Int)).length = s.size := by rw [List.length_map]; rfl
  have hz : (Lib.bytesCells w e s).size = grownCap w s.size 0 e := by
    unfold Lib.bytesCells
    rw [Array.size_append, Array.size_map, Array.size_replicate]
    show s.size + _ = _
    omega
  refine ⟨⟨w.heap.size, _, _, _, by rw [hl], Nat.le_refl _, Lib.bytesWorld_at_new w e s, .inr (by rw [hz]; exact Nat.le_refl _), by rw [hl]; exact hge, hcm, hz, ?_⟩, ⟨rfl, rfl, rfl, by rw [Lib.bytesWorld_size]; omega, fun k hk => Lib.bytesWorld_at_old w e s k hk⟩⟩
  rw [hl]
  unfold Lib.bytesCells
  rw [Array.toList_append, Array.toList_map]
  exact List.take_left' hl
theorem run_append_one {P : Program} (w : World) (base : Nat) (t ty e : TypeId) (i : TypeInfo) (z : Value) (ht : P.underlying t = some (.slice e)) (hi : P.info? e = some i) (hz : i.zero = some z) (hs1 : i.size = 1) (hzs : z.cells.size = 1) (hby : i.bytes ≤ 1000)
    (v : Value) (xs : List Value) (hown : OwnT e base w v xs) (a : Addr) (c : Nat) (u : Value) (hu : w.cell? a = some u) (h1 : u.oneCell' = true) (hn : xs.length + 1 ≤ 100000) (hbase : base ≤ w.heap.size) :
    ∃ v' w', (Builtin.append_ #[t, t] ty #[v, .slice (some a) 1 c]).run P w = .ok v' w' ∧ OwnT e base w' v' (xs ++ [u]) ∧ w.grownBy w' v.ownBlock := by
  obtain ⟨g, cap, cur, fz, rfl, hbg, hg, hfz, hnc, hcm, hcs, htake⟩ := hown
  have hadd0 : a.add 0 = a := by unfold Addr.add; split <;> simp_all
  by_cases hroom : xs.length + 1 ≤ cap
  · have hcell : w.cell? ⟨g, xs.length, none⟩ = some cur[xs.length] := by
      simp [World.cell?, hg, show xs.length < cur.size by omega]
    have hfro : w.frozen? ⟨g, xs.length, none⟩ = false := by
      obtain ⟨lo, hi'⟩ := fz
      simp only [World.frozen?, hg, Bool.and_eq_false_iff, decide_eq_false_iff_not]
      simp only at hfz
      omega
    have hnews : ∀ j x, [u][j]? = some x → w.cell? (a.add j) = some x := fun j x hx => by
      match j, hx with
      | 0, hx => injection hx with hx; subst hx; rw [hadd0]; exact hu
      | j + 1, hx => simp at hx
    have hf := run_firstCells_some (P := P) w i.size 1 a 1 c [u] (by rw [hs1]; rfl) hnews
    have hst : (storeCells ⟨g, xs.length, none⟩ [u] 0).run P w = .ok () (w.setCell ⟨g, xs.length, none⟩ u) := by
      have ha : (⟨g, xs.length, none⟩ : Addr).add 0 = ⟨g, xs.length, none⟩ := by unfold Addr.add; split <;> simp_all
      simp [storeCells, ha, run_store P w _ u _ h1, hcell, hfro]
    have hset : (w.setCell ⟨g, xs.length, none⟩ u).heap[g]? = some (.cells (cur.setIfInBounds xs.length u) e fz) := by
      rw [setCell_eq_setRow w g xs.length cur e fz u hg]
      exact setRow_heap w g cur _ e _ hg
    refine ⟨.slice (some ⟨g, 0, none⟩) (xs.length + 1) cap, w.setCell ⟨g, xs.length, none⟩ u, ?_, ?_, ?_⟩
    · rw [hs1] at hf
      simp [Builtin.append_, run_underlying ht, sizeOf, typeInfo, hi, hs1, Builtin.lenOf, hroom, hf, Addr.add_lit, hst]
    · refine ⟨g, cap, _, fz, by rw [List.length_append]; rfl, hbg, hset, hfz, by rw [List.length_append]; exact hroom, hcm, by rw [Array.size_setIfInBounds]; exact hcs, ?_⟩
      rw [List.length_append, Array.toList_setIfInBounds]
      show (cur.toList.set xs.length u).take (xs.length + 1) = _
      have hcl : xs.length < cur.toList.length := by
        show xs.length < cur.size
        omega
      rw [List.take_succ_eq_append_getElem (by rw [List.length_set]; exact hcl), List.take_set_of_le (Nat.le_refl _), htake]
      simp
    · exact ⟨rfl, rfl, rfl, by simp, fun q hq hne => Below.heap_setCell _ _ _ _ (fun e => hne (by rw [e]; rfl))⟩
  · have hnews : ∀ j x, [u][j]? = some x → w.cell? (a.add j) = some x := fun j x hx => by
      match j, hx with
      | 0, hx => injection hx with hx; subst hx; rw [hadd0]; exact hu
      | j + 1, hx => simp at hx
    have holds : ∀ j x, xs[j]? = some x → w.cell? ((⟨g, 0, none⟩ : Addr).add j) = some x := fun j x hx => by
      have hj : j < xs.length := (List.getElem?_eq_some_iff.1 hx).1
      rw [kadd, Nat.zero_add]
      rw [cell_of_row w g j cur e fz hg]
      have h := hx
      rw [← htake, List.getElem?_take] at h
      rw [if_pos hj] at h
      simpa using h
    have hcap : cap = xs.length := by omega
    have hby2 : (xs.length + 1) * i.bytes ≤ 140737488355328 := Nat.le_trans (Nat.mul_le_mul hn hby) (by decide)
    have hr := run_append_grow (P := P) w t ty e i z ht hi hz ⟨g, 0, none⟩ xs.length cap xs (by rw [hs1, Nat.mul_one]) holds a 1 c [u] (by rw [hs1]; rfl) hnews (by omega) (by omega) (growslice_fits (by omega) hby2)
    have hge := grownCap_ge w (xs.length + 1) cap e
    have hcm2 : grownCap w (xs.length + 1) cap e ≤ maxLen := grownCap_le_maxLen w (xs.length + 1) cap e (by unfold maxLen; omega)
    refine ⟨_, _, hr, ⟨w.heap.size, _, _, (0, 0), by rw [List.length_append]; rfl, hbase, heap_alloc_new w.drew _, .inl rfl, by rw [List.length_append]; exact hge, hcm2, ?_, ?_⟩, ⟨rfl, rfl, rfl, by simp, fun k hk _ => (Below.heap_alloc w.drew _ _ hk)⟩⟩
    · simp only [Array.size_append, List.size_toArray, size_zeroCells, hzs, List.length_singleton, Nat.mul_one]
      omega
    · simp only [Array.toList_append, List.append_assoc]
      rw [← List.append_assoc]
      exact List.take_left
/-- .. as a step of a walk. -/
theorem wpList_append_one {P : Program} {w : World} {ops : Array Oper} {rest : List Oper} {o : Oper} {a : Act} {Q : Exit → Act → World → Prop} (hgd : o.guard = none) (s x : Operand) (tS e : TypeId) (bytes : Nat) (z : Value)
    (ht : P.underlying tS = some (.slice e)) (hinfo : (P.info? e).map (fun i => (i.zero, i.size, i.bytes)) = some (some z, 1, bytes)) (hzs : z.cells.size = 1) (hby : bytes ≤ 1000)
    (ho : o.op = .call { callee := .builtin .append, args := #[s, x], argTypes := #[tS, tS] }) (base : Nat) (v : Value) (xs : List Value) (ad : Addr) (c : Nat) (u : Value) (hs : a.eval s = v) (hx : a.eval x = .slice (some ad) 1 c) (hown : OwnT e base w v xs) (hu : w.cell? ad = some u) (h1 : u.oneCell' = true) (hn : xs.length + 1 ≤ 100000) (hbase : base ≤ w.heap.size)
    (h : ∀ v' w', OwnT e base w' v' (xs ++ [u]) → w.grownBy w' v.ownBlock → wpList P ops Q rest (a.put o.dst v') w') : wpList P ops Q (o :: rest) a w := by
  obtain ⟨i, hi, hz, hs1, hb⟩ := kparts hinfo
  refine wpList_plain hgd fun K hK => ?_
  obtain ⟨v', w', hr, h2, h3⟩ := run_append_one (P := P) w base tS o.type e i z ht hi hz hs1 hzs (by rw [hb]; exact hby) v xs hown ad c u hu h1 hn hbase
  unfold Oper.wp execOp
  simp only [ho, resolve, invoke, builtin, Sem.run_bind, Sem.run_pure, Result.andThen_ok, List.map_toArray, List.map_cons, List.map_nil, hs, hx, hr]
  exact hK _ _ (h v' w' h2 h3)
theorem OwnT.belowOf {e : TypeId} {base B : Nat} {w0 w w' : World} {v : Value} {xs : List Value} (h : OwnT e base w v xs) (hb : Below B w0 w) (hB : B ≤ base) (hs : base ≤ w.heap.size) (hg : w.grownBy w' v.ownBlock) : Below B w0 w' := by
  obtain ⟨g, cap, cur, fz, rfl, h1, _⟩ := h
  exact hb.grown hg (Nat.le_trans hB hs) (fun k e1 => by injection e1 with e1; subst e1; exact Nat.le_trans hB h1)
theorem OwnT.is_slice {e : TypeId} {base : Nat} {w : World} {v : Value} {xs : List Value} (h : OwnT e base w v xs) : ∃ a cap, v = .slice a xs.length cap ∧ xs.length ≤ cap ∧ cap ≤ maxLen := by
  obtain ⟨g, cap, cur, fz, rfl, _, _, _, h4, h5, _⟩ := h
  exact ⟨_, _, rfl, h4, h5⟩
end Go.Proofs.YtffepndeegbdoaaGreatDoor.Rk
