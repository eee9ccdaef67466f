/- Plate: append onto a slice of no capacity, wherever it lies, or onto one of the call's own; the plain text's Lay in memory. -/
import Derived.Test.YtegnpkolmnmeiaaY16w
set_option linter.unusedVariables false
set_option linter.unusedSimpArgs false
set_option maxRecDepth 100000
namespace Go.Proofs.Ytegnpkolmnmeiaa.Plt
open Go.RowKit Go.Lib Go.Proofs.Ytegnpkolmnmeiaa.Bx

def Row0 (base : Nat) (w : World) (v : Value) (xs : List ByteArray) : Prop := (xs = [] ∧ ∃ a, v = .slice (some a) 0 0) ∨ Rk.OwnK 9 1 base w v (cellsT xs)
theorem cellsT_app (xs ys : List ByteArray) : cellsT (xs ++ ys) = cellsT xs ++ cellsT ys := List.map_append
theorem cellsT_one (xs : List ByteArray) : ∀ y ∈ cellsT xs, ∀ q ∈ y, q.oneCell' = true := by
  intro y hy q hq
  obtain ⟨s, _, rfl⟩ := List.mem_map.1 hy
  simp at hq
  subst hq
  rfl
theorem cellsT_flat : ∀ xs : List ByteArray, (cellsT xs).flatten = xs.map Value.string
  | [] => rfl
  | x :: xs => by
    show _ :: (cellsT xs).flatten = _
    rw [cellsT_flat xs]
    rfl
theorem Row0.below {base : Nat} {w w' : World} {v : Value} {xs : List ByteArray} (h : Row0 base w v xs) (hb : Below w.heap.size w w') : Row0 base w' v xs := by
  rcases h with h | h
  · exact .inl h
  · exact .inr (h.below hb)
theorem run_append_e (w : World) (base : Nat) (ty : TypeId) (a : Addr) (x : Value) (ys : List ByteArray) (hy : Rk.RowK 1 w x (cellsT ys)) (hn : ys.length ≤ 100000) (hbase : base ≤ w.heap.size) :
    ∃ v' w', (Builtin.append_ #[54, 54] ty #[.slice (some a) 0 0, x]).run Try.prog w = .ok v' w' ∧ Row0 base w' v' ys ∧ Below w.heap.size w w' ∧ (∃ a c, v' = .slice a ys.length c) := by
  obtain ⟨i0, hi, hz0, hz1, hz2⟩ := Rk.kparts infoStr
  obtain ⟨b, c, rfl, hlc, hcm, hc⟩ := rowr_at hy
  by_cases h0 : ys.length = 0
  · obtain rfl : ys = [] := List.eq_nil_of_length_eq_zero h0
    refine ⟨.slice (some a) 0 0, w, ?_, .inl ⟨rfl, a, rfl⟩, Below.refl _ _, ⟨_, _, rfl⟩⟩
    cases b <;> simp [Builtin.append_, run_underlying Try.underlying54, sizeOf, typeInfo, hi, Builtin.lenOf, Builtin.firstCells, loadCells, loadCellsFrom, storeCells]
  · obtain ⟨bb, off, rfl, _, _⟩ := hc 0 (by omega)
    have hr := run_append_grow (P := Try.prog) w 54 ty 9 i0 (.string ByteArray.empty) Try.underlying54 hi hz0 a 0 0 [] (by simp) (fun j v h => by simp at h) ⟨bb, off, none⟩ ys.length c (ys.map Value.string) (by rw [List.length_map, hz1, Nat.mul_one]) (fun j u hj => by
      rw [List.getElem?_map] at hj
      have hjl : j < ys.length := by
        rcases Nat.lt_or_ge j ys.length with q | q
        · exact q
        · rw [List.getElem?_eq_none q] at hj; cases hj
      rw [List.getElem?_eq_getElem hjl] at hj
      injection hj with hj
      obtain ⟨b', off', e, _, hcl⟩ := hc j hjl
      injection e with e
      injection e with e1 e2
      subst e1 e2
      rw [Rk.kadd, hcl, ← hj, List.getD_eq_getElem?_getD, List.getElem?_eq_getElem hjl]
      rfl) (by omega) (by omega) (growslice_fits (by omega) (by rw [hz2]; omega))
    have hge := grownCap_ge w (0 + ys.length) 0 9
    have hcm2 : grownCap w (0 + ys.length) 0 9 ≤ maxLen := grownCap_le_maxLen w (0 + ys.length) 0 9 (by unfold maxLen; omega)
    refine ⟨_, _, hr, .inr ⟨fun y hy => ?_, ?_⟩, (Below.refl _ w).drew.alloc (Nat.le_refl _) _, ⟨_, _, by rw [Nat.zero_add]⟩⟩
    · refine ⟨?_, cellsT_one _ y hy⟩
      obtain ⟨s, _, rfl⟩ := List.mem_map.1 hy
      rfl
    · rw [cellsT_len, cellsT_flat]
      refine ⟨by simp, .inr ⟨w.heap.size, _, _, ?_, hbase, heap_alloc_new w.drew _, ?_, hcm2, ?_, ?_⟩⟩
      · simp
      · simpa using hge
      · simp only [Array.size_append, List.size_toArray, size_zeroCells, List.length_nil, List.length_map, Nat.mul_one, Nat.zero_add]
        have e1 : (Value.string ByteArray.empty).cells.size = 1 := rfl
        rw [e1, Nat.mul_one]
        rw [Nat.zero_add] at hge
        omega
      · simp
theorem step_append_e {w : World} {ops : Array Oper} {o : Oper} {a : Act} {K : Act → World → Prop} {Q : Exit → Act → World → Prop} {E : Prop} (hgd : o.guard = none) (s x : Operand)
    (ho : o.op = .call { callee := .builtin .append, args := #[s, x], argTypes := #[54, 54] }) (base : Nat) (ad : Addr) (u : Value) (ys : List ByteArray) (hs : a.eval s = .slice (some ad) 0 0) (hx : a.eval x = u) (hy : Rk.RowK 1 w u (cellsT ys)) (hn : ys.length ≤ 100000) (hbase : base ≤ w.heap.size)
    (h : ∀ v' w', Row0 base w' v' ys → Below w.heap.size w w' → (∃ a c, v' = .slice a ys.length c) → K (a.put o.dst v') w') : if Region.wanted o (yielded ops a.tmps) = true then Oper.wp Try.prog o a w K Q else E := by
  have hw : Region.wanted o (yielded ops a.tmps) = true := by simp [Region.wanted, hgd]
  rw [if_pos hw]
  obtain ⟨v', w', hr, h2, h3, h4⟩ := run_append_e w base o.type ad u ys hy hn hbase
  unfold Oper.wp execOp
  simp only [ho, resolve, invoke, builtin, Sem.run_bind, Sem.run_pure, Result.andThen_ok, List.map_toArray, List.map_cons, List.map_nil, hs, hx, hr]
  exact h _ _ h2 h3 h4
theorem run_append0 (w : World) (base : Nat) (ty : TypeId) (v x : Value) (xs ys : List ByteArray) (hv : Row0 base w v xs) (hy : Rk.RowK 1 w x (cellsT ys)) (hn : xs.length + ys.length ≤ 100000) (hbase : base ≤ w.heap.size) :
    ∃ v' w', (Builtin.append_ #[54, 54] ty #[v, x]).run Try.prog w = .ok v' w' ∧ Row0 base w' v' (xs ++ ys) ∧ Below base w w' ∧ (∃ a c, v' = .slice a (xs.length + ys.length) c) := by
  obtain ⟨i0, hi, hz0, hz1, hz2⟩ := Rk.kparts infoStr
  rcases hv with ⟨rfl, a, rfl⟩ | hv
  · obtain ⟨b, c, rfl, hlc, hcm, hc⟩ := rowr_at hy
    by_cases h0 : ys.length = 0
    · obtain rfl : ys = [] := List.eq_nil_of_length_eq_zero h0
      refine ⟨.slice (some a) 0 0, w, ?_, .inl ⟨rfl, a, rfl⟩, Below.refl _ _, ⟨_, _, rfl⟩⟩
      cases b <;> simp [Builtin.append_, run_underlying Try.underlying54, sizeOf, typeInfo, hi, Builtin.lenOf, Builtin.firstCells, loadCells, loadCellsFrom, storeCells]
    · obtain ⟨bb, off, rfl, _, _⟩ := hc 0 (by omega)
      have hr := run_append_grow (P := Try.prog) w 54 ty 9 i0 (.string ByteArray.empty) Try.underlying54 hi hz0 a 0 0 [] (by simp) (fun j v h => by simp at h) ⟨bb, off, none⟩ ys.length c (ys.map Value.string) (by rw [List.length_map, hz1, Nat.mul_one]) (fun j u hj => by
        rw [List.getElem?_map] at hj
        have hjl : j < ys.length := by
          rcases Nat.lt_or_ge j ys.length with q | q
          · exact q
          · rw [List.getElem?_eq_none q] at hj; cases hj
        rw [List.getElem?_eq_getElem hjl] at hj
        injection hj with hj
        obtain ⟨b', off', e, _, hcl⟩ := hc j hjl
        injection e with e
        injection e with e1 e2
        subst e1 e2
        rw [Rk.kadd, hcl, ← hj, List.getD_eq_getElem?_getD, List.getElem?_eq_getElem hjl]
        rfl) (by omega) (by simp at hn; omega) (growslice_fits (by omega) (by rw [hz2]; simp at hn; omega))
      have hge := grownCap_ge w (0 + ys.length) 0 9
      have hcm2 : grownCap w (0 + ys.length) 0 9 ≤ maxLen := grownCap_le_maxLen w (0 + ys.length) 0 9 (by unfold maxLen; simp at hn; omega)
      refine ⟨_, _, hr, .inr ⟨fun y hy => ?_, ?_⟩, (Below.refl base w).drew.alloc hbase _, ⟨_, _, by rw [List.length_nil]⟩⟩
      · refine ⟨?_, cellsT_one _ y hy⟩
        obtain ⟨s, _, rfl⟩ := List.mem_map.1 hy
        rfl
      · rw [cellsT_len, cellsT_flat]
        refine ⟨by simp, .inr ⟨w.heap.size, _, _, ?_, hbase, heap_alloc_new w.drew _, ?_, hcm2, ?_, ?_⟩⟩
        · simp
        · simpa using hge
        · simp only [Array.size_append, List.size_toArray, size_zeroCells, List.length_nil, List.length_map, Nat.mul_one, Nat.zero_add]
          have e1 : (Value.string ByteArray.empty).cells.size = 1 := rfl
          rw [e1, Nat.mul_one]
          rw [Nat.zero_add] at hge
          omega
        · simp
  · obtain ⟨v', w', hr, q2, q3, q4⟩ := Rk.run_append_rowk (P := Try.prog) w base 54 ty 9 1 16 _ Try.underlying54 infoStr rfl (by decide) (by decide) v x (cellsT xs) (cellsT ys) hv hy (cellsT_one ys) (by rw [cellsT_len, cellsT_len]; exact hn) hbase
    refine ⟨v', w', hr, .inr (by rw [cellsT_app]; exact q2), (Below.refl base w).grown q3 hbase (fun g e => (hv.block g e).1), ?_⟩
    obtain ⟨a, c, e⟩ := q2.is_slice
    exact ⟨a, c, by rw [e, List.length_append, cellsT_len, cellsT_len]⟩
theorem step_append0 {w : World} {ops : Array Oper} {o : Oper} {a : Act} {K : Act → World → Prop} {Q : Exit → Act → World → Prop} {E : Prop} (hgd : o.guard = none) (s x : Operand)
    (ho : o.op = .call { callee := .builtin .append, args := #[s, x], argTypes := #[54, 54] }) (base : Nat) (v u : Value) (xs ys : List ByteArray) (hs : a.eval s = v) (hx : a.eval x = u) (hv : Row0 base w v xs) (hy : Rk.RowK 1 w u (cellsT ys)) (hn : xs.length + ys.length ≤ 100000) (hbase : base ≤ w.heap.size)
    (h : ∀ v' w', Row0 base w' v' (xs ++ ys) → Below base w w' → (∃ a c, v' = .slice a (xs.length + ys.length) c) → K (a.put o.dst v') w') : if Region.wanted o (yielded ops a.tmps) = true then Oper.wp Try.prog o a w K Q else E := by
  have hw : Region.wanted o (yielded ops a.tmps) = true := by simp [Region.wanted, hgd]
  rw [if_pos hw]
  obtain ⟨v', w', hr, h2, h3, h4⟩ := run_append0 w base o.type v u xs ys hv hy hn hbase
  unfold Oper.wp execOp
  simp only [ho, resolve, invoke, builtin, Sem.run_bind, Sem.run_pure, Result.andThen_ok, List.map_toArray, List.map_cons, List.map_nil, hs, hx, hr]
  exact h _ _ h2 h3 h4
section
variable {base R M1 M2 c : Nat} {w w9 : World} {f1 f2 : Lit → Option Value} {u : Nat → Value} {D : DK}
/-- Behind the store into the map of what was laid. -/
theorem Rm.lay (h : Rm base w R M1 M2 c f1 f2 u D) (hc : c ≤ 10000000) {k : Nat} (hk : k < D.n) (hb : Below w.heap.size w w9) (v9 : Value) (X : List ByteArray) (hX : X ≠ []) (o : Row0 w.heap.size w9 v9 X) (x : ByteArray) (hX2 : X = (D.P k).l ++ [x]) :
    ∃ w10, (Instr.mapUpdate 40 (.map (some M2)) (.int .i64 (k : Nat)) v9).run Try.prog w9 = .ok () w10 ∧ Hid (Rm base w10 R M1 M2 (c + 1) f1 (putO f2 (keyL k) v9) (upd u k v9) ⟨D.n, upd D.P k ⟨(D.P k).f, (D.P k).l ++ [x]⟩, D.off, D.left⟩ ∧ Chg (Three R M1 M2) w w10 ∧
      ∀ g, RFt R M1 M2 (upd u k v9) D.n g → RFt R M1 M2 u D.n g ∨ w.heap.size ≤ g) := by
  have h9 := h.below hb
  have ho : Rk.OwnK 9 1 w.heap.size w9 v9 (cellsT X) := by
    rcases o with ⟨e, _⟩ | o
    · exact absurd e hX
    · exact o
  obtain ⟨w10, hr, q1, q2, q3⟩ := h9.m2.put klawI Try.underlying40 (by unfold maxLen; omega) v9 (keyI' hk h.n2) (isKeyI _)
  have hs : ∀ g, g < w9.heap.size → g ≠ M2 → w10.heap[g]? = w9.heap[g]? := fun g hg hne => q2.block g hg (fun e => hne (by injection e))
  have hlt := h9.lt
  have hM : M2 < w.heap.size := h.m2.lt
  have hg9 : ∀ b, v9.ownBlock = some b → w.heap.size ≤ b ∧ b < w9.heap.size := ho.block
  refine ⟨w10, hr, ⟨h.hR, h.h1, h.h2, h.ne, ?_, ?_, q1, fun i hi => by
    by_cases e : i = k
    · subst e; simp only [upd_same]; exact h.k1 i hi
    · simp only [upd_other _ _ e]; exact h.k1 i hi, ?_, ?_, h.n1, h.n2, h.left1, h.left2⟩, ?_, ?_⟩
  · rw [hs R (hlt R (.inl rfl)).2 (h.neR.2)]; exact h9.blk
  · exact (h9.m1.same (hs M1 (hlt M1 (.inr (.inl rfl))).2 h.ne)).mono (Nat.le_succ c)
  · intro i hi
    by_cases e : i = k
    · subst e
      rw [putO_same, upd_same]
      simp only [upd_same]
      refine ⟨rfl, ?_⟩
      rw [← hX2]
      exact rowk_same ho.row (Nat.le_of_eq q3.symm) (fun b eb => hs b (hg9 b eb).2 (by have := (hg9 b eb).1; omega))
    · rw [putO_other _ _ (fun q => e (keyL_inj q)), upd_other _ _ e]
      simp only [upd_other _ _ e]
      have := h9.k2 i hi
      refine ⟨this.1, rowk_same this.2 (Nat.le_of_eq q3.symm) (fun b eb => hs b (h9.hu i hi b eb).2.2.2.2 (h9.hu i hi b eb).2.2.1)⟩
  · intro i hi b eb
    rw [q3]
    by_cases e : i = k
    · subst e
      rw [upd_same] at eb
      have h1 := hg9 b eb
      have := (h.lt R (.inl rfl)).2
      have := h.m1.lt
      have := h.hR
      have := (h.lt R (.inl rfl)).1
      exact ⟨by omega, by omega, by omega, by omega, h1.2⟩
    · rw [upd_other _ _ e] at eb
      exact h9.hu i hi b eb
  · exact (Chg.of_below hb).trans (F' := fun g => g = M2) ⟨q2.os, q2.tape, q2.output, q2.size, fun g hg hn => hs g hg hn⟩ (fun g e => .inl (.inr (.inr e)))
  · rintro g (e | e | e | ⟨i, hi, e⟩)
    · exact .inl (.inl e)
    · exact .inl (.inr (.inl e))
    · exact .inl (.inr (.inr (.inl e)))
    · by_cases ei : i = k
      · subst ei
        rw [upd_same] at e
        exact .inr (hg9 g e).1
      · rw [upd_other _ _ ei] at e
        exact .inl (.inr (.inr (.inr ⟨i, hi, e⟩)))
end
end Go.Proofs.Ytegnpkolmnmeiaa.Plt
