/- Appends of ints onto a row of the call's own, as steps of a walk. -/
import Derived.Test.YtengmiolcfgdiaaDoorOwn
import Derived.WalkKit
import Derived.Laws.AppendOwnNone
set_option linter.unusedVariables false
namespace Go.Proofs.YtengmiolcfgdiaaDoor.Rig
open Go.RowKit Go.Lib Go.Proofs.YtengmiolcfgdiaaDoor.Rt

theorem infoI : (Tryd.prog.info? 3).map (fun i => (i.zero, i.size, i.bytes)) = some (some (.int .i64 0), 1, 8) := by kernel_rfl

/-- Nothing is appended of a nil slice, whatever its capacity reads as. -/
theorem run_append_nil {P : Program} (w : World) (base : Nat) (t ty e : TypeId) (i : TypeInfo) (size : Nat) (ht : P.underlying t = some (.slice e)) (hi : P.info? e = some i)
    (v : Value) (n : Nat) (xs : List Value) (hown : w.ownsRow base e size v n xs) (c : Nat) : (Builtin.append_ #[t, t] ty #[v, .slice none 0 c]).run P w = .ok v w := by
  rcases hown.2 with ⟨rfl, rfl⟩ | ⟨g, cap, cur, rfl, _, _, hnc, _⟩
  · simp [Builtin.append_, run_underlying ht, sizeOf, typeInfo, hi, Builtin.lenOf, Builtin.firstCells]
  · simp [Builtin.append_, run_underlying ht, sizeOf, typeInfo, hi, Builtin.lenOf, Builtin.firstCells, hnc, storeCells]

set_option maxRecDepth 100000 in
/-- An append of ints, whatever slice they come from, onto a row of the call's own. -/
theorem wpList_append_ints {w : World} {ops : Array Oper} {rest : List Oper} {o : Oper} {a : Act} {Q : Exit → Act → World → Prop} (hgd : o.guard = none) (s x : Operand)
    (ho : o.op = .call { callee := .builtin .append, args := #[s, x], argTypes := #[85, 85] }) (base : Nat) (v : Value) (n : Nat) (ys : List Value) (hs : a.eval s = v) (hown : w.ownsRow base 3 1 v n ys)
    (u : Value) (xs : List Int) (hx : a.eval x = u) (hI : Ints w u xs) (hlen : n + xs.length ≤ 100000) (hbase : base ≤ w.heap.size)
    (h : ∀ v' w', w'.ownsRow base 3 1 v' (n + xs.length) (ys ++ ints xs) → w.grownBy w' v.ownBlock → wpList Tryd.prog ops Q rest (a.put o.dst v') w') : wpList Tryd.prog ops Q (o :: rest) a w := by
  obtain ⟨i0, hi, hz0, hz1, hz2⟩ := info_parts infoI
  obtain ⟨_, ad, cap, rfl, h1, h2, h3⟩ := hI
  cases ad with
  | none =>
    have he : xs = [] := by
      rcases h3 with rfl | ⟨b, off, e, _⟩
      · rfl
      · cases e
    subst he
    refine wpList_plain hgd fun K hK => ?_
    have hrun := run_append_nil (P := Tryd.prog) w base 85 o.type 3 i0 1 Tryd.underlying85 hi v n ys hown cap
    unfold Oper.wp
    have hx' : a.eval x = .slice none 0 cap := hx
    simp [execOp, ho, resolve, invoke, builtin, hs, hx', hrun, Result.andThen]
    refine hK _ _ (h v w ?_ (World.grownBy.refl w _))
    rw [show ys ++ ints [] = ys from List.append_nil _]
    exact hown
  | some ad =>
    refine wpList_append_own w hgd s x 85 ho base 3 i0 (.int .i64 0) 1 8 Tryd.underlying85 hi hz0 hz1 hz2 rfl (by decide) v n ys hs hown ad xs.length cap (ints xs) hx (by rw [ints_len, Nat.mul_one]) ?_ ints_one (by unfold maxLen; omega) (by omega) hbase ?_
    · intro j z hj
      rcases h3 with rfl | ⟨b, off, e, _, hc⟩
      · simp [ints] at hj
      · injection e with e
        subst e
        have hj' : j < xs.length := by rw [← ints_len xs]; exact (List.getElem?_eq_some_iff.1 hj).1
        rw [ints_get hj'] at hj
        have hadd : (⟨b, off, none⟩ : Addr).add j = ⟨b, off + j, none⟩ := by unfold Addr.add; split <;> simp_all
        rw [hadd, hc j hj']
        exact hj
    · intro v' w' h1 h2 _
      exact h v' w' h1 h2

/-- An append of one int that lies in a block of its own. -/
theorem wpList_append_one {w : World} {ops : Array Oper} {rest : List Oper} {o : Oper} {a : Act} {Q : Exit → Act → World → Prop} (hgd : o.guard = none) (s x : Operand)
    (ho : o.op = .call { callee := .builtin .append, args := #[s, x], argTypes := #[85, 85] }) (base : Nat) (v : Value) (ys : List Int) (hs : a.eval s = v) (hown : OwnI base w v ys)
    (b : Nat) (y : Int) (hx : a.eval x = .slice (some ⟨b, 0, none⟩) 1 1) (hb : w.heap[b]? = some (.cells #[.int .i64 y] 3 (0, 0))) (hy : i64 y) (hlen : ys.length ≤ 10000) (hbase : base ≤ w.heap.size)
    (h : ∀ v' w', OwnI base w' v' (ys ++ [y]) → w.grownBy w' v.ownBlock → wpList Tryd.prog ops Q rest (a.put o.dst v') w') : wpList Tryd.prog ops Q (o :: rest) a w := by
  have hI : Ints w (.slice (some ⟨b, 0, none⟩) 1 1) [y] := by
    refine ⟨fun x hx => by simp at hx; subst hx; exact hy, _, 1, rfl, Nat.le_refl _, by unfold maxLen; omega, .inr ⟨b, 0, rfl, ?_, fun j hj => ?_⟩⟩
    · rcases Nat.lt_or_ge b w.heap.size with h | h
      · exact h
      · rw [Array.getElem?_eq_none h] at hb; cases hb
    · obtain rfl : j = 0 := by simp at hj; omega
      rw [cell_of_row w b _ _ _ (0, 0) hb]
      rfl
  refine wpList_append_ints hgd s x ho base v ys.length (ints ys) hs hown.1 _ [y] hx hI (by simp; omega) hbase ?_
  intro v' w' h1 h2
  refine h v' w' ⟨?_, fun z hz => ?_⟩ h2
  · rw [ints_app, List.length_append]
    exact h1
  · rw [List.mem_append, List.mem_singleton] at hz
    rcases hz with hz | rfl
    · exact hown.2 z hz
    · exact hy

end Go.Proofs.YtengmiolcfgdiaaDoor.Rig
