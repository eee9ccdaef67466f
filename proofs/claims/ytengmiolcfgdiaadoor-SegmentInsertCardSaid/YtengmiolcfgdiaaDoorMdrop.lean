/- Contract: Drop of the plain text. -/
import Derived.Test.YtengmiolcfgdiaaDoorMpart
import Derived.Test.YtengmiolcfgdiaaDoorMof
import Derived.Deep.RegionLaw
set_option linter.unusedVariables false
namespace Go.Proofs.YtengmiolcfgdiaaDoor.Rig
open Go.RowKit Go.Lib Go.Proofs.YtengmiolcfgdiaaDoor.Rt

def dropS (S : List Sp) (mk : Int) : List Sp := S.filter fun s => decide (s.m ≠ mk)
def dropT (T : List St) (mk : Int) : List St := T.filter fun s => decide (s.m ≠ mk)
theorem dropS_take {S : List Sp} {k : Nat} (mk : Int) (h : k < S.length) : dropS (S.take (k + 1)) mk = dropS (S.take k) mk ++ (if (sp S k).m = mk then [] else [sp S k]) := by
  unfold dropS
  rw [List.take_succ_eq_append_getElem h, List.filter_append, sp_get h]
  by_cases e : S[k].m = mk
  · rw [if_pos e]; simp [e]
  · rw [if_neg e]; simp [e]
theorem dropT_take {T : List St} {k : Nat} (mk : Int) (h : k < T.length) : dropT (T.take (k + 1)) mk = dropT (T.take k) mk ++ (if (st T k).m = mk then [] else [st T k]) := by
  unfold dropT
  rw [List.take_succ_eq_append_getElem h, List.filter_append, st_get h]
  by_cases e : T[k].m = mk
  · rw [if_pos e]; simp [e]
  · rw [if_neg e]; simp [e]
theorem dropS_len (S : List Sp) (mk : Int) (k : Nat) : (dropS (S.take k) mk).length ≤ k := by
  unfold dropS
  have h1 := List.length_filter_le (fun s : Sp => decide (s.m ≠ mk)) (S.take k)
  have h2 := List.length_take_le k S
  omega
theorem dropT_len (T : List St) (mk : Int) (k : Nat) : (dropT (T.take k) mk).length ≤ k := by
  unfold dropT
  have h1 := List.length_filter_le (fun s : St => decide (s.m ≠ mk)) (T.take k)
  have h2 := List.length_take_le k T
  omega
/-- The append of one record, as a step of a region that draws. -/
theorem step_append_rec {w : World} {ops : Array Oper} {o : Oper} {a : Act} {K : Act → World → Prop} {Q : Exit → Act → World → Prop} {E : Prop} (hgd : o.guard = none) (s x : Operand) (tS e : TypeId) (k bytes : Nat) (z : Value)
    (ht : Tryd.prog.underlying tS = some (.slice e)) (hinfo : (Tryd.prog.info? e).map (fun i => (i.zero, i.size, i.bytes)) = some (some z, k, bytes)) (hzs : z.cells.size = k) (hk : 0 < k) (hby : bytes ≤ 1000)
    (ho : o.op = .call { callee := .builtin .append, args := #[s, x], argTypes := #[tS, tS] }) (base : Nat) (v : Value) (n : Nat) (zs : List Int) (hs : a.eval s = v) (hown : OwnF e base w v n k zs)
    (b : Nat) (ys : List Int) (hx : a.eval x = .slice (some ⟨b, 0, none⟩) 1 1) (hb : w.heap[b]? = some (.cells (ints ys).toArray e (0, 0))) (hyl : ys.length = k) (hy : ∀ y ∈ ys, i64 y) (hn : n ≤ 100000) (hbase : base ≤ w.heap.size)
    (h : ∀ v' w', OwnF e base w' v' (n + 1) k (zs ++ ys) → w.grownBy w' v.ownBlock → K (a.put o.dst v') w') : if Region.wanted o (yielded ops a.tmps) = true then Oper.wp Tryd.prog o a w K Q else E := by
  have hw : Region.wanted o (yielded ops a.tmps) = true := by simp [Region.wanted, hgd]
  rw [if_pos hw]
  obtain ⟨i0, hi, hz0, hz1, hz2⟩ := info_parts hinfo
  have hbig : (n + 1) * bytes ≤ 140737488355328 := Nat.le_trans (Nat.mul_le_mul (show n + 1 ≤ 100001 by omega) hby) (by decide)
  refine wp_append_own w s x tS ho base e i0 z k bytes ht hi hz0 hz1 hz2 hzs hk v n (ints zs) hs hown.1 ⟨b, 0, none⟩ 1 1 (ints ys) hx (by rw [ints_len]; omega) ?_ ints_one (by unfold maxLen; omega) hbig hbase ?_
  · intro j u hj
    have hadd : (⟨b, 0, none⟩ : Addr).add j = ⟨b, j, none⟩ := by unfold Addr.add; split <;> simp_all
    rw [hadd, cell_of_row w b j _ _ (0, 0) hb]
    simpa using hj
  · intro v' w' h1 h2 _
    refine h v' w' ⟨?_, fun q hq => ?_⟩ h2
    · rw [ints_app]
      exact h1
    · rw [List.mem_append] at hq
      rcases hq with hq | hq
      · exact hown.2 q hq
      · exact hy q hq
theorem grown_setCell {w : World} (B i : Nat) (u : Value) : w.grownBy (w.setCell ⟨B, i, none⟩ u) (some B) := ⟨rfl, rfl, rfl, by simp, fun q hq hne => Below.heap_setCell _ _ _ _ (fun e => hne (by rw [e]))⟩

end Go.Proofs.YtengmiolcfgdiaaDoor.Rig
