/- Memory: rows of unlike types lie apart; a record of two rows, in a block of its own, as it grows. -/
import Derived.Test.YtengmiolcfgdiaaDoorMdrop
import Derived.Maps.AppendAt
set_option linter.unusedVariables false
namespace Go.Proofs.YtengmiolcfgdiaaDoor.Rig
open Go.RowKit Go.Lib Go.Proofs.YtengmiolcfgdiaaDoor.Rt

theorem own_ne {T T' : TypeId} {b b' n k n' k' : Nat} {w : World} {v v' : Value} {zs zs' : List Int} (h1 : OwnF T b w v n k zs) (h2 : OwnF T' b' w v' n' k' zs') (hT : T ≠ T') : v.ownBlock = none ∨ v.ownBlock ≠ v'.ownBlock := by
  rcases h1.1.2 with ⟨rfl, _⟩ | ⟨g, cap, cur, rfl, _, hg, _⟩
  · exact .inl rfl
  · refine .inr fun e => ?_
    rcases h2.1.2 with ⟨rfl, _⟩ | ⟨g', cap', cur', rfl, _, hg', _⟩
    · cases e
    · have e' : g = g' := by simpa [Value.ownBlock] using e
      subst e'
      rw [hg] at hg'
      injection hg' with hg'
      injection hg' with _ q
      exact hT q
theorem own_ne_block {T T' : TypeId} {b n k B : Nat} {w : World} {v : Value} {zs : List Int} {cs : Array Value} (h1 : OwnF T b w v n k zs) (hB : w.heap[B]? = some (.cells cs T' (0, 0))) (hT : T ≠ T') : v.ownBlock ≠ some B := fun e => by
  rcases h1.1.2 with ⟨rfl, _⟩ | ⟨g, cap, cur, rfl, _, hg, _⟩
  · cases e
  · have e' : g = B := by simpa [Value.ownBlock] using e
    subst e'
    rw [hg] at hB
    injection hB with hB
    injection hB with _ q
    exact hT q
/-- Their rows, if they have any, are two. -/
def Aprt (v u : Value) : Prop := ∀ g, v.ownBlock = some g → u.ownBlock ≠ some g
theorem Aprt.ne {v u : Value} (h : Aprt v u) : v.ownBlock = none ∨ v.ownBlock ≠ u.ownBlock := by
  cases hv : v.ownBlock with
  | none => exact .inl rfl
  | some g => exact .inr fun e => h g hv e.symm
theorem Aprt.symm {v u : Value} (h : Aprt v u) : Aprt u v := fun g h1 h2 => h g h2 h1
theorem Aprt.nil_ (u : Value) : Aprt (.slice none 0 0) u := fun g h => by cases h
theorem Aprt.moved {v v' u : Value} {N : Nat} (h : Aprt v u) (hat : v'.ownBlock = v.ownBlock ∨ v'.ownBlock = some N) (hu : ∀ g, u.ownBlock = some g → g < N) : Aprt v' u := fun g h1 h2 => by
  rcases hat with e | e
  · exact h g (e.symm.trans h1) h2
  · have := hu g h2
    rw [e] at h1
    injection h1 with h1
    omega
theorem Aprt.of_own {T T' : TypeId} {b b' n k n' k' : Nat} {w : World} {v v' : Value} {zs zs' : List Int} (h1 : OwnF T b w v n k zs) (h2 : OwnF T' b' w v' n' k' zs') (hT : T ≠ T') : Aprt v v' := fun g e1 e2 => by
  rcases own_ne h1 h2 hT with e | e
  · rw [e] at e1; cases e1
  · exact e (e1.trans e2.symm)
theorem Aprt.len {g : Option Addr} {n n' c c' : Nat} {u : Value} (h : Aprt (.slice g n c) u) : Aprt (.slice g n' c') u := fun q e => h q (by cases g <;> exact e)

/-- A record of spans and sites in block B, both rows the call's own. -/
structure Rec (ty : TypeId) (B b : Nat) (w : World) (v1 v2 : Value) (S : List Sp) (T : List St) : Prop where
  blk : w.heap[B]? = some (.cells #[v1, v2] ty (0, 0))
  fst : OwnSp b w v1 S
  snd : OwnSt b w v2 T
theorem Rec.size {ty : TypeId} {B b : Nat} {w : World} {v1 v2 : Value} {S : List Sp} {T : List St} (h : Rec ty B b w v1 v2 S T) : B < w.heap.size := (Array.getElem?_eq_some_iff.1 h.blk).1
theorem Rec.grown {ty : TypeId} {B b : Nat} {w w' : World} {v1 v2 : Value} {S : List Sp} {T : List St} {row : Option Nat} (h : Rec ty B b w v1 v2 S T) (hg : w.grownBy w' row) (hB : row ≠ some B) (h1 : v1.ownBlock = none ∨ v1.ownBlock ≠ row) (h2 : v2.ownBlock = none ∨ v2.ownBlock ≠ row) : Rec ty B b w' v1 v2 S T :=
  ⟨by rw [hg.block _ h.size (fun e => hB e.symm)]; exact h.blk, OwnF.kept h.fst hg h1, OwnF.kept h.snd hg h2⟩
theorem Rec.below {ty : TypeId} {B b : Nat} {w w' : World} {v1 v2 : Value} {S : List Sp} {T : List St} (h : Rec ty B b w v1 v2 S T) (hb : Below w.heap.size w w') : Rec ty B b w' v1 v2 S T :=
  h.grown (grown_below hb none) (by simp) (by cases hv : v1.ownBlock <;> simp) (by cases hv : v2.ownBlock <;> simp)
theorem Rec.alloc {ty : TypeId} {B b : Nat} {w : World} {v1 v2 : Value} {S : List Sp} {T : List St} (h : Rec ty B b w v1 v2 S T) (o : Obj) : Rec ty B b (w.alloc o) v1 v2 S T :=
  h.below ((Below.refl _ w).alloc (Nat.le_refl _) o)
theorem Rec.cell0 {ty : TypeId} {B b : Nat} {w : World} {v1 v2 : Value} {S : List Sp} {T : List St} (h : Rec ty B b w v1 v2 S T) : w.cell? ⟨B, 0, none⟩ = some v1 := by rw [cell_of_row _ _ _ _ _ _ h.blk]; rfl
theorem Rec.cell1 {ty : TypeId} {B b : Nat} {w : World} {v1 v2 : Value} {S : List Sp} {T : List St} (h : Rec ty B b w v1 v2 S T) : w.cell? ⟨B, 1, none⟩ = some v2 := by rw [cell_of_row _ _ _ _ _ _ h.blk]; rfl
theorem Rec.frozen {ty : TypeId} {B b : Nat} {w : World} {v1 v2 : Value} {S : List Sp} {T : List St} (h : Rec ty B b w v1 v2 S T) (j : Nat) : w.frozen? ⟨B, j, none⟩ = false := block_frozen h.blk
theorem set_ne {w : World} {B i : Nat} {u : Value} {v : Value} (h : v.ownBlock ≠ some B) : v.ownBlock = none ∨ v.ownBlock ≠ (some B : Option Nat) := .inr h
/-- What is in the block is another thing: the row that grew, put into its cell. -/
theorem Rec.putFst {ty : TypeId} {B b : Nat} {W w6 : World} {v1 v2 v6 : Value} {S S' : List Sp} {T : List St} (h : Rec ty B b W v1 v2 S T) (h26 : 104 ≠ ty) (h41 : 120 ≠ ty) (g5 : W.grownBy w6 v1.ownBlock) (K6 : OwnSp b w6 v6 S') :
    w6.heap[B]? = some (.cells #[v1, v2] ty (0, 0)) ∧ Rec ty B b (w6.setCell ⟨B, 0, none⟩ v6) v6 v2 S' T := by
  have hB : w6.heap[B]? = some (.cells #[v1, v2] ty (0, 0)) := by
    rw [g5.block _ h.size (fun e => own_ne_block h.fst h.blk h26 e.symm)]; exact h.blk
  have hT : OwnSt b w6 v2 T := OwnF.kept h.snd g5 (own_ne h.snd h.fst (by decide))
  refine ⟨hB, ?_, ?_, ?_⟩
  · rw [heap_setCell_same _ _ _ _ _ _ hB]; rfl
  · exact OwnF.kept K6 (grown_setCell _ _ _) (.inr (own_ne_block K6 hB h26))
  · exact OwnF.kept hT (grown_setCell _ _ _) (.inr (own_ne_block hT hB h41))
theorem Rec.putSnd {ty : TypeId} {B b : Nat} {W w6 : World} {v1 v2 v6 : Value} {S : List Sp} {T T' : List St} (h : Rec ty B b W v1 v2 S T) (h26 : 104 ≠ ty) (h41 : 120 ≠ ty) (g5 : W.grownBy w6 v2.ownBlock) (K6 : OwnSt b w6 v6 T') :
    w6.heap[B]? = some (.cells #[v1, v2] ty (0, 0)) ∧ Rec ty B b (w6.setCell ⟨B, 1, none⟩ v6) v1 v6 S T' := by
  have hB : w6.heap[B]? = some (.cells #[v1, v2] ty (0, 0)) := by
    rw [g5.block _ h.size (fun e => own_ne_block h.snd h.blk h41 e.symm)]; exact h.blk
  have hS : OwnSp b w6 v1 S := OwnF.kept h.fst g5 (own_ne h.fst h.snd (by decide))
  refine ⟨hB, ?_, ?_, ?_⟩
  · rw [heap_setCell_same _ _ _ _ _ _ hB]; rfl
  · exact OwnF.kept hS (grown_setCell _ _ _) (.inr (own_ne_block hS hB h26))
  · exact OwnF.kept K6 (grown_setCell _ _ _) (.inr (own_ne_block K6 hB h41))
/-- .. and another record stays. -/
theorem Rec.other {ty : TypeId} {B B' b i : Nat} {W w6 : World} {u1 u2 v6 : Value} {S : List Sp} {T : List St} {cs : Array Value} {row : Option Nat} (h : Rec ty B' b W u1 u2 S T) (h26 : 104 ≠ ty) (h41 : 120 ≠ ty) (g5 : W.grownBy w6 row) (hB : w6.heap[B]? = some (.cells cs ty (0, 0))) (hne : B' ≠ B)
    (hr : row ≠ some B') (h1 : u1.ownBlock = none ∨ u1.ownBlock ≠ row) (h2 : u2.ownBlock = none ∨ u2.ownBlock ≠ row) : Rec ty B' b (w6.setCell ⟨B, i, none⟩ v6) u1 u2 S T := by
  have h6 := h.grown g5 hr h1 h2
  refine h6.grown (grown_setCell _ _ _) (fun e => hne (by injection e with e; exact e.symm)) (.inr (own_ne_block h6.fst hB h26)) (.inr (own_ne_block h6.snd hB h41))

/-- An append of one record of ints that lies in a block of its own; where the row lies then. -/
theorem wpList_append_at {w : World} {ops : Array Oper} {rest : List Oper} {o : Oper} {a : Act} {Q : Exit → Act → World → Prop} (hgd : o.guard = none) (s x : Operand) (tS e : TypeId) (k bytes : Nat) (z : Value)
    (ht : Tryd.prog.underlying tS = some (.slice e)) (hinfo : (Tryd.prog.info? e).map (fun i => (i.zero, i.size, i.bytes)) = some (some z, k, bytes)) (hzs : z.cells.size = k) (hk : 0 < k) (hby : bytes ≤ 1000)
    (ho : o.op = .call { callee := .builtin .append, args := #[s, x], argTypes := #[tS, tS] }) (base : Nat) (v : Value) (n : Nat) (zs : List Int) (hs : a.eval s = v) (hown : OwnF e base w v n k zs)
    (b : Nat) (ys : List Int) (hx : a.eval x = .slice (some ⟨b, 0, none⟩) 1 1) (hb : w.heap[b]? = some (.cells (ints ys).toArray e (0, 0))) (hyl : ys.length = k) (hy : ∀ y ∈ ys, i64 y) (hn : n ≤ 100000) (hbase : base ≤ w.heap.size)
    (h : ∀ v' w', OwnF e base w' v' (n + 1) k (zs ++ ys) → w.grownBy w' v.ownBlock → (v'.ownBlock = v.ownBlock ∨ v'.ownBlock = some w.heap.size) → wpList Tryd.prog ops Q rest (a.put o.dst v') w') : wpList Tryd.prog ops Q (o :: rest) a w := by
  obtain ⟨i0, hi, hz0, hz1, hz2⟩ := info_parts hinfo
  have hbig : (n + 1) * bytes ≤ 140737488355328 := Nat.le_trans (Nat.mul_le_mul (show n + 1 ≤ 100001 by omega) hby) (by decide)
  refine wpList_plain hgd fun K hK => ?_
  obtain ⟨v', w', hr, h2, h3, h4, h5⟩ := run_append_own_at (P := Tryd.prog) w base tS o.type e i0 z k bytes ht hi hz0 hz1 hz2 hzs hk v n (ints zs) hown.1 ⟨b, 0, none⟩ 1 1 (ints ys) (by rw [ints_len]; omega) (by
    intro j u hj
    have hadd : (⟨b, 0, none⟩ : Addr).add j = ⟨b, j, none⟩ := by unfold Addr.add; split <;> simp_all
    rw [hadd, cell_of_row w b j _ _ (0, 0) hb]
    simpa using hj) ints_one (by unfold maxLen; omega) hbig hbase
  unfold Oper.wp execOp
  simp only [ho, resolve, invoke, builtin, Sem.run_bind, Sem.run_pure, Result.andThen_ok, List.map_toArray, List.map_cons, List.map_nil, hs, hx, hr]
  refine hK _ _ (h v' w' ⟨?_, fun q hq => ?_⟩ h3 h5)
  · rw [ints_app]
    exact h2
  · rw [List.mem_append] at hq
    rcases hq with hq | hq
    · exact hown.2 q hq
    · exact hy q hq
theorem good3 {m f t : Int} (h : i64 m) (h1 : i64 f) (h2 : i64 t) : ∀ q ∈ [m, f, t], i64 q := fun q hq => by
  simp at hq
  rcases hq with rfl | rfl | rfl <;> assumption
theorem good2 {m f : Int} (h : i64 m) (h1 : i64 f) : ∀ q ∈ [m, f], i64 q := fun q hq => by
  simp at hq
  rcases hq with rfl | rfl <;> assumption
end Go.Proofs.YtengmiolcfgdiaaDoor.Rig
