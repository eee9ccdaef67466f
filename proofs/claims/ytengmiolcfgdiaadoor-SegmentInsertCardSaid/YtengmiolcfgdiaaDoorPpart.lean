/- Contract: Part of the program. -/
import Derived.Test.YtengmiolcfgdiaaDoorMs
import Derived.Test.YtengmiolcfgdiaaDoorPk
import Derived.Deep.DeepCutAuto
import Derived.RegionTactic
import Derived.ChangeAlike
import Derived.BigRegion
set_option linter.unusedVariables false
namespace Go.Proofs.YtengmiolcfgdiaaDoor.Rig
open Go.RowKit Go.Lib Go.Proofs.YtengmiolcfgdiaaDoor.Rt

theorem pA_take {S : List Sp} {k : Nat} (p : Int) (h : k < S.length) : pA p (S.take (k + 1)) = pA p (S.take k) ++ pA1 p (sp S k) := by
  unfold pA
  rw [List.take_succ_eq_append_getElem h, List.flatMap_append, sp_get h]
  simp
theorem pB_take {S : List Sp} {k : Nat} (p : Int) (h : k < S.length) : pB p (S.take (k + 1)) = pB p (S.take k) ++ pB1 p (sp S k) := by
  unfold pB
  rw [List.take_succ_eq_append_getElem h, List.flatMap_append, sp_get h]
  simp
theorem pA_len (p : Int) : ∀ S : List Sp, (pA p S).length ≤ S.length
  | [] => Nat.le_refl _
  | s :: S => by
    have := pA_len p S
    rw [pA_cons, List.length_append, List.length_cons]
    unfold pA1
    split <;> simp <;> omega
theorem pB_len (p : Int) : ∀ S : List Sp, (pB p S).length ≤ S.length
  | [] => Nat.le_refl _
  | s :: S => by
    have := pB_len p S
    rw [pB_cons, List.length_append, List.length_cons]
    unfold pB1
    split <;> simp <;> omega
theorem sA_take {T : List St} {k : Nat} (p : Int) (h : k < T.length) : sA p (T.take (k + 1)) = sA p (T.take k) ++ (if (st T k).a ≤ p then [st T k] else []) := by
  unfold sA
  rw [List.take_succ_eq_append_getElem h, List.filter_append, st_get h]
  by_cases e : T[k].a ≤ p
  · rw [if_pos e]; simp [e]
  · rw [if_neg e]; simp [e]
theorem sB_take {T : List St} {k : Nat} (p : Int) (h : k < T.length) : sB p (T.take (k + 1)) = sB p (T.take k) ++ (if (st T k).a ≤ p then [] else [⟨(st T k).m, (st T k).a - p⟩]) := by
  unfold sB
  rw [List.take_succ_eq_append_getElem h, List.filter_append, List.map_append, st_get h]
  by_cases e : T[k].a ≤ p
  · rw [if_pos e]; simp [e]
  · rw [if_neg e]; simp [e, sB1]
theorem sA_len (p : Int) (T : List St) : (sA p T).length ≤ T.length := List.length_filter_le _ _
theorem sB_len (p : Int) (T : List St) : (sB p T).length ≤ T.length := by
  unfold sB
  rw [List.length_map]
  exact List.length_filter_le _ _
theorem OwnF.mono {T : TypeId} {base base' : Nat} {w : World} {v : Value} {n k : Nat} {zs : List Int} (h : OwnF T base w v n k zs) (hb : base' ≤ base) : OwnF T base' w v n k zs := ⟨owns_mono h.1 hb, h.2⟩
theorem own_set {T ty : TypeId} {base B i : Nat} {w : World} {v u : Value} {n k : Nat} {zs : List Int} {cs : Array Value} (h : OwnF T base w v n k zs) (hB : w.heap[B]? = some (.cells cs ty (0, 0))) (hT : T ≠ ty) : OwnF T base (w.setCell ⟨B, i, none⟩ u) v n k zs :=
  OwnF.kept h (grown_setCell _ _ _) (.inr (own_ne_block h hB hT))
theorem set_block {B i : Nat} {w : World} {u : Value} {cs : Array Value} {ty : TypeId} (hB : w.heap[B]? = some (.cells cs ty (0, 0))) : (w.setCell ⟨B, i, none⟩ u).heap[B]? = some (.cells (cs.setIfInBounds i u) ty (0, 0)) := by
  rw [heap_setCell_same _ _ _ _ _ _ hB]
/-- It hands two marks back, rows of the call's own, apart. -/
def GivesPt (w : World) (S : List Sp) (T : List St) (S' : List Sp) (T' : List St) (e : Ending) (w' : World) : Prop := ∃ v1 v2 v3 v4, e = .returned (.tuple #[.agg #[v1, v2], .agg #[v3, v4]]) ∧ OwnSp w.heap.size w' v1 S ∧ OwnSt w.heap.size w' v2 T ∧ OwnSp w.heap.size w' v3 S' ∧ OwnSt w.heap.size w' v4 T' ∧ Aprt v1 v3 ∧ Aprt v2 v4 ∧ Below w.heap.size w w'
theorem give_end3 {w W : World} {base : Nat} {S S' : List Sp} {L L' : List St} {B B' : Nat} {ty : TypeId} {v1 v2 v3 v4 : Value} (hB : w.heap.size ≤ B) (hB' : w.heap.size ≤ B') (hne : B' ≠ B) (hbase : w.heap.size ≤ base) (h26 : 104 ≠ ty) (h41 : 120 ≠ ty)
    (r1 : W.heap[B]? = some (.cells #[.slice none 0 0, .slice none 0 0] ty (0, 0))) (r2 : W.heap[B']? = some (.cells #[.slice none 0 0, .slice none 0 0] ty (0, 0))) (hS : OwnSp base W v1 S) (hT : OwnSt base W v2 L) (hS' : OwnSp base W v3 S') (hT' : OwnSt base W v4 L') (ha : Aprt v1 v3) (ha' : Aprt v2 v4) (hb : Below w.heap.size w W) :
    GivesPt w S L S' L' (.returned (.tuple #[.agg #[v1, v2], .agg #[v3, v4]])) ((((W.setCell ⟨B, 0, none⟩ v1).setCell ⟨B, 1, none⟩ v2).setCell ⟨B', 0, none⟩ v3).setCell ⟨B', 1, none⟩ v4).drew := by
  have s1 := set_block (i := 0) (u := v1) r1
  have s2 := set_block (i := 1) (u := v2) s1
  have s2' : ((W.setCell ⟨B, 0, none⟩ v1).setCell ⟨B, 1, none⟩ v2).heap[B']? = some (.cells #[.slice none 0 0, .slice none 0 0] ty (0, 0)) := by
    rw [Below.heap_setCell _ _ _ _ (by exact hne), Below.heap_setCell _ _ _ _ (by exact hne)]
    exact r2
  have s3 := set_block (i := 0) (u := v3) s2'
  have s4 := set_block (i := 1) (u := v4) s3
  have go : ∀ {T : TypeId} {v : Value} {n k : Nat} {zs : List Int}, T ≠ ty → OwnF T base W v n k zs → OwnF T w.heap.size ((((W.setCell ⟨B, 0, none⟩ v1).setCell ⟨B, 1, none⟩ v2).setCell ⟨B', 0, none⟩ v3).setCell ⟨B', 1, none⟩ v4).drew v n k zs := fun hT h =>
    OwnF.below ((own_set (own_set (own_set (own_set h r1 hT) s1 hT) s2' hT) s3 hT).mono hbase) (Below.refl _ _).drew
  exact ⟨v1, v2, v3, v4, rfl, go h26 hS, go h41 hT, go h26 hS', go h41 hT', ha, ha', ((((hb.setCell (p := ⟨B, 0, none⟩) hB _).setCell (p := ⟨B, 1, none⟩) hB _).setCell (p := ⟨B', 0, none⟩) hB' _).setCell (p := ⟨B', 1, none⟩) hB' _).drew⟩

theorem alloc_at (w : World) (o : Obj) (i : Nat) : (w.alloc o).heap[i]? = if i = w.heap.size then some o else w.heap[i]? := by
  show (w.heap.push o)[i]? = _
  rw [Array.getElem?_push]

/-- Two records, apart, nothing else below them turned. -/
structure Two (ty : TypeId) (B1 B2 b : Nat) (W0 w : World) (v1 v2 u1 u2 : Value) (S : List Sp) (T : List St) (S' : List Sp) (T' : List St) : Prop where
  one : Rec ty B1 b w v1 v2 S T
  two : Rec ty B2 b w u1 u2 S' T'
  fst : Aprt v1 u1
  snd : Aprt v2 u2
  old : Below B1 W0 w
theorem Two.alloc {ty : TypeId} {B1 B2 b : Nat} {W0 w : World} {v1 v2 u1 u2 : Value} {S : List Sp} {T : List St} {S' : List Sp} {T' : List St} (h : Two ty B1 B2 b W0 w v1 v2 u1 u2 S T S' T') (o : Obj) : Two ty B1 B2 b W0 (w.alloc o) v1 v2 u1 u2 S T S' T' :=
  ⟨h.one.alloc o, h.two.alloc o, h.fst, h.snd, h.old.alloc (Nat.le_of_lt h.one.size) o⟩
theorem Two.put1 {ty : TypeId} {B1 B2 b : Nat} {W0 W w6 : World} {v1 v2 u1 u2 v6 : Value} {S S6 : List Sp} {T : List St} {S' : List Sp} {T' : List St} (h : Two ty B1 B2 b W0 W v1 v2 u1 u2 S T S' T') (h26 : 104 ≠ ty) (h41 : 120 ≠ ty) (hne : B2 ≠ B1) (hb : B1 ≤ b)
    (g5 : W.grownBy w6 v1.ownBlock) (K6 : OwnSp b w6 v6 S6) (hat : v6.ownBlock = v1.ownBlock ∨ v6.ownBlock = some W.heap.size) :
    w6.heap[B1]? = some (.cells #[v1, v2] ty (0, 0)) ∧ Two ty B1 B2 b W0 (w6.setCell ⟨B1, 0, none⟩ v6) v6 v2 u1 u2 S6 T S' T' := by
  obtain ⟨e, r⟩ := h.one.putFst h26 h41 g5 K6
  refine ⟨e, r, h.two.other h26 h41 g5 e hne (own_ne_block h.one.fst h.two.blk h26) h.fst.symm.ne (own_ne h.two.snd h.one.fst (by decide)), h.fst.moved hat (fun g hg => (OwnF.block h.two.fst g hg).2), h.snd, ?_⟩
  exact (h.old.grown g5 (Nat.le_of_lt h.one.size) (fun q e => Nat.le_trans hb (OwnF.block h.one.fst q e).1)).setCell (p := ⟨B1, 0, none⟩) (Nat.le_refl _) _
theorem Two.put2 {ty : TypeId} {B1 B2 b : Nat} {W0 W w6 : World} {v1 v2 u1 u2 v6 : Value} {S S6 : List Sp} {T : List St} {S' : List Sp} {T' : List St} (h : Two ty B1 B2 b W0 W v1 v2 u1 u2 S T S' T') (h26 : 104 ≠ ty) (h41 : 120 ≠ ty) (hne : B1 ≠ B2) (hb : B1 ≤ b) (h12 : B1 ≤ B2)
    (g5 : W.grownBy w6 u1.ownBlock) (K6 : OwnSp b w6 v6 S6) (hat : v6.ownBlock = u1.ownBlock ∨ v6.ownBlock = some W.heap.size) :
    w6.heap[B2]? = some (.cells #[u1, u2] ty (0, 0)) ∧ Two ty B1 B2 b W0 (w6.setCell ⟨B2, 0, none⟩ v6) v1 v2 v6 u2 S T S6 T' := by
  obtain ⟨e, r⟩ := h.two.putFst h26 h41 g5 K6
  refine ⟨e, h.one.other h26 h41 g5 e hne (own_ne_block h.two.fst h.one.blk h26) h.fst.ne (own_ne h.one.snd h.two.fst (by decide)), r, (h.fst.symm.moved hat (fun g hg => (OwnF.block h.one.fst g hg).2)).symm, h.snd, ?_⟩
  exact (h.old.grown g5 (Nat.le_of_lt h.one.size) (fun q e => Nat.le_trans hb (OwnF.block h.two.fst q e).1)).setCell (p := ⟨B2, 0, none⟩) h12 _
theorem Two.put3 {ty : TypeId} {B1 B2 b : Nat} {W0 W w6 : World} {v1 v2 u1 u2 v6 : Value} {S : List Sp} {T T6 : List St} {S' : List Sp} {T' : List St} (h : Two ty B1 B2 b W0 W v1 v2 u1 u2 S T S' T') (h26 : 104 ≠ ty) (h41 : 120 ≠ ty) (hne : B2 ≠ B1) (hb : B1 ≤ b)
    (g5 : W.grownBy w6 v2.ownBlock) (K6 : OwnSt b w6 v6 T6) (hat : v6.ownBlock = v2.ownBlock ∨ v6.ownBlock = some W.heap.size) :
    w6.heap[B1]? = some (.cells #[v1, v2] ty (0, 0)) ∧ Two ty B1 B2 b W0 (w6.setCell ⟨B1, 1, none⟩ v6) v1 v6 u1 u2 S T6 S' T' := by
  obtain ⟨e, r⟩ := h.one.putSnd h26 h41 g5 K6
  refine ⟨e, r, h.two.other h26 h41 g5 e hne (own_ne_block h.one.snd h.two.blk h41) (own_ne h.two.fst h.one.snd (by decide)) h.snd.symm.ne, h.fst, h.snd.moved hat (fun g hg => (OwnF.block h.two.snd g hg).2), ?_⟩
  exact (h.old.grown g5 (Nat.le_of_lt h.one.size) (fun q e => Nat.le_trans hb (OwnF.block h.one.snd q e).1)).setCell (p := ⟨B1, 1, none⟩) (Nat.le_refl _) _
theorem Two.put4 {ty : TypeId} {B1 B2 b : Nat} {W0 W w6 : World} {v1 v2 u1 u2 v6 : Value} {S : List Sp} {T T6 : List St} {S' : List Sp} {T' : List St} (h : Two ty B1 B2 b W0 W v1 v2 u1 u2 S T S' T') (h26 : 104 ≠ ty) (h41 : 120 ≠ ty) (hne : B1 ≠ B2) (hb : B1 ≤ b) (h12 : B1 ≤ B2)
    (g5 : W.grownBy w6 u2.ownBlock) (K6 : OwnSt b w6 v6 T6) (hat : v6.ownBlock = u2.ownBlock ∨ v6.ownBlock = some W.heap.size) :
    w6.heap[B2]? = some (.cells #[u1, u2] ty (0, 0)) ∧ Two ty B1 B2 b W0 (w6.setCell ⟨B2, 1, none⟩ v6) v1 v2 u1 v6 S T S' T6 := by
  obtain ⟨e, r⟩ := h.two.putSnd h26 h41 g5 K6
  refine ⟨e, h.one.other h26 h41 g5 e hne (own_ne_block h.two.snd h.one.blk h41) (own_ne h.one.fst h.two.snd (by decide)) h.snd.ne, r, h.fst, (h.snd.symm.moved hat (fun g hg => (OwnF.block h.one.snd g hg).2)).symm, ?_⟩
  exact (h.old.grown g5 (Nat.le_of_lt h.one.size) (fun q e => Nat.le_trans hb (OwnF.block h.two.snd q e).1)).setCell (p := ⟨B2, 1, none⟩) h12 _

set_option maxRecDepth 100000 in
set_option maxHeartbeats 16000000 in
theorem part_any {sv tv : Value} {S : List Sp} {T : List St} (p : Int) (w : World) (hS : Spans w sv S) (hT : Sites w tv T) (hp0 : 0 ≤ p) (hp : p ≤ 100000) (hn : S.length ≤ 10000) (hn2 : T.length ≤ 10000)
    (hok : ∀ j, j < S.length → 0 ≤ (sp S j).f ∧ (sp S j).f ≤ (sp S j).t ∧ (sp S j).t ≤ 100000) (hst : ∀ j, j < T.length → 0 ≤ (st T j).a ∧ (st T j).a ≤ 100000) :
    Calls Tryd.prog 53 #[.agg #[sv, tv], .int .i64 p] w (GivesPt w (pA p S) (sA p T) (pB p S) (sB p T)) := by
  obtain ⟨sa, sc, rfl, hls, hcs, hS1⟩ := hS.open_
  obtain ⟨ta, tc, rfl, hlt, hct, hT1⟩ := hT.open_
  have HS := Lib.hid hS1
  have HT := Lib.hid hT1
  have HOK := Lib.hid hok
  have HST := Lib.hid hst
  obtain ⟨ns, hns⟩ : ∃ ns, ns = S.length := ⟨_, rfl⟩
  obtain ⟨nt, hnt⟩ : ∃ nt, nt = T.length := ⟨_, rfl⟩
  have ES : Hid (pA p (S.take ns) = pA p S ∧ pB p (S.take ns) = pB p S) := by show _ ∧ _; rw [hns, List.take_length]; exact ⟨rfl, rfl⟩
  have ET : Hid (sA p (T.take nt) = sA p T ∧ sB p (T.take nt) = sB p T) := by show _ ∧ _; rw [hnt, List.take_length]; exact ⟨rfl, rfl⟩
  rw [← hns] at hls hn ⊢
  rw [← hnt] at hlt hn2 ⊢
  replace hns := Lib.hid hns
  replace hnt := Lib.hid hnt
  obtain ⟨W0, hW0⟩ : ∃ W0, W0 = ((((w.alloc (.cells #[.slice sa ns sc, .slice ta nt tc] 29)).alloc (.cells #[.slice none 0 0, .slice none 0 0] 29)).alloc (.cells #[.slice none 0 0, .slice none 0 0] 29)).alloc (.cells #[.slice none 0 0, .slice none 0 0] 29)).alloc (.cells #[.slice none 0 0, .slice none 0 0] 29) := ⟨_, rfl⟩
  have b0 : Below w.heap.size w W0 := by rw [hW0]; exact (((((Below.refl _ _).alloc (Nat.le_refl _) _).alloc (by simp) _).alloc (by simp; omega) _).alloc (by simp; omega) _).alloc (by simp; omega) _
  have h0 : W0.heap[w.heap.size]? = some (.cells #[.slice sa ns sc, .slice ta nt tc] 29 (0, 0)) := by rw [hW0]; simp only [alloc_at, World.size_alloc]; repeat (first | rw [if_pos (by first | trivial | omega)] | rw [if_neg (by omega)])
  have r1 : W0.heap[w.heap.size + 1]? = some (.cells #[.slice none 0 0, .slice none 0 0] 29 (0, 0)) := by rw [hW0]; simp only [alloc_at, World.size_alloc]; repeat (first | rw [if_pos (by first | trivial | omega)] | rw [if_neg (by omega)])
  have r2 : W0.heap[w.heap.size + 1 + 1]? = some (.cells #[.slice none 0 0, .slice none 0 0] 29 (0, 0)) := by rw [hW0]; simp only [alloc_at, World.size_alloc]; repeat (first | rw [if_pos (by first | trivial | omega)] | rw [if_neg (by omega)])
  have r3 : W0.heap[(w.heap.size + 1 + 1 + 1)]? = some (.cells #[.slice none 0 0, .slice none 0 0] 29 (0, 0)) := by rw [hW0]; simp only [alloc_at, World.size_alloc]; repeat (first | rw [if_pos (by first | trivial | omega)] | rw [if_neg (by omega)])
  have r4 : W0.heap[(w.heap.size + 1 + 1 + 1 + 1)]? = some (.cells #[.slice none 0 0, .slice none 0 0] 29 (0, 0)) := by rw [hW0]; simp only [alloc_at, World.size_alloc]; repeat (first | rw [if_pos (by first | trivial | omega)] | rw [if_neg (by omega)])
  have l0 : (w.heap.size + 1 + 1 + 1 + 1) < W0.heap.size := by rw [hW0]; simp
  have BX : Hid (∀ w', Below (w.heap.size + 1 + 1 + 1) W0 w' → w'.cell? ⟨w.heap.size, 0, none⟩ = some (.slice sa ns sc) ∧ w'.cell? ⟨w.heap.size, 1, none⟩ = some (.slice ta nt tc)) := fun w' hb => by
    refine ⟨below_cell hb (by omega) ?_, below_cell hb (by omega) ?_⟩ <;> (rw [cell_of_row _ _ _ _ _ _ h0]; rfl)
  have HW0 := Lib.hid hW0
  have B0 := Lib.hid b0
  have R1 := Lib.hid r1
  have R2 := Lib.hid r2
  have HZ : Hid (Two 29 (w.heap.size + 1 + 1 + 1) (w.heap.size + 1 + 1 + 1 + 1) W0.heap.size W0 W0 (.slice none 0 0) (.slice none 0 0) (.slice none 0 0) (.slice none 0 0) [] [] [] []) := ⟨⟨r3, OwnF.nil_ _ _ _ _, OwnF.nil_ _ _ _ _⟩, ⟨r4, OwnF.nil_ _ _ _ _, OwnF.nil_ _ _ _ _⟩, Aprt.nil_ _, Aprt.nil_ _, Below.refl _ _⟩
  clear hS1 hT1 hS hT h0 r1 r2 r3 r4 hW0 b0 hok hst
  go_enter Tryd.func53, Tryd.ntmps53
  go_wp2_with fail
  rw [← HW0.out]
  go_loopg [15] ns (fun g i wr => ∃ (k : Nat) (v u : Value), k ≤ ns ∧ ns - k ≤ g ∧ i = .int .i64 k ∧ Hid (Two 29 (w.heap.size + 1 + 1 + 1) (w.heap.size + 1 + 1 + 1 + 1) W0.heap.size W0 wr v (.slice none 0 0) u (.slice none 0 0) (pA p (S.take k)) [] (pB p (S.take k)) []))
  case atStart => exact ⟨0, .slice none 0 0, .slice none 0 0, Nat.zero_le _, by omega, rfl, HZ.out⟩
  case round =>
    clear HZ
    obtain ⟨k, v, u, hk, hg, rfl, HK⟩ := hrel
    obtain ⟨x0, x1⟩ := BX.out _ HK.out.old
    obtain ⟨A, hA⟩ : ∃ A, A = pA p (S.take k) := ⟨_, rfl⟩
    obtain ⟨B, hB⟩ : ∃ B, B = pB p (S.take k) := ⟨_, rfl⟩
    have hlA : A.length ≤ k := by rw [hA]; exact Nat.le_trans (pA_len p _) (List.length_take_le _ _)
    have hlB : B.length ≤ k := by rw [hB]; exact Nat.le_trans (pB_len p _) (List.length_take_le _ _)
    rw [← hA, ← hB] at HK
    obtain ⟨ao, co, rfl⟩ := HK.out.one.fst.is_slice
    obtain ⟨bo, do_, rfl⟩ := HK.out.two.fst.is_slice
    have w0 : W0.heap.size ≤ wr.heap.size := HK.out.old.size
    by_cases hltk : k < ns
    · have hkl : k < S.length := by rw [← hns.out]; exact hltk
      obtain ⟨b, off, rfl, hb, ⟨⟨m1, m2⟩, ⟨f1, f2⟩, ⟨t1, t2⟩⟩, c0, c1, c2⟩ := HS.out k hkl
      obtain ⟨g1, g2, g3⟩ := HOK.out k hkl
      have EA := Lib.hid (pA_take p hkl)
      have EB := Lib.hid (pB_take p hkl)
      rw [← hA] at EA
      rw [← hB] at EB
      obtain ⟨e, he⟩ : ∃ e, e = sp S k := ⟨_, rfl⟩
      rw [← he] at m1 m2 f1 f2 t1 t2 c0 c1 c2 g1 g2 g3 EA EB
      obtain ⟨m, f, t⟩ := e
      simp only at m1 m2 f1 f2 t1 t2 c0 c1 c2 g1 g2 g3
      have hbel2 : Below w.heap.size w wr := B0.out.trans (HK.out.old.mono (by omega))
      replace c0 := below_cell hbel2 hb c0
      replace c1 := below_cell hbel2 hb c1
      replace c2 := below_cell hbel2 hb c2
      have HX : Hid (Two 29 (w.heap.size + 1 + 1 + 1) (w.heap.size + 1 + 1 + 1 + 1) W0.heap.size W0 (wr.alloc (.cells #[.int .i64 m, .int .i64 f, .int .i64 t] 104)) (.slice ao A.length co) (.slice none 0 0) (.slice bo B.length do_) (.slice none 0 0) A [] B []) := HK.out.alloc _
      have HK9 : Hid (OwnSp W0.heap.size wr (.slice ao A.length co) A) := HK.out.one.fst
      have XB : Hid ((wr.alloc (.cells #[.int .i64 m, .int .i64 f, .int .i64 t] 104)).heap[wr.heap.size]? = some (.cells #[.int .i64 m, .int .i64 f, .int .i64 t] 104)) := heap_alloc_new wr (.cells #[.int .i64 m, .int .i64 f, .int .i64 t] 104)
      clear hbel2 HS HT HOK HST he hA hB HK
      go_upto_if 22 with fail
      go_cut [] from 16 to 59 (fun wx => ∃ v', Hid (Two 29 (w.heap.size + 1 + 1 + 1) (w.heap.size + 1 + 1 + 1 + 1) W0.heap.size W0 wx v' (.slice none 0 0) (.slice bo B.length do_) (.slice none 0 0) (pA p (S.take (k + 1))) [] B []) ∧ Hid (wx.heap[wr.heap.size]? = some (.cells #[.int .i64 m, .int .i64 f, .int .i64 t] 104)) ∧ Hid (wr.heap.size + 1 ≤ wx.heap.size))
      case first =>
        by_cases hf : f < p
        · have EN : Hid (pA p (S.take (k + 1)) = A ++ [⟨m, f, min t p⟩]) := EA.out.trans (by unfold pA1; rw [if_pos hf])
          clear EA EB
          have y0 := HX.out.one.cell0
          have y1 := HX.out.one.cell1
          by_cases hq : p < t
          · have EM : Hid (min t p = p) := by show _ = _; omega
            have HY : Hid (Two 29 (w.heap.size + 1 + 1 + 1) (w.heap.size + 1 + 1 + 1 + 1) W0.heap.size W0 ((wr.alloc (.cells #[.int .i64 m, .int .i64 f, .int .i64 t] 104)).alloc (.cells #[.int .i64 m, .int .i64 f, .int .i64 p] 104)) (.slice ao A.length co) (.slice none 0 0) (.slice bo B.length do_) (.slice none 0 0) A [] B []) := HX.out.alloc _
            have A1 := Lib.hid HY.out.one.fst
            have A2 : Hid (((wr.alloc (.cells #[.int .i64 m, .int .i64 f, .int .i64 t] 104)).alloc (.cells #[.int .i64 m, .int .i64 f, .int .i64 p] 104)).heap[wr.heap.size + 1]? = some (.cells #[.int .i64 m, .int .i64 f, .int .i64 p] 104)) := by have := heap_alloc_new (wr.alloc (.cells #[.int .i64 m, .int .i64 f, .int .i64 t] 104)) (.cells #[.int .i64 m, .int .i64 f, .int .i64 p] 104); rw [World.size_alloc] at this; exact this
            have A3 : Hid (A.length ≤ 100000) := by show _ ≤ _; omega
            have A4 : Hid (W0.heap.size ≤ ((wr.alloc (.cells #[.int .i64 m, .int .i64 f, .int .i64 t] 104)).alloc (.cells #[.int .i64 m, .int .i64 f, .int .i64 p] 104)).heap.size) := HY.out.old.size
            have A5 : Hid (∀ q ∈ [m, f, p], i64 q) := good3 ⟨m1, m2⟩ ⟨f1, f2⟩ ⟨by omega, by omega⟩
            obtain ⟨l6, hl6⟩ : ∃ l6, l6 = (pA p (S.take (k + 1))).length := ⟨_, rfl⟩
            have HAP : Hid (∀ (v6 : Value) (w6 : World), OwnF 104 W0.heap.size w6 v6 (A.length + 1) 3 (fl3 A ++ [m, f, p]) → ((wr.alloc (.cells #[.int .i64 m, .int .i64 f, .int .i64 t] 104)).alloc (.cells #[.int .i64 m, .int .i64 f, .int .i64 p] 104)).grownBy w6 (Value.slice ao A.length co).ownBlock → (v6.ownBlock = (Value.slice ao A.length co).ownBlock ∨ v6.ownBlock = some (wr.heap.size + 1 + 1)) →
                (∃ a6 c6, v6 = .slice a6 l6 c6) ∧ w6.cell? ⟨(w.heap.size + 1 + 1 + 1), 0, none⟩ = some (.slice ao A.length co) ∧ w6.cell? ⟨(w.heap.size + 1 + 1 + 1), 1, none⟩ = some (.slice none 0 0) ∧ w6.frozen? ⟨(w.heap.size + 1 + 1 + 1), 0, none⟩ = false ∧
                Hid (Two 29 (w.heap.size + 1 + 1 + 1) (w.heap.size + 1 + 1 + 1 + 1) W0.heap.size W0 (w6.setCell ⟨(w.heap.size + 1 + 1 + 1), 0, none⟩ v6) v6 (.slice none 0 0) (.slice bo B.length do_) (.slice none 0 0) (pA p (S.take (k + 1))) [] B []) ∧ Hid ((w6.setCell ⟨(w.heap.size + 1 + 1 + 1), 0, none⟩ v6).heap[wr.heap.size]? = some (.cells #[.int .i64 m, .int .i64 f, .int .i64 t] 104)) ∧ Hid (wr.heap.size + 1 ≤ (w6.setCell ⟨(w.heap.size + 1 + 1 + 1), 0, none⟩ v6).heap.size)) := fun v6 w6 h5 g5 hat => by
              have K6 : OwnSp W0.heap.size w6 v6 (pA p (S.take (k + 1))) := by
                show OwnF _ _ _ _ _ _ _
                rw [EN.out, EM.out, fl3_app, List.length_append]
                exact h5
              obtain ⟨hB6, hR6⟩ := HY.out.put1 (by decide) (by decide) (by omega) (by omega) g5 K6 (by simpa using hat)
              refine ⟨by rw [hl6]; exact K6.is_slice, by rw [cell_of_row _ _ _ _ _ _ hB6]; rfl, by rw [cell_of_row _ _ _ _ _ _ hB6]; rfl, block_frozen hB6, hR6, ?_, ?_⟩
              · show _ = _
                rw [Below.heap_setCell _ _ _ _ (by show wr.heap.size ≠ (w.heap.size + 1 + 1 + 1); omega), g5.block _ (by simp; omega) (fun e => by have h9 := (OwnF.block HK9.out _ e.symm).2; omega), Below.heap_alloc _ _ _ (by simp)]
                exact XB.out
              · show _ ≤ _
                have := g5.size
                simp at this ⊢
                omega
            clear hl6 EN EM
            go_wp2_with (at_builtin; refine wpList_append_at rfl _ _ 22 104 3 24 _ Tryd.underlying22 infoSpan rfl (by decide) (by decide) rfl W0.heap.size _ A.length _ rfl A1.out (wr.heap.size + 1) [m, f, p] rfl A2.out rfl A5.out A3.out A4.out ?_)
            intro v6 w6 h5 g5 hat
            obtain ⟨⟨a6, c6, rfl⟩, u6, u7, f6, E1, E2, E3⟩ := HAP.out v6 w6 h5 g5 hat
            clear h5 g5 hat A1 A2 A3 A4 A5 HAP HX HY y0 y1 XB
            go_wp2_with fail
            go_meet
            case rel => exact ⟨_, E1.out, E2.out, E3.out⟩
          · have EM : Hid (min t p = t) := by show _ = _; omega
            have HY : Hid (Two 29 (w.heap.size + 1 + 1 + 1) (w.heap.size + 1 + 1 + 1 + 1) W0.heap.size W0 ((wr.alloc (.cells #[.int .i64 m, .int .i64 f, .int .i64 t] 104)).alloc (.cells #[.int .i64 m, .int .i64 f, .int .i64 t] 104)) (.slice ao A.length co) (.slice none 0 0) (.slice bo B.length do_) (.slice none 0 0) A [] B []) := HX.out.alloc _
            have A1 := Lib.hid HY.out.one.fst
            have A2 : Hid (((wr.alloc (.cells #[.int .i64 m, .int .i64 f, .int .i64 t] 104)).alloc (.cells #[.int .i64 m, .int .i64 f, .int .i64 t] 104)).heap[wr.heap.size + 1]? = some (.cells #[.int .i64 m, .int .i64 f, .int .i64 t] 104)) := by have := heap_alloc_new (wr.alloc (.cells #[.int .i64 m, .int .i64 f, .int .i64 t] 104)) (.cells #[.int .i64 m, .int .i64 f, .int .i64 t] 104); rw [World.size_alloc] at this; exact this
            have A3 : Hid (A.length ≤ 100000) := by show _ ≤ _; omega
            have A4 : Hid (W0.heap.size ≤ ((wr.alloc (.cells #[.int .i64 m, .int .i64 f, .int .i64 t] 104)).alloc (.cells #[.int .i64 m, .int .i64 f, .int .i64 t] 104)).heap.size) := HY.out.old.size
            have A5 : Hid (∀ q ∈ [m, f, t], i64 q) := good3 ⟨m1, m2⟩ ⟨f1, f2⟩ ⟨by omega, by omega⟩
            obtain ⟨l6, hl6⟩ : ∃ l6, l6 = (pA p (S.take (k + 1))).length := ⟨_, rfl⟩
            have HAP : Hid (∀ (v6 : Value) (w6 : World), OwnF 104 W0.heap.size w6 v6 (A.length + 1) 3 (fl3 A ++ [m, f, t]) → ((wr.alloc (.cells #[.int .i64 m, .int .i64 f, .int .i64 t] 104)).alloc (.cells #[.int .i64 m, .int .i64 f, .int .i64 t] 104)).grownBy w6 (Value.slice ao A.length co).ownBlock → (v6.ownBlock = (Value.slice ao A.length co).ownBlock ∨ v6.ownBlock = some (wr.heap.size + 1 + 1)) →
                (∃ a6 c6, v6 = .slice a6 l6 c6) ∧ w6.cell? ⟨(w.heap.size + 1 + 1 + 1), 0, none⟩ = some (.slice ao A.length co) ∧ w6.cell? ⟨(w.heap.size + 1 + 1 + 1), 1, none⟩ = some (.slice none 0 0) ∧ w6.frozen? ⟨(w.heap.size + 1 + 1 + 1), 0, none⟩ = false ∧
                Hid (Two 29 (w.heap.size + 1 + 1 + 1) (w.heap.size + 1 + 1 + 1 + 1) W0.heap.size W0 (w6.setCell ⟨(w.heap.size + 1 + 1 + 1), 0, none⟩ v6) v6 (.slice none 0 0) (.slice bo B.length do_) (.slice none 0 0) (pA p (S.take (k + 1))) [] B []) ∧ Hid ((w6.setCell ⟨(w.heap.size + 1 + 1 + 1), 0, none⟩ v6).heap[wr.heap.size]? = some (.cells #[.int .i64 m, .int .i64 f, .int .i64 t] 104)) ∧ Hid (wr.heap.size + 1 ≤ (w6.setCell ⟨(w.heap.size + 1 + 1 + 1), 0, none⟩ v6).heap.size)) := fun v6 w6 h5 g5 hat => by
              have K6 : OwnSp W0.heap.size w6 v6 (pA p (S.take (k + 1))) := by
                show OwnF _ _ _ _ _ _ _
                rw [EN.out, EM.out, fl3_app, List.length_append]
                exact h5
              obtain ⟨hB6, hR6⟩ := HY.out.put1 (by decide) (by decide) (by omega) (by omega) g5 K6 (by simpa using hat)
              refine ⟨by rw [hl6]; exact K6.is_slice, by rw [cell_of_row _ _ _ _ _ _ hB6]; rfl, by rw [cell_of_row _ _ _ _ _ _ hB6]; rfl, block_frozen hB6, hR6, ?_, ?_⟩
              · show _ = _
                rw [Below.heap_setCell _ _ _ _ (by show wr.heap.size ≠ (w.heap.size + 1 + 1 + 1); omega), g5.block _ (by simp; omega) (fun e => by have h9 := (OwnF.block HK9.out _ e.symm).2; omega), Below.heap_alloc _ _ _ (by simp)]
                exact XB.out
              · show _ ≤ _
                have := g5.size
                simp at this ⊢
                omega
            clear hl6 EN EM
            go_wp2_with (at_builtin; refine wpList_append_at rfl _ _ 22 104 3 24 _ Tryd.underlying22 infoSpan rfl (by decide) (by decide) rfl W0.heap.size _ A.length _ rfl A1.out (wr.heap.size + 1) [m, f, t] rfl A2.out rfl A5.out A3.out A4.out ?_)
            intro v6 w6 h5 g5 hat
            obtain ⟨⟨a6, c6, rfl⟩, u6, u7, f6, E1, E2, E3⟩ := HAP.out v6 w6 h5 g5 hat
            clear h5 g5 hat A1 A2 A3 A4 A5 HAP HX HY y0 y1 XB
            go_wp2_with fail
            go_meet
            case rel => exact ⟨_, E1.out, E2.out, E3.out⟩
        · have EN : Hid (pA p (S.take (k + 1)) = A) := EA.out.trans (by unfold pA1; rw [if_neg hf, List.append_nil])
          clear EA EB
          go_wp2_with fail
          go_meet
          case rel => exact ⟨_, by rw [EN.out]; exact HX.out, XB.out, by show _ ≤ _; simp⟩
      case rest =>
        obtain ⟨v', HT2, XB2, XL⟩ := hcut
        have lx := XL.out
        clear HX XB EA x0 x1 XL
        obtain ⟨A', hA'⟩ : ∃ A', A' = pA p (S.take (k + 1)) := ⟨_, rfl⟩
        rw [← hA'] at HT2
        have HA' := Lib.hid hA'
        clear hA'
        obtain ⟨x0, x1⟩ := BX.out _ HT2.out.old
        have c3 : wc.cell? ⟨wr.heap.size, 0, none⟩ = some (.int .i64 m) := by rw [cell_of_row _ _ _ _ _ _ XB2.out]; rfl
        have c4 : wc.cell? ⟨wr.heap.size, 1, none⟩ = some (.int .i64 f) := by rw [cell_of_row _ _ _ _ _ _ XB2.out]; rfl
        have c5 : wc.cell? ⟨wr.heap.size, 2, none⟩ = some (.int .i64 t) := by rw [cell_of_row _ _ _ _ _ _ XB2.out]; rfl
        by_cases hq : p < t
        · have EN : Hid (pB p (S.take (k + 1)) = B ++ [⟨m, max f p - p, t - p⟩]) := EB.out.trans (by unfold pB1; rw [if_pos hq])
          clear EB
          have y0 := HT2.out.two.cell0
          have y1 := HT2.out.two.cell1
          by_cases hf : f < p
          · have EM : Hid (max f p - p = 0) := by show _ = _; omega
            have HY : Hid (Two 29 (w.heap.size + 1 + 1 + 1) (w.heap.size + 1 + 1 + 1 + 1) W0.heap.size W0 (wc.alloc (.cells #[.int .i64 m, .int .i64 0, .int .i64 (t - p)] 104)) v' (.slice none 0 0) (.slice bo B.length do_) (.slice none 0 0) A' [] B []) := HT2.out.alloc _
            have A1 := Lib.hid HY.out.two.fst
            have A2 : Hid ((wc.alloc (.cells #[.int .i64 m, .int .i64 0, .int .i64 (t - p)] 104)).heap[wc.heap.size]? = some (.cells #[.int .i64 m, .int .i64 0, .int .i64 (t - p)] 104)) := heap_alloc_new wc (.cells #[.int .i64 m, .int .i64 0, .int .i64 (t - p)] 104)
            have A3 : Hid (B.length ≤ 100000) := by show _ ≤ _; omega
            have A4 : Hid (W0.heap.size ≤ (wc.alloc (.cells #[.int .i64 m, .int .i64 0, .int .i64 (t - p)] 104)).heap.size) := HY.out.old.size
            have A5 : Hid (∀ q ∈ [m, 0, t - p], i64 q) := good3 ⟨m1, m2⟩ ⟨by omega, by omega⟩ ⟨by omega, by omega⟩
            obtain ⟨l6, hl6⟩ : ∃ l6, l6 = (pB p (S.take (k + 1))).length := ⟨_, rfl⟩
            have HAP : Hid (∀ (v6 : Value) (w6 : World), OwnF 104 W0.heap.size w6 v6 (B.length + 1) 3 (fl3 B ++ [m, 0, t - p]) → (wc.alloc (.cells #[.int .i64 m, .int .i64 0, .int .i64 (t - p)] 104)).grownBy w6 (Value.slice bo B.length do_).ownBlock → (v6.ownBlock = (Value.slice bo B.length do_).ownBlock ∨ v6.ownBlock = some (wc.heap.size + 1)) →
                (∃ a6 c6, v6 = .slice a6 l6 c6) ∧ w6.cell? ⟨(w.heap.size + 1 + 1 + 1 + 1), 0, none⟩ = some (.slice bo B.length do_) ∧ w6.cell? ⟨(w.heap.size + 1 + 1 + 1 + 1), 1, none⟩ = some (.slice none 0 0) ∧ w6.frozen? ⟨(w.heap.size + 1 + 1 + 1 + 1), 0, none⟩ = false ∧
                Hid (Two 29 (w.heap.size + 1 + 1 + 1) (w.heap.size + 1 + 1 + 1 + 1) W0.heap.size W0 (w6.setCell ⟨(w.heap.size + 1 + 1 + 1 + 1), 0, none⟩ v6) v' (.slice none 0 0) v6 (.slice none 0 0) A' [] (pB p (S.take (k + 1))) [])) := fun v6 w6 h5 g5 hat => by
              have K6 : OwnSp W0.heap.size w6 v6 (pB p (S.take (k + 1))) := by
                show OwnF _ _ _ _ _ _ _
                rw [EN.out, EM.out, fl3_app, List.length_append]
                exact h5
              obtain ⟨hB6, hR6⟩ := HY.out.put2 (by decide) (by decide) (by omega) (by omega) (by omega) g5 K6 (by simpa using hat)
              exact ⟨by rw [hl6]; exact K6.is_slice, by rw [cell_of_row _ _ _ _ _ _ hB6]; rfl, by rw [cell_of_row _ _ _ _ _ _ hB6]; rfl, block_frozen hB6, hR6⟩
            clear hl6 EN EM
            go_wp2_with (at_builtin; refine wpList_append_at rfl _ _ 22 104 3 24 _ Tryd.underlying22 infoSpan rfl (by decide) (by decide) rfl W0.heap.size _ B.length _ rfl A1.out wc.heap.size [m, 0, t - p] rfl A2.out rfl A5.out A3.out A4.out ?_)
            intro v6 w6 h5 g5 hat
            obtain ⟨⟨a6, c6, rfl⟩, u6, u7, f6, E1⟩ := HAP.out v6 w6 h5 g5 hat
            clear h5 g5 hat A1 A2 A3 A4 A5 HAP HT2 HY y0 y1
            go_wp2_with fail
            go_roundg (ns - (k + 1))
            case measure => omega
            case rel => exact ⟨k + 1, _, _, by omega, Nat.le_refl _, by go_num, by rw [← HA'.out]; exact E1.out⟩
          · have EM : Hid (max f p - p = f - p) := by show _ = _; omega
            have HY : Hid (Two 29 (w.heap.size + 1 + 1 + 1) (w.heap.size + 1 + 1 + 1 + 1) W0.heap.size W0 (wc.alloc (.cells #[.int .i64 m, .int .i64 (f - p), .int .i64 (t - p)] 104)) v' (.slice none 0 0) (.slice bo B.length do_) (.slice none 0 0) A' [] B []) := HT2.out.alloc _
            have A1 := Lib.hid HY.out.two.fst
            have A2 : Hid ((wc.alloc (.cells #[.int .i64 m, .int .i64 (f - p), .int .i64 (t - p)] 104)).heap[wc.heap.size]? = some (.cells #[.int .i64 m, .int .i64 (f - p), .int .i64 (t - p)] 104)) := heap_alloc_new wc (.cells #[.int .i64 m, .int .i64 (f - p), .int .i64 (t - p)] 104)
            have A3 : Hid (B.length ≤ 100000) := by show _ ≤ _; omega
            have A4 : Hid (W0.heap.size ≤ (wc.alloc (.cells #[.int .i64 m, .int .i64 (f - p), .int .i64 (t - p)] 104)).heap.size) := HY.out.old.size
            have A5 : Hid (∀ q ∈ [m, f - p, t - p], i64 q) := good3 ⟨m1, m2⟩ ⟨by omega, by omega⟩ ⟨by omega, by omega⟩
            obtain ⟨l6, hl6⟩ : ∃ l6, l6 = (pB p (S.take (k + 1))).length := ⟨_, rfl⟩
            have HAP : Hid (∀ (v6 : Value) (w6 : World), OwnF 104 W0.heap.size w6 v6 (B.length + 1) 3 (fl3 B ++ [m, f - p, t - p]) → (wc.alloc (.cells #[.int .i64 m, .int .i64 (f - p), .int .i64 (t - p)] 104)).grownBy w6 (Value.slice bo B.length do_).ownBlock → (v6.ownBlock = (Value.slice bo B.length do_).ownBlock ∨ v6.ownBlock = some (wc.heap.size + 1)) →
                (∃ a6 c6, v6 = .slice a6 l6 c6) ∧ w6.cell? ⟨(w.heap.size + 1 + 1 + 1 + 1), 0, none⟩ = some (.slice bo B.length do_) ∧ w6.cell? ⟨(w.heap.size + 1 + 1 + 1 + 1), 1, none⟩ = some (.slice none 0 0) ∧ w6.frozen? ⟨(w.heap.size + 1 + 1 + 1 + 1), 0, none⟩ = false ∧
                Hid (Two 29 (w.heap.size + 1 + 1 + 1) (w.heap.size + 1 + 1 + 1 + 1) W0.heap.size W0 (w6.setCell ⟨(w.heap.size + 1 + 1 + 1 + 1), 0, none⟩ v6) v' (.slice none 0 0) v6 (.slice none 0 0) A' [] (pB p (S.take (k + 1))) [])) := fun v6 w6 h5 g5 hat => by
              have K6 : OwnSp W0.heap.size w6 v6 (pB p (S.take (k + 1))) := by
                show OwnF _ _ _ _ _ _ _
                rw [EN.out, EM.out, fl3_app, List.length_append]
                exact h5
              obtain ⟨hB6, hR6⟩ := HY.out.put2 (by decide) (by decide) (by omega) (by omega) (by omega) g5 K6 (by simpa using hat)
              exact ⟨by rw [hl6]; exact K6.is_slice, by rw [cell_of_row _ _ _ _ _ _ hB6]; rfl, by rw [cell_of_row _ _ _ _ _ _ hB6]; rfl, block_frozen hB6, hR6⟩
            clear hl6 EN EM
            go_wp2_with (at_builtin; refine wpList_append_at rfl _ _ 22 104 3 24 _ Tryd.underlying22 infoSpan rfl (by decide) (by decide) rfl W0.heap.size _ B.length _ rfl A1.out wc.heap.size [m, f - p, t - p] rfl A2.out rfl A5.out A3.out A4.out ?_)
            intro v6 w6 h5 g5 hat
            obtain ⟨⟨a6, c6, rfl⟩, u6, u7, f6, E1⟩ := HAP.out v6 w6 h5 g5 hat
            clear h5 g5 hat A1 A2 A3 A4 A5 HAP HT2 HY y0 y1
            go_wp2_with fail
            go_roundg (ns - (k + 1))
            case measure => omega
            case rel => exact ⟨k + 1, _, _, by omega, Nat.le_refl _, by go_num, by rw [← HA'.out]; exact E1.out⟩
        · have EN : Hid (pB p (S.take (k + 1)) = B) := EB.out.trans (by unfold pB1; rw [if_neg hq, List.append_nil])
          clear EB
          go_wp2_with fail
          go_roundg (ns - (k + 1))
          case measure => omega
          case rel => exact ⟨k + 1, _, _, by omega, Nat.le_refl _, by go_num, by rw [EN.out, ← HA'.out]; exact HT2.out⟩
    · obtain rfl : k = ns := by omega
      have HRA : Hid (A = pA p S) := hA.trans ES.out.1
      have HRB : Hid (B = pB p S) := hB.trans ES.out.2
      obtain ⟨w1, hw1⟩ : ∃ w1 : World, w1 = wr := ⟨_, rfl⟩
      rw [← hw1] at HK
      clear hA hB x0 x1 w0
      subst hw1
      have x0 := (BX.out _ HK.out.old).1
      have x1 := (BX.out _ HK.out.old).2
      have HKA := Lib.hid HK.out.one.fst
      generalize A.length = la at *
      generalize B.length = lb at *
      go_wp2_with fail
      go_loopg [63] nt (fun g i wr => ∃ (k : Nat) (v u : Value), k ≤ nt ∧ nt - k ≤ g ∧ i = .int .i64 k ∧ Hid (Two 29 (w.heap.size + 1 + 1 + 1) (w.heap.size + 1 + 1 + 1 + 1) W0.heap.size W0 wr (.slice ao la co) v (.slice bo lb do_) u A (sA p (T.take k)) B (sB p (T.take k))))
      case atStart => exact ⟨0, .slice none 0 0, .slice none 0 0, Nat.zero_le _, by omega, rfl, HK.out⟩
      case round =>
        clear HK HKA x0 x1
        obtain ⟨k, v, u, hk, hg, rfl, HK⟩ := hrel
        obtain ⟨x0, x1⟩ := BX.out _ HK.out.old
        obtain ⟨A4', hA⟩ : ∃ A, A = sA p (T.take k) := ⟨_, rfl⟩
        obtain ⟨B4', hB⟩ : ∃ B, B = sB p (T.take k) := ⟨_, rfl⟩
        have hlA : A4'.length ≤ k := by rw [hA]; exact Nat.le_trans (sA_len p _) (List.length_take_le _ _)
        have hlB : B4'.length ≤ k := by rw [hB]; exact Nat.le_trans (sB_len p _) (List.length_take_le _ _)
        rw [← hA, ← hB] at HK
        obtain ⟨eo, fo, rfl⟩ := HK.out.one.snd.is_slice
        obtain ⟨go, ho, rfl⟩ := HK.out.two.snd.is_slice
        have w0 : W0.heap.size ≤ wr.heap.size := HK.out.old.size
        by_cases hltk : k < nt
        · have hkl : k < T.length := by rw [← hnt.out]; exact hltk
          obtain ⟨b, off, rfl, hb, ⟨⟨m1, m2⟩, ⟨f1, f2⟩⟩, c0, c1⟩ := HT.out k hkl
          obtain ⟨g1, g2⟩ := HST.out k hkl
          have EA := Lib.hid (sA_take p hkl)
          have EB := Lib.hid (sB_take p hkl)
          rw [← hA] at EA
          rw [← hB] at EB
          obtain ⟨e, he⟩ : ∃ e, e = st T k := ⟨_, rfl⟩
          rw [← he] at m1 m2 f1 f2 c0 c1 g1 g2 EA EB
          obtain ⟨m, f⟩ := e
          simp only at m1 m2 f1 f2 c0 c1 g1 g2
          have hbel2 : Below w.heap.size w wr := B0.out.trans (HK.out.old.mono (by omega))
          replace c0 := below_cell hbel2 hb c0
          replace c1 := below_cell hbel2 hb c1
          have HX : Hid (Two 29 (w.heap.size + 1 + 1 + 1) (w.heap.size + 1 + 1 + 1 + 1) W0.heap.size W0 (wr.alloc (.cells #[.int .i64 m, .int .i64 f] 120)) (.slice ao la co) (.slice eo A4'.length fo) (.slice bo lb do_) (.slice go B4'.length ho) A A4' B B4') := HK.out.alloc _
          clear hbel2 HS HT HOK HST he hA hB HK
          by_cases hf : f ≤ p
          · have EN : Hid (sA p (T.take (k + 1)) = A4' ++ [⟨m, f⟩]) := EA.out.trans (by rw [if_pos hf])
            have EN2 : Hid (sB p (T.take (k + 1)) = B4') := EB.out.trans (by rw [if_pos hf, List.append_nil])
            clear EA EB
            have y0 := HX.out.one.cell0
            have y1 := HX.out.one.cell1
            have HY : Hid (Two 29 (w.heap.size + 1 + 1 + 1) (w.heap.size + 1 + 1 + 1 + 1) W0.heap.size W0 ((wr.alloc (.cells #[.int .i64 m, .int .i64 f] 120)).alloc (.cells #[.int .i64 m, .int .i64 f] 120)) (.slice ao la co) (.slice eo A4'.length fo) (.slice bo lb do_) (.slice go B4'.length ho) A A4' B B4') := HX.out.alloc _
            have A1 := Lib.hid HY.out.one.snd
            have A2 : Hid (((wr.alloc (.cells #[.int .i64 m, .int .i64 f] 120)).alloc (.cells #[.int .i64 m, .int .i64 f] 120)).heap[wr.heap.size + 1]? = some (.cells #[.int .i64 m, .int .i64 f] 120)) := by have := heap_alloc_new (wr.alloc (.cells #[.int .i64 m, .int .i64 f] 120)) (.cells #[.int .i64 m, .int .i64 f] 120); rw [World.size_alloc] at this; exact this
            have A3 : Hid (A4'.length ≤ 100000) := by show _ ≤ _; omega
            have A4 : Hid (W0.heap.size ≤ ((wr.alloc (.cells #[.int .i64 m, .int .i64 f] 120)).alloc (.cells #[.int .i64 m, .int .i64 f] 120)).heap.size) := HY.out.old.size
            have A5 : Hid (∀ q ∈ [m, f], i64 q) := good2 ⟨m1, m2⟩ ⟨by omega, by omega⟩
            obtain ⟨l6, hl6⟩ : ∃ l6, l6 = (sA p (T.take (k + 1))).length := ⟨_, rfl⟩
            have HAP : Hid (∀ (v6 : Value) (w6 : World), OwnF 120 W0.heap.size w6 v6 (A4'.length + 1) 2 (fl2 A4' ++ [m, f]) → ((wr.alloc (.cells #[.int .i64 m, .int .i64 f] 120)).alloc (.cells #[.int .i64 m, .int .i64 f] 120)).grownBy w6 (Value.slice eo A4'.length fo).ownBlock → (v6.ownBlock = (Value.slice eo A4'.length fo).ownBlock ∨ v6.ownBlock = some (wr.heap.size + 1 + 1)) →
                (∃ a6 c6, v6 = .slice a6 l6 c6) ∧ w6.cell? ⟨(w.heap.size + 1 + 1 + 1), 0, none⟩ = some (.slice ao la co) ∧ w6.cell? ⟨(w.heap.size + 1 + 1 + 1), 1, none⟩ = some (.slice eo A4'.length fo) ∧ w6.frozen? ⟨(w.heap.size + 1 + 1 + 1), 1, none⟩ = false ∧
                Hid (Two 29 (w.heap.size + 1 + 1 + 1) (w.heap.size + 1 + 1 + 1 + 1) W0.heap.size W0 (w6.setCell ⟨(w.heap.size + 1 + 1 + 1), 1, none⟩ v6) (.slice ao la co) v6 (.slice bo lb do_) (.slice go B4'.length ho) A (sA p (T.take (k + 1))) B (sB p (T.take (k + 1))))) := fun v6 w6 h5 g5 hat => by
              have K6 : OwnSt W0.heap.size w6 v6 (sA p (T.take (k + 1))) := by
                show OwnF _ _ _ _ _ _ _
                rw [EN.out, fl2_app, List.length_append]
                exact h5
              obtain ⟨hB6, hR6⟩ := HY.out.put3 (by decide) (by decide) (by omega) (by omega) g5 K6 (by simpa using hat)
              exact ⟨by rw [hl6]; exact K6.is_slice, by rw [cell_of_row _ _ _ _ _ _ hB6]; rfl, by rw [cell_of_row _ _ _ _ _ _ hB6]; rfl, block_frozen hB6, by rw [EN2.out]; exact hR6⟩
            clear hl6 EN EN2
            go_wp2_with (at_builtin; refine wpList_append_at rfl _ _ 23 120 2 16 _ Tryd.underlying23 infoSite rfl (by decide) (by decide) rfl W0.heap.size _ A4'.length _ rfl A1.out (wr.heap.size + 1) [m, f] rfl A2.out rfl A5.out A3.out A4.out ?_)
            intro v6 w6 h5 g5 hat
            obtain ⟨⟨a6, c6, rfl⟩, u6, u7, f6, E1⟩ := HAP.out v6 w6 h5 g5 hat
            clear h5 g5 hat A1 A2 A3 A4 A5 HAP HX HY y0 y1
            go_wp2_with fail
            go_roundg (nt - (k + 1))
            case measure => omega
            case rel => exact ⟨k + 1, _, _, by omega, Nat.le_refl _, by go_num, E1.out⟩
          · have EN : Hid (sB p (T.take (k + 1)) = B4' ++ [⟨m, f - p⟩]) := EB.out.trans (by rw [if_neg hf])
            have EN2 : Hid (sA p (T.take (k + 1)) = A4') := EA.out.trans (by rw [if_neg hf, List.append_nil])
            clear EA EB
            have y0 := HX.out.two.cell0
            have y1 := HX.out.two.cell1
            have HY : Hid (Two 29 (w.heap.size + 1 + 1 + 1) (w.heap.size + 1 + 1 + 1 + 1) W0.heap.size W0 ((wr.alloc (.cells #[.int .i64 m, .int .i64 f] 120)).alloc (.cells #[.int .i64 m, .int .i64 (f - p)] 120)) (.slice ao la co) (.slice eo A4'.length fo) (.slice bo lb do_) (.slice go B4'.length ho) A A4' B B4') := HX.out.alloc _
            have A1 := Lib.hid HY.out.two.snd
            have A2 : Hid (((wr.alloc (.cells #[.int .i64 m, .int .i64 f] 120)).alloc (.cells #[.int .i64 m, .int .i64 (f - p)] 120)).heap[wr.heap.size + 1]? = some (.cells #[.int .i64 m, .int .i64 (f - p)] 120)) := by have := heap_alloc_new (wr.alloc (.cells #[.int .i64 m, .int .i64 f] 120)) (.cells #[.int .i64 m, .int .i64 (f - p)] 120); rw [World.size_alloc] at this; exact this
            have A3 : Hid (B4'.length ≤ 100000) := by show _ ≤ _; omega
            have A4 : Hid (W0.heap.size ≤ ((wr.alloc (.cells #[.int .i64 m, .int .i64 f] 120)).alloc (.cells #[.int .i64 m, .int .i64 (f - p)] 120)).heap.size) := HY.out.old.size
            have A5 : Hid (∀ q ∈ [m, f - p], i64 q) := good2 ⟨m1, m2⟩ ⟨by omega, by omega⟩
            obtain ⟨l6, hl6⟩ : ∃ l6, l6 = (sB p (T.take (k + 1))).length := ⟨_, rfl⟩
            have HAP : Hid (∀ (v6 : Value) (w6 : World), OwnF 120 W0.heap.size w6 v6 (B4'.length + 1) 2 (fl2 B4' ++ [m, f - p]) → ((wr.alloc (.cells #[.int .i64 m, .int .i64 f] 120)).alloc (.cells #[.int .i64 m, .int .i64 (f - p)] 120)).grownBy w6 (Value.slice go B4'.length ho).ownBlock → (v6.ownBlock = (Value.slice go B4'.length ho).ownBlock ∨ v6.ownBlock = some (wr.heap.size + 1 + 1)) →
                (∃ a6 c6, v6 = .slice a6 l6 c6) ∧ w6.cell? ⟨(w.heap.size + 1 + 1 + 1 + 1), 0, none⟩ = some (.slice bo lb do_) ∧ w6.cell? ⟨(w.heap.size + 1 + 1 + 1 + 1), 1, none⟩ = some (.slice go B4'.length ho) ∧ w6.frozen? ⟨(w.heap.size + 1 + 1 + 1 + 1), 1, none⟩ = false ∧
                Hid (Two 29 (w.heap.size + 1 + 1 + 1) (w.heap.size + 1 + 1 + 1 + 1) W0.heap.size W0 (w6.setCell ⟨(w.heap.size + 1 + 1 + 1 + 1), 1, none⟩ v6) (.slice ao la co) (.slice eo A4'.length fo) (.slice bo lb do_) v6 A (sA p (T.take (k + 1))) B (sB p (T.take (k + 1))))) := fun v6 w6 h5 g5 hat => by
              have K6 : OwnSt W0.heap.size w6 v6 (sB p (T.take (k + 1))) := by
                show OwnF _ _ _ _ _ _ _
                rw [EN.out, fl2_app, List.length_append]
                exact h5
              obtain ⟨hB6, hR6⟩ := HY.out.put4 (by decide) (by decide) (by omega) (by omega) (by omega) g5 K6 (by simpa using hat)
              exact ⟨by rw [hl6]; exact K6.is_slice, by rw [cell_of_row _ _ _ _ _ _ hB6]; rfl, by rw [cell_of_row _ _ _ _ _ _ hB6]; rfl, block_frozen hB6, by rw [EN2.out]; exact hR6⟩
            clear hl6 EN EN2
            go_wp2_with (at_builtin; refine wpList_append_at rfl _ _ 23 120 2 16 _ Tryd.underlying23 infoSite rfl (by decide) (by decide) rfl W0.heap.size _ B4'.length _ rfl A1.out (wr.heap.size + 1) [m, f - p] rfl A2.out rfl A5.out A3.out A4.out ?_)
            intro v6 w6 h5 g5 hat
            obtain ⟨⟨a6, c6, rfl⟩, u6, u7, f6, E1⟩ := HAP.out v6 w6 h5 g5 hat
            clear h5 g5 hat A1 A2 A3 A4 A5 HAP HX HY y0 y1
            go_wp2_with fail
            go_roundg (nt - (k + 1))
            case measure => omega
            case rel => exact ⟨k + 1, _, _, by omega, Nat.le_refl _, by go_num, E1.out⟩
        · obtain rfl : k = nt := by omega
          have HRA4 : Hid (A4' = sA p T) := hA.trans ET.out.1
          have HRB4 : Hid (B4' = sB p T) := hB.trans ET.out.2
          have r1 : wr.heap[w.heap.size + 1]? = some (.cells #[.slice none 0 0, .slice none 0 0] 29 (0, 0)) := by
            rw [HK.out.old.block _ (by omega)]
            exact R1.out
          have r2 : wr.heap[w.heap.size + 1 + 1]? = some (.cells #[.slice none 0 0, .slice none 0 0] 29 (0, 0)) := by
            rw [HK.out.old.block _ (by omega)]
            exact R2.out
          have u0 : wr.cell? ⟨w.heap.size + 1, 0, none⟩ = some (.slice none 0 0) := by rw [cell_of_row _ _ _ _ _ _ r1]; rfl
          have u1 : wr.cell? ⟨w.heap.size + 1, 1, none⟩ = some (.slice none 0 0) := by rw [cell_of_row _ _ _ _ _ _ r1]; rfl
          have u2 : wr.cell? ⟨w.heap.size + 1 + 1, 0, none⟩ = some (.slice none 0 0) := by rw [cell_of_row _ _ _ _ _ _ r2]; rfl
          have u3 : wr.cell? ⟨w.heap.size + 1 + 1, 1, none⟩ = some (.slice none 0 0) := by rw [cell_of_row _ _ _ _ _ _ r2]; rfl
          have f0 : wr.frozen? ⟨w.heap.size + 1, 0, none⟩ = false := block_frozen r1
          have f1 : wr.frozen? ⟨w.heap.size + 1, 1, none⟩ = false := block_frozen r1
          have f2 : wr.frozen? ⟨w.heap.size + 1 + 1, 0, none⟩ = false := block_frozen r2
          have f3 : wr.frozen? ⟨w.heap.size + 1 + 1, 1, none⟩ = false := block_frozen r2
          have y0 := HK.out.one.cell0
          have y1 := HK.out.one.cell1
          have y2 := HK.out.two.cell0
          have y3 := HK.out.two.cell1
          have FIN := Lib.hid (give_end3 (w := w) (B := w.heap.size + 1) (B' := w.heap.size + 1 + 1) (by omega) (by omega) (by omega) (by omega) (by decide) (by decide) r1 r2 HK.out.one.fst HK.out.one.snd HK.out.two.fst HK.out.two.snd HK.out.fst HK.out.snd (B0.out.trans (HK.out.old.mono (by omega))))
          have r2' : ((wr.setCell ⟨w.heap.size + 1, 0, none⟩ (.slice ao la co)).setCell ⟨w.heap.size + 1, 1, none⟩ (.slice eo A4'.length fo)).heap[w.heap.size + 1 + 1]? = some (.cells #[.slice none 0 0, .slice none 0 0] 29 (0, 0)) := by
            rw [Below.heap_setCell _ _ _ _ (by show w.heap.size + 1 + 1 ≠ w.heap.size + 1; omega), Below.heap_setCell _ _ _ _ (by show w.heap.size + 1 + 1 ≠ w.heap.size + 1; omega)]
            exact r2
          obtain ⟨z0, z1⟩ := res_cells (a1 := ao) (n1 := la) (c1 := co) (a2 := eo) (n2 := A4'.length) (c2 := fo) r1
          obtain ⟨z2, z3⟩ := res_cells (a1 := bo) (n1 := lb) (c1 := do_) (a2 := go) (n2 := B4'.length) (c2 := ho) r2'
          have FIN2 : Hid (A = pA p S ∧ A4' = sA p T ∧ B = pB p S ∧ B4' = sB p T) := ⟨HRA.out, HRA4.out, HRB.out, HRB4.out⟩
          clear r1 r2 r2' hA hB HK HS HT HRA HRB HRA4 HRB4
          generalize A4'.length = lp at *
          generalize B4'.length = lq at *
          go_wp2_with fail
          go_region
          go_wp2_with fail
          exact bodyPost_ret (v := .tuple #[.agg #[.slice ao la co, .slice eo lp fo], .agg #[.slice bo lb do_, .slice go lq ho]]) (by simp [results, Tryd.results53, go_sem, z0, z1, z2, z3]) rfl (by rw [← FIN2.out.1, ← FIN2.out.2.1, ← FIN2.out.2.2.1, ← FIN2.out.2.2.2]; exact FIN.out)
end Go.Proofs.YtengmiolcfgdiaaDoor.Rig
