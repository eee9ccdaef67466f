/- Contract: Part of the program. Contracts: moved and join of the program. What Put and Take of the program have in common: a row that is joined to while another one is read. Contract: Put of the program. -/
import Derived.Test.YtcpdoicbekcpeaaDoorQM3
import Derived.Test.YtcpdoicbekcpeaaDoorQP1
import Derived.Deep.DeepCutAuto
import Derived.RegionTactic
import Derived.ChangeAlike
import Derived.BigRegion
set_option linter.unusedVariables false
set_option maxRecDepth 100000
namespace Go.Proofs.YtcpdoicbekcpeaaDoor.Rig
open Go.RowKit Go.Lib Go.Proofs.YtcpdoicbekcpeaaDoor.Rt

theorem pA_take {S : List Sp} {k : Nat} (p : Int) (h : k < S.length) : pA p (S.take (k + 1)) = pA p (S.take k) ++ pA1 p (sp S k) := by
  unfold pA
  rw [List.take_succ_eq_append_getElem h, List.flatMap_append, sp_get h]
  simp
theorem pB_take {S : List Sp} {k : Nat} (p : Int) (h : k < S.length) : pB p (S.take (k + 1)) = pB p (S.take k) ++ pB1 p (sp S k) := by
  unfold pB
  rw [List.take_succ_eq_append_getElem h, List.flatMap_append, sp_get h]
  simp
theorem pA_len (p : Int) : ∀ S : List Sp, (pA p S).length ≤ S.length
  | [] => Nat.le_refl _
  | s :: S => by
    have := pA_len p S
    rw [pA_cons, List.length_append, List.length_cons]
    unfold pA1
    split <;> simp <;> omega
theorem pB_len (p : Int) : ∀ S : List Sp, (pB p S).length ≤ S.length
  | [] => Nat.le_refl _
  | s :: S => by
    have := pB_len p S
    rw [pB_cons, List.length_append, List.length_cons]
    unfold pB1
    split <;> simp <;> omega
theorem sA_take {T : List St} {k : Nat} (p : Int) (h : k < T.length) : sA p (T.take (k + 1)) = sA p (T.take k) ++ (if (st T k).a ≤ p then [st T k] else []) := by
  unfold sA
  rw [List.take_succ_eq_append_getElem h, List.filter_append, st_get h]
  by_cases e : T[k].a ≤ p
  · rw [if_pos e]; simp [e]
  · rw [if_neg e]; simp [e]
theorem sB_take {T : List St} {k : Nat} (p : Int) (h : k < T.length) : sB p (T.take (k + 1)) = sB p (T.take k) ++ (if (st T k).a ≤ p then [] else [⟨(st T k).m, (st T k).a - p⟩]) := by
  unfold sB
  rw [List.take_succ_eq_append_getElem h, List.filter_append, List.map_append, st_get h]
  by_cases e : T[k].a ≤ p
  · rw [if_pos e]; simp [e]
  · rw [if_neg e]; simp [e, sB1]
theorem sA_len (p : Int) (T : List St) : (sA p T).length ≤ T.length := List.length_filter_le _ _
theorem sB_len (p : Int) (T : List St) : (sB p T).length ≤ T.length := by
  unfold sB
  rw [List.length_map]
  exact List.length_filter_le _ _
theorem OwnF.mono {T : TypeId} {base base' : Nat} {w : World} {v : Value} {n k : Nat} {zs : List Int} (h : OwnF T base w v n k zs) (hb : base' ≤ base) : OwnF T base' w v n k zs := ⟨owns_mono h.1 hb, h.2⟩
theorem own_set {T ty : TypeId} {base B i : Nat} {w : World} {v u : Value} {n k : Nat} {zs : List Int} {cs : Array Value} (h : OwnF T base w v n k zs) (hB : w.heap[B]? = some (.cells cs ty (0, 0))) (hT : T ≠ ty) : OwnF T base (w.setCell ⟨B, i, none⟩ u) v n k zs :=
  OwnF.kept h (grown_setCell _ _ _) (.inr (own_ne_block h hB hT))
theorem set_block {B i : Nat} {w : World} {u : Value} {cs : Array Value} {ty : TypeId} (hB : w.heap[B]? = some (.cells cs ty (0, 0))) : (w.setCell ⟨B, i, none⟩ u).heap[B]? = some (.cells (cs.setIfInBounds i u) ty (0, 0)) := by
  rw [heap_setCell_same _ _ _ _ _ _ hB]
/-- It hands two marks back, rows of the call's own, apart. -/
def GivesPt (w : World) (S : List Sp) (T : List St) (S' : List Sp) (T' : List St) (e : Ending) (w' : World) : Prop := ∃ v1 v2 v3 v4, e = .returned (.tuple #[.agg #[v1, v2], .agg #[v3, v4]]) ∧ OwnSp w.heap.size w' v1 S ∧ OwnSt w.heap.size w' v2 T ∧ OwnSp w.heap.size w' v3 S' ∧ OwnSt w.heap.size w' v4 T' ∧ Aprt v1 v3 ∧ Aprt v2 v4 ∧ Below w.heap.size w w'
theorem give_end3 {w W : World} {base : Nat} {S S' : List Sp} {L L' : List St} {B B' : Nat} {ty : TypeId} {v1 v2 v3 v4 : Value} (hB : w.heap.size ≤ B) (hB' : w.heap.size ≤ B') (hne : B' ≠ B) (hbase : w.heap.size ≤ base) (h26 : 110 ≠ ty) (h41 : 148 ≠ ty)
    (r1 : W.heap[B]? = some (.cells #[.slice none 0 0, .slice none 0 0] ty (0, 0))) (r2 : W.heap[B']? = some (.cells #[.slice none 0 0, .slice none 0 0] ty (0, 0))) (hS : OwnSp base W v1 S) (hT : OwnSt base W v2 L) (hS' : OwnSp base W v3 S') (hT' : OwnSt base W v4 L') (ha : Aprt v1 v3) (ha' : Aprt v2 v4) (hb : Below w.heap.size w W) :
    GivesPt w S L S' L' (.returned (.tuple #[.agg #[v1, v2], .agg #[v3, v4]])) ((((W.setCell ⟨B, 0, none⟩ v1).setCell ⟨B, 1, none⟩ v2).setCell ⟨B', 0, none⟩ v3).setCell ⟨B', 1, none⟩ v4).drew := by
  have s1 := set_block (i := 0) (u := v1) r1
  have s2 := set_block (i := 1) (u := v2) s1
  have s2' : ((W.setCell ⟨B, 0, none⟩ v1).setCell ⟨B, 1, none⟩ v2).heap[B']? = some (.cells #[.slice none 0 0, .slice none 0 0] ty (0, 0)) := by
    rw [Below.heap_setCell _ _ _ _ (by exact hne), Below.heap_setCell _ _ _ _ (by exact hne)]
    exact r2
  have s3 := set_block (i := 0) (u := v3) s2'
  have s4 := set_block (i := 1) (u := v4) s3
  have go : ∀ {T : TypeId} {v : Value} {n k : Nat} {zs : List Int}, T ≠ ty → OwnF T base W v n k zs → OwnF T w.heap.size ((((W.setCell ⟨B, 0, none⟩ v1).setCell ⟨B, 1, none⟩ v2).setCell ⟨B', 0, none⟩ v3).setCell ⟨B', 1, none⟩ v4).drew v n k zs := fun hT h =>
    OwnF.below ((own_set (own_set (own_set (own_set h r1 hT) s1 hT) s2' hT) s3 hT).mono hbase) (Below.refl _ _).drew
  exact ⟨v1, v2, v3, v4, rfl, go h26 hS, go h41 hT, go h26 hS', go h41 hT', ha, ha', ((((hb.setCell (p := ⟨B, 0, none⟩) hB _).setCell (p := ⟨B, 1, none⟩) hB _).setCell (p := ⟨B', 0, none⟩) hB' _).setCell (p := ⟨B', 1, none⟩) hB' _).drew⟩

theorem alloc_at (w : World) (o : Obj) (i : Nat) : (w.alloc o).heap[i]? = if i = w.heap.size then some o else w.heap[i]? := by
  show (w.heap.push o)[i]? = _
  rw [Array.getElem?_push]

/-- Two records, apart, nothing else below them turned. -/
structure Two (ty : TypeId) (B1 B2 b : Nat) (W0 w : World) (v1 v2 u1 u2 : Value) (S : List Sp) (T : List St) (S' : List Sp) (T' : List St) : Prop where
  one : Rec ty B1 b w v1 v2 S T
  two : Rec ty B2 b w u1 u2 S' T'
  fst : Aprt v1 u1
  snd : Aprt v2 u2
  old : Below B1 W0 w
theorem Two.alloc {ty : TypeId} {B1 B2 b : Nat} {W0 w : World} {v1 v2 u1 u2 : Value} {S : List Sp} {T : List St} {S' : List Sp} {T' : List St} (h : Two ty B1 B2 b W0 w v1 v2 u1 u2 S T S' T') (o : Obj) : Two ty B1 B2 b W0 (w.alloc o) v1 v2 u1 u2 S T S' T' :=
  ⟨h.one.alloc o, h.two.alloc o, h.fst, h.snd, h.old.alloc (Nat.le_of_lt h.one.size) o⟩
theorem Two.put1 {ty : TypeId} {B1 B2 b : Nat} {W0 W w6 : World} {v1 v2 u1 u2 v6 : Value} {S S6 : List Sp} {T : List St} {S' : List Sp} {T' : List St} (h : Two ty B1 B2 b W0 W v1 v2 u1 u2 S T S' T') (h26 : 110 ≠ ty) (h41 : 148 ≠ ty) (hne : B2 ≠ B1) (hb : B1 ≤ b)
    (g5 : W.grownBy w6 v1.ownBlock) (K6 : OwnSp b w6 v6 S6) (hat : v6.ownBlock = v1.ownBlock ∨ v6.ownBlock = some W.heap.size) :
    w6.heap[B1]? = some (.cells #[v1, v2] ty (0, 0)) ∧ Two ty B1 B2 b W0 (w6.setCell ⟨B1, 0, none⟩ v6) v6 v2 u1 u2 S6 T S' T' := by
  obtain ⟨e, r⟩ := h.one.putFst h26 h41 g5 K6
  refine ⟨e, r, h.two.other h26 h41 g5 e hne (own_ne_block h.one.fst h.two.blk h26) h.fst.symm.ne (own_ne h.two.snd h.one.fst (by decide)), h.fst.moved hat (fun g hg => (OwnF.block h.two.fst g hg).2), h.snd, ?_⟩
  exact (h.old.grown g5 (Nat.le_of_lt h.one.size) (fun q e => Nat.le_trans hb (OwnF.block h.one.fst q e).1)).setCell (p := ⟨B1, 0, none⟩) (Nat.le_refl _) _
theorem Two.put2 {ty : TypeId} {B1 B2 b : Nat} {W0 W w6 : World} {v1 v2 u1 u2 v6 : Value} {S S6 : List Sp} {T : List St} {S' : List Sp} {T' : List St} (h : Two ty B1 B2 b W0 W v1 v2 u1 u2 S T S' T') (h26 : 110 ≠ ty) (h41 : 148 ≠ ty) (hne : B1 ≠ B2) (hb : B1 ≤ b) (h12 : B1 ≤ B2)
    (g5 : W.grownBy w6 u1.ownBlock) (K6 : OwnSp b w6 v6 S6) (hat : v6.ownBlock = u1.ownBlock ∨ v6.ownBlock = some W.heap.size) :
    w6.heap[B2]? = some (.cells #[u1, u2] ty (0, 0)) ∧ Two ty B1 B2 b W0 (w6.setCell ⟨B2, 0, none⟩ v6) v1 v2 v6 u2 S T S6 T' := by
  obtain ⟨e, r⟩ := h.two.putFst h26 h41 g5 K6
  refine ⟨e, h.one.other h26 h41 g5 e hne (own_ne_block h.two.fst h.one.blk h26) h.fst.ne (own_ne h.one.snd h.two.fst (by decide)), r, (h.fst.symm.moved hat (fun g hg => (OwnF.block h.one.fst g hg).2)).symm, h.snd, ?_⟩
  exact (h.old.grown g5 (Nat.le_of_lt h.one.size) (fun q e => Nat.le_trans hb (OwnF.block h.two.fst q e).1)).setCell (p := ⟨B2, 0, none⟩) h12 _
theorem Two.put3 {ty : TypeId} {B1 B2 b : Nat} {W0 W w6 : World} {v1 v2 u1 u2 v6 : Value} {S : List Sp} {T T6 : List St} {S' : List Sp} {T' : List St} (h : Two ty B1 B2 b W0 W v1 v2 u1 u2 S T S' T') (h26 : 110 ≠ ty) (h41 : 148 ≠ ty) (hne : B2 ≠ B1) (hb : B1 ≤ b)
    (g5 : W.grownBy w6 v2.ownBlock) (K6 : OwnSt b w6 v6 T6) (hat : v6.ownBlock = v2.ownBlock ∨ v6.ownBlock = some W.heap.size) :
    w6.heap[B1]? = some (.cells #[v1, v2] ty (0, 0)) ∧ Two ty B1 B2 b W0 (w6.setCell ⟨B1, 1, none⟩ v6) v1 v6 u1 u2 S T6 S' T' := by
  obtain ⟨e, r⟩ := h.one.putSnd h26 h41 g5 K6
  refine ⟨e, r, h.two.other h26 h41 g5 e hne (own_ne_block h.one.snd h.two.blk h41) (own_ne h.two.fst h.one.snd (by decide)) h.snd.symm.ne, h.fst, h.snd.moved hat (fun g hg => (OwnF.block h.two.snd g hg).2), ?_⟩
  exact (h.old.grown g5 (Nat.le_of_lt h.one.size) (fun q e => Nat.le_trans hb (OwnF.block h.one.snd q e).1)).setCell (p := ⟨B1, 1, none⟩) (Nat.le_refl _) _
theorem Two.put4 {ty : TypeId} {B1 B2 b : Nat} {W0 W w6 : World} {v1 v2 u1 u2 v6 : Value} {S : List Sp} {T T6 : List St} {S' : List Sp} {T' : List St} (h : Two ty B1 B2 b W0 W v1 v2 u1 u2 S T S' T') (h26 : 110 ≠ ty) (h41 : 148 ≠ ty) (hne : B1 ≠ B2) (hb : B1 ≤ b) (h12 : B1 ≤ B2)
    (g5 : W.grownBy w6 u2.ownBlock) (K6 : OwnSt b w6 v6 T6) (hat : v6.ownBlock = u2.ownBlock ∨ v6.ownBlock = some W.heap.size) :
    w6.heap[B2]? = some (.cells #[u1, u2] ty (0, 0)) ∧ Two ty B1 B2 b W0 (w6.setCell ⟨B2, 1, none⟩ v6) v1 v2 u1 v6 S T S' T6 := by
  obtain ⟨e, r⟩ := h.two.putSnd h26 h41 g5 K6
  refine ⟨e, h.one.other h26 h41 g5 e hne (own_ne_block h.two.snd h.one.blk h41) (own_ne h.one.fst h.two.snd (by decide)) h.snd.ne, r, h.fst, (h.snd.symm.moved hat (fun g hg => (OwnF.block h.one.snd g hg).2)).symm, ?_⟩
  exact (h.old.grown g5 (Nat.le_of_lt h.one.size) (fun q e => Nat.le_trans hb (OwnF.block h.two.snd q e).1)).setCell (p := ⟨B2, 1, none⟩) h12 _

set_option maxRecDepth 100000 in
set_option maxHeartbeats 16000000 in
theorem part_any {sv tv : Value} {S : List Sp} {T : List St} (p : Int) (w : World) (hS : Spans w sv S) (hT : Sites w tv T) (hp0 : 0 ≤ p) (hp : p ≤ 100000) (hn : S.length ≤ 10000) (hn2 : T.length ≤ 10000)
    (hok : ∀ j, j < S.length → 0 ≤ (sp S j).f ∧ (sp S j).f ≤ (sp S j).t ∧ (sp S j).t ≤ 100000) (hst : ∀ j, j < T.length → 0 ≤ (st T j).a ∧ (st T j).a ≤ 100000) :
    Calls Tryd.prog 118 #[.agg #[sv, tv], .int .i64 p] w (GivesPt w (pA p S) (sA p T) (pB p S) (sB p T)) := by
  obtain ⟨sa, sc, rfl, hls, hcs, hS1⟩ := hS.open_
  obtain ⟨ta, tc, rfl, hlt, hct, hT1⟩ := hT.open_
  have HS := Lib.hid hS1
  have HT := Lib.hid hT1
  have HOK := Lib.hid hok
  have HST := Lib.hid hst
  obtain ⟨ns, hns⟩ : ∃ ns, ns = S.length := ⟨_, rfl⟩
  obtain ⟨nt, hnt⟩ : ∃ nt, nt = T.length := ⟨_, rfl⟩
  have ES : Hid (pA p (S.take ns) = pA p S ∧ pB p (S.take ns) = pB p S) := by show _ ∧ _; rw [hns, List.take_length]; exact ⟨rfl, rfl⟩
  have ET : Hid (sA p (T.take nt) = sA p T ∧ sB p (T.take nt) = sB p T) := by show _ ∧ _; rw [hnt, List.take_length]; exact ⟨rfl, rfl⟩
  rw [← hns] at hls hn ⊢
  rw [← hnt] at hlt hn2 ⊢
  replace hns := Lib.hid hns
  replace hnt := Lib.hid hnt
  obtain ⟨W0, hW0⟩ : ∃ W0, W0 = ((((w.alloc (.cells #[.slice sa ns sc, .slice ta nt tc] 31)).alloc (.cells #[.slice none 0 0, .slice none 0 0] 31)).alloc (.cells #[.slice none 0 0, .slice none 0 0] 31)).alloc (.cells #[.slice none 0 0, .slice none 0 0] 31)).alloc (.cells #[.slice none 0 0, .slice none 0 0] 31) := ⟨_, rfl⟩
  have b0 : Below w.heap.size w W0 := by rw [hW0]; exact (((((Below.refl _ _).alloc (Nat.le_refl _) _).alloc (by simp) _).alloc (by simp; omega) _).alloc (by simp; omega) _).alloc (by simp; omega) _
  have h0 : W0.heap[w.heap.size]? = some (.cells #[.slice sa ns sc, .slice ta nt tc] 31 (0, 0)) := by rw [hW0]; simp only [alloc_at, World.size_alloc]; repeat (first | rw [if_pos (by first | trivial | omega)] | rw [if_neg (by omega)])
  have r1 : W0.heap[w.heap.size + 1]? = some (.cells #[.slice none 0 0, .slice none 0 0] 31 (0, 0)) := by rw [hW0]; simp only [alloc_at, World.size_alloc]; repeat (first | rw [if_pos (by first | trivial | omega)] | rw [if_neg (by omega)])
  have r2 : W0.heap[w.heap.size + 1 + 1]? = some (.cells #[.slice none 0 0, .slice none 0 0] 31 (0, 0)) := by rw [hW0]; simp only [alloc_at, World.size_alloc]; repeat (first | rw [if_pos (by first | trivial | omega)] | rw [if_neg (by omega)])
  have r3 : W0.heap[(w.heap.size + 1 + 1 + 1)]? = some (.cells #[.slice none 0 0, .slice none 0 0] 31 (0, 0)) := by rw [hW0]; simp only [alloc_at, World.size_alloc]; repeat (first | rw [if_pos (by first | trivial | omega)] | rw [if_neg (by omega)])
  have r4 : W0.heap[(w.heap.size + 1 + 1 + 1 + 1)]? = some (.cells #[.slice none 0 0, .slice none 0 0] 31 (0, 0)) := by rw [hW0]; simp only [alloc_at, World.size_alloc]; repeat (first | rw [if_pos (by first | trivial | omega)] | rw [if_neg (by omega)])
  have l0 : (w.heap.size + 1 + 1 + 1 + 1) < W0.heap.size := by rw [hW0]; simp
  have BX : Hid (∀ w', Below (w.heap.size + 1 + 1 + 1) W0 w' → w'.cell? ⟨w.heap.size, 0, none⟩ = some (.slice sa ns sc) ∧ w'.cell? ⟨w.heap.size, 1, none⟩ = some (.slice ta nt tc)) := fun w' hb => by
    refine ⟨below_cell hb (by omega) ?_, below_cell hb (by omega) ?_⟩ <;> (rw [cell_of_row _ _ _ _ _ _ h0]; rfl)
  have HW0 := Lib.hid hW0
  have B0 := Lib.hid b0
  have R1 := Lib.hid r1
  have R2 := Lib.hid r2
  have HZ : Hid (Two 31 (w.heap.size + 1 + 1 + 1) (w.heap.size + 1 + 1 + 1 + 1) W0.heap.size W0 W0 (.slice none 0 0) (.slice none 0 0) (.slice none 0 0) (.slice none 0 0) [] [] [] []) := ⟨⟨r3, OwnF.nil_ _ _ _ _, OwnF.nil_ _ _ _ _⟩, ⟨r4, OwnF.nil_ _ _ _ _, OwnF.nil_ _ _ _ _⟩, Aprt.nil_ _, Aprt.nil_ _, Below.refl _ _⟩
  clear hS1 hT1 hS hT h0 r1 r2 r3 r4 hW0 b0 hok hst
  go_enter Tryd.func118, Tryd.ntmps118
  go_wp2_with fail
  rw [← HW0.out]
  go_loopg [15] ns (fun g i wr => ∃ (k : Nat) (v u : Value), k ≤ ns ∧ ns - k ≤ g ∧ i = .int .i64 k ∧ Hid (Two 31 (w.heap.size + 1 + 1 + 1) (w.heap.size + 1 + 1 + 1 + 1) W0.heap.size W0 wr v (.slice none 0 0) u (.slice none 0 0) (pA p (S.take k)) [] (pB p (S.take k)) []))
  case atStart => exact ⟨0, .slice none 0 0, .slice none 0 0, Nat.zero_le _, by omega, rfl, HZ.out⟩
  case round =>
    clear HZ
    obtain ⟨k, v, u, hk, hg, rfl, HK⟩ := hrel
    obtain ⟨x0, x1⟩ := BX.out _ HK.out.old
    obtain ⟨A, hA⟩ : ∃ A, A = pA p (S.take k) := ⟨_, rfl⟩
    obtain ⟨B, hB⟩ : ∃ B, B = pB p (S.take k) := ⟨_, rfl⟩
    have hlA : A.length ≤ k := by rw [hA]; exact Nat.le_trans (pA_len p _) (List.length_take_le _ _)
    have hlB : B.length ≤ k := by rw [hB]; exact Nat.le_trans (pB_len p _) (List.length_take_le _ _)
    rw [← hA, ← hB] at HK
    obtain ⟨ao, co, rfl⟩ := HK.out.one.fst.is_slice
    obtain ⟨bo, do_, rfl⟩ := HK.out.two.fst.is_slice
    have w0 : W0.heap.size ≤ wr.heap.size := HK.out.old.size
    by_cases hltk : k < ns
    · have hkl : k < S.length := by rw [← hns.out]; exact hltk
      obtain ⟨b, off, rfl, hb, ⟨⟨m1, m2⟩, ⟨f1, f2⟩, ⟨t1, t2⟩⟩, c0, c1, c2⟩ := HS.out k hkl
      obtain ⟨g1, g2, g3⟩ := HOK.out k hkl
      have EA := Lib.hid (pA_take p hkl)
      have EB := Lib.hid (pB_take p hkl)
      rw [← hA] at EA
      rw [← hB] at EB
      obtain ⟨e, he⟩ : ∃ e, e = sp S k := ⟨_, rfl⟩
      rw [← he] at m1 m2 f1 f2 t1 t2 c0 c1 c2 g1 g2 g3 EA EB
      obtain ⟨m, f, t⟩ := e
      simp only at m1 m2 f1 f2 t1 t2 c0 c1 c2 g1 g2 g3
      have hbel2 : Below w.heap.size w wr := B0.out.trans (HK.out.old.mono (by omega))
      replace c0 := below_cell hbel2 hb c0
      replace c1 := below_cell hbel2 hb c1
      replace c2 := below_cell hbel2 hb c2
      have HX : Hid (Two 31 (w.heap.size + 1 + 1 + 1) (w.heap.size + 1 + 1 + 1 + 1) W0.heap.size W0 (wr.alloc (.cells #[.int .i64 m, .int .i64 f, .int .i64 t] 110)) (.slice ao A.length co) (.slice none 0 0) (.slice bo B.length do_) (.slice none 0 0) A [] B []) := HK.out.alloc _
      have HK9 : Hid (OwnSp W0.heap.size wr (.slice ao A.length co) A) := HK.out.one.fst
      have XB : Hid ((wr.alloc (.cells #[.int .i64 m, .int .i64 f, .int .i64 t] 110)).heap[wr.heap.size]? = some (.cells #[.int .i64 m, .int .i64 f, .int .i64 t] 110)) := heap_alloc_new wr (.cells #[.int .i64 m, .int .i64 f, .int .i64 t] 110)
      clear hbel2 HS HT HOK HST he hA hB HK
      go_upto_if 22 with fail
      go_cut [] from 16 to 59 (fun wx => ∃ v', Hid (Two 31 (w.heap.size + 1 + 1 + 1) (w.heap.size + 1 + 1 + 1 + 1) W0.heap.size W0 wx v' (.slice none 0 0) (.slice bo B.length do_) (.slice none 0 0) (pA p (S.take (k + 1))) [] B []) ∧ Hid (wx.heap[wr.heap.size]? = some (.cells #[.int .i64 m, .int .i64 f, .int .i64 t] 110)) ∧ Hid (wr.heap.size + 1 ≤ wx.heap.size))
      case first =>
        by_cases hf : f < p
        · have EN : Hid (pA p (S.take (k + 1)) = A ++ [⟨m, f, min t p⟩]) := EA.out.trans (by unfold pA1; rw [if_pos hf])
          clear EA EB
          have y0 := HX.out.one.cell0
          have y1 := HX.out.one.cell1
          by_cases hq : p < t
          · have EM : Hid (min t p = p) := by show _ = _; omega
            have HY : Hid (Two 31 (w.heap.size + 1 + 1 + 1) (w.heap.size + 1 + 1 + 1 + 1) W0.heap.size W0 ((wr.alloc (.cells #[.int .i64 m, .int .i64 f, .int .i64 t] 110)).alloc (.cells #[.int .i64 m, .int .i64 f, .int .i64 p] 110)) (.slice ao A.length co) (.slice none 0 0) (.slice bo B.length do_) (.slice none 0 0) A [] B []) := HX.out.alloc _
            have A1 := Lib.hid HY.out.one.fst
            have A2 : Hid (((wr.alloc (.cells #[.int .i64 m, .int .i64 f, .int .i64 t] 110)).alloc (.cells #[.int .i64 m, .int .i64 f, .int .i64 p] 110)).heap[wr.heap.size + 1]? = some (.cells #[.int .i64 m, .int .i64 f, .int .i64 p] 110)) := by have := heap_alloc_new (wr.alloc (.cells #[.int .i64 m, .int .i64 f, .int .i64 t] 110)) (.cells #[.int .i64 m, .int .i64 f, .int .i64 p] 110); rw [World.size_alloc] at this; exact this
            have A3 : Hid (A.length ≤ 100000) := by show _ ≤ _; omega
            have A4 : Hid (W0.heap.size ≤ ((wr.alloc (.cells #[.int .i64 m, .int .i64 f, .int .i64 t] 110)).alloc (.cells #[.int .i64 m, .int .i64 f, .int .i64 p] 110)).heap.size) := HY.out.old.size
            have A5 : Hid (∀ q ∈ [m, f, p], i64 q) := good3 ⟨m1, m2⟩ ⟨f1, f2⟩ ⟨by omega, by omega⟩
            obtain ⟨l6, hl6⟩ : ∃ l6, l6 = (pA p (S.take (k + 1))).length := ⟨_, rfl⟩
            have HAP : Hid (∀ (v6 : Value) (w6 : World), OwnF 110 W0.heap.size w6 v6 (A.length + 1) 3 (fl3 A ++ [m, f, p]) → ((wr.alloc (.cells #[.int .i64 m, .int .i64 f, .int .i64 t] 110)).alloc (.cells #[.int .i64 m, .int .i64 f, .int .i64 p] 110)).grownBy w6 (Value.slice ao A.length co).ownBlock → (v6.ownBlock = (Value.slice ao A.length co).ownBlock ∨ v6.ownBlock = some (wr.heap.size + 1 + 1)) →
                (∃ a6 c6, v6 = .slice a6 l6 c6) ∧ w6.cell? ⟨(w.heap.size + 1 + 1 + 1), 0, none⟩ = some (.slice ao A.length co) ∧ w6.cell? ⟨(w.heap.size + 1 + 1 + 1), 1, none⟩ = some (.slice none 0 0) ∧ w6.frozen? ⟨(w.heap.size + 1 + 1 + 1), 0, none⟩ = false ∧
                Hid (Two 31 (w.heap.size + 1 + 1 + 1) (w.heap.size + 1 + 1 + 1 + 1) W0.heap.size W0 (w6.setCell ⟨(w.heap.size + 1 + 1 + 1), 0, none⟩ v6) v6 (.slice none 0 0) (.slice bo B.length do_) (.slice none 0 0) (pA p (S.take (k + 1))) [] B []) ∧ Hid ((w6.setCell ⟨(w.heap.size + 1 + 1 + 1), 0, none⟩ v6).heap[wr.heap.size]? = some (.cells #[.int .i64 m, .int .i64 f, .int .i64 t] 110)) ∧ Hid (wr.heap.size + 1 ≤ (w6.setCell ⟨(w.heap.size + 1 + 1 + 1), 0, none⟩ v6).heap.size)) := fun v6 w6 h5 g5 hat => by
              have K6 : OwnSp W0.heap.size w6 v6 (pA p (S.take (k + 1))) := by
                show OwnF _ _ _ _ _ _ _
                rw [EN.out, EM.out, fl3_app, List.length_append]
                exact h5
              obtain ⟨hB6, hR6⟩ := HY.out.put1 (by decide) (by decide) (by omega) (by omega) g5 K6 (by simpa using hat)
              refine ⟨by rw [hl6]; exact K6.is_slice, by rw [cell_of_row _ _ _ _ _ _ hB6]; rfl, by rw [cell_of_row _ _ _ _ _ _ hB6]; rfl, block_frozen hB6, hR6, ?_, ?_⟩
              · show _ = _
                rw [Below.heap_setCell _ _ _ _ (by show wr.heap.size ≠ (w.heap.size + 1 + 1 + 1); omega), g5.block _ (by simp; omega) (fun e => by have h9 := (OwnF.block HK9.out _ e.symm).2; omega), Below.heap_alloc _ _ _ (by simp)]
                exact XB.out
              · show _ ≤ _
                have := g5.size
                simp at this ⊢
                omega
            clear hl6 EN EM
            go_wp2_with (at_builtin; refine wpList_append_at rfl _ _ 22 110 3 24 _ Tryd.underlying22 infoSpan rfl (by decide) (by decide) rfl W0.heap.size _ A.length _ rfl A1.out (wr.heap.size + 1) [m, f, p] rfl A2.out rfl A5.out A3.out A4.out ?_)
            intro v6 w6 h5 g5 hat
            obtain ⟨⟨a6, c6, rfl⟩, u6, u7, f6, E1, E2, E3⟩ := HAP.out v6 w6 h5 g5 hat
            clear h5 g5 hat A1 A2 A3 A4 A5 HAP HX HY y0 y1 XB
            go_wp2_with fail
            go_meet
            case rel => exact ⟨_, E1.out, E2.out, E3.out⟩
          · have EM : Hid (min t p = t) := by show _ = _; omega
            have HY : Hid (Two 31 (w.heap.size + 1 + 1 + 1) (w.heap.size + 1 + 1 + 1 + 1) W0.heap.size W0 ((wr.alloc (.cells #[.int .i64 m, .int .i64 f, .int .i64 t] 110)).alloc (.cells #[.int .i64 m, .int .i64 f, .int .i64 t] 110)) (.slice ao A.length co) (.slice none 0 0) (.slice bo B.length do_) (.slice none 0 0) A [] B []) := HX.out.alloc _
            have A1 := Lib.hid HY.out.one.fst
            have A2 : Hid (((wr.alloc (.cells #[.int .i64 m, .int .i64 f, .int .i64 t] 110)).alloc (.cells #[.int .i64 m, .int .i64 f, .int .i64 t] 110)).heap[wr.heap.size + 1]? = some (.cells #[.int .i64 m, .int .i64 f, .int .i64 t] 110)) := by have := heap_alloc_new (wr.alloc (.cells #[.int .i64 m, .int .i64 f, .int .i64 t] 110)) (.cells #[.int .i64 m, .int .i64 f, .int .i64 t] 110); rw [World.size_alloc] at this; exact this
            have A3 : Hid (A.length ≤ 100000) := by show _ ≤ _; omega
            have A4 : Hid (W0.heap.size ≤ ((wr.alloc (.cells #[.int .i64 m, .int .i64 f, .int .i64 t] 110)).alloc (.cells #[.int .i64 m, .int .i64 f, .int .i64 t] 110)).heap.size) := HY.out.old.size
            have A5 : Hid (∀ q ∈ [m, f, t], i64 q) := good3 ⟨m1, m2⟩ ⟨f1, f2⟩ ⟨by omega, by omega⟩
            obtain ⟨l6, hl6⟩ : ∃ l6, l6 = (pA p (S.take (k + 1))).length := ⟨_, rfl⟩
            have HAP : Hid (∀ (v6 : Value) (w6 : World), OwnF 110 W0.heap.size w6 v6 (A.length + 1) 3 (fl3 A ++ [m, f, t]) → ((wr.alloc (.cells #[.int .i64 m, .int .i64 f, .int .i64 t] 110)).alloc (.cells #[.int .i64 m, .int .i64 f, .int .i64 t] 110)).grownBy w6 (Value.slice ao A.length co).ownBlock → (v6.ownBlock = (Value.slice ao A.length co).ownBlock ∨ v6.ownBlock = some (wr.heap.size + 1 + 1)) →
                (∃ a6 c6, v6 = .slice a6 l6 c6) ∧ w6.cell? ⟨(w.heap.size + 1 + 1 + 1), 0, none⟩ = some (.slice ao A.length co) ∧ w6.cell? ⟨(w.heap.size + 1 + 1 + 1), 1, none⟩ = some (.slice none 0 0) ∧ w6.frozen? ⟨(w.heap.size + 1 + 1 + 1), 0, none⟩ = false ∧
                Hid (Two 31 (w.heap.size + 1 + 1 + 1) (w.heap.size + 1 + 1 + 1 + 1) W0.heap.size W0 (w6.setCell ⟨(w.heap.size + 1 + 1 + 1), 0, none⟩ v6) v6 (.slice none 0 0) (.slice bo B.length do_) (.slice none 0 0) (pA p (S.take (k + 1))) [] B []) ∧ Hid ((w6.setCell ⟨(w.heap.size + 1 + 1 + 1), 0, none⟩ v6).heap[wr.heap.size]? = some (.cells #[.int .i64 m, .int .i64 f, .int .i64 t] 110)) ∧ Hid (wr.heap.size + 1 ≤ (w6.setCell ⟨(w.heap.size + 1 + 1 + 1), 0, none⟩ v6).heap.size)) := fun v6 w6 h5 g5 hat => by
              have K6 : OwnSp W0.heap.size w6 v6 (pA p (S.take (k + 1))) := by
                show OwnF _ _ _ _ _ _ _
                rw [EN.out, EM.out, fl3_app, List.length_append]
                exact h5
              obtain ⟨hB6, hR6⟩ := HY.out.put1 (by decide) (by decide) (by omega) (by omega) g5 K6 (by simpa using hat)
              refine ⟨by rw [hl6]; exact K6.is_slice, by rw [cell_of_row _ _ _ _ _ _ hB6]; rfl, by rw [cell_of_row _ _ _ _ _ _ hB6]; rfl, block_frozen hB6, hR6, ?_, ?_⟩
              · show _ = _
                rw [Below.heap_setCell _ _ _ _ (by show wr.heap.size ≠ (w.heap.size + 1 + 1 + 1); omega), g5.block _ (by simp; omega) (fun e => by have h9 := (OwnF.block HK9.out _ e.symm).2; omega), Below.heap_alloc _ _ _ (by simp)]
                exact XB.out
              · show _ ≤ _
                have := g5.size
                simp at this ⊢
                omega
            clear hl6 EN EM
            go_wp2_with (at_builtin; refine wpList_append_at rfl _ _ 22 110 3 24 _ Tryd.underlying22 infoSpan rfl (by decide) (by decide) rfl W0.heap.size _ A.length _ rfl A1.out (wr.heap.size + 1) [m, f, t] rfl A2.out rfl A5.out A3.out A4.out ?_)
            intro v6 w6 h5 g5 hat
            obtain ⟨⟨a6, c6, rfl⟩, u6, u7, f6, E1, E2, E3⟩ := HAP.out v6 w6 h5 g5 hat
            clear h5 g5 hat A1 A2 A3 A4 A5 HAP HX HY y0 y1 XB
            go_wp2_with fail
            go_meet
            case rel => exact ⟨_, E1.out, E2.out, E3.out⟩
        · have EN : Hid (pA p (S.take (k + 1)) = A) := EA.out.trans (by unfold pA1; rw [if_neg hf, List.append_nil])
          clear EA EB
          go_wp2_with fail
          go_meet
          case rel => exact ⟨_, by rw [EN.out]; exact HX.out, XB.out, by show _ ≤ _; simp⟩
      case rest =>
        obtain ⟨v', HT2, XB2, XL⟩ := hcut
        have lx := XL.out
        clear HX XB EA x0 x1 XL
        obtain ⟨A', hA'⟩ : ∃ A', A' = pA p (S.take (k + 1)) := ⟨_, rfl⟩
        rw [← hA'] at HT2
        have HA' := Lib.hid hA'
        clear hA'
        obtain ⟨x0, x1⟩ := BX.out _ HT2.out.old
        have c3 : wc.cell? ⟨wr.heap.size, 0, none⟩ = some (.int .i64 m) := by rw [cell_of_row _ _ _ _ _ _ XB2.out]; rfl
        have c4 : wc.cell? ⟨wr.heap.size, 1, none⟩ = some (.int .i64 f) := by rw [cell_of_row _ _ _ _ _ _ XB2.out]; rfl
        have c5 : wc.cell? ⟨wr.heap.size, 2, none⟩ = some (.int .i64 t) := by rw [cell_of_row _ _ _ _ _ _ XB2.out]; rfl
        by_cases hq : p < t
        · have EN : Hid (pB p (S.take (k + 1)) = B ++ [⟨m, max f p - p, t - p⟩]) := EB.out.trans (by unfold pB1; rw [if_pos hq])
          clear EB
          have y0 := HT2.out.two.cell0
          have y1 := HT2.out.two.cell1
          by_cases hf : f < p
          · have EM : Hid (max f p - p = 0) := by show _ = _; omega
            have HY : Hid (Two 31 (w.heap.size + 1 + 1 + 1) (w.heap.size + 1 + 1 + 1 + 1) W0.heap.size W0 (wc.alloc (.cells #[.int .i64 m, .int .i64 0, .int .i64 (t - p)] 110)) v' (.slice none 0 0) (.slice bo B.length do_) (.slice none 0 0) A' [] B []) := HT2.out.alloc _
            have A1 := Lib.hid HY.out.two.fst
            have A2 : Hid ((wc.alloc (.cells #[.int .i64 m, .int .i64 0, .int .i64 (t - p)] 110)).heap[wc.heap.size]? = some (.cells #[.int .i64 m, .int .i64 0, .int .i64 (t - p)] 110)) := heap_alloc_new wc (.cells #[.int .i64 m, .int .i64 0, .int .i64 (t - p)] 110)
            have A3 : Hid (B.length ≤ 100000) := by show _ ≤ _; omega
            have A4 : Hid (W0.heap.size ≤ (wc.alloc (.cells #[.int .i64 m, .int .i64 0, .int .i64 (t - p)] 110)).heap.size) := HY.out.old.size
            have A5 : Hid (∀ q ∈ [m, 0, t - p], i64 q) := good3 ⟨m1, m2⟩ ⟨by omega, by omega⟩ ⟨by omega, by omega⟩
            obtain ⟨l6, hl6⟩ : ∃ l6, l6 = (pB p (S.take (k + 1))).length := ⟨_, rfl⟩
            have HAP : Hid (∀ (v6 : Value) (w6 : World), OwnF 110 W0.heap.size w6 v6 (B.length + 1) 3 (fl3 B ++ [m, 0, t - p]) → (wc.alloc (.cells #[.int .i64 m, .int .i64 0, .int .i64 (t - p)] 110)).grownBy w6 (Value.slice bo B.length do_).ownBlock → (v6.ownBlock = (Value.slice bo B.length do_).ownBlock ∨ v6.ownBlock = some (wc.heap.size + 1)) →
                (∃ a6 c6, v6 = .slice a6 l6 c6) ∧ w6.cell? ⟨(w.heap.size + 1 + 1 + 1 + 1), 0, none⟩ = some (.slice bo B.length do_) ∧ w6.cell? ⟨(w.heap.size + 1 + 1 + 1 + 1), 1, none⟩ = some (.slice none 0 0) ∧ w6.frozen? ⟨(w.heap.size + 1 + 1 + 1 + 1), 0, none⟩ = false ∧
                Hid (Two 31 (w.heap.size + 1 + 1 + 1) (w.heap.size + 1 + 1 + 1 + 1) W0.heap.size W0 (w6.setCell ⟨(w.heap.size + 1 + 1 + 1 + 1), 0, none⟩ v6) v' (.slice none 0 0) v6 (.slice none 0 0) A' [] (pB p (S.take (k + 1))) [])) := fun v6 w6 h5 g5 hat => by
              have K6 : OwnSp W0.heap.size w6 v6 (pB p (S.take (k + 1))) := by
                show OwnF _ _ _ _ _ _ _
                rw [EN.out, EM.out, fl3_app, List.length_append]
                exact h5
              obtain ⟨hB6, hR6⟩ := HY.out.put2 (by decide) (by decide) (by omega) (by omega) (by omega) g5 K6 (by simpa using hat)
              exact ⟨by rw [hl6]; exact K6.is_slice, by rw [cell_of_row _ _ _ _ _ _ hB6]; rfl, by rw [cell_of_row _ _ _ _ _ _ hB6]; rfl, block_frozen hB6, hR6⟩
            clear hl6 EN EM
            go_wp2_with (at_builtin; refine wpList_append_at rfl _ _ 22 110 3 24 _ Tryd.underlying22 infoSpan rfl (by decide) (by decide) rfl W0.heap.size _ B.length _ rfl A1.out wc.heap.size [m, 0, t - p] rfl A2.out rfl A5.out A3.out A4.out ?_)
            intro v6 w6 h5 g5 hat
            obtain ⟨⟨a6, c6, rfl⟩, u6, u7, f6, E1⟩ := HAP.out v6 w6 h5 g5 hat
            clear h5 g5 hat A1 A2 A3 A4 A5 HAP HT2 HY y0 y1
            go_wp2_with fail
            go_roundg (ns - (k + 1))
            case measure => omega
            case rel => exact ⟨k + 1, _, _, by omega, Nat.le_refl _, by go_num, by rw [← HA'.out]; exact E1.out⟩
          · have EM : Hid (max f p - p = f - p) := by show _ = _; omega
            have HY : Hid (Two 31 (w.heap.size + 1 + 1 + 1) (w.heap.size + 1 + 1 + 1 + 1) W0.heap.size W0 (wc.alloc (.cells #[.int .i64 m, .int .i64 (f - p), .int .i64 (t - p)] 110)) v' (.slice none 0 0) (.slice bo B.length do_) (.slice none 0 0) A' [] B []) := HT2.out.alloc _
            have A1 := Lib.hid HY.out.two.fst
            have A2 : Hid ((wc.alloc (.cells #[.int .i64 m, .int .i64 (f - p), .int .i64 (t - p)] 110)).heap[wc.heap.size]? = some (.cells #[.int .i64 m, .int .i64 (f - p), .int .i64 (t - p)] 110)) := heap_alloc_new wc (.cells #[.int .i64 m, .int .i64 (f - p), .int .i64 (t - p)] 110)
            have A3 : Hid (B.length ≤ 100000) := by show _ ≤ _; omega
            have A4 : Hid (W0.heap.size ≤ (wc.alloc (.cells #[.int .i64 m, .int .i64 (f - p), .int .i64 (t - p)] 110)).heap.size) := HY.out.old.size
            have A5 : Hid (∀ q ∈ [m, f - p, t - p], i64 q) := good3 ⟨m1, m2⟩ ⟨by omega, by omega⟩ ⟨by omega, by omega⟩
            obtain ⟨l6, hl6⟩ : ∃ l6, l6 = (pB p (S.take (k + 1))).length := ⟨_, rfl⟩
            have HAP : Hid (∀ (v6 : Value) (w6 : World), OwnF 110 W0.heap.size w6 v6 (B.length + 1) 3 (fl3 B ++ [m, f - p, t - p]) → (wc.alloc (.cells #[.int .i64 m, .int .i64 (f - p), .int .i64 (t - p)] 110)).grownBy w6 (Value.slice bo B.length do_).ownBlock → (v6.ownBlock = (Value.slice bo B.length do_).ownBlock ∨ v6.ownBlock = some (wc.heap.size + 1)) →
                (∃ a6 c6, v6 = .slice a6 l6 c6) ∧ w6.cell? ⟨(w.heap.size + 1 + 1 + 1 + 1), 0, none⟩ = some (.slice bo B.length do_) ∧ w6.cell? ⟨(w.heap.size + 1 + 1 + 1 + 1), 1, none⟩ = some (.slice none 0 0) ∧ w6.frozen? ⟨(w.heap.size + 1 + 1 + 1 + 1), 0, none⟩ = false ∧
                Hid (Two 31 (w.heap.size + 1 + 1 + 1) (w.heap.size + 1 + 1 + 1 + 1) W0.heap.size W0 (w6.setCell ⟨(w.heap.size + 1 + 1 + 1 + 1), 0, none⟩ v6) v' (.slice none 0 0) v6 (.slice none 0 0) A' [] (pB p (S.take (k + 1))) [])) := fun v6 w6 h5 g5 hat => by
              have K6 : OwnSp W0.heap.size w6 v6 (pB p (S.take (k + 1))) := by
                show OwnF _ _ _ _ _ _ _
                rw [EN.out, EM.out, fl3_app, List.length_append]
                exact h5
              obtain ⟨hB6, hR6⟩ := HY.out.put2 (by decide) (by decide) (by omega) (by omega) (by omega) g5 K6 (by simpa using hat)
              exact ⟨by rw [hl6]; exact K6.is_slice, by rw [cell_of_row _ _ _ _ _ _ hB6]; rfl, by rw [cell_of_row _ _ _ _ _ _ hB6]; rfl, block_frozen hB6, hR6⟩
            clear hl6 EN EM
            go_wp2_with (at_builtin; refine wpList_append_at rfl _ _ 22 110 3 24 _ Tryd.underlying22 infoSpan rfl (by decide) (by decide) rfl W0.heap.size _ B.length _ rfl A1.out wc.heap.size [m, f - p, t - p] rfl A2.out rfl A5.out A3.out A4.out ?_)
            intro v6 w6 h5 g5 hat
            obtain ⟨⟨a6, c6, rfl⟩, u6, u7, f6, E1⟩ := HAP.out v6 w6 h5 g5 hat
            clear h5 g5 hat A1 A2 A3 A4 A5 HAP HT2 HY y0 y1
            go_wp2_with fail
            go_roundg (ns - (k + 1))
            case measure => omega
            case rel => exact ⟨k + 1, _, _, by omega, Nat.le_refl _, by go_num, by rw [← HA'.out]; exact E1.out⟩
        · have EN : Hid (pB p (S.take (k + 1)) = B) := EB.out.trans (by unfold pB1; rw [if_neg hq, List.append_nil])
          clear EB
          go_wp2_with fail
          go_roundg (ns - (k + 1))
          case measure => omega
          case rel => exact ⟨k + 1, _, _, by omega, Nat.le_refl _, by go_num, by rw [EN.out, ← HA'.out]; exact HT2.out⟩
    · obtain rfl : k = ns := by omega
      have HRA : Hid (A = pA p S) := hA.trans ES.out.1
      have HRB : Hid (B = pB p S) := hB.trans ES.out.2
      obtain ⟨w1, hw1⟩ : ∃ w1 : World, w1 = wr := ⟨_, rfl⟩
      rw [← hw1] at HK
      clear hA hB x0 x1 w0
      subst hw1
      have x0 := (BX.out _ HK.out.old).1
      have x1 := (BX.out _ HK.out.old).2
      have HKA := Lib.hid HK.out.one.fst
      generalize A.length = la at *
      generalize B.length = lb at *
      go_wp2_with fail
      go_loopg [63] nt (fun g i wr => ∃ (k : Nat) (v u : Value), k ≤ nt ∧ nt - k ≤ g ∧ i = .int .i64 k ∧ Hid (Two 31 (w.heap.size + 1 + 1 + 1) (w.heap.size + 1 + 1 + 1 + 1) W0.heap.size W0 wr (.slice ao la co) v (.slice bo lb do_) u A (sA p (T.take k)) B (sB p (T.take k))))
      case atStart => exact ⟨0, .slice none 0 0, .slice none 0 0, Nat.zero_le _, by omega, rfl, HK.out⟩
      case round =>
        clear HK HKA x0 x1
        obtain ⟨k, v, u, hk, hg, rfl, HK⟩ := hrel
        obtain ⟨x0, x1⟩ := BX.out _ HK.out.old
        obtain ⟨A4', hA⟩ : ∃ A, A = sA p (T.take k) := ⟨_, rfl⟩
        obtain ⟨B4', hB⟩ : ∃ B, B = sB p (T.take k) := ⟨_, rfl⟩
        have hlA : A4'.length ≤ k := by rw [hA]; exact Nat.le_trans (sA_len p _) (List.length_take_le _ _)
        have hlB : B4'.length ≤ k := by rw [hB]; exact Nat.le_trans (sB_len p _) (List.length_take_le _ _)
        rw [← hA, ← hB] at HK
        obtain ⟨eo, fo, rfl⟩ := HK.out.one.snd.is_slice
        obtain ⟨go, ho, rfl⟩ := HK.out.two.snd.is_slice
        have w0 : W0.heap.size ≤ wr.heap.size := HK.out.old.size
        by_cases hltk : k < nt
        · have hkl : k < T.length := by rw [← hnt.out]; exact hltk
          obtain ⟨b, off, rfl, hb, ⟨⟨m1, m2⟩, ⟨f1, f2⟩⟩, c0, c1⟩ := HT.out k hkl
          obtain ⟨g1, g2⟩ := HST.out k hkl
          have EA := Lib.hid (sA_take p hkl)
          have EB := Lib.hid (sB_take p hkl)
          rw [← hA] at EA
          rw [← hB] at EB
          obtain ⟨e, he⟩ : ∃ e, e = st T k := ⟨_, rfl⟩
          rw [← he] at m1 m2 f1 f2 c0 c1 g1 g2 EA EB
          obtain ⟨m, f⟩ := e
          simp only at m1 m2 f1 f2 c0 c1 g1 g2
          have hbel2 : Below w.heap.size w wr := B0.out.trans (HK.out.old.mono (by omega))
          replace c0 := below_cell hbel2 hb c0
          replace c1 := below_cell hbel2 hb c1
          have HX : Hid (Two 31 (w.heap.size + 1 + 1 + 1) (w.heap.size + 1 + 1 + 1 + 1) W0.heap.size W0 (wr.alloc (.cells #[.int .i64 m, .int .i64 f] 148)) (.slice ao la co) (.slice eo A4'.length fo) (.slice bo lb do_) (.slice go B4'.length ho) A A4' B B4') := HK.out.alloc _
          clear hbel2 HS HT HOK HST he hA hB HK
          by_cases hf : f ≤ p
          · have EN : Hid (sA p (T.take (k + 1)) = A4' ++ [⟨m, f⟩]) := EA.out.trans (by rw [if_pos hf])
            have EN2 : Hid (sB p (T.take (k + 1)) = B4') := EB.out.trans (by rw [if_pos hf, List.append_nil])
            clear EA EB
            have y0 := HX.out.one.cell0
            have y1 := HX.out.one.cell1
            have HY : Hid (Two 31 (w.heap.size + 1 + 1 + 1) (w.heap.size + 1 + 1 + 1 + 1) W0.heap.size W0 ((wr.alloc (.cells #[.int .i64 m, .int .i64 f] 148)).alloc (.cells #[.int .i64 m, .int .i64 f] 148)) (.slice ao la co) (.slice eo A4'.length fo) (.slice bo lb do_) (.slice go B4'.length ho) A A4' B B4') := HX.out.alloc _
            have A1 := Lib.hid HY.out.one.snd
            have A2 : Hid (((wr.alloc (.cells #[.int .i64 m, .int .i64 f] 148)).alloc (.cells #[.int .i64 m, .int .i64 f] 148)).heap[wr.heap.size + 1]? = some (.cells #[.int .i64 m, .int .i64 f] 148)) := by have := heap_alloc_new (wr.alloc (.cells #[.int .i64 m, .int .i64 f] 148)) (.cells #[.int .i64 m, .int .i64 f] 148); rw [World.size_alloc] at this; exact this
            have A3 : Hid (A4'.length ≤ 100000) := by show _ ≤ _; omega
            have A4 : Hid (W0.heap.size ≤ ((wr.alloc (.cells #[.int .i64 m, .int .i64 f] 148)).alloc (.cells #[.int .i64 m, .int .i64 f] 148)).heap.size) := HY.out.old.size
            have A5 : Hid (∀ q ∈ [m, f], i64 q) := good2 ⟨m1, m2⟩ ⟨by omega, by omega⟩
            obtain ⟨l6, hl6⟩ : ∃ l6, l6 = (sA p (T.take (k + 1))).length := ⟨_, rfl⟩
            have HAP : Hid (∀ (v6 : Value) (w6 : World), OwnF 148 W0.heap.size w6 v6 (A4'.length + 1) 2 (fl2 A4' ++ [m, f]) → ((wr.alloc (.cells #[.int .i64 m, .int .i64 f] 148)).alloc (.cells #[.int .i64 m, .int .i64 f] 148)).grownBy w6 (Value.slice eo A4'.length fo).ownBlock → (v6.ownBlock = (Value.slice eo A4'.length fo).ownBlock ∨ v6.ownBlock = some (wr.heap.size + 1 + 1)) →
                (∃ a6 c6, v6 = .slice a6 l6 c6) ∧ w6.cell? ⟨(w.heap.size + 1 + 1 + 1), 0, none⟩ = some (.slice ao la co) ∧ w6.cell? ⟨(w.heap.size + 1 + 1 + 1), 1, none⟩ = some (.slice eo A4'.length fo) ∧ w6.frozen? ⟨(w.heap.size + 1 + 1 + 1), 1, none⟩ = false ∧
                Hid (Two 31 (w.heap.size + 1 + 1 + 1) (w.heap.size + 1 + 1 + 1 + 1) W0.heap.size W0 (w6.setCell ⟨(w.heap.size + 1 + 1 + 1), 1, none⟩ v6) (.slice ao la co) v6 (.slice bo lb do_) (.slice go B4'.length ho) A (sA p (T.take (k + 1))) B (sB p (T.take (k + 1))))) := fun v6 w6 h5 g5 hat => by
              have K6 : OwnSt W0.heap.size w6 v6 (sA p (T.take (k + 1))) := by
                show OwnF _ _ _ _ _ _ _
                rw [EN.out, fl2_app, List.length_append]
                exact h5
              obtain ⟨hB6, hR6⟩ := HY.out.put3 (by decide) (by decide) (by omega) (by omega) g5 K6 (by simpa using hat)
              exact ⟨by rw [hl6]; exact K6.is_slice, by rw [cell_of_row _ _ _ _ _ _ hB6]; rfl, by rw [cell_of_row _ _ _ _ _ _ hB6]; rfl, block_frozen hB6, by rw [EN2.out]; exact hR6⟩
            clear hl6 EN EN2
            go_wp2_with (at_builtin; refine wpList_append_at rfl _ _ 23 148 2 16 _ Tryd.underlying23 infoSite rfl (by decide) (by decide) rfl W0.heap.size _ A4'.length _ rfl A1.out (wr.heap.size + 1) [m, f] rfl A2.out rfl A5.out A3.out A4.out ?_)
            intro v6 w6 h5 g5 hat
            obtain ⟨⟨a6, c6, rfl⟩, u6, u7, f6, E1⟩ := HAP.out v6 w6 h5 g5 hat
            clear h5 g5 hat A1 A2 A3 A4 A5 HAP HX HY y0 y1
            go_wp2_with fail
            go_roundg (nt - (k + 1))
            case measure => omega
            case rel => exact ⟨k + 1, _, _, by omega, Nat.le_refl _, by go_num, E1.out⟩
          · have EN : Hid (sB p (T.take (k + 1)) = B4' ++ [⟨m, f - p⟩]) := EB.out.trans (by rw [if_neg hf])
            have EN2 : Hid (sA p (T.take (k + 1)) = A4') := EA.out.trans (by rw [if_neg hf, List.append_nil])
            clear EA EB
            have y0 := HX.out.two.cell0
            have y1 := HX.out.two.cell1
            have HY : Hid (Two 31 (w.heap.size + 1 + 1 + 1) (w.heap.size + 1 + 1 + 1 + 1) W0.heap.size W0 ((wr.alloc (.cells #[.int .i64 m, .int .i64 f] 148)).alloc (.cells #[.int .i64 m, .int .i64 (f - p)] 148)) (.slice ao la co) (.slice eo A4'.length fo) (.slice bo lb do_) (.slice go B4'.length ho) A A4' B B4') := HX.out.alloc _
            have A1 := Lib.hid HY.out.two.snd
            have A2 : Hid (((wr.alloc (.cells #[.int .i64 m, .int .i64 f] 148)).alloc (.cells #[.int .i64 m, .int .i64 (f - p)] 148)).heap[wr.heap.size + 1]? = some (.cells #[.int .i64 m, .int .i64 (f - p)] 148)) := by have := heap_alloc_new (wr.alloc (.cells #[.int .i64 m, .int .i64 f] 148)) (.cells #[.int .i64 m, .int .i64 (f - p)] 148); rw [World.size_alloc] at this; exact this
            have A3 : Hid (B4'.length ≤ 100000) := by show _ ≤ _; omega
            have A4 : Hid (W0.heap.size ≤ ((wr.alloc (.cells #[.int .i64 m, .int .i64 f] 148)).alloc (.cells #[.int .i64 m, .int .i64 (f - p)] 148)).heap.size) := HY.out.old.size
            have A5 : Hid (∀ q ∈ [m, f - p], i64 q) := good2 ⟨m1, m2⟩ ⟨by omega, by omega⟩
            obtain ⟨l6, hl6⟩ : ∃ l6, l6 = (sB p (T.take (k + 1))).length := ⟨_, rfl⟩
            have HAP : Hid (∀ (v6 : Value) (w6 : World), OwnF 148 W0.heap.size w6 v6 (B4'.length + 1) 2 (fl2 B4' ++ [m, f - p]) → ((wr.alloc (.cells #[.int .i64 m, .int .i64 f] 148)).alloc (.cells #[.int .i64 m, .int .i64 (f - p)] 148)).grownBy w6 (Value.slice go B4'.length ho).ownBlock → (v6.ownBlock = (Value.slice go B4'.length ho).ownBlock ∨ v6.ownBlock = some (wr.heap.size + 1 + 1)) →
                (∃ a6 c6, v6 = .slice a6 l6 c6) ∧ w6.cell? ⟨(w.heap.size + 1 + 1 + 1 + 1), 0, none⟩ = some (.slice bo lb do_) ∧ w6.cell? ⟨(w.heap.size + 1 + 1 + 1 + 1), 1, none⟩ = some (.slice go B4'.length ho) ∧ w6.frozen? ⟨(w.heap.size + 1 + 1 + 1 + 1), 1, none⟩ = false ∧
                Hid (Two 31 (w.heap.size + 1 + 1 + 1) (w.heap.size + 1 + 1 + 1 + 1) W0.heap.size W0 (w6.setCell ⟨(w.heap.size + 1 + 1 + 1 + 1), 1, none⟩ v6) (.slice ao la co) (.slice eo A4'.length fo) (.slice bo lb do_) v6 A (sA p (T.take (k + 1))) B (sB p (T.take (k + 1))))) := fun v6 w6 h5 g5 hat => by
              have K6 : OwnSt W0.heap.size w6 v6 (sB p (T.take (k + 1))) := by
                show OwnF _ _ _ _ _ _ _
                rw [EN.out, fl2_app, List.length_append]
                exact h5
              obtain ⟨hB6, hR6⟩ := HY.out.put4 (by decide) (by decide) (by omega) (by omega) (by omega) g5 K6 (by simpa using hat)
              exact ⟨by rw [hl6]; exact K6.is_slice, by rw [cell_of_row _ _ _ _ _ _ hB6]; rfl, by rw [cell_of_row _ _ _ _ _ _ hB6]; rfl, block_frozen hB6, by rw [EN2.out]; exact hR6⟩
            clear hl6 EN EN2
            go_wp2_with (at_builtin; refine wpList_append_at rfl _ _ 23 148 2 16 _ Tryd.underlying23 infoSite rfl (by decide) (by decide) rfl W0.heap.size _ B4'.length _ rfl A1.out (wr.heap.size + 1) [m, f - p] rfl A2.out rfl A5.out A3.out A4.out ?_)
            intro v6 w6 h5 g5 hat
            obtain ⟨⟨a6, c6, rfl⟩, u6, u7, f6, E1⟩ := HAP.out v6 w6 h5 g5 hat
            clear h5 g5 hat A1 A2 A3 A4 A5 HAP HX HY y0 y1
            go_wp2_with fail
            go_roundg (nt - (k + 1))
            case measure => omega
            case rel => exact ⟨k + 1, _, _, by omega, Nat.le_refl _, by go_num, E1.out⟩
        · obtain rfl : k = nt := by omega
          have HRA4 : Hid (A4' = sA p T) := hA.trans ET.out.1
          have HRB4 : Hid (B4' = sB p T) := hB.trans ET.out.2
          have r1 : wr.heap[w.heap.size + 1]? = some (.cells #[.slice none 0 0, .slice none 0 0] 31 (0, 0)) := by
            rw [HK.out.old.block _ (by omega)]
            exact R1.out
          have r2 : wr.heap[w.heap.size + 1 + 1]? = some (.cells #[.slice none 0 0, .slice none 0 0] 31 (0, 0)) := by
            rw [HK.out.old.block _ (by omega)]
            exact R2.out
          have u0 : wr.cell? ⟨w.heap.size + 1, 0, none⟩ = some (.slice none 0 0) := by rw [cell_of_row _ _ _ _ _ _ r1]; rfl
          have u1 : wr.cell? ⟨w.heap.size + 1, 1, none⟩ = some (.slice none 0 0) := by rw [cell_of_row _ _ _ _ _ _ r1]; rfl
          have u2 : wr.cell? ⟨w.heap.size + 1 + 1, 0, none⟩ = some (.slice none 0 0) := by rw [cell_of_row _ _ _ _ _ _ r2]; rfl
          have u3 : wr.cell? ⟨w.heap.size + 1 + 1, 1, none⟩ = some (.slice none 0 0) := by rw [cell_of_row _ _ _ _ _ _ r2]; rfl
          have f0 : wr.frozen? ⟨w.heap.size + 1, 0, none⟩ = false := block_frozen r1
          have f1 : wr.frozen? ⟨w.heap.size + 1, 1, none⟩ = false := block_frozen r1
          have f2 : wr.frozen? ⟨w.heap.size + 1 + 1, 0, none⟩ = false := block_frozen r2
          have f3 : wr.frozen? ⟨w.heap.size + 1 + 1, 1, none⟩ = false := block_frozen r2
          have y0 := HK.out.one.cell0
          have y1 := HK.out.one.cell1
          have y2 := HK.out.two.cell0
          have y3 := HK.out.two.cell1
          have FIN := Lib.hid (give_end3 (w := w) (B := w.heap.size + 1) (B' := w.heap.size + 1 + 1) (by omega) (by omega) (by omega) (by omega) (by decide) (by decide) r1 r2 HK.out.one.fst HK.out.one.snd HK.out.two.fst HK.out.two.snd HK.out.fst HK.out.snd (B0.out.trans (HK.out.old.mono (by omega))))
          have r2' : ((wr.setCell ⟨w.heap.size + 1, 0, none⟩ (.slice ao la co)).setCell ⟨w.heap.size + 1, 1, none⟩ (.slice eo A4'.length fo)).heap[w.heap.size + 1 + 1]? = some (.cells #[.slice none 0 0, .slice none 0 0] 31 (0, 0)) := by
            rw [Below.heap_setCell _ _ _ _ (by show w.heap.size + 1 + 1 ≠ w.heap.size + 1; omega), Below.heap_setCell _ _ _ _ (by show w.heap.size + 1 + 1 ≠ w.heap.size + 1; omega)]
            exact r2
          obtain ⟨z0, z1⟩ := res_cells (a1 := ao) (n1 := la) (c1 := co) (a2 := eo) (n2 := A4'.length) (c2 := fo) r1
          obtain ⟨z2, z3⟩ := res_cells (a1 := bo) (n1 := lb) (c1 := do_) (a2 := go) (n2 := B4'.length) (c2 := ho) r2'
          have FIN2 : Hid (A = pA p S ∧ A4' = sA p T ∧ B = pB p S ∧ B4' = sB p T) := ⟨HRA.out, HRA4.out, HRB.out, HRB4.out⟩
          clear r1 r2 r2' hA hB HK HS HT HRA HRB HRA4 HRB4
          generalize A4'.length = lp at *
          generalize B4'.length = lq at *
          go_wp2_with fail
          go_region
          go_wp2_with fail
          exact bodyPost_ret (v := .tuple #[.agg #[.slice ao la co, .slice eo lp fo], .agg #[.slice bo lb do_, .slice go lq ho]]) (by simp [results, Tryd.results118, go_sem, z0, z1, z2, z3]) rfl (by rw [← FIN2.out.1, ← FIN2.out.2.1, ← FIN2.out.2.2.1, ← FIN2.out.2.2.2]; exact FIN.out)
end Go.Proofs.YtcpdoicbekcpeaaDoor.Rig

namespace Go.Proofs.YtcpdoicbekcpeaaDoor.Rig
open Go.RowKit Go.Lib Go.Proofs.YtcpdoicbekcpeaaDoor.Rt

def GivesSp1 (w : World) (m f t : Int) (e : Ending) (w' : World) : Prop := e = .returned (.agg #[.int .i64 m, .int .i64 f, .int .i64 t]) ∧ Below w.heap.size w w'
set_option maxRecDepth 100000 in
set_option maxHeartbeats 1000000 in
theorem moved_any (m f t d : Int) (w : World) (hm : i64 m) (hf : 0 ≤ f ∧ f ≤ 100000) (ht : 0 ≤ t ∧ t ≤ 100000) (hd : 0 ≤ d ∧ d ≤ 200000) :
    Calls Tryd.prog 120 #[.agg #[.int .i64 m, .int .i64 f, .int .i64 t], .int .i64 d] w (GivesSp1 w m (f + d) (t + d)) := by
  obtain ⟨m1, m2⟩ := hm
  obtain ⟨f1, f2⟩ := hf
  obtain ⟨t1, t2⟩ := ht
  obtain ⟨d1, d2⟩ := hd
  go_enter Tryd.func120, Tryd.ntmps120
  go_wp2_with fail
  exact bodyPost_ret (v := .agg #[.int .i64 m, .int .i64 (f + d), .int .i64 (t + d)]) (by simp [results, Tryd.results120, go_sem]) rfl ⟨rfl, ((Below.refl _ _).alloc (Nat.le_refl _) _).alloc (by simp) _⟩

/-- It hands back a row of the call's own, where v's lay or in a new block; nothing else has turned. -/
def Joined (base : Nat) (w : World) (v : Value) (R : List Sp) (e : Ending) (w' : World) : Prop := ∃ v', e = .returned v' ∧ OwnSp base w' v' R ∧ w.grownBy w' v.ownBlock ∧ (v'.ownBlock = v.ownBlock ∨ ∃ g, v'.ownBlock = some g ∧ w.heap.size ≤ g)
theorem grown_alloc (w : World) (o : Obj) (row : Option Nat) : w.grownBy (w.alloc o) row := grown_below ((Below.refl _ w).alloc (Nat.le_refl _) o) row
theorem joinL_new {R : List Sp} {x : Sp} (h : ¬ (0 < R.length ∧ (sp R (R.length - 1)).t = x.f ∧ (sp R (R.length - 1)).m = x.m)) : joinL R x = R ++ [x] := by unfold joinL; rw [if_neg h]
theorem joinL_long {R : List Sp} {x : Sp} (h0 : 0 < R.length) (h1 : (sp R (R.length - 1)).t = x.f) (h2 : (sp R (R.length - 1)).m = x.m) : joinL R x = R.set (R.length - 1) ⟨(sp R (R.length - 1)).m, (sp R (R.length - 1)).f, x.t⟩ := by unfold joinL; rw [if_pos ⟨h0, h1, h2⟩]

set_option maxRecDepth 100000 in
set_option maxHeartbeats 8000000 in
theorem join_any {base : Nat} {v : Value} {R : List Sp} (m f t : Int) (w : World) (hO : OwnSp base w v R) (hbase : base ≤ w.heap.size) (hn : R.length ≤ 90000) (hm : i64 m) (hf : i64 f) (ht : i64 t) :
    Calls Tryd.prog 119 #[v, .agg #[.int .i64 m, .int .i64 f, .int .i64 t]] w (Joined base w v (joinL R ⟨m, f, t⟩)) := by
  obtain ⟨m1, m2⟩ := hm
  obtain ⟨f1, f2⟩ := hf
  obtain ⟨t1, t2⟩ := ht
  obtain ⟨ao, co, rfl⟩ := hO.is_slice
  have HO := Lib.hid hO
  obtain ⟨W0, hW0⟩ : ∃ W0, W0 = w.alloc (.cells #[.int .i64 m, .int .i64 f, .int .i64 t] 110) := ⟨_, rfl⟩
  have HX : W0.heap[w.heap.size]? = some (.cells #[.int .i64 m, .int .i64 f, .int .i64 t] 110 (0, 0)) := by rw [hW0]; exact heap_alloc_new _ _
  have c0 : W0.cell? ⟨w.heap.size, 0, none⟩ = some (.int .i64 m) := by rw [cell_of_row _ _ _ _ _ _ HX]; rfl
  have c1 : W0.cell? ⟨w.heap.size, 1, none⟩ = some (.int .i64 f) := by rw [cell_of_row _ _ _ _ _ _ HX]; rfl
  have c2 : W0.cell? ⟨w.heap.size, 2, none⟩ = some (.int .i64 t) := by rw [cell_of_row _ _ _ _ _ _ HX]; rfl
  have sz : W0.heap.size = w.heap.size + 1 := by rw [hW0]; simp
  have SZ := Lib.hid sz
  have B0 : Hid (Below w.heap.size w W0) := by show Below _ _ _; rw [hW0]; exact (Below.refl _ _).alloc (Nat.le_refl _) _
  have HO0 : Hid (OwnSp base W0 (.slice ao R.length co) R) := OwnF.below HO.out B0.out
  have G0 : Hid (w.grownBy W0 (Value.slice ao R.length co).ownBlock) := grown_below B0.out _
  have HW0 := Lib.hid hW0
  clear hW0 hO sz HX
  by_cases hr0 : R.length = 0
  · obtain rfl : R = [] := List.eq_nil_of_length_eq_zero hr0
    have EN : Hid (joinL [] ⟨m, f, t⟩ = [] ++ [⟨m, f, t⟩]) := rfl
    have LB : Hid (∀ W2, Below W0.heap.size W0 W2 → W2.cell? ⟨w.heap.size, 0, none⟩ = some (.int .i64 m) ∧ W2.cell? ⟨w.heap.size, 1, none⟩ = some (.int .i64 f) ∧ W2.cell? ⟨w.heap.size, 2, none⟩ = some (.int .i64 t) ∧
        Hid (OwnSp base (W2.alloc (.cells #[.int .i64 m, .int .i64 f, .int .i64 t] 110)) (.slice ao ([] : List Sp).length co) []) ∧ Hid (base ≤ (W2.alloc (.cells #[.int .i64 m, .int .i64 f, .int .i64 t] 110)).heap.size) ∧ Hid (w.grownBy (W2.alloc (.cells #[.int .i64 m, .int .i64 f, .int .i64 t] 110)) (Value.slice ao ([] : List Sp).length co).ownBlock)) := fun W2 b2 => by
      refine ⟨below_cell b2 (by have := SZ.out; omega) c0, below_cell b2 (by have := SZ.out; omega) c1, below_cell b2 (by have := SZ.out; omega) c2, ?_, ?_, ?_⟩
      · exact OwnF.below (HO0.out.below b2) ((Below.refl _ W2).alloc (Nat.le_refl _) _)
      · show _ ≤ _
        have := b2.size
        have := SZ.out
        simp
        omega
      · exact grown_trans (grown_trans G0.out (grown_below b2 _)) (grown_alloc _ _ _)
    have A3 : Hid (([] : List Sp).length ≤ 100000) := by show _ ≤ _; omega
    have A5 : Hid (∀ q ∈ [m, f, t], i64 q) := good3 ⟨m1, m2⟩ ⟨f1, f2⟩ ⟨t1, t2⟩
    go_enter Tryd.func119, Tryd.ntmps119
    go_wp2_with fail
    rw [← HW0.out]
    go_quiet (fail)
    obtain ⟨W2, hW2⟩ : ∃ W2, W2 = W0.drewN nq := ⟨_, rfl⟩
    rw [← hW2]
    have b2 : Below W0.heap.size W0 W2 := by rw [hW2]; exact below_drews (Below.refl _ _) _
    obtain ⟨y0, y1, y2, A1, A4, G4⟩ := LB.out W2 b2
    have A2 := Lib.hid (heap_alloc_new W2 (.cells #[.int .i64 m, .int .i64 f, .int .i64 t] 110))
    have SW : Hid (w.heap.size ≤ W2.heap.size) := by show _ ≤ _; have := b2.size; have := SZ.out; omega
    clear b2 hW2 c0 c1 c2 LB
    go_wp2_with (at_builtin; refine wpList_append_at rfl _ _ 22 110 3 24 _ Tryd.underlying22 infoSpan rfl (by decide) (by decide) rfl base _ ([] : List Sp).length _ rfl A1.out W2.heap.size [m, f, t] rfl A2.out rfl A5.out A3.out A4.out ?_)
    intro v6 w6 h5 g5 hat
    have K6 : Hid (OwnSp base w6 v6 (joinL [] ⟨m, f, t⟩)) := by
      show OwnF _ _ _ _ _ _ _
      rw [EN.out, fl3_app, List.length_append]
      exact h5
    have G6 : Hid (w.grownBy w6 (Value.slice ao ([] : List Sp).length co).ownBlock) := grown_trans G4.out g5
    have HAT : Hid (v6.ownBlock = (Value.slice ao ([] : List Sp).length co).ownBlock ∨ ∃ g, v6.ownBlock = some g ∧ w.heap.size ≤ g) := by
      rcases hat with h | h
      · exact .inl h
      · exact .inr ⟨_, h, by have := SW.out; simp; omega⟩
    obtain ⟨a6, c6, rfl⟩ := K6.out.is_slice
    clear h5 g5 hat A1 A2 A3 A4 A5 EN
    go_wp2_with fail
    go_ret
    exact ⟨_, rfl, K6.out, G6.out, HAT.out⟩
  · obtain ⟨g, rfl⟩ : ∃ g, ao = some ⟨g, 0, none⟩ := by
      rcases HO.out.1.2 with ⟨_, h0⟩ | ⟨g, cap', cur, hv, _⟩
      · exact absurd h0 hr0
      · injection hv with hv
        exact ⟨g, hv⟩
    have hrp : 0 < R.length := by omega
    obtain ⟨b', off', e', hb', ⟨⟨g1, g2⟩, ⟨g3, g4⟩, ⟨g5, g6⟩⟩, p0, p1, p2⟩ : ∃ b off, some (⟨g, 0, none⟩ : Addr) = some ⟨b, off, none⟩ ∧ b < W0.heap.size ∧ Sp.good (sp R (R.length - 1)) ∧
        W0.cell? ⟨b, off + (R.length - 1) * 3, none⟩ = some (.int .i64 (sp R (R.length - 1)).m) ∧ W0.cell? ⟨b, off + (R.length - 1) * 3 + 1, none⟩ = some (.int .i64 (sp R (R.length - 1)).f) ∧ W0.cell? ⟨b, off + (R.length - 1) * 3 + 2, none⟩ = some (.int .i64 (sp R (R.length - 1)).t) := by
      obtain ⟨a, cap, hv, _, _, hq⟩ := HO0.out.spans.open_
      injection hv with hv
      obtain ⟨b, off, e, r⟩ := hq (R.length - 1) (by omega)
      exact ⟨b, off, hv.trans e, r⟩
    injection e' with e'
    injection e' with e1 e2
    subst e1 e2
    rw [Nat.zero_add] at p0 p1 p2
    have RL := Lib.hid (joinL_long (R := R) (x := ⟨m, f, t⟩) hrp)
    have RN := Lib.hid (joinL_new (R := R) (x := ⟨m, f, t⟩))
    have OS := Lib.hid (fun (W : World) (hO : OwnSp base W (.slice (some ⟨g, 0, none⟩) R.length co) R) => hO.set_ (j := R.length - 1) (by omega) (t := t) ⟨by omega, by omega⟩)
    generalize hlast : sp R (R.length - 1) = s at *
    obtain ⟨pm, pf, pt⟩ := s
    simp only at g1 g2 g3 g4 g5 g6 p0 p1 p2 RL RN OS
    have ed : decide ((0 : Int) ≤ (R.length : Int) - 1) = true := by simp; omega
    have z7 : decide ((1 : Int) ≤ (R.length : Int)) = true := by simp; omega
    have z1 : IntKind.i64.wrap ((R.length : Int) - 1) = (R.length : Int) - 1 := IntWalk.i64_in _ (by omega)
    have z6 : (1 : Int) ≤ (R.length : Int) := by omega
    have z3 : (0 : Int) ≤ (R.length : Int) - 1 := by omega
    have z5 : (R.length : Int) - 1 < (R.length : Int) := by omega
    have z4 : ((R.length : Int) - 1).toNat = R.length - 1 := by omega
    by_cases c3 : pt = f
    · have d1 : (pt == f) = true := by simpa using c3
      by_cases c4 : pm = m
      · have d2 : (pm == m) = true := by simpa using c4
        have EN := Lib.hid (RL.out c3 c4)
        have LB : Hid (∀ W2, Below W0.heap.size W0 W2 → W2.frozen? ⟨g, (R.length - 1) * 3 + 2, none⟩ = false ∧ W2.cell? ⟨g, (R.length - 1) * 3 + 2, none⟩ = some (.int .i64 pt) ∧ W2.cell? ⟨w.heap.size, 0, none⟩ = some (.int .i64 m) ∧ W2.cell? ⟨w.heap.size, 2, none⟩ = some (.int .i64 t) ∧
            Hid (OwnSp base (W2.setCell ⟨g, (R.length - 1) * 3 + 2, none⟩ (.int .i64 t)) (.slice (some ⟨g, 0, none⟩) R.length co) (joinL R ⟨m, f, t⟩)) ∧ Hid (w.grownBy (W2.setCell ⟨g, (R.length - 1) * 3 + 2, none⟩ (.int .i64 t)) (some g))) := fun W2 b2 => by
          refine ⟨World.ownsRow.frozenAt (HO0.out.below b2).1 _, below_cell b2 hb' p2, below_cell b2 (by have := SZ.out; omega) c0, below_cell b2 (by have := SZ.out; omega) c2, ?_, ?_⟩
          · show OwnSp _ _ _ _
            rw [EN.out]
            exact OS.out W2 (HO0.out.below b2)
          · exact grown_trans (grown_trans G0.out (grown_below b2 _)) (grown_setCell _ _ _)
        clear RL RN EN OS c3 c4 hr0 hlast
        go_enter Tryd.func119, Tryd.ntmps119
        go_wp2_with fail
        rw [← HW0.out]
        go_quiet (fail)
        obtain ⟨W2, hW2⟩ : ∃ W2, W2 = W0.drewN nq := ⟨_, rfl⟩
        rw [← hW2]
        have b2 : Below W0.heap.size W0 W2 := by rw [hW2]; exact below_drews (Below.refl _ _) _
        obtain ⟨fz, y2, y3, y4, K5, K6⟩ := LB.out W2 b2
        clear b2 hW2 p0 p1 p2 c0 c1 c2 LB
        go_wp2_with fail
        go_ret
        exact ⟨_, rfl, K5.out, K6.out, .inl rfl⟩
      · have d2 : (pm == m) = false := by simpa using c4
        have EN := Lib.hid (RN.out (fun hc => c4 hc.2.2))
        clear RL RN OS c3 c4 hr0 hlast
        have LB : Hid (∀ W2, Below W0.heap.size W0 W2 → W2.cell? ⟨w.heap.size, 0, none⟩ = some (.int .i64 m) ∧ W2.cell? ⟨w.heap.size, 1, none⟩ = some (.int .i64 f) ∧ W2.cell? ⟨w.heap.size, 2, none⟩ = some (.int .i64 t) ∧
            Hid (OwnSp base (W2.alloc (.cells #[.int .i64 m, .int .i64 f, .int .i64 t] 110)) (.slice (some ⟨g, 0, none⟩) R.length co) R) ∧ Hid (base ≤ (W2.alloc (.cells #[.int .i64 m, .int .i64 f, .int .i64 t] 110)).heap.size) ∧ Hid (w.grownBy (W2.alloc (.cells #[.int .i64 m, .int .i64 f, .int .i64 t] 110)) (Value.slice (some ⟨g, 0, none⟩) R.length co).ownBlock)) := fun W2 b2 => by
          refine ⟨below_cell b2 (by have := SZ.out; omega) c0, below_cell b2 (by have := SZ.out; omega) c1, below_cell b2 (by have := SZ.out; omega) c2, ?_, ?_, ?_⟩
          · exact OwnF.below (HO0.out.below b2) ((Below.refl _ W2).alloc (Nat.le_refl _) _)
          · show _ ≤ _
            have := b2.size
            have := SZ.out
            simp
            omega
          · exact grown_trans (grown_trans G0.out (grown_below b2 _)) (grown_alloc _ _ _)
        have A3 : Hid (R.length ≤ 100000) := by show _ ≤ _; omega
        have A5 : Hid (∀ q ∈ [m, f, t], i64 q) := good3 ⟨m1, m2⟩ ⟨f1, f2⟩ ⟨t1, t2⟩
        go_enter Tryd.func119, Tryd.ntmps119
        go_wp2_with fail
        rw [← HW0.out]
        go_quiet (fail)
        obtain ⟨W2, hW2⟩ : ∃ W2, W2 = W0.drewN nq := ⟨_, rfl⟩
        rw [← hW2]
        have b2 : Below W0.heap.size W0 W2 := by rw [hW2]; exact below_drews (Below.refl _ _) _
        obtain ⟨y0, y1, y2, A1, A4, G4⟩ := LB.out W2 b2
        have A2 := Lib.hid (heap_alloc_new W2 (.cells #[.int .i64 m, .int .i64 f, .int .i64 t] 110))
        have SW : Hid (w.heap.size ≤ W2.heap.size) := by show _ ≤ _; have := b2.size; have := SZ.out; omega
        clear b2 hW2 c0 c1 c2 LB
        go_wp2_with (at_builtin; refine wpList_append_at rfl _ _ 22 110 3 24 _ Tryd.underlying22 infoSpan rfl (by decide) (by decide) rfl base _ R.length _ rfl A1.out W2.heap.size [m, f, t] rfl A2.out rfl A5.out A3.out A4.out ?_)
        intro v6 w6 h5 g5 hat
        have K6 : Hid (OwnSp base w6 v6 (joinL R ⟨m, f, t⟩)) := by
          show OwnF _ _ _ _ _ _ _
          rw [EN.out, fl3_app, List.length_append]
          exact h5
        have G6 : Hid (w.grownBy w6 (Value.slice (some ⟨g, 0, none⟩) R.length co).ownBlock) := grown_trans G4.out g5
        have HAT : Hid (v6.ownBlock = (Value.slice (some ⟨g, 0, none⟩) R.length co).ownBlock ∨ ∃ g, v6.ownBlock = some g ∧ w.heap.size ≤ g) := by
          rcases hat with h | h
          · exact .inl h
          · exact .inr ⟨_, h, by have := SW.out; simp; omega⟩
        obtain ⟨a6, c6, rfl⟩ := K6.out.is_slice
        clear h5 g5 hat A1 A2 A3 A4 A5 EN
        go_wp2_with fail
        go_ret
        exact ⟨_, rfl, K6.out, G6.out, HAT.out⟩
    · have d1 : (pt == f) = false := by simpa using c3
      have EN := Lib.hid (RN.out (fun hc => c3 hc.2.1))
      clear RL RN OS c3 hr0 hlast
      have LB : Hid (∀ W2, Below W0.heap.size W0 W2 → W2.cell? ⟨w.heap.size, 0, none⟩ = some (.int .i64 m) ∧ W2.cell? ⟨w.heap.size, 1, none⟩ = some (.int .i64 f) ∧ W2.cell? ⟨w.heap.size, 2, none⟩ = some (.int .i64 t) ∧
          Hid (OwnSp base (W2.alloc (.cells #[.int .i64 m, .int .i64 f, .int .i64 t] 110)) (.slice (some ⟨g, 0, none⟩) R.length co) R) ∧ Hid (base ≤ (W2.alloc (.cells #[.int .i64 m, .int .i64 f, .int .i64 t] 110)).heap.size) ∧ Hid (w.grownBy (W2.alloc (.cells #[.int .i64 m, .int .i64 f, .int .i64 t] 110)) (Value.slice (some ⟨g, 0, none⟩) R.length co).ownBlock)) := fun W2 b2 => by
        refine ⟨below_cell b2 (by have := SZ.out; omega) c0, below_cell b2 (by have := SZ.out; omega) c1, below_cell b2 (by have := SZ.out; omega) c2, ?_, ?_, ?_⟩
        · exact OwnF.below (HO0.out.below b2) ((Below.refl _ W2).alloc (Nat.le_refl _) _)
        · show _ ≤ _
          have := b2.size
          have := SZ.out
          simp
          omega
        · exact grown_trans (grown_trans G0.out (grown_below b2 _)) (grown_alloc _ _ _)
      have A3 : Hid (R.length ≤ 100000) := by show _ ≤ _; omega
      have A5 : Hid (∀ q ∈ [m, f, t], i64 q) := good3 ⟨m1, m2⟩ ⟨f1, f2⟩ ⟨t1, t2⟩
      go_enter Tryd.func119, Tryd.ntmps119
      go_wp2_with fail
      rw [← HW0.out]
      go_quiet (fail)
      obtain ⟨W2, hW2⟩ : ∃ W2, W2 = W0.drewN nq := ⟨_, rfl⟩
      rw [← hW2]
      have b2 : Below W0.heap.size W0 W2 := by rw [hW2]; exact below_drews (Below.refl _ _) _
      obtain ⟨y0, y1, y2, A1, A4, G4⟩ := LB.out W2 b2
      have A2 := Lib.hid (heap_alloc_new W2 (.cells #[.int .i64 m, .int .i64 f, .int .i64 t] 110))
      have SW : Hid (w.heap.size ≤ W2.heap.size) := by show _ ≤ _; have := b2.size; have := SZ.out; omega
      clear b2 hW2 c0 c1 c2 LB
      go_wp2_with (at_builtin; refine wpList_append_at rfl _ _ 22 110 3 24 _ Tryd.underlying22 infoSpan rfl (by decide) (by decide) rfl base _ R.length _ rfl A1.out W2.heap.size [m, f, t] rfl A2.out rfl A5.out A3.out A4.out ?_)
      intro v6 w6 h5 g5 hat
      have K6 : Hid (OwnSp base w6 v6 (joinL R ⟨m, f, t⟩)) := by
        show OwnF _ _ _ _ _ _ _
        rw [EN.out, fl3_app, List.length_append]
        exact h5
      have G6 : Hid (w.grownBy w6 (Value.slice (some ⟨g, 0, none⟩) R.length co).ownBlock) := grown_trans G4.out g5
      have HAT : Hid (v6.ownBlock = (Value.slice (some ⟨g, 0, none⟩) R.length co).ownBlock ∨ ∃ g, v6.ownBlock = some g ∧ w.heap.size ≤ g) := by
        rcases hat with h | h
        · exact .inl h
        · exact .inr ⟨_, h, by have := SW.out; simp; omega⟩
      obtain ⟨a6, c6, rfl⟩ := K6.out.is_slice
      clear h5 g5 hat A1 A2 A3 A4 A5 EN
      go_wp2_with fail
      go_ret
      exact ⟨_, rfl, K6.out, G6.out, HAT.out⟩
end Go.Proofs.YtcpdoicbekcpeaaDoor.Rig

namespace Go.Proofs.YtcpdoicbekcpeaaDoor.Rig
open Go.RowKit Go.Lib Go.Proofs.YtcpdoicbekcpeaaDoor.Rt

/-- A row of spans that grows, one of sites that grows; two records from which is read. -/
structure PJ (W0 : World) (B9 B10 : Nat) (v1 v2 v3 v4 : Value) (SB : List Sp) (TB : List St) (w : World) (u : Value) (R : List Sp) (s : Value) (Q : List St) : Prop where
  r9 : w.heap[B9]? = some (.cells #[v1, v2] 31 (0, 0))
  r10 : w.heap[B10]? = some (.cells #[v3, v4] 31 (0, 0))
  row : OwnSp W0.heap.size w u R
  site : OwnSt W0.heap.size w s Q
  fst : OwnSp W0.heap.size w v3 SB
  snd : OwnSt W0.heap.size w v4 TB
  a1 : Aprt u v3
  a2 : Aprt s v4
  old : Below W0.heap.size W0 w
theorem row_lt {w : World} {b : Nat} {o : Obj} (h : w.heap[b]? = some o) : b < w.heap.size := (Array.getElem?_eq_some_iff.1 h).1
theorem Aprt.far {v v' u : Value} {N : Nat} (h : Aprt v u) (hat : v'.ownBlock = v.ownBlock ∨ ∃ g, v'.ownBlock = some g ∧ N ≤ g) (hu : ∀ g, u.ownBlock = some g → g < N) : Aprt v' u := fun g h1 h2 => by
  rcases hat with e | ⟨q, e, hq⟩
  · exact h g (e.symm.trans h1) h2
  · have := hu g h2
    rw [e] at h1
    injection h1 with h1
    omega
theorem PJ.join {W0 w w' : World} {B9 B10 : Nat} {v1 v2 v3 v4 u s u' : Value} {SB R R' : List Sp} {TB Q : List St} (h : PJ W0 B9 B10 v1 v2 v3 v4 SB TB w u R s Q) (K : OwnSp W0.heap.size w' u' R') (g : w.grownBy w' u.ownBlock) (hat : u'.ownBlock = u.ownBlock ∨ ∃ g, u'.ownBlock = some g ∧ w.heap.size ≤ g) :
    PJ W0 B9 B10 v1 v2 v3 v4 SB TB w' u' R' s Q where
  r9 := by rw [g.block _ (row_lt h.r9) (fun e => own_ne_block h.row h.r9 (by decide) e.symm)]; exact h.r9
  r10 := by rw [g.block _ (row_lt h.r10) (fun e => own_ne_block h.row h.r10 (by decide) e.symm)]; exact h.r10
  row := K
  site := OwnF.kept h.site g (own_ne h.site h.row (by decide))
  fst := OwnF.kept h.fst g h.a1.symm.ne
  snd := OwnF.kept h.snd g (own_ne h.snd h.row (by decide))
  a1 := h.a1.far hat (fun q hq => (OwnF.block h.fst q hq).2)
  a2 := h.a2
  old := h.old.grown g h.old.size (fun q e => (OwnF.block h.row q e).1)
theorem PJ.app {W0 w w' : World} {B9 B10 : Nat} {v1 v2 v3 v4 u s s' : Value} {SB R : List Sp} {TB Q Q' : List St} (h : PJ W0 B9 B10 v1 v2 v3 v4 SB TB w u R s Q) (K : OwnSt W0.heap.size w' s' Q') (g : w.grownBy w' s.ownBlock) (hat : s'.ownBlock = s.ownBlock ∨ ∃ g, s'.ownBlock = some g ∧ w.heap.size ≤ g) :
    PJ W0 B9 B10 v1 v2 v3 v4 SB TB w' u R s' Q' where
  r9 := by rw [g.block _ (row_lt h.r9) (fun e => own_ne_block h.site h.r9 (by decide) e.symm)]; exact h.r9
  r10 := by rw [g.block _ (row_lt h.r10) (fun e => own_ne_block h.site h.r10 (by decide) e.symm)]; exact h.r10
  row := OwnF.kept h.row g (own_ne h.row h.site (by decide))
  site := K
  fst := OwnF.kept h.fst g (own_ne h.fst h.site (by decide))
  snd := OwnF.kept h.snd g h.a2.symm.ne
  a1 := h.a1
  a2 := h.a2.far hat (fun q hq => (OwnF.block h.snd q hq).2)
  old := h.old.grown g h.old.size (fun q e => (OwnF.block h.site q e).1)
theorem PJ.below {W0 w w' : World} {B9 B10 : Nat} {v1 v2 v3 v4 u s : Value} {SB R : List Sp} {TB Q : List St} (h : PJ W0 B9 B10 v1 v2 v3 v4 SB TB w u R s Q) (hb : Below w.heap.size w w') : PJ W0 B9 B10 v1 v2 v3 v4 SB TB w' u R s Q where
  r9 := by rw [hb.block _ (row_lt h.r9)]; exact h.r9
  r10 := by rw [hb.block _ (row_lt h.r10)]; exact h.r10
  row := OwnF.below h.row hb
  site := OwnF.below h.site hb
  fst := OwnF.below h.fst hb
  snd := OwnF.below h.snd hb
  a1 := h.a1
  a2 := h.a2
  old := below_more h.old hb
theorem PJ.alloc {W0 w : World} {B9 B10 : Nat} {v1 v2 v3 v4 u s : Value} {SB R : List Sp} {TB Q : List St} (h : PJ W0 B9 B10 v1 v2 v3 v4 SB TB w u R s Q) (o : Obj) : PJ W0 B9 B10 v1 v2 v3 v4 SB TB (w.alloc o) u R s Q :=
  h.below ((Below.refl _ w).alloc (Nat.le_refl _) o)
theorem mvS_take {S : List Sp} {k : Nat} (d : Int) (h : k < S.length) : mvS d (S.take (k + 1)) = mvS d (S.take k) ++ [⟨(sp S k).m, (sp S k).f + d, (sp S k).t + d⟩] := by
  unfold mvS
  rw [List.take_succ_eq_append_getElem h, List.map_append, sp_get h]
  rfl
theorem joins_snoc (R L : List Sp) (x : Sp) : joins R (L ++ [x]) = joinL (joins R L) x := by unfold joins; rw [List.foldl_append]; rfl
theorem joinL_len (R : List Sp) (x : Sp) : (joinL R x).length ≤ R.length + 1 := by
  unfold joinL
  split
  · rw [List.length_set]; omega
  · rw [List.length_append]; simp
theorem joins_len : ∀ (L R : List Sp), (joins R L).length ≤ R.length + L.length
  | [], R => Nat.le_refl _
  | x :: L, R => by
    have h1 := joins_len L (joinL R x)
    have h2 := joinL_len R x
    rw [List.length_cons]
    show (joins (joinL R x) L).length ≤ _
    omega
theorem mvS_len (d : Int) (S : List Sp) : (mvS d S).length = S.length := List.length_map _
theorem give_one {w W : World} {base : Nat} {S : List Sp} {L : List St} {B : Nat} {v1 v2 : Value} (hB : w.heap.size ≤ B) (r0 : W.heap[B]? = some (.cells #[.slice none 0 0, .slice none 0 0] 31 (0, 0)))
    (hS : OwnSp base W v1 S) (hT : OwnSt base W v2 L) (hb : Below w.heap.size w W) :
    GivesM w S L (.returned (.agg #[v1, v2])) ((W.setCell ⟨B, 0, none⟩ v1).setCell ⟨B, 1, none⟩ v2) := by
  have s1 := set_block (i := 0) (u := v1) r0
  exact ⟨v1, v2, rfl, OwnSp.spans (own_set (own_set hS r0 (by decide)) s1 (by decide)), OwnSt.sites (own_set (own_set hT r0 (by decide)) s1 (by decide)), (hb.setCell (p := ⟨B, 0, none⟩) hB _).setCell (p := ⟨B, 1, none⟩) hB _⟩
end Go.Proofs.YtcpdoicbekcpeaaDoor.Rig

namespace Go.Proofs.YtcpdoicbekcpeaaDoor.Rig
open Go.RowKit Go.Lib Go.Proofs.YtcpdoicbekcpeaaDoor.Rt

theorem putB_take {T : List St} {k : Nat} (p q : Int) (h : k < T.length) : ((T.take (k + 1)).map fun x : St => (⟨x.m, x.a + p + q⟩ : St)) = ((T.take k).map fun x : St => (⟨x.m, x.a + p + q⟩ : St)) ++ [⟨(st T k).m, (st T k).a + p + q⟩] := by
  rw [List.take_succ_eq_append_getElem h, List.map_append, st_get h]
  rfl
def newB (mk k : Int) : Bool := decide (0 < mk ∧ 0 < k)
set_option maxRecDepth 100000 in
set_option maxHeartbeats 16000000 in
theorem put_any {sv tv : Value} {S : List Sp} {T : List St} (n p k mk : Int) (w : World) (hS : Spans w sv S) (hT : Sites w tv T) (hRS : RS 0 0 n S) (hRT : RT n T) (hp0 : 0 ≤ p) (hp : p ≤ n) (hn : n ≤ 10000) (hk0 : 0 ≤ k) (hk : k ≤ 10000) (hmk : i64 mk) (hls : S.length ≤ 10000) (hlt : T.length ≤ 10000) :
    Calls Tryd.prog 95 #[.agg #[sv, tv], .int .i64 p, .int .i64 k, .int .i64 mk] w (GivesM w (pPut S p k mk) (pPutT T p k)) := by
  have hat : ∀ j, j < S.length → 0 ≤ (sp S j).f ∧ (sp S j).f ≤ (sp S j).t ∧ (sp S j).t ≤ n := fun j hj => by
    obtain ⟨_, b, c, d⟩ := hRS.ord.mem (sp S j) (by rw [sp_get hj]; exact List.getElem_mem hj)
    exact ⟨b, by omega, d⟩
  have htt : ∀ j, j < T.length → 0 ≤ (st T j).a ∧ (st T j).a ≤ n := fun j hj => by
    obtain ⟨_, b, c⟩ := hRT.2 (st T j) (mem_st.2 ⟨j, hj, rfl⟩)
    exact ⟨b, c⟩
  obtain ⟨W0, hW0⟩ : ∃ W0, W0 = (w.alloc (.cells #[sv, tv] 31)).alloc (.cells #[.slice none 0 0, .slice none 0 0] 31) := ⟨_, rfl⟩
  have b0 : Below w.heap.size w W0 := by rw [hW0]; exact ((Below.refl _ _).alloc (Nat.le_refl _) _).alloc (by simp) _
  have r0 : W0.heap[w.heap.size]? = some (.cells #[sv, tv] 31 (0, 0)) := by rw [hW0]; simp only [alloc_at, World.size_alloc]; repeat (first | rw [if_pos (by first | trivial | omega)] | rw [if_neg (by omega)])
  have r1 : W0.heap[w.heap.size + 1]? = some (.cells #[.slice none 0 0, .slice none 0 0] 31 (0, 0)) := by rw [hW0]; simp only [alloc_at, World.size_alloc]; repeat (first | rw [if_pos (by first | trivial | omega)] | rw [if_neg (by omega)])
  have CP := Lib.hid (part_any p W0 (hS.below b0 (Nat.le_refl _)) (hT.below b0 (Nat.le_refl _)) hp0 (by omega) hls hlt (fun j hj => by obtain ⟨u1, u2, u3⟩ := hat j hj; exact ⟨u1, u2, by omega⟩) (fun j hj => by obtain ⟨u1, u2⟩ := htt j hj; exact ⟨u1, by omega⟩))
  have lA : (pA p S).length ≤ 10000 := Nat.le_trans (pA_len p S) hls
  have lB : (pB p S).length ≤ 10000 := Nat.le_trans (pB_len p S) hls
  have lTA : (sA p T).length ≤ 10000 := Nat.le_trans (sA_len p T) hlt
  have lTB : (sB p T).length ≤ 10000 := Nat.le_trans (sB_len p T) hlt
  have oB : ∀ j, j < (pB p S).length → 0 ≤ (sp (pB p S) j).f ∧ (sp (pB p S) j).f ≤ (sp (pB p S) j).t ∧ (sp (pB p S) j).t ≤ 10000 := fun j hj => by
    obtain ⟨_, b, c, d⟩ := (RS_pB (p := p) hRS).ord.mem (sp (pB p S) j) (by rw [sp_get hj]; exact List.getElem_mem hj)
    exact ⟨b, by omega, by omega⟩
  have oTB : ∀ j, j < (sB p T).length → 0 ≤ (st (sB p T) j).a ∧ (st (sB p T) j).a ≤ 10000 := fun j hj => by
    obtain ⟨_, b, c⟩ := (sB_right (p := p) hRT).2 (st (sB p T) j) (mem_st.2 ⟨j, hj, rfl⟩)
    exact ⟨b, by omega⟩
  have EP : Hid (pPut S p k mk = joins (pNew S p k mk) (mvS (p + k) (pB p S))) := rfl
  have EQ : Hid (pPutT T p k = sA p T ++ (sB p T).map fun x : St => (⟨x.m, x.a + p + k⟩ : St)) := rfl
  have EN : Hid (pNew S p k mk = if 0 < mk ∧ 0 < k then joinL (pA p S) ⟨mk, p, p + k⟩ else pA p S) := rfl
  generalize pPut S p k mk = RP at *
  generalize pPutT T p k = RQ at *
  generalize pNew S p k mk = RN at *
  generalize pA p S = SA at *
  generalize pB p S = SB at *
  generalize sA p T = TA at *
  generalize sB p T = TB at *
  obtain ⟨sa, sc, rfl⟩ := hS.is_slice
  obtain ⟨ta, tc, rfl⟩ := hT.is_slice
  generalize S.length = ls at *
  generalize T.length = lt at *
  have HOB := Lib.hid oB
  have HOT := Lib.hid oTB
  obtain ⟨m1, m2⟩ := hmk
  have c0 : W0.cell? ⟨w.heap.size, 0, none⟩ = some (.slice sa ls sc) := by rw [cell_of_row _ _ _ _ _ _ r0]; rfl
  have c1 : W0.cell? ⟨w.heap.size, 1, none⟩ = some (.slice ta lt tc) := by rw [cell_of_row _ _ _ _ _ _ r0]; rfl
  have l0 : W0.heap.size = w.heap.size + 1 + 1 := by rw [hW0]; simp
  have HW0 := Lib.hid hW0
  have L0 := Lib.hid l0
  have B0 := Lib.hid b0
  have R1 := Lib.hid r1
  clear hS hT hRS hRT hat htt oB oTB b0 r0 r1 hW0 l0
  go_enter Tryd.func95, Tryd.ntmps95
  go_wp2_with fail
  rw [← HW0.out]
  go_wp2_with fail
  refine CP.out.mono ?_
  rintro e w1 ⟨v1, v2, v3, v4, rfl, o1, o2, o3, o4, p1, p2, b1⟩
  obtain ⟨WA, hWA⟩ : ∃ WA, WA = (w1.alloc (.cells #[v1, v2] 31)).alloc (.cells #[v3, v4] 31) := ⟨_, rfl⟩
  have bA : Below w1.heap.size w1 WA := by rw [hWA]; exact ((Below.refl _ _).alloc (Nat.le_refl _) _).alloc (by simp) _
  have z0 : WA.heap[w1.heap.size]? = some (.cells #[v1, v2] 31 (0, 0)) := by rw [hWA]; simp only [alloc_at, World.size_alloc]; repeat (first | rw [if_pos (by first | trivial | omega)] | rw [if_neg (by omega)])
  have z1 : WA.heap[w1.heap.size + 1]? = some (.cells #[v3, v4] 31 (0, 0)) := by rw [hWA]; simp only [alloc_at, World.size_alloc]; repeat (first | rw [if_pos (by first | trivial | omega)] | rw [if_neg (by omega)])
  have J0 : Hid (PJ W0 w1.heap.size (w1.heap.size + 1) v1 v2 v3 v4 SB TB WA v1 SA v2 TA) := ⟨z0, z1, OwnF.below o1 bA, OwnF.below o2 bA, OwnF.below o3 bA, OwnF.below o4 bA, p1, p2, below_more b1 bA⟩
  obtain ⟨a1, d1, rfl⟩ := o1.is_slice
  obtain ⟨a2, d2, rfl⟩ := o2.is_slice
  obtain ⟨a3, d3, rfl⟩ := o3.is_slice
  obtain ⟨a4, d4, rfl⟩ := o4.is_slice
  have y0 : WA.cell? ⟨w1.heap.size, 0, none⟩ = some (.slice a1 SA.length d1) := by rw [cell_of_row _ _ _ _ _ _ z0]; rfl
  have y1 : WA.cell? ⟨w1.heap.size, 1, none⟩ = some (.slice a2 TA.length d2) := by rw [cell_of_row _ _ _ _ _ _ z0]; rfl
  have HWA := Lib.hid hWA
  clear o1 o2 o3 o4 p1 p2 b1 bA z0 z1 CP c0 c1 hWA
  go_upto_region 2 with fail
  rw [← HWA.out]
  go_upto_region 3 with fail
  go_cut [30] from 25 to 38 (fun c wx => c = .bool (newB mk k) ∧ wx = WA)
  case first =>
    by_cases h1 : 0 < mk
    · by_cases h2 : 0 < k
      · have E : Hid (newB mk k = true) := decide_eq_true ⟨h1, h2⟩
        have d2 : decide (0 < k) = true := by simpa using h2
        go_wp2_with fail
        go_meet
        case rel => exact ⟨congrArg Value.bool E.out.symm, rfl⟩
      · have E : Hid (newB mk k = false) := decide_eq_false (fun hc => h2 hc.2)
        have d2 : decide (0 < k) = false := by simpa using h2
        go_wp2_with fail
        go_meet
        case rel => exact ⟨congrArg Value.bool E.out.symm, rfl⟩
    · have E : Hid (newB mk k = false) := decide_eq_false (fun hc => h1 hc.1)
      go_wp2_with fail
      go_meet
      case rel => exact ⟨congrArg Value.bool E.out.symm, rfl⟩
  case rest =>
  obtain ⟨rfl, rfl⟩ := hcut
  go_upto_if 30 with fail
  go_cut [11] from 25 to 38 (fun u wx => ∃ uv, Hid (u = uv ∧ PJ W0 w1.heap.size (w1.heap.size + 1) (.slice a1 SA.length d1) (.slice a2 TA.length d2) (.slice a3 SB.length d3) (.slice a4 TB.length d4) SB TB wx uv RN (.slice a2 TA.length d2) TA))
  case first =>
    cases hb : newB mk k with
    | true =>
      obtain ⟨h1, h2⟩ : 0 < mk ∧ 0 < k := of_decide_eq_true hb
      have E : Hid (RN = joinL SA ⟨mk, p, p + k⟩) := EN.out.trans (if_pos ⟨h1, h2⟩)
      have CJ := Lib.hid (join_any mk p (p + k) wc J0.out.row J0.out.old.size (by omega) ⟨by omega, by omega⟩ ⟨by omega, by omega⟩ ⟨by omega, by omega⟩)
      go_wp2_with fail
      refine CJ.out.mono ?_
      rintro e w2 ⟨u, rfl, K, g, hat⟩
      have J1 := Lib.hid (J0.out.join K g hat)
      clear K g hat CJ J0
      go_wp2_with fail
      go_meet
      case rel => exact ⟨u, rfl, by rw [E.out]; exact J1.out⟩
    | false =>
      have hn : ¬ (0 < mk ∧ 0 < k) := of_decide_eq_false hb
      have E : Hid (RN = SA) := EN.out.trans (if_neg hn)
      clear hn
      go_wp2_with fail
      go_meet
      case rel => exact ⟨_, rfl, by rw [E.out]; exact J0.out⟩
  case rest =>
    obtain ⟨u, HU⟩ := hcut
    obtain rfl := HU.out.1
    have J1 := Lib.hid HU.out.2
    have lN : RN.length ≤ 10001 := by
      rw [EN.out]
      have := joinL_len SA ⟨mk, p, p + k⟩
      split <;> omega
    clear HU J0 y0 y1 EN HWA
    have y2 : wc.cell? ⟨w1.heap.size + 1, 0, none⟩ = some (.slice a3 SB.length d3) := by rw [cell_of_row _ _ _ _ _ _ J1.out.r10]; rfl
    have y3 : wc.cell? ⟨w1.heap.size + 1, 1, none⟩ = some (.slice a4 TB.length d4) := by rw [cell_of_row _ _ _ _ _ _ J1.out.r10]; rfl
    obtain ⟨_, _, hv3, hl3, hc3, hq3⟩ := J1.out.fst.spans.open_
    injection hv3 with e1 _ e3
    subst e1 e3
    obtain ⟨rn, cn, hu⟩ := J1.out.row.is_slice
    obtain ⟨nb, hnb⟩ : ∃ nb, nb = SB.length := ⟨_, rfl⟩
    have HNB := Lib.hid hnb
    rw [← hnb] at J1 y2 hl3 lB
    have EB : Hid (joins RN (mvS (p + k) (SB.take nb)) = joins RN (mvS (p + k) SB)) := by show _ = _; rw [hnb, List.take_length]
    clear hnb hq3 hu
    go_wp2_with fail
    go_loopg [11, 42] nb (fun g x i wr => ∃ (j : Nat) (u : Value), u = x ∧ j ≤ nb ∧ nb - j ≤ g ∧ i = .int .i64 j ∧ Hid (PJ W0 w1.heap.size (w1.heap.size + 1) (.slice a1 SA.length d1) (.slice a2 TA.length d2) (.slice a3 nb d3) (.slice a4 TB.length d4) SB TB wr u (joins RN (mvS (p + k) (SB.take j))) (.slice a2 TA.length d2) TA))
    case atStart => exact ⟨0, _, rfl, Nat.zero_le _, by omega, rfl, J1.out⟩
    case round =>
      clear J1 y2 y3
      obtain ⟨j, u, rfl, hj, hg, rfl, HJ⟩ := hrel
      have HJL : Hid ((joins RN (mvS (p + k) (SB.take j))).length ≤ 90000) := by
        show _ ≤ _
        have h1 := joins_len (mvS (p + k) (SB.take j)) RN
        rw [mvS_len] at h1
        have h2 := List.length_take_le j SB
        omega
      obtain ⟨RJ, hRJ⟩ : ∃ RJ, RJ = joins RN (mvS (p + k) (SB.take j)) := ⟨_, rfl⟩
      by_cases hltk : j < nb
      · have hkl : j < SB.length := by rw [← HNB.out]; exact hltk
        obtain ⟨_, _, hv3, _, _, hq3⟩ := HJ.out.fst.spans.open_
        obtain ⟨b, off, ha, hb, ⟨⟨m3, m4⟩, ⟨f1, f2⟩, ⟨t1, t2⟩⟩, e0, e1, e2⟩ := hq3 j hkl
        injection hv3 with e3 e5 e4
        obtain rfl := e3.trans ha
        obtain ⟨g1, g2, g3⟩ := HOB.out j hkl
        have EJ := Lib.hid ((congrArg (joins RN) (mvS_take (p + k) hkl)).trans (joins_snoc _ _ _))
        rw [← hRJ] at EJ HJ HJL
        obtain ⟨e, he⟩ : ∃ e, e = sp SB j := ⟨_, rfl⟩
        rw [← he] at m3 m4 f1 f2 t1 t2 e0 e1 e2 g1 g2 g3 EJ
        obtain ⟨m, f, t⟩ := e
        simp only at m3 m4 f1 f2 t1 t2 e0 e1 e2 g1 g2 g3
        have HX := Lib.hid (HJ.out.alloc (.cells #[.int .i64 m, .int .i64 f, .int .i64 t] 110))
        have CM := Lib.hid (moved_any m f t (p + k) (wr.alloc (.cells #[.int .i64 m, .int .i64 f, .int .i64 t] 110)) ⟨m3, m4⟩ ⟨g1, by omega⟩ ⟨by omega, by omega⟩ ⟨by omega, by omega⟩)
        have CJ : Hid (∀ w', Below (wr.alloc (.cells #[.int .i64 m, .int .i64 f, .int .i64 t] 110)).heap.size (wr.alloc (.cells #[.int .i64 m, .int .i64 f, .int .i64 t] 110)) w' → Calls Tryd.prog 119 #[u, .agg #[.int .i64 m, .int .i64 (f + (p + k)), .int .i64 (t + (p + k))]] w' (Joined W0.heap.size w' u (joinL RJ ⟨m, f + (p + k), t + (p + k)⟩))) := fun w' hb => join_any m (f + (p + k)) (t + (p + k)) w' (HX.out.below hb).row (HX.out.below hb).old.size HJL.out ⟨m3, m4⟩ ⟨by omega, by omega⟩ ⟨by omega, by omega⟩
        clear hq3 he HJL hRJ
        try clear e4
        try clear e5
        try clear e3
        try clear ha
        go_wp2_with fail
        refine CM.out.mono ?_
        rintro e w2 ⟨rfl, b2⟩
        have J2 := Lib.hid (HX.out.below b2)
        have CJ2 := Lib.hid (CJ.out w2 b2)
        clear b2 CJ CM HX
        go_wp2_with fail
        refine CJ2.out.mono ?_
        rintro e w3 ⟨u3, rfl, K, g, hat⟩
        have J3 := Lib.hid (J2.out.join K g hat)
        clear K g hat CJ2 J2
        go_wp2_with fail
        go_roundg (nb - (j + 1))
        case measure => omega
        case rel => exact ⟨j + 1, u3, rfl, by omega, Nat.le_refl _, by go_num, by rw [EJ.out]; exact J3.out⟩
      · obtain rfl : j = nb := by omega
        have J2 : Hid (PJ W0 w1.heap.size (w1.heap.size + 1) (.slice a1 SA.length d1) (.slice a2 TA.length d2) (.slice a3 j d3) (.slice a4 TB.length d4) SB TB wr u RP (.slice a2 TA.length d2) TA) := by
          show PJ _ _ _ _ _ _ _ _ _ _ _ _ _ _
          rw [EP.out, ← EB.out]
          exact HJ.out
        clear HJ HJL hRJ EB
        have y0 : wr.cell? ⟨w1.heap.size, 0, none⟩ = some (.slice a1 SA.length d1) := by rw [cell_of_row _ _ _ _ _ _ J2.out.r9]; rfl
        have y1 : wr.cell? ⟨w1.heap.size, 1, none⟩ = some (.slice a2 TA.length d2) := by rw [cell_of_row _ _ _ _ _ _ J2.out.r9]; rfl
        have y2 : wr.cell? ⟨w1.heap.size + 1, 0, none⟩ = some (.slice a3 j d3) := by rw [cell_of_row _ _ _ _ _ _ J2.out.r10]; rfl
        have y3 : wr.cell? ⟨w1.heap.size + 1, 1, none⟩ = some (.slice a4 TB.length d4) := by rw [cell_of_row _ _ _ _ _ _ J2.out.r10]; rfl
        obtain ⟨wm, hwm⟩ : ∃ wm : World, wm = wr := ⟨_, rfl⟩
        subst hwm
        obtain ⟨_, _, hv4, hl4, hc4, _⟩ := J2.out.snd.sites.open_
        injection hv4 with e1 _ e3
        subst e1 e3
        obtain ⟨nc, hnc⟩ : ∃ nc, nc = TB.length := ⟨_, rfl⟩
        have HNC := Lib.hid hnc
        rw [← hnc] at J2 y3 hl4 lTB
        have EC : Hid (TA ++ ((TB.take nc).map fun x : St => (⟨x.m, x.a + p + k⟩ : St)) = RQ) := by show _ = _; rw [hnc, List.take_length, EQ.out]
        clear hnc
        go_wp2_with fail
        go_loopg [14, 59] nc (fun g x i wr => ∃ (j' : Nat) (s : Value), s = x ∧ j' ≤ nc ∧ nc - j' ≤ g ∧ i = .int .i64 j' ∧ Hid (PJ W0 w1.heap.size (w1.heap.size + 1) (.slice a1 SA.length d1) (.slice a2 TA.length d2) (.slice a3 j d3) (.slice a4 nc d4) SB TB wr u RP s (TA ++ ((TB.take j').map fun x : St => (⟨x.m, x.a + p + k⟩ : St)))))
        case atStart => exact ⟨0, _, rfl, Nat.zero_le _, by omega, rfl, by rw [List.take_zero, List.map_nil, List.append_nil]; exact J2.out⟩
        case round =>
          clear J2 y0 y1 y2 y3
          obtain ⟨j', s, rfl, hj', hg', rfl, HJ⟩ := hrel
          obtain ⟨RJ, hRJ⟩ : ∃ RJ, RJ = TA ++ ((TB.take j').map fun x : St => (⟨x.m, x.a + p + k⟩ : St)) := ⟨_, rfl⟩
          have HJL : Hid (RJ.length ≤ 100000) := by
            show _ ≤ _
            rw [hRJ, List.length_append, List.length_map]
            have h2 := List.length_take_le j' TB
            omega
          by_cases hltk : j' < nc
          · have hkl : j' < TB.length := by rw [← HNC.out]; exact hltk
            obtain ⟨_, _, hv4, _, _, hq4⟩ := HJ.out.snd.sites.open_
            obtain ⟨b, off, ha, hb, ⟨⟨m3, m4⟩, ⟨f1, f2⟩⟩, e0, e1⟩ := hq4 j' hkl
            injection hv4 with e3 e5 e4
            obtain rfl := e3.trans ha
            obtain ⟨g1, g2⟩ := HOT.out j' hkl
            have EJ := Lib.hid ((congrArg (TA ++ ·) (putB_take p k hkl)).trans (List.append_assoc _ _ _).symm)
            replace EJ : Hid (TA ++ ((TB.take (j' + 1)).map fun x : St => (⟨x.m, x.a + p + k⟩ : St)) = _) := EJ
            rw [← hRJ] at EJ HJ
            obtain ⟨e, he⟩ : ∃ e, e = st TB j' := ⟨_, rfl⟩
            rw [← he] at m3 m4 f1 f2 e0 e1 g1 g2 EJ
            obtain ⟨m, f⟩ := e
            simp only at m3 m4 f1 f2 e0 e1 g1 g2
            obtain ⟨so, sc', rfl⟩ := HJ.out.site.is_slice
            have HX := Lib.hid ((HJ.out.alloc (.cells #[.int .i64 m, .int .i64 f] 148)).alloc (.cells #[.int .i64 m, .int .i64 (f + p + k)] 148))
            have A1 := Lib.hid HX.out.site
            have A2 : Hid (((wr.alloc (.cells #[.int .i64 m, .int .i64 f] 148)).alloc (.cells #[.int .i64 m, .int .i64 (f + p + k)] 148)).heap[wr.heap.size + 1]? = some (.cells #[.int .i64 m, .int .i64 (f + p + k)] 148)) := by have := heap_alloc_new (wr.alloc (.cells #[.int .i64 m, .int .i64 f] 148)) (.cells #[.int .i64 m, .int .i64 (f + p + k)] 148); rw [World.size_alloc] at this; exact this
            have A4 : Hid (W0.heap.size ≤ ((wr.alloc (.cells #[.int .i64 m, .int .i64 f] 148)).alloc (.cells #[.int .i64 m, .int .i64 (f + p + k)] 148)).heap.size) := HX.out.old.size
            have A5 : Hid (∀ q ∈ [m, f + p + k], i64 q) := good2 ⟨m3, m4⟩ ⟨by omega, by omega⟩
            clear hq4 he hRJ
            try clear e4
            try clear e5
            try clear e3
            try clear ha
            go_wp2_with (at_builtin; refine wpList_append_at rfl _ _ 23 148 2 16 _ Tryd.underlying23 infoSite rfl (by decide) (by decide) rfl W0.heap.size _ RJ.length _ rfl A1.out (wr.heap.size + 1) [m, f + p + k] rfl A2.out rfl A5.out HJL.out A4.out ?_)
            intro v6 w6 h5 g5 hat
            have K6 : Hid (OwnSt W0.heap.size w6 v6 (RJ ++ [⟨m, f + p + k⟩])) := by
              show OwnF _ _ _ _ _ _ _
              rw [fl2_app, List.length_append]
              exact h5
            have J6 := Lib.hid (HX.out.app K6.out g5 (by
              rcases hat with h | h
              · exact .inl h
              · exact .inr ⟨_, h, by simp⟩))
            obtain ⟨a6, c6, rfl⟩ := K6.out.is_slice
            clear h5 g5 hat A1 A2 A4 A5 HX K6 HJ HJL
            go_wp2_with fail
            go_roundg (nc - (j' + 1))
            case measure => omega
            case rel => exact ⟨j' + 1, _, rfl, by omega, Nat.le_refl _, by go_num, by rw [EJ.out]; exact J6.out⟩
          · obtain rfl : j' = nc := by omega
            rw [EC.out] at HJ
            clear hRJ HJL
            have q0 : wr.heap[w.heap.size + 1]? = some (.cells #[.slice none 0 0, .slice none 0 0] 31 (0, 0)) := by
              rw [HJ.out.old.block _ (by have := L0.out; omega)]
              exact R1.out
            have u0 : wr.cell? ⟨w.heap.size + 1, 0, none⟩ = some (.slice none 0 0) := by rw [cell_of_row _ _ _ _ _ _ q0]; rfl
            have u1 : wr.cell? ⟨w.heap.size + 1, 1, none⟩ = some (.slice none 0 0) := by rw [cell_of_row _ _ _ _ _ _ q0]; rfl
            have f0 : wr.frozen? ⟨w.heap.size + 1, 0, none⟩ = false := block_frozen q0
            have f1 : wr.frozen? ⟨w.heap.size + 1, 1, none⟩ = false := block_frozen q0
            obtain ⟨x1, x2, rfl⟩ := HJ.out.row.is_slice
            obtain ⟨x3, x4, rfl⟩ := HJ.out.site.is_slice
            have FIN := Lib.hid (give_one (w := w) (Nat.le_add_right _ 1) q0 HJ.out.row HJ.out.site (below_more B0.out HJ.out.old))
            obtain ⟨z0, z1⟩ := res_cells (a1 := x1) (n1 := RP.length) (c1 := x2) (a2 := x3) (n2 := RQ.length) (c2 := x4) q0
            clear q0 HJ
            generalize RP.length = lp at *
            generalize RQ.length = lq at *
            go_wp2_with fail
            exact bodyPost_ret (v := .agg #[.slice x1 lp x2, .slice x3 lq x4]) (by simp [results, Tryd.results95, go_sem, z0, z1]) rfl FIN.out
end Go.Proofs.YtcpdoicbekcpeaaDoor.Rig
