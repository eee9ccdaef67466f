/- Words: the plain text's Told. -/
import Derived.Test.YthegkookfpnbeaaNg
set_option linter.unusedVariables false
set_option linter.unusedSimpArgs false
set_option maxRecDepth 100000
namespace Go.Proofs.Ythegkookfpnbeaa.Wds
open Go.RowKit Go.Lib Go.Proofs.Ythegkookfpnbeaa.Bx Go.Proofs.Ythegkookfpnbeaa.Frm

/-- What lies there while an answer is read. -/
structure En1 (w0 : World) (R : Nat) (c0 c1 c2 c3 rv ev : Value) (X : List Run) (E : List Ent) (w : World) (r : Rd) : Prop where
  at_ : At w (R + 1) r
  ablk : w.heap[R + 1 + 1]? = some (.cells #[c0, c1, c2, c3, rv, ev] 46 (0, 0))
  rblk : w.heap[R]? = some (.cells #[.int .i64 0, .string (ByteArray.mk #[]), .int .i64 0, .int .i64 0, .slice none 0 0, .slice none 0 0] 46 (0, 0))
  rows : Rk.OwnK 114 4 (R + 1 + 1 + 1) w rv (X.map runC)
  ents : Aud.OEn (fun b => R + 1 + 1 + 1 ≤ b) (R + 1 + 1 + 1) w ev E
  bel : Below R w0 w
  size : R + 1 + 1 + 1 ≤ w.heap.size
theorem En1.grown {w0 w w' : World} {R : Nat} {c0 c1 c2 c3 rv ev : Value} {X : List Run} {E : List Ent} {r r' : Rd} (h : En1 w0 R c0 c1 c2 c3 rv ev X E w r) (g : w.grownBy w' (some (R + 1))) (hA : At w' (R + 1) r') : En1 w0 R c0 c1 c2 c3 rv ev X E w' r' :=
  ⟨hA, (g.block _ (by have := h.size; omega) (fun e => by injection e with e; omega)).trans h.ablk, (g.block _ (by have := h.size; omega) (fun e => by injection e with e; omega)).trans h.rblk, h.rows.kept g (.inr (h.rows.low (by omega))), oen_kept h.ents g (fun b hb => by omega) (fun e => by have := (h.ents.own _ e).1; omega), grown_to h.bel g (Nat.le_succ R) (by have := h.size; omega), Nat.le_trans h.size g.size⟩
theorem En1.below {w0 w w' : World} {R : Nat} {c0 c1 c2 c3 rv ev : Value} {X : List Run} {E : List Ent} {r : Rd} (h : En1 w0 R c0 c1 c2 c3 rv ev X E w r) (b : Below w.heap.size w w') : En1 w0 R c0 c1 c2 c3 rv ev X E w' r :=
  h.grown (grown_of _ _ b _) (h.at_.kept (grown_of _ _ b none))
theorem En1.set0 {w0 w : World} {R : Nat} {c0 c1 c2 c3 rv ev : Value} {X : List Run} {E : List Ent} {r : Rd} (h : En1 w0 R c0 c1 c2 c3 rv ev X E w r) (u : Value) : En1 w0 R u c1 c2 c3 rv ev X E (w.setCell ⟨R + 1 + 1, 0, none⟩ u) r := by
  have g : w.grownBy (w.setCell ⟨R + 1 + 1, 0, none⟩ u) (some (R + 1 + 1)) := grown_put (grown_refl _ _)
  exact ⟨(g.block _ (by have := h.size; omega) (fun e => by injection e with e; omega)).trans h.at_, set_block h.ablk, (g.block _ (by have := h.size; omega) (fun e => by injection e with e; omega)).trans h.rblk, h.rows.kept g (.inr (h.rows.low (by omega))), oen_kept h.ents g (fun b hb => by omega) (fun e => by have := (h.ents.own _ e).1; omega), below_put h.bel (by omega) _, Nat.le_trans h.size g.size⟩
theorem En1.set1 {w0 w : World} {R : Nat} {c0 c1 c2 c3 rv ev : Value} {X : List Run} {E : List Ent} {r : Rd} (h : En1 w0 R c0 c1 c2 c3 rv ev X E w r) (u : Value) : En1 w0 R c0 u c2 c3 rv ev X E (w.setCell ⟨R + 1 + 1, 1, none⟩ u) r := by
  have g : w.grownBy (w.setCell ⟨R + 1 + 1, 1, none⟩ u) (some (R + 1 + 1)) := grown_put (grown_refl _ _)
  exact ⟨(g.block _ (by have := h.size; omega) (fun e => by injection e with e; omega)).trans h.at_, set_block h.ablk, (g.block _ (by have := h.size; omega) (fun e => by injection e with e; omega)).trans h.rblk, h.rows.kept g (.inr (h.rows.low (by omega))), oen_kept h.ents g (fun b hb => by omega) (fun e => by have := (h.ents.own _ e).1; omega), below_put h.bel (by omega) _, Nat.le_trans h.size g.size⟩
theorem En1.set2 {w0 w : World} {R : Nat} {c0 c1 c2 c3 rv ev : Value} {X : List Run} {E : List Ent} {r : Rd} (h : En1 w0 R c0 c1 c2 c3 rv ev X E w r) (u : Value) : En1 w0 R c0 c1 u c3 rv ev X E (w.setCell ⟨R + 1 + 1, 2, none⟩ u) r := by
  have g : w.grownBy (w.setCell ⟨R + 1 + 1, 2, none⟩ u) (some (R + 1 + 1)) := grown_put (grown_refl _ _)
  exact ⟨(g.block _ (by have := h.size; omega) (fun e => by injection e with e; omega)).trans h.at_, set_block h.ablk, (g.block _ (by have := h.size; omega) (fun e => by injection e with e; omega)).trans h.rblk, h.rows.kept g (.inr (h.rows.low (by omega))), oen_kept h.ents g (fun b hb => by omega) (fun e => by have := (h.ents.own _ e).1; omega), below_put h.bel (by omega) _, Nat.le_trans h.size g.size⟩
theorem En1.set3 {w0 w : World} {R : Nat} {c0 c1 c2 c3 rv ev : Value} {X : List Run} {E : List Ent} {r : Rd} (h : En1 w0 R c0 c1 c2 c3 rv ev X E w r) (u : Value) : En1 w0 R c0 c1 c2 u rv ev X E (w.setCell ⟨R + 1 + 1, 3, none⟩ u) r := by
  have g : w.grownBy (w.setCell ⟨R + 1 + 1, 3, none⟩ u) (some (R + 1 + 1)) := grown_put (grown_refl _ _)
  exact ⟨(g.block _ (by have := h.size; omega) (fun e => by injection e with e; omega)).trans h.at_, set_block h.ablk, (g.block _ (by have := h.size; omega) (fun e => by injection e with e; omega)).trans h.rblk, h.rows.kept g (.inr (h.rows.low (by omega))), oen_kept h.ents g (fun b hb => by omega) (fun e => by have := (h.ents.own _ e).1; omega), below_put h.bel (by omega) _, Nat.le_trans h.size g.size⟩
theorem En1.put4 {w0 w1 w9 : World} {R : Nat} {c0 c1 c2 c3 rv ev v9 : Value} {X : List Run} {E : List Ent} {r : Rd} {z : Run} (h : En1 w0 R c0 c1 c2 c3 rv ev X E w1 r) (hE : E = []) (he : ev = .slice none 0 0) (o : Rk.OwnK 114 4 (R + 1 + 1 + 1) w9 v9 (X.map runC ++ [runC z])) (g : w1.grownBy w9 rv.ownBlock) :
    w9.heap[R + 1 + 1]? = some (.cells #[c0, c1, c2, c3, rv, ev] 46 (0, 0)) ∧ Hid (En1 w0 R c0 c1 c2 c3 v9 ev (X ++ [z]) E (w9.setCell ⟨R + 1 + 1, 4, none⟩ v9) r) := by
  have hl : ∀ b, b < R + 1 + 1 + 1 → w9.heap[b]? = w1.heap[b]? := fun b hb => g.block b (by have := h.size; omega) (fun e => h.rows.low hb e.symm)
  have z9 := (hl (R + 1 + 1) (by omega)).trans h.ablk
  refine ⟨z9, ?_⟩
  have g2 : w9.grownBy (w9.setCell ⟨R + 1 + 1, 4, none⟩ v9) (some (R + 1 + 1)) := grown_put (grown_refl _ _)
  have s9 : R + 1 + 1 + 1 ≤ w9.heap.size := Nat.le_trans h.size g.size
  subst hE he
  refine ⟨(g2.block _ (by omega) (fun e => by injection e with e; omega)).trans ((hl (R + 1) (by omega)).trans h.at_), set_block z9, (g2.block _ (by omega) (fun e => by injection e with e; omega)).trans ((hl R (by omega)).trans h.rblk), ?_, Aud.OEn.nil_ _ _ _, below_put (h.bel.grown g (by have := h.size; omega) (fun b e => by have := (h.rows.block b e).1; omega)) (by omega) _, Nat.le_trans s9 g2.size⟩
  have o2 := o.kept g2 (.inr (o.low (by omega)))
  rw [List.map_append]
  exact o2
theorem En1.put5 {w0 w1 w9 : World} {R : Nat} {c0 c1 c2 c3 rv ev v9 : Value} {X : List Run} {E E' : List Ent} {r : Rd} (h : En1 w0 R c0 c1 c2 c3 rv ev X E w1 r) (hne : rv.ownBlock = none ∨ rv.ownBlock ≠ ev.ownBlock) (o : Aud.OEn (fun b => R + 1 + 1 + 1 ≤ b) (R + 1 + 1 + 1) w9 v9 E') (g : w1.grownBy w9 ev.ownBlock) :
    w9.heap[R + 1 + 1]? = some (.cells #[c0, c1, c2, c3, rv, ev] 46 (0, 0)) ∧ Hid (En1 w0 R c0 c1 c2 c3 rv v9 X E' (w9.setCell ⟨R + 1 + 1, 5, none⟩ v9) r) := by
  have hlow : ∀ b, b < R + 1 + 1 + 1 → ev.ownBlock ≠ some b := fun b hb e => by have := (h.ents.own b e).1; omega
  have hl : ∀ b, b < R + 1 + 1 + 1 → w9.heap[b]? = w1.heap[b]? := fun b hb => g.block b (by have := h.size; omega) (fun e => hlow b hb e.symm)
  have z9 := (hl (R + 1 + 1) (by omega)).trans h.ablk
  refine ⟨z9, ?_⟩
  have g2 : w9.grownBy (w9.setCell ⟨R + 1 + 1, 5, none⟩ v9) (some (R + 1 + 1)) := grown_put (grown_refl _ _)
  have s9 : R + 1 + 1 + 1 ≤ w9.heap.size := Nat.le_trans h.size g.size
  have r9 := h.rows.kept g hne
  exact ⟨(g2.block _ (by omega) (fun e => by injection e with e; omega)).trans ((hl (R + 1) (by omega)).trans h.at_), set_block z9, (g2.block _ (by omega) (fun e => by injection e with e; omega)).trans ((hl R (by omega)).trans h.rblk), r9.kept g2 (.inr (r9.low (by omega))), oen_kept o g2 (fun b hb => by omega) (fun e => by have := (o.own _ e).1; omega), below_put (h.bel.grown g (by have := h.size; omega) (fun b e => by have := (h.ents.own b e).1; omega)) (by omega) _, Nat.le_trans s9 g2.size⟩
end Go.Proofs.Ythegkookfpnbeaa.Wds
