/- Salt: bounds of SHA-256's numbers; a row of eight numbers that is written in place. -/
import Derived.Test.YtffepndeegbdoaaGreatDoorSu2
import Derived.Test.YtffepndeegbdoaaGreatDoorOt
set_option linter.unusedVariables false
set_option linter.unusedSimpArgs false
set_option maxRecDepth 100000
namespace Go.Proofs.YtffepndeegbdoaaGreatDoor.Slt
open Go.RowKit Go.Lib Go.Proofs.YtffepndeegbdoaaGreatDoor.Bx

def B32 (l : List Nat) : Prop := ∀ i, l.getD i 0 < 4294967296
theorem add32_lt (a b : Nat) : add32 a b < 4294967296 := Nat.mod_lt _ (by decide)
theorem B32.set {l : List Nat} (h : B32 l) (i : Nat) {x : Nat} (hx : x < 4294967296) : B32 (l.set i x) := fun j => by
  rw [getD_set]
  split
  · exact hx
  · exact h j
theorem B32.of {l : List Nat} (h : ∀ x ∈ l, x < 4294967296) : B32 l := fun i => by
  rw [List.getD_eq_getElem?_getD]
  cases e : l[i]? with
  | none => exact (by decide)
  | some y => exact h y (List.mem_of_getElem? e)
theorem sched_len (b : List Nat) (a : Nat) : ∀ t, (sched b a t).length = 64
  | 0 => by simp [sched]
  | t + 1 => by rw [sched, List.length_set]; exact sched_len b a t
def B8 (b : List Nat) : Prop := ∀ i, b.getD i 0 < 256
theorem word_lt {b : List Nat} (h : B8 b) (i : Nat) : wordN b i < 4294967296 := by
  unfold wordN
  have h0 := h i
  have h1 := h (i + 1)
  have h2 := h (i + 2)
  have h3 := h (i + 3)
  exact lt_or32 (lt_or32 (lt_or32 (by omega) (by omega)) (by omega)) (by omega)
theorem sched_ok {b : List Nat} (h : B8 b) (a : Nat) : ∀ t, B32 (sched b a t)
  | 0 => fun i => by
    show (List.replicate 64 0).getD i 0 < _
    rw [List.getD_eq_getElem?_getD, List.getElem?_replicate]
    split <;> simp
  | t + 1 => by
    rw [sched]
    refine (sched_ok h a t).set t ?_
    split
    · exact word_lt h _
    · exact add32_lt _ _
theorem rounds_len (w : List Nat) {v : List Nat} (h : v.length = 8) : ∀ t, (rounds w v t).length = 8
  | 0 => h
  | t + 1 => by rw [rounds]; rfl
theorem rounds_ok (w : List Nat) {v : List Nat} (h : B32 v) : ∀ t, B32 (rounds w v t)
  | 0 => h
  | t + 1 => by
    rw [rounds]
    have ih := rounds_ok w h t
    refine B32.of fun x hx => ?_
    simp only [stepV, List.mem_cons, List.not_mem_nil, or_false] at hx
    rcases hx with rfl | rfl | rfl | rfl | rfl | rfl | rfl | rfl
    · exact add32_lt _ _
    · exact ih _
    · exact ih _
    · exact ih _
    · exact add32_lt _ _
    · exact ih _
    · exact ih _
    · exact ih _
def upd8 (H V : List Nat) : Nat → List Nat
  | 0 => H
  | i + 1 => (upd8 H V i).set i (add32 ((upd8 H V i).getD i 0) (V.getD i 0))
theorem upd8_len {H V : List Nat} (h : H.length = 8) : ∀ i, (upd8 H V i).length = 8
  | 0 => h
  | i + 1 => by rw [upd8, List.length_set]; exact upd8_len h i
theorem upd8_ok {H V : List Nat} (h : B32 H) : ∀ i, B32 (upd8 H V i)
  | 0 => h
  | i + 1 => by rw [upd8]; exact (upd8_ok h i).set i (add32_lt _ _)
theorem upd8_all {H V : List Nat} (h : H.length = 8) (h' : V.length = 8) : upd8 H V 8 = List.zipWith add32 H V := by
  match H, h, V, h' with
  | [a0, a1, a2, a3, a4, a5, a6, a7], _, [b0, b1, b2, b3, b4, b5, b6, b7], _ => rfl
theorem H0_ok : B32 H0 := B32.of (by decide)
theorem blocks_len (b : List Nat) : ∀ k, (blocks b k).length = 8
  | 0 => rfl
  | k + 1 => by
    rw [blocks, block, List.length_zipWith, rounds_len _ (blocks_len b k), blocks_len b k]
    rfl
theorem blocks_ok (b : List Nat) : ∀ k, B32 (blocks b k)
  | 0 => H0_ok
  | k + 1 => by
    rw [blocks, block, ← upd8_all (blocks_len b k) (rounds_len _ (blocks_len b k) _)]
    exact upd8_ok (blocks_ok b k) 8
theorem K0_ok : B32 K0 := B32.of (by decide)

/-- A row of eight numbers of the call's own, which it writes in place. -/
def Row8 (hb : Nat) (w : World) (H : List Nat) : Prop := H.length = 8 ∧ ∃ cur e, w.heap[hb]? = some (.cells cur e (0, 0)) ∧ ∀ i, i < 8 → cur[i]? = some (Value.int .u32 (H.getD i 0 : Nat))
theorem Row8.cell {hb : Nat} {w : World} {H : List Nat} (h : Row8 hb w H) {i : Nat} (hi : i < 8) : w.cell? ⟨hb, i, none⟩ = some (.int .u32 (H.getD i 0 : Nat)) := by
  obtain ⟨_, cur, e, hr, hc⟩ := h
  rw [cell_of_row _ _ _ _ _ _ hr]
  exact hc i hi
theorem Row8.free {hb : Nat} {w : World} {H : List Nat} (h : Row8 hb w H) (i : Nat) : w.frozen? ⟨hb, i, none⟩ = false := by
  obtain ⟨_, cur, e, hr, hc⟩ := h
  exact free_at hr
theorem Row8.lt {hb : Nat} {w : World} {H : List Nat} (h : Row8 hb w H) : hb < w.heap.size := by
  obtain ⟨_, cur, e, hr, hc⟩ := h
  exact (Array.getElem?_eq_some_iff.1 hr).1
theorem Row8.kept {hb : Nat} {w w' : World} {H : List Nat} (h : Row8 hb w H) (he : w'.heap[hb]? = w.heap[hb]?) : Row8 hb w' H := by
  obtain ⟨hl, cur, e, hr, hc⟩ := h
  exact ⟨hl, cur, e, by rw [he]; exact hr, hc⟩
theorem Row8.below {hb : Nat} {w w' : World} {H : List Nat} (h : Row8 hb w H) (b : Below w.heap.size w w') : Row8 hb w' H := h.kept (b.block _ h.lt)
theorem Row8.set {hb : Nat} {w : World} {H : List Nat} (h : Row8 hb w H) {i : Nat} (hi : i < 8) (x : Nat) : Row8 hb (w.setCell ⟨hb, i, none⟩ (.int .u32 (x : Nat))) (H.set i x) := by
  obtain ⟨hl, cur, e, hr, hc⟩ := h
  refine ⟨by rw [List.length_set]; exact hl, _, e, set_block hr, fun j hj => ?_⟩
  have hs : i < cur.size := (Array.getElem?_eq_some_iff.1 (hc i hi)).1
  rw [Array.getElem?_setIfInBounds, getD_set]
  by_cases e1 : i = j
  · subst e1
    rw [if_pos rfl, if_pos hs, if_pos ⟨rfl, by omega⟩]
  · rw [if_neg e1, if_neg (fun h => e1 h.1)]
    exact hc j hj
theorem Row8.of {e : TypeId} {base : Nat} {w : World} {v : Value} {H : List Nat} (h : OwnN .u32 e base w v H) (hl : H.length = 8) : ∃ hb cap, v = .slice (some ⟨hb, 0, none⟩) 8 cap ∧ base ≤ hb ∧ 8 ≤ cap ∧ cap ≤ maxLen ∧ Row8 hb w H := by
  rcases h.2.2 with ⟨_, h0⟩ | ⟨g, cap, cur, h1, h2, h3, h4, h5, h6, h7⟩
  · rw [List.length_map] at h0; omega
  · rw [List.length_map, hl] at h1 h4 h7
    refine ⟨g, cap, h1, h2, h4, h5, hl, cur, e, h3, fun i hi => ?_⟩
    have e1 : (cur.toList.take (8 * 1))[i]? = some (.int .u32 (H.getD i 0 : Nat)) := by
      rw [h7]
      match H, hl with
      | [a0, a1, a2, a3, a4, a5, a6, a7], _ =>
        match i, hi with
        | 0, _ => rfl
        | 1, _ => rfl
        | 2, _ => rfl
        | 3, _ => rfl
        | 4, _ => rfl
        | 5, _ => rfl
        | 6, _ => rfl
        | 7, _ => rfl
    rw [List.getElem?_take, if_pos (by omega), Array.getElem?_toList] at e1
    exact e1
theorem Row8.nums {hb : Nat} {w : World} {H : List Nat} {cap : Nat} (h : Row8 hb w H) (h8 : 8 ≤ cap) (hm : cap ≤ maxLen) : Nums .u32 w (.slice (some ⟨hb, 0, none⟩) 8 cap) H := by
  refine ⟨some ⟨hb, 0, none⟩, cap, by rw [h.1], by rw [h.1]; exact h8, hm, fun j hj => ⟨hb, 0, rfl, h.lt, ?_⟩⟩
  rw [Nat.zero_add, h.cell (by rw [h.1] at hj; exact hj), List.getD_eq_getElem?_getD, List.getElem?_eq_getElem hj]
  rfl

theorem grown_refl (w : World) (row : Option Nat) : w.grownBy w row := ⟨rfl, rfl, rfl, Nat.le_refl _, fun _ _ _ => rfl⟩
theorem grown_below {W w1 w2 : World} {row : Option Nat} (h : W.grownBy w1 row) (b : Below w1.heap.size w1 w2) : W.grownBy w2 row :=
  ⟨b.os.trans h.os, b.tape.trans h.tape, b.output.trans h.output, Nat.le_trans h.size b.size, fun k hk hn => (b.block k (Nat.lt_of_lt_of_le hk h.size)).trans (h.block k hk hn)⟩
theorem grown_put {W w1 : World} {hb j : Nat} {u : Value} (h : W.grownBy w1 (some hb)) : W.grownBy (w1.setCell ⟨hb, j, none⟩ u) (some hb) := by
  have b0 : Below 0 w1 (w1.setCell ⟨hb, j, none⟩ u) := (Below.refl 0 w1).setCell (p := ⟨hb, j, none⟩) (Nat.zero_le _) u
  exact ⟨b0.os.trans h.os, b0.tape.trans h.tape, b0.output.trans h.output, Nat.le_trans h.size b0.size, fun k hk hn => (Below.heap_setCell _ _ _ _ (fun e => hn (by rw [e]))).trans (h.block k hk hn)⟩
theorem grown_cell {W w1 : World} {hb q o : Nat} {x : Value} (h : W.grownBy w1 (some hb)) (hq : q < W.heap.size) (hne : q ≠ hb) (hc : W.cell? ⟨q, o, none⟩ = some x) : w1.cell? ⟨q, o, none⟩ = some x := by
  unfold World.cell? at hc ⊢
  simp only at hc ⊢
  rw [h.block q hq (by simpa using hne)]
  exact hc
theorem grown_to {base : Nat} {w0 W w1 : World} {hb : Nat} (hw : Below base w0 W) (h : W.grownBy w1 (some hb)) (hb0 : base ≤ hb) (hs : base ≤ W.heap.size) : Below base w0 w1 :=
  ⟨h.os.trans hw.os, h.tape.trans hw.tape, h.output.trans hw.output, Nat.le_trans hw.size h.size, fun k hk => (h.block k (by omega) (by simp; omega)).trans (hw.block k hk)⟩
end Go.Proofs.YtffepndeegbdoaaGreatDoor.Slt
