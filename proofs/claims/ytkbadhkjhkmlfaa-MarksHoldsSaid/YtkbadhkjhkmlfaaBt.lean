/- MarksHolds: the row of bools that is filled with the spans' letters, while nothing else turns. -/
import Derived.Test.YtkbadhkjhkmlfaaBs
import Derived.Test.YtkbadhkjhkmlfaaPof
set_option linter.unusedVariables false
namespace Go.Proofs.Ytkbadhkjhkmlfaa.Rig
open Go.RowKit Go.Lib Go.Proofs.Ytkbadhkjhkmlfaa.Rt

def rowB (P : Nat → Bool) (L : Nat) : List Bool := (List.range L).map P
theorem rowB_len (P : Nat → Bool) (L : Nat) : (rowB P L).length = L := by simp [rowB]
theorem rowB_get {P : Nat → Bool} {L j : Nat} (h : j < L) : (bools (rowB P L))[j]? = some (.bool (P j)) := by
  unfold bools rowB
  rw [List.getElem?_map, List.getElem?_map, List.getElem?_range h]
  rfl
theorem rowB_false (L : Nat) : bools (rowB (fun _ => false) L) = List.replicate L (.bool false) := by
  apply List.ext_getElem?
  intro j
  by_cases hj : j < L
  · rw [rowB_get hj, List.getElem?_replicate, if_pos hj]
  · rw [List.getElem?_eq_none (by simp [bools, rowB]; omega), List.getElem?_eq_none (by simp; omega)]
theorem rowB_set (P : Nat → Bool) (L k : Nat) : (bools (rowB P L)).set k (.bool true) = bools (rowB (fun j => P j || decide (j = k)) L) := by
  apply List.ext_getElem?
  intro j
  rw [List.getElem?_set, bools_len, rowB_len]
  by_cases hj : j < L
  · rw [rowB_get hj, rowB_get hj]
    by_cases e : k = j
    · subst e
      rw [if_pos rfl, if_pos hj]
      simp
    · rw [if_neg e, decide_eq_false (fun h => e h.symm), Bool.or_false]
  · rw [List.getElem?_eq_none (by rw [bools_len, rowB_len]; omega), List.getElem?_eq_none (by rw [bools_len, rowB_len]; omega)]
    by_cases e : k = j
    · subst e
      rw [if_pos rfl, if_neg hj]
    · rw [if_neg e]
theorem rowB_congr {P Q : Nat → Bool} {L : Nat} (h : ∀ j, j < L → P j = Q j) : rowB P L = rowB Q L := by
  unfold rowB
  exact List.map_congr_left fun x hx => h x (List.mem_range.1 hx)
structure Got (WT w : World) (GB : Nat) (lv : Value) (LL : List Sp) (L : Nat) (P : Nat → Bool) : Prop where
  gb : GB = WT.heap.size
  own : w.ownsRow GB 4 1 (.slice (some ⟨GB, 0, none⟩) L L) L (bools (rowB P L))
  sp : Spans w lv LL
  bel : Below GB WT w
theorem Got.block {WT w : World} {GB L : Nat} {lv : Value} {LL : List Sp} {P : Nat → Bool} (h : Got WT w GB lv LL L P) : ∃ cs, w.heap[GB]? = some (.cells cs 4 (0, 0)) ∧ NoInt cs := by
  rcases h.own.2 with ⟨h', _⟩ | ⟨g, cap, cur, h', _, hg, _, _, hsz, htake⟩
  · simp at h'
  · simp only [Value.slice.injEq, Option.some.injEq, Addr.mk.injEq, and_true, true_and] at h'
    obtain ⟨rfl, rfl⟩ := h'
    refine ⟨cur, hg, fun i z hz => ?_⟩
    have hi : i < cur.size := (Array.getElem?_eq_some_iff.1 hz).1
    have hiL : i < L := by rw [hsz] at hi; omega
    have h1 : (cur.toList.take (L * 1))[i]? = some (.int .i64 z) := by
      rw [List.getElem?_take_of_lt (by omega), Array.getElem?_toList]
      exact hz
    rw [htake, rowB_get hiL] at h1
    cases h1
theorem Got.cell {WT w : World} {GB L : Nat} {lv : Value} {LL : List Sp} {P : Nat → Bool} (h : Got WT w GB lv LL L P) {j : Nat} (hj : j < L) : w.cell? ⟨GB, j, none⟩ = some (.bool (P j)) ∧ w.frozen? ⟨GB, j, none⟩ = false := by
  refine ⟨?_, World.ownsRow.frozenAt h.own j⟩
  rw [World.ownsRow.cellAt h.own j (by omega), rowB_get hj]
theorem Got.lt {WT w : World} {GB L : Nat} {lv : Value} {LL : List Sp} {P : Nat → Bool} (h : Got WT w GB lv LL L P) : GB < w.heap.size := by
  obtain ⟨cs, h1, _⟩ := h.block
  exact row_lt h1
theorem Got.set {WT w : World} {GB L : Nat} {lv : Value} {LL : List Sp} {P : Nat → Bool} (h : Got WT w GB lv LL L P) (k : Nat) : Got WT (w.setCell ⟨GB, k, none⟩ (.bool true)) GB lv LL L (fun j => P j || decide (j = k)) := by
  obtain ⟨cs, h1, h2⟩ := h.block
  refine ⟨h.gb, ?_, Fl.but h.sp h1 h2 (by simp) (set_kept _ _ _ _), h.bel.setCell (p := ⟨GB, k, none⟩) (Nat.le_refl _) _⟩
  rw [← rowB_set]
  exact (World.ownsRow.stored h.own k (.bool true)).1
theorem Got.below {WT w w' : World} {GB L : Nat} {lv : Value} {LL : List Sp} {P : Nat → Bool} (h : Got WT w GB lv LL L P) (hb : Below w.heap.size w w') : Got WT w' GB lv LL L P :=
  ⟨h.gb, World.ownsRow.kept h.own (grown_below hb none) (by simp [Value.ownBlock]), h.sp.below hb (Nat.le_refl _), h.bel.trans (hb.mono (Nat.le_of_lt h.lt))⟩
theorem Got.congr {WT w : World} {GB L : Nat} {lv : Value} {LL : List Sp} {P Q : Nat → Bool} (h : Got WT w GB lv LL L P) (e : ∀ j, j < L → P j = Q j) : Got WT w GB lv LL L Q := by
  refine ⟨h.gb, ?_, h.sp, h.bel⟩
  rw [← rowB_congr e]
  exact h.own
theorem cov_zero (LL : List Sp) : (fun _ => false) = cov (LL.take 0) := by
  funext j
  rw [List.take_zero]
  rfl
/-- One span: from .. to. -/
def covTo (LL : List Sp) (q f k : Nat) (j : Nat) : Bool := cov (LL.take q) j || decide (f ≤ j ∧ j < k)
theorem covTo_start (LL : List Sp) (q f j : Nat) : cov (LL.take q) j = covTo LL q f f j := by
  unfold covTo
  rw [decide_eq_false (by omega), Bool.or_false]
theorem covTo_step (LL : List Sp) {q f k : Nat} (h : f ≤ k) (j : Nat) : (covTo LL q f k j || decide (j = k)) = covTo LL q f (k + 1) j := by
  unfold covTo
  rw [Bool.or_assoc]
  congr 1
  by_cases c : f ≤ j ∧ j < k
  · rw [decide_eq_true c, Bool.true_or, decide_eq_true (by omega)]
  · rw [decide_eq_false c, Bool.false_or]
    by_cases e : j = k
    · rw [decide_eq_true e, decide_eq_true (by omega)]
    · rw [decide_eq_false e, decide_eq_false (by omega)]
theorem covTo_end {LL : List Sp} {q : Nat} (h : q < LL.length) {m : Int} {f t : Nat} (e : sp LL q = ⟨m, f, t⟩) (j : Nat) : covTo LL q f t j = cov (LL.take (q + 1)) j := by
  unfold covTo
  rw [List.take_succ_eq_append_getElem h, cov_snoc, ← sp_get h, e]
  congr 1
  by_cases c : f ≤ j ∧ j < t
  · rw [decide_eq_true c, decide_eq_true (show ((f : Int) ≤ (j : Int) ∧ (j : Int) < (t : Int)) by omega)]
  · rw [decide_eq_false c, decide_eq_false (show ¬ ((f : Int) ≤ (j : Int) ∧ (j : Int) < (t : Int)) by omega)]
theorem bls_at {w : World} {a : Option Addr} {n c : Nat} {bs : List Bool} (h : Bls w (.slice a n c) bs) {j : Nat} (hj : j < bs.length) : ∃ b off, a = some ⟨b, off, none⟩ ∧ w.cell? ⟨b, off + j, none⟩ = some (.bool (bat bs j)) := by
  obtain ⟨a', cap, hv, h1, h2, h3⟩ := h
  injection hv with e1 e2 e3
  subst e1
  rcases h3 with h3 | ⟨b, o, e, hb, hc⟩
  · rw [h3] at hj; simp at hj
  · exact ⟨b, o, e, hc j hj⟩
end Go.Proofs.Ytkbadhkjhkmlfaa.Rig
