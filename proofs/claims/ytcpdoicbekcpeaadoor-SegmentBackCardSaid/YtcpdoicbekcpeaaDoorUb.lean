/- slices.Backward at spans: its closure hands over the spans, the last one first, for every body that keeps all blocks but one. -/
import Derived.RangeFuncNested
import Derived.RangeFuncBound
import Derived.RangeFuncCalls
import Derived.RangeFuncLeaves
import Derived.Shelf.Abstract
import Derived.Shelf.RegionOpen
import Derived.WalkKit
import Derived.OwnWalkIn
import Derived.TacticsInMore
import Derived.LoopNIn
import Derived.LoopIn
import Derived.Test.YtcpdoicbekcpeaaDoorV
import Derived.Test.YtcpdoicbekcpeaaDoorUm
import Derived.Test.YtcpdoicbekcpeaaDoorSt2
set_option linter.unusedVariables false
set_option maxRecDepth 100000
namespace Go.Proofs.YtcpdoicbekcpeaaDoor.Seg
open Go.RowKit Go.Lib Go.Shelf Go.Proofs.YtcpdoicbekcpeaaDoor.Rt Go.Proofs.YtcpdoicbekcpeaaDoor.Rig

attribute [local go_sem] Oper.semAt_some

/-- All blocks below N but B0 stay. -/
def KX (B0 N : Nat) (W W' : World) : Prop := W.heap.size ≤ W'.heap.size ∧ ∀ k, k < N → k ≠ B0 → W'.heap[k]? = W.heap[k]?
theorem KX.refl (B0 N : Nat) (W : World) : KX B0 N W W := ⟨Nat.le_refl _, fun _ _ _ => rfl⟩
theorem KX.trans {B0 N : Nat} {A B C : World} (h : KX B0 N A B) (k : KX B0 N B C) : KX B0 N A C := ⟨Nat.le_trans h.1 k.1, fun i h1 h2 => (k.2 i h1 h2).trans (h.2 i h1 h2)⟩
theorem KX.putObj {B0 N : Nat} {w : World} (hN : N ≤ w.heap.size) (W : World) (l : Nat) (o o' : Obj) (hl : w.heap.size ≤ l) (h : W.heap[l]? = some o) (_ : o.isCells = false) (_ : o.isWalk = false) : KX B0 N W (W.putObj l o') :=
  ⟨(grownBy_putObj' W l o').size, fun k hk _ => (grownBy_putObj' W l o').block k (by have := (Array.getElem?_eq_some_iff.1 h).1; omega) (fun e => by cases e; omega)⟩
theorem KX.below {B0 N : Nat} {W W' : World} (hN : N ≤ W.heap.size) (h : Below W.heap.size W W') : KX B0 N W W' := ⟨h.size, fun k hk _ => h.block k (by omega)⟩
theorem KX.setCell {B0 N j : Nat} {W : World} {u : Value} : KX B0 N W (W.setCell ⟨B0, j, none⟩ u) := ⟨by simp, fun k _ hk => Below.heap_setCell _ _ _ _ hk⟩
theorem KX.alloc {B0 N : Nat} {W : World} (o : Obj) (hN : N ≤ W.heap.size) : KX B0 N W (W.alloc o) := KX.below hN ((Below.refl _ _).alloc (Nat.le_refl _) _)
theorem KX.cell {B0 N : Nat} {W W' : World} (h : KX B0 N W W') {b j : Nat} {v : Value} (hb : b < N) (hne : b ≠ B0) (hc : W.cell? ⟨b, j, none⟩ = some v) : W'.cell? ⟨b, j, none⟩ = some v := by
  rw [← hc]
  unfold World.cell?
  rw [h.2 b hb hne]

/-- What is handed over: a place, a span in a text of M letters. -/
abbrev Bk (M : Nat) : Type := { x : Int × Sp // 0 ≤ x.2.f ∧ x.2.f ≤ x.2.t ∧ x.2.t ≤ (M : Int) }
def encB {M : Nat} (x : Bk M) : Array Value := #[.int .i64 x.1.1, .agg #[.int .i64 x.1.2.m, .int .i64 x.1.2.f, .int .i64 x.1.2.t]]
open Classical in
/-- The round k's. -/
noncomputable def bkF (M : Nat) (X : List Sp) (k : Nat) : Bk M :=
  if h : 0 ≤ (sp X (X.length - 1 - k)).f ∧ (sp X (X.length - 1 - k)).f ≤ (sp X (X.length - 1 - k)).t ∧ (sp X (X.length - 1 - k)).t ≤ (M : Int) then ⟨((X.length : Int) - 1 - k, sp X (X.length - 1 - k)), h⟩ else ⟨(0, ⟨0, 0, 0⟩), by simp⟩
theorem bkF_eq {M : Nat} {X : List Sp} (hX : Ord 0 M X) {k : Nat} (hk : k < X.length) : (bkF M X k).1 = ((X.length : Int) - 1 - k, sp X (X.length - 1 - k)) := by
  unfold bkF
  rw [dif_pos]
  obtain ⟨_, b, c, d⟩ := hX.mem (sp X (X.length - 1 - k)) (by rw [sp_get (by omega)]; exact List.getElem_mem _)
  exact ⟨b, by omega, d⟩
noncomputable def bkL (M : Nat) (X : List Sp) (k : Nat) : List (Bk M) := (List.range k).map (bkF M X)
theorem bkL_succ (M : Nat) (X : List Sp) (k : Nat) : bkL M X (k + 1) = bkL M X k ++ [bkF M X k] := by simp [bkL, List.range_succ]
theorem bkL_len (M : Nat) (X : List Sp) (k : Nat) : (bkL M X k).length = k := by simp [bkL]
theorem bkL_spans {M : Nat} {X : List Sp} (hX : Ord 0 M X) : (bkL M X X.length).map (fun x => x.1.2) = X.reverse := by
  apply List.ext_getElem
  · simp [bkL]
  · intro i h1 h2
    have hi : i < X.length := by simpa [bkL] using h1
    simp only [bkL, List.getElem_map, List.getElem_range, List.map_map, Function.comp]
    rw [bkF_eq hX hi, List.getElem_reverse]
    exact sp_get (by omega)

set_option maxHeartbeats 1000000 in
/-- slices.Backward(s): the slice is boxed; the function value captures the box. -/
theorem back_in (F : Fence) (n : Nat) (hf : F.fn 65) (hro : F.round = none) (a : Option Addr) (len cap : Nat) (w : World) :
    CallsIn F n Tryd.prog 65 #[.slice a len cap] w fun e w' => e = .returned (.func (.func 99) #[] #[.pointer (some ⟨w.heap.size, 0, none⟩)]) ∧ w' = w.alloc (.cells #[.slice a len cap] 22) := by
  refine callsIn_of_wp Tryd.func65 rfl hf ?_ hro
  simp only [Tryd.ntmps65, List.size_toArray, List.length_cons, List.length_nil, Nat.reduceAdd, Nat.reduceSub, Array.replicate_succ, Array.replicate_zero, List.push_toArray, List.append_toArray, List.nil_append, List.cons_append]
  gi_wp2
  go_ret
  exact ⟨rfl, rfl⟩

set_option maxHeartbeats 4000000 in
/-- Its closure. -/
theorem back1_in (F : Fence) (n : Nat) (hf : F.fn 99) (hro : F.round = none) (hn : 1 ≤ n) (l Bs B0 N M : Nat) (a : Option Addr) (len cap : Nat) (X : List Sp) (hlen : X.length = len) (hX : Ord 0 M X) (h10 : len ≤ 10000) (hcap : len ≤ cap) (hcap2 : cap ≤ 9223372036854775807) (hsN : Bs < N) (hs0 : Bs ≠ B0) (J Jx : List (Bk M) → World → Prop)
    (hY : ∀ pre x W, J pre W → pre.length < len → YieldAt F (n - 1) Tryd.prog l (encB x) W fun e W' =>
      (e = .returned (.bool true) ∧ J (pre ++ [x]) W' ∧ KX B0 N W W') ∨ (e = .returned (.bool false) ∧ Jx (pre ++ [x]) W'))
    (W : World) (hBs : W.cell? ⟨Bs, 0, none⟩ = some (.slice a len cap)) (hc : ∀ j, j < len → ∃ b off, a = some ⟨b, off, none⟩ ∧ b < N ∧ b ≠ B0 ∧ W.cell? ⟨b, off + j * 3, none⟩ = some (.int .i64 (sp X j).m) ∧ W.cell? ⟨b, off + j * 3 + 1, none⟩ = some (.int .i64 (sp X j).f) ∧ W.cell? ⟨b, off + j * 3 + 2, none⟩ = some (.int .i64 (sp X j).t)) (h0 : J [] W) :
    CallsIn F n Tryd.prog 99 #[.func (.yield l) #[] #[], .pointer (some ⟨Bs, 0, none⟩)] W fun e W' => (∃ v, e = .returned v) ∧
      ((∃ ys, ys = bkL M X len ∧ J ys W') ∨ (∃ pre, True ∧ Jx pre W')) := by
  have HC := Lib.hid hc
  have HB := Lib.hid hBs
  have HX := Lib.hid hX
  have HL := Lib.hid hlen
  have HY : Hid (∀ pre x W, J pre W → pre.length < len → YieldAt F (n - 1) Tryd.prog l (encB x) W fun e W' =>
      (e = .returned (.bool true) ∧ J (pre ++ [x]) W' ∧ KX B0 N W W') ∨ (e = .returned (.bool false) ∧ Jx (pre ++ [x]) W')) := hY
  clear hc hY hX hlen
  refine callsIn_of_wp Tryd.func99 rfl hf ?_ hro
  simp only [Tryd.ntmps99, List.size_toArray, List.length_cons, List.length_nil, Nat.reduceAdd, Nat.reduceSub, Array.replicate_succ, Array.replicate_zero, List.push_toArray, List.append_toArray, List.nil_append, List.cons_append]
  gi_wp2
  clear hBs
  gi_loopw [3] (fun i wr => ∃ k : Nat, k ≤ len ∧ i = .int .i64 ((len : Int) - 1 - k) ∧ Hid (J (bkL M X k) wr) ∧ Hid (KX B0 N W wr))
    (fun i _ => (intOf i + 1).toNat)
  case atStart => exact ⟨0, Nat.zero_le _, by go_num, h0, KX.refl _ _ _⟩
  case round =>
    obtain ⟨k, hk, rfl, hJs, hnx⟩ := hrel
    have hbs := hnx.out.cell hsN hs0 HB.out
    by_cases hlt : k < len
    · obtain ⟨b, off, ha, hbN, hb0, q0, q1, q2⟩ := HC.out (len - 1 - k) (by omega)
      have e0 := hnx.out.cell hbN hb0 q0
      have e1 := hnx.out.cell hbN hb0 q1
      have e2 := hnx.out.cell hbN hb0 q2
      have hbk := bkF_eq HX.out (k := k) (by rw [HL.out]; exact hlt)
      rw [HL.out] at hbk
      obtain ⟨fn, tmps, assign, body, hy, hR⟩ := HY.out _ (bkF M X k) wr hJs.out (by rw [bkL_len]; exact hlt)
      unfold encB at hy
      rw [hbk] at hy
      subst ha
      obtain ⟨i, hi⟩ : ∃ i : Nat, i = len - 1 - k := ⟨_, rfl⟩
      rw [← hi] at e0 e1 e2 hy
      have hii : ((len : Int) - 1 - k) = (i : Int) := by omega
      dsimp only at hy
      rw [hii] at hy ⊢
      have hil : i < len := by omega
      have hil2 : (i : Int) < len := by omega
      have hi0 : (0 : Int) ≤ (i : Int) := by omega
      have hi1 : Hid (((i : Int) - 1) = (len : Int) - 1 - ((k + 1 : Nat) : Int)) := by show _ = _; omega
      have hi2 : Hid (i + k + 1 = len) := by show _ = _; omega
      clear q0 q1 q2 hbk hi hii
      gi_wp2
      refine hR.mono ?_
      rintro e W3 (⟨rfl, hJ3, hk3⟩ | ⟨rfl, hJx3⟩)
      · have HJ3 : Hid (J (bkL M X (k + 1)) W3) := by show J _ _; rw [bkL_succ]; exact hJ3
        have HK3 : Hid (KX B0 N W W3) := hnx.out.trans hk3
        clear hJ3 hk3
        gi_wp2
        go_roundw
        case rel => exact ⟨k + 1, by omega, by rw [← hi1.out], HJ3, HK3⟩
        case measure => simp [intOf]
      · have HJ3 := Lib.hid hJx3
        clear hJx3
        gi_wp2
        refine bodyPost_ret (results_none rfl _ _ _) rfl ?_
        exact ⟨⟨_, rfl⟩, .inr ⟨_, trivial, HJ3.out⟩⟩
    · obtain rfl : k = len := by omega
      have hneg : ((k : Int) - 1 - k) = -1 := by omega
      rw [hneg]
      clear hneg
      gi_wp2
      go_end0
      exact ⟨⟨_, rfl⟩, .inl ⟨_, rfl, hJs.out⟩⟩
end Go.Proofs.YtcpdoicbekcpeaaDoor.Seg
