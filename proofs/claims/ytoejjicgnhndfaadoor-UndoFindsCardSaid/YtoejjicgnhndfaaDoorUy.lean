/- slices.Backward at things: its closure hands over places and things, the last one first, for every body that keeps what lay below N. -/
import Derived.RangeFuncNested
import Derived.RangeFuncBound
import Derived.RangeFuncCalls
import Derived.RangeFuncLeaves
import Derived.Shelf.Abstract
import Derived.Shelf.RegionOpen
import Derived.WalkKit
import Derived.OwnWalkIn
import Derived.TacticsInMore
import Derived.LoopNIn
import Derived.LoopIn
import Derived.Test.YtoejjicgnhndfaaDoorUl
set_option linter.unusedVariables false
set_option maxRecDepth 100000
namespace Go.Proofs.YtoejjicgnhndfaaDoor.Und
open Go.RowKit Go.Lib Go.Shelf Go.Proofs.YtoejjicgnhndfaaDoor.Rk Go.Proofs.YtoejjicgnhndfaaDoor.Rig

attribute [local go_sem] Oper.semAt_some

/-- What is handed over: a place, a thing and what it means. -/
abbrev Bt (w : World) : Type := { x : Int × Value × U // ThV w x.2.1 x.2.2 }
def encT {w : World} (x : Bt w) : Array Value := #[.int .i64 x.1.1, x.1.2.1]
/-- The things of a stack, with their places. -/
def ZOf (w : World) (a : Option Addr) (A : List U) (Z : List (Bt w)) : Prop :=
  Z.map (fun z => z.1.2.2) = A ∧ ∀ j (h : j < Z.length), Z[j].1.1 = j ∧ ∃ b off, a = some ⟨b, off, none⟩ ∧ b < w.heap.size ∧ w.cell? ⟨b, off + j, none⟩ = some Z[j].1.2.1
theorem zof_of {w : World} {a : Option Addr} {n cap : Nat} {A : List U} (h : Stk w (.slice a n cap) A) : ∃ Z, ZOf w a A Z := by
  have hx : ∀ j : Fin A.length, ∃ z : Bt w, z.1.1 = j.1 ∧ z.1.2.2 = A[j.1] ∧ ∃ b off, a = some ⟨b, off, none⟩ ∧ b < w.heap.size ∧ w.cell? ⟨b, off + j.1, none⟩ = some z.1.2.1 := fun j => by
    obtain ⟨b, off, v, e, hb, hv, hc⟩ := h.get j.2
    exact ⟨⟨(j.1, v, A[j.1]), hv⟩, rfl, rfl, b, off, e, hb, hc⟩
  obtain ⟨f, hf⟩ := Classical.axiomOfChoice hx
  refine ⟨List.ofFn f, ?_, fun j hj => ?_⟩
  · apply List.ext_getElem
    · simp
    · intro i h1 h2
      rw [List.getElem_map, List.getElem_ofFn]
      exact (hf ⟨i, h2⟩).2.1
  · rw [List.getElem_ofFn]
    have hj' : j < A.length := by simpa using hj
    exact ⟨(hf ⟨j, hj'⟩).1, (hf ⟨j, hj'⟩).2.2⟩
theorem zrev {α : Type} (Z : List α) {k : Nat} (hk : k < Z.length) : Z.reverse.take (k + 1) = Z.reverse.take k ++ [Z[Z.length - 1 - k]] := by
  have hl : k < Z.reverse.length := by rw [List.length_reverse]; exact hk
  rw [List.take_succ_eq_append_getElem hl, List.getElem_reverse]

set_option maxHeartbeats 1000000 in
/-- slices.Backward(s): the slice is boxed; the function value captures the box. -/
theorem ubackm (F : Fence) (n : Nat) (hf : F.fn 98) (hro : F.round = none) (a : Option Addr) (len cap : Nat) (w : World) :
    CallsIn F n Tryd.prog 98 #[.slice a len cap] w fun e w' => e = .returned (.func (.func 123) #[] #[.pointer (some ⟨w.heap.size, 0, none⟩)]) ∧ w' = w.alloc (.cells #[.slice a len cap] 82) := by
  refine callsIn_of_wp Tryd.func98 rfl hf ?_ hro
  simp only [Tryd.ntmps98, List.size_toArray, List.length_cons, List.length_nil, Nat.reduceAdd, Nat.reduceSub, Array.replicate_succ, Array.replicate_zero, List.push_toArray, List.append_toArray, List.nil_append, List.cons_append]
  gi_wp2
  go_ret
  exact ⟨rfl, rfl⟩

set_option maxHeartbeats 4000000 in
/-- Its closure. -/
theorem uback1 (F : Fence) (n : Nat) (hf : F.fn 123) (hro : F.round = none) (hn : 1 ≤ n) (l Bs N : Nat) (w : World) (a : Option Addr) (len cap : Nat) (A : List U) (Z : List (Bt w)) (hlen : Z.length = len) (hZ : ZOf w a A Z) (h10 : len ≤ 10000) (hcap : len ≤ cap) (hcap2 : cap ≤ 9223372036854775807) (hsN : Bs < N) (J Jx : List (Bt w) → World → Prop)
    (hY : ∀ pre x W, J pre W → pre.length < len → YieldAt F (n - 1) Tryd.prog l (encT x) W fun e W' =>
      (e = .returned (.bool true) ∧ J (pre ++ [x]) W' ∧ Below N W W') ∨ (e = .returned (.bool false) ∧ Jx (pre ++ [x]) W'))
    (W : World) (hBs : W.cell? ⟨Bs, 0, none⟩ = some (.slice a len cap)) (hW : Below w.heap.size w W) (hwN : w.heap.size ≤ N) (h0 : J [] W) :
    CallsIn F n Tryd.prog 123 #[.func (.yield l) #[] #[], .pointer (some ⟨Bs, 0, none⟩)] W fun e W' => (∃ v, e = .returned v) ∧
      ((∃ ys, ys = Z.reverse ∧ J ys W') ∨ (∃ pre, pre <+: Z.reverse ∧ Jx pre W')) := by
  have HB := Lib.hid hBs
  have HW := Lib.hid hW
  have HZ := Lib.hid hZ
  have HL := Lib.hid hlen
  have HY : Hid (∀ pre x W, J pre W → pre.length < len → YieldAt F (n - 1) Tryd.prog l (encT x) W fun e W' =>
      (e = .returned (.bool true) ∧ J (pre ++ [x]) W' ∧ Below N W W') ∨ (e = .returned (.bool false) ∧ Jx (pre ++ [x]) W')) := hY
  clear hY hlen hZ hW
  refine callsIn_of_wp Tryd.func123 rfl hf ?_ hro
  simp only [Tryd.ntmps123, List.size_toArray, List.length_cons, List.length_nil, Nat.reduceAdd, Nat.reduceSub, Array.replicate_succ, Array.replicate_zero, List.push_toArray, List.append_toArray, List.nil_append, List.cons_append]
  gi_wp2
  clear hBs
  gi_loopw [3] (fun i wr => ∃ k : Nat, k ≤ len ∧ i = .int .i64 ((len : Int) - 1 - k) ∧ Hid (J (Z.reverse.take k) wr) ∧ Hid (Below N W wr))
    (fun i _ => (intOf i + 1).toNat)
  case atStart => exact ⟨0, Nat.zero_le _, by go_num, h0, Below.refl _ _⟩
  case round =>
    obtain ⟨k, hk, rfl, hJs, hnx⟩ := hrel
    have hbs : wr.cell? ⟨Bs, 0, none⟩ = some (.slice a len cap) := (hnx.out.cell (p := ⟨Bs, 0, none⟩) hsN).trans HB.out
    by_cases hlt : k < len
    · have hkZ : Z.length - 1 - k < Z.length := by rw [HL.out]; omega
      obtain ⟨z1, b, off, ha, hb, q0⟩ := HZ.out.2 (Z.length - 1 - k) hkZ
      have e0 := (hnx.out.cell (p := ⟨b, off + (Z.length - 1 - k), none⟩) (Nat.lt_of_lt_of_le hb hwN)).trans (((HW.out).cell (p := ⟨b, off + (Z.length - 1 - k), none⟩) hb).trans q0)
      have EZ := Lib.hid (zrev Z (k := k) (by rw [HL.out]; exact hlt))
      have hpl : (Z.reverse.take k).length < len := by rw [List.length_take, List.length_reverse, HL.out]; omega
      generalize Z[Z.length - 1 - k] = x at *
      obtain ⟨fn, tmps, assign, body, hy, hR⟩ := HY.out _ x wr hJs.out hpl
      unfold encT at hy
      subst ha
      obtain ⟨i, hi⟩ : ∃ i : Nat, i = len - 1 - k := ⟨_, rfl⟩
      rw [HL.out, ← hi] at e0 z1
      rw [z1] at hy
      have hii : ((len : Int) - 1 - k) = (i : Int) := by omega
      rw [hii]
      obtain ⟨xv, hxv⟩ : ∃ v, v = x.1.2.1 := ⟨_, rfl⟩
      rw [← hxv] at hy e0
      have hil : i < len := by omega
      have hil2 : (i : Int) < len := by omega
      have hi0 : (0 : Int) ≤ (i : Int) := by omega
      have hi1 : Hid (((i : Int) - 1) = (len : Int) - 1 - ((k + 1 : Nat) : Int)) := by show _ = _; omega
      have hi2 : Hid (i + k + 1 = len) := by show _ = _; omega
      clear q0 hi hii hxv z1 hpl hkZ
      gi_wp2
      refine hR.mono ?_
      rintro e W3 (⟨rfl, hJ3, hk3⟩ | ⟨rfl, hJx3⟩)
      · have HJ3 : Hid (J (Z.reverse.take (k + 1)) W3) := by show J _ _; rw [EZ.out]; exact hJ3
        have HK3 : Hid (Below N W W3) := belowK_t hnx.out hk3
        clear hJ3 hk3
        gi_wp2
        go_roundw
        case rel => exact ⟨k + 1, by omega, by rw [← hi1.out], HJ3, HK3⟩
        case measure => simp [intOf]
      · have HJ3 : Hid (Jx (Z.reverse.take (k + 1)) W3) := by show Jx _ _; rw [EZ.out]; exact hJx3
        clear hJx3
        gi_wp2
        refine bodyPost_ret (results_none rfl _ _ _) rfl ?_
        exact ⟨⟨_, rfl⟩, .inr ⟨_, List.take_prefix _ _, HJ3.out⟩⟩
    · obtain rfl : k = len := by omega
      have hneg : ((k : Int) - 1 - k) = -1 := by omega
      rw [hneg]
      have HJ4 : Hid (J Z.reverse wr) := by
        have := hJs.out
        rwa [List.take_of_length_le (by rw [List.length_reverse, HL.out]; omega)] at this
      clear hneg hJs
      gi_wp2
      go_end0
      exact ⟨⟨_, rfl⟩, .inl ⟨_, rfl, HJ4.out⟩⟩
end Go.Proofs.YtoejjicgnhndfaaDoor.Und
