/- Undo: Plain of a stack; Load. -/
import Derived.Test.YtoejjicgnhndfaaDoorUf
import Derived.Deep.LoopGhost
set_option linter.unusedVariables false
set_option maxRecDepth 100000
namespace Go.Proofs.YtoejjicgnhndfaaDoor.Und
open Go.RowKit Go.Lib Go.Proofs.YtoejjicgnhndfaaDoor.Rk Go.Proofs.YtoejjicgnhndfaaDoor.Rig

def Th (w : World) (x : List Value) (y : U) : Prop := ∃ v, x = [v] ∧ ThV w v y
theorem Th.below {w w' : World} {x : List Value} {y : U} (h : Th w x y) (hb : Below w.heap.size w w') : Th w' x y := by
  obtain ⟨v, h1, h2⟩ := h
  exact ⟨v, h1, h2.below hb (Nat.le_refl _)⟩
/-- A list of things. -/
def Stk (w : World) (s : Value) (A : List U) : Prop := Rk.Rows 1 Th w s A
theorem Stk.below {w w' : World} {s : Value} {A : List U} (h : Stk w s A) (hb : Below w.heap.size w w') : Stk w' s A := Rk.Rows.below (R := Th) (fun h hb => Th.below h hb) h hb
theorem Stk.get {w : World} {a : Option Addr} {n cap : Nat} {A : List U} (h : Stk w (.slice a n cap) A) {j : Nat} (hj : j < A.length) : ∃ b off v, a = some ⟨b, off, none⟩ ∧ b < w.heap.size ∧ ThV w v A[j] ∧ w.cell? ⟨b, off + j, none⟩ = some v := by
  obtain ⟨b, off, x, h1, h2, _, ⟨v, rfl, hv⟩, hc⟩ := Rk.Rows.get h hj
  have := hc 0 v rfl
  rw [Nat.mul_one, Nat.add_zero] at this
  exact ⟨b, off, v, h1, h2, hv, this⟩
theorem Stk.all {w : World} {s : Value} {A : List U} (h : Stk w s A) : ∀ y ∈ A, ok1 y = true := fun y hy => by
  obtain ⟨p, h1, _, h3⟩ := h
  rw [← h1] at hy
  obtain ⟨x, hx, rfl⟩ := List.mem_map.1 hy
  obtain ⟨v, _, hv⟩ := h3 x hx
  exact hv.ok
theorem infoUndo : (Tryd.prog.info? 88).map (fun i => (i.zero, i.size, i.bytes)) = some (some (.agg #[.int .i64 0, .int .i64 0, .int .i64 0, .int .i64 0, .string (ByteArray.mk #[])]), 5, 48) := by kernel_rfl
theorem infoAny : (Tryd.prog.info? 20).map (fun i => (i.zero, i.size, i.bytes)) = some (some .nilIface, 1, 16) := by kernel_rfl
theorem ucells_one (y : U) : ∀ q ∈ y.cells, q.oneCell' = true := fun q hq => by
  unfold U.cells at hq
  simp at hq
  rcases hq with rfl | rfl | rfl | rfl | rfl <;> rfl
theorem take_one {A : List U} {k : Nat} (hk : k < A.length) : (A.take (k + 1)).map U.cells = (A.take k).map U.cells ++ [A[k].cells] := by
  rw [List.take_succ_eq_append_getElem hk, List.map_append]; rfl

set_option maxHeartbeats 4000000 in
theorem splain_any {s : Value} {A : List U} (w : World) (h : Stk w s A) (hg : ∀ y ∈ A, y.good) (hl : ∀ y ∈ A, y.t.length ≤ 1073741824) (hn : A.length ≤ 10000) : Calls Tryd.prog 51 #[.agg #[s]] w fun e w' => ∃ v, e = .returned v ∧ Us w' v A ∧ Below w.heap.size w w' := by
  obtain ⟨sa, sc, rfl⟩ := Rk.Rows.is_slice h
  obtain ⟨_, hcap, hmax⟩ := Rk.Rows.len h
  obtain ⟨n, hnA⟩ : ∃ n, n = A.length := ⟨_, rfl⟩
  have HR : Hid (∀ w', Below w.heap.size w w' → Stk w' (.slice sa n sc) A) := fun w' hb => by rw [hnA]; exact h.below hb
  rw [← hnA] at hcap hn ⊢
  unfold maxLen at hmax
  have HN := Lib.hid hnA
  have HG := Lib.hid hg
  have HL := Lib.hid hl
  obtain ⟨W0, hW0⟩ : ∃ W0, W0 = w.alloc (.cells #[.slice sa n sc] 84) := ⟨_, rfl⟩
  obtain ⟨B0, R0, L0⟩ := ubox w #[.slice sa n sc] 84
  rw [← hW0] at B0 R0 L0
  have c0 : W0.cell? ⟨w.heap.size, 0, none⟩ = some (.slice sa n sc) := by rw [cell_of_row _ _ _ _ _ _ R0]; rfl
  have HB0 := Lib.hid B0
  have HW0 := Lib.hid hW0
  clear h hg hl hnA hW0 B0 R0 L0
  go_enter Tryd.func51, Tryd.ntmps51
  go_upto_region 1 with fail
  rw [← HW0.out]
  go_wp2_with fail
  go_loopg [3, 9] n (fun g t i wr => ∃ k : Nat, k ≤ n ∧ n - k ≤ g ∧ i = .int .i64 k ∧ Hid (OwnK 88 5 W0.heap.size wr t ((A.take k).map U.cells)) ∧ Below W0.heap.size W0 wr)
  case atStart => exact ⟨0, Nat.zero_le _, by omega, rfl, OwnK.nil_ _ _ _ _, Below.refl _ _⟩
  case round =>
    obtain ⟨k, hk, hg, rfl, HO, hbel⟩ := hrel
    have HB := Lib.hid hbel
    have HBw := Lib.hid (below_more HB0.out hbel)
    by_cases hlt : k < n
    · have hkl : k < A.length := by rw [← HN.out]; exact hlt
      obtain ⟨b, off, v, rfl, hb, hv, q0⟩ := (HR.out _ HBw.out).get hkl
      have EQ := Lib.hid (take_one hkl)
      have hyl := HL.out _ (List.getElem_mem hkl)
      have hyo := ucells_one A[k]
      have RL : Hid (((A.take k).map U.cells).length = k) := by show _ = _; rw [List.length_map, List.length_take]; omega
      generalize A[k] = y at *
      generalize (A.take k).map U.cells = R at *
      have CP : Hid (∀ w', Below wr.heap.size wr w' → Calls Tryd.prog 95 #[v] w' fun e w'' => e = .returned y.val ∧ Below w'.heap.size w' w'') := fun w' hb => plain_any y w' (hv.below hb (Nat.le_refl _)) hyl
      obtain ⟨yk, yd, ym, yl, yt⟩ := y
      unfold U.val at CP
      simp only at CP hyl
      have i1 : (k : Int) < (n : Int) := by omega
      obtain ⟨ao, co, rfl⟩ := HO.out.is_slice
      have HYO : Hid (∀ y ∈ [(U.mk yk yd ym yl yt).cells], ∀ q ∈ y, q.oneCell' = true) := fun y hy => by simp at hy; subst hy; exact hyo
      clear hbel hv HL HG c0 hyo
      go_wp2_with fail
      refine (CP.out _ (Below.refl _ _)).mono ?_
      rintro e w1 ⟨rfl, b1⟩
      have A1 : Hid (OwnK 88 5 W0.heap.size (w1.alloc (.cells #[.int .i64 yk, .int .i64 yd, .int .i64 ym, .int .i64 yl, .string (Let.mk yt)] 88)) (.slice ao R.length co) R) := (HO.out.below b1).below ((Below.refl _ _).alloc (Nat.le_refl _) _)
      have A2 : Hid (RowK 5 (w1.alloc (.cells #[.int .i64 yk, .int .i64 yd, .int .i64 ym, .int .i64 yl, .string (Let.mk yt)] 88)) (.slice (some ⟨w1.heap.size, 0, none⟩) 1 1) [(U.mk yk yd ym yl yt).cells]) := row_one (e := 88) (heap_alloc_new _ _) rfl
      have HBY : Hid (Below W0.heap.size W0 (w1.alloc (.cells #[.int .i64 yk, .int .i64 yd, .int .i64 ym, .int .i64 yl, .string (Let.mk yt)] 88))) := (below_more HB.out b1).alloc (Nat.le_trans HB.out.size b1.size) _
      have A4 : Hid (W0.heap.size ≤ (w1.alloc (.cells #[.int .i64 yk, .int .i64 yd, .int .i64 ym, .int .i64 yl, .string (Let.mk yt)] 88)).heap.size) := HBY.out.size
      have A3 : Hid (R.length + 1 ≤ 100000) := by show _ ≤ _; rw [RL.out]; omega
      clear q0 b1
      go_wp2_with (at_builtin; refine wpList_append_rowk rfl _ _ 81 88 5 48 _ Tryd.underlying81 infoUndo rfl (by decide) (by decide) rfl W0.heap.size _ _ R [(U.mk yk yd ym yl yt).cells] rfl rfl A1.out A2.out HYO.out A3.out A4.out ?_)
      intro v6 w6 h5 g5 _
      have K6 : Hid (OwnK 88 5 W0.heap.size w6 v6 ((A.take (k + 1)).map U.cells)) := by show OwnK _ _ _ _ _ _; rw [EQ.out]; exact h5
      obtain ⟨a6, c6, rfl⟩ := K6.out.is_slice
      have HB6 := Lib.hid (A1.out.belowOf HBY.out (Nat.le_refl _) A4.out g5)
      clear h5 g5 A1 A2 A3 A4 HBY HO EQ
      go_wp2_with fail
      go_roundg (n - (k + 1))
      case measure => omega
      case rel => exact ⟨k + 1, by omega, Nat.le_refl _, by go_num, K6.out, HB6.out⟩
    · obtain rfl : k = n := by omega
      have i1 : ¬ ((k : Int) < (k : Int)) := by omega
      obtain ⟨ao, co, rfl⟩ := HO.out.is_slice
      have HU : Hid (Us wr (.slice ao ((A.take k).map U.cells).length co) A) := ⟨by have := HO.out.row; rwa [show (A.take k).map U.cells = A.map U.cells by rw [HN.out, List.take_length]] at this ⊢, HG.out⟩
      generalize ((A.take k).map U.cells).length = z at *
      clear hbel HO HR c0
      go_wp2_with fail
      go_ret
      exact ⟨_, rfl, HU.out, HBw.out⟩
end Go.Proofs.YtoejjicgnhndfaaDoor.Und
