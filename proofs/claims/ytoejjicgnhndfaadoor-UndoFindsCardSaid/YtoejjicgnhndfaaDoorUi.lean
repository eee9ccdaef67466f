/- Undo: Same of equal lists; '!=' at equal plain values. -/
import Derived.Test.YtoejjicgnhndfaaDoorUd
import Derived.Test.YtoejjicgnhndfaaDoorQM1
import Derived.Laws.StructEq
import Derived.Deep.QuietTactic
set_option linter.unusedVariables false
set_option maxRecDepth 100000
namespace Go.Proofs.YtoejjicgnhndfaaDoor.Und
open Go.RowKit Go.Lib Go.Proofs.YtoejjicgnhndfaaDoor.Rk Go.Proofs.YtoejjicgnhndfaaDoor.Rig

theorem hS_undo : Tryd.prog.underlying 88 = some (.struct (Tryd.prog.fieldsOf 88)) := by kernel_rfl
theorem guard_undo (op : BinOp) (x y : Operand) (xs ys : Array Value) (w : World) : (eqGuard op 88 x y (.agg xs) (.agg ys)).run Tryd.prog w = .ok () w := run_eqGuard_agg w op _ x y xs ys (by kernel_rfl)
theorem neq_undo (a b c d : Int) (s : ByteArray) (w : World) : (binOp .neq 88 (.agg #[.int .i64 a, .int .i64 b, .int .i64 c, .int .i64 d, .string s]) (.agg #[.int .i64 a, .int .i64 b, .int .i64 c, .int .i64 d, .string s])).run Tryd.prog w = .ok (.bool false) w := by
  have u3 := Tryd.underlying3
  have a3 := Tryd.isAgg3
  have z3 := Tryd.sizeOf3
  have u9 := Tryd.underlying9
  have a9 := Tryd.isAgg9
  have z9 := Tryd.sizeOf9
  have hp : Tryd.prog.stoodInHeld 88 = false := by kernel_rfl
  rw [run_neq_struct, show (10000 : Nat) = 9999 + 1 from rfl, run_equalIn_agg w 9999 88 _ _ hS_undo hp]
  simp only [Program.fieldsOf, Tryd.underlying88]
  go_simp

set_option maxHeartbeats 2000000 in
theorem usame_any {v u : Value} {A : List U} (w : World) (h : Us w v A) (h' : Us w u A) : Calls Tryd.prog 54 #[v, u] w fun e w' => e = .returned (.bool true) ∧ Below w.heap.size w w' := by
  obtain ⟨a1, c1, rfl, hl1, hm1, q1⟩ := h.open_
  obtain ⟨a2, c2, rfl, hl2, hm2, q2⟩ := h'.open_
  have H1 := Lib.hid q1
  have H2 := Lib.hid q2
  obtain ⟨n, hn⟩ : ∃ n, n = A.length := ⟨_, rfl⟩
  rw [← hn] at hl1 hl2 ⊢
  unfold maxLen at hm1 hm2
  have HN := Lib.hid hn
  have GU := guard_undo
  clear q1 q2 h h' hn
  go_enter Tryd.func54, Tryd.ntmps54
  go_wp2_with fail
  go_loopw [5] (fun i wr => ∃ k : Nat, k ≤ n ∧ i = .int .i64 k ∧ Below w.heap.size w wr) (fun i _ => n - (RowKit.intOf i).toNat)
  case atStart => exact ⟨0, Nat.zero_le _, rfl, Below.refl _ _⟩
  case round =>
    obtain ⟨k, hk, rfl, hbel⟩ := hrel
    by_cases hlt : k < n
    · have hkl : k < A.length := by rw [← HN.out]; exact hlt
      obtain ⟨b1, f1, rfl, hb1, _, x0, x1, x2, x3, x4⟩ := H1.out k hkl
      obtain ⟨b2, f2, rfl, hb2, _, y0, y1, y2, y3, y4⟩ := H2.out k hkl
      generalize A[k] = y at *
      obtain ⟨yk, yd, ym, yl, yt⟩ := y
      simp only at x0 x1 x2 x3 x4 y0 y1 y2 y3 y4
      replace x0 := below_cell hbel hb1 x0
      replace x1 := below_cell hbel hb1 x1
      replace x2 := below_cell hbel hb1 x2
      replace x3 := below_cell hbel hb1 x3
      replace x4 := below_cell hbel hb1 x4
      replace y0 := below_cell hbel hb2 y0
      replace y1 := below_cell hbel hb2 y1
      replace y2 := below_cell hbel hb2 y2
      replace y3 := below_cell hbel hb2 y3
      replace y4 := below_cell hbel hb2 y4
      have NE := neq_undo yk yd ym yl (Let.mk yt)
      have i0 : (0 : Int) ≤ (k : Int) := by omega
      have i1 : (k : Int) < (n : Int) := by omega
      have HB := Lib.hid hbel
      clear H1 H2 hbel
      go_wp2_with fail
      go_quiet (fail)
      go_wp2
      go_roundw
      case rel => exact ⟨k + 1, by omega, by go_num, below_drews HB.out _⟩
      case measure => simp [RowKit.intOf]; omega
    · obtain rfl : k = n := by omega
      have i1 : ¬ ((k : Int) < (k : Int)) := by omega
      have HB := Lib.hid hbel
      clear H1 H2 hbel
      go_wp2_with fail
      go_ret
      exact ⟨rfl, HB.out⟩
end Go.Proofs.YtoejjicgnhndfaaDoor.Und
