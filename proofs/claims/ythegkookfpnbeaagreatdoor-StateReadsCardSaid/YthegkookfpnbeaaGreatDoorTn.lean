/- State: the zero state is the same as itself. -/
import Derived.Test.YthegkookfpnbeaaGreatDoorTm
import Derived.Test.YthegkookfpnbeaaGreatDoorTl
import Derived.Test.YthegkookfpnbeaaGreatDoorTj
import Derived.Test.YthegkookfpnbeaaGreatDoorTi
set_option linter.unusedVariables false
set_option linter.unusedSimpArgs false
set_option maxRecDepth 100000
namespace Go.Proofs.YthegkookfpnbeaaGreatDoor.Sta
open Go.RowKit Go.Lib Go.Proofs.YthegkookfpnbeaaGreatDoor.Bx Go.Proofs.YthegkookfpnbeaaGreatDoor.Frm Go.Proofs.YthegkookfpnbeaaGreatDoor.Wds

theorem same3_zero (u : Option Addr) (c : Nat) (w : World) : Calls Tryz.prog 37 #[.slice u 0 c, Value.slice none 0 0] w fun e w' => e = .returned (.bool true) ∧ w' = w := by
  go_enter Tryz.func37, Tryz.ntmps37
  go_wp2_with fail
  go_loopg [5] 0 (fun gg i_ wr => i_ = .int .i64 0 ∧ wr = w)
  case atStart => exact ⟨rfl, rfl⟩
  case round =>
    obtain ⟨rfl, rfl⟩ := hrel
    go_wp2_with fail
    exact bodyPost_ret (v := .bool true) (by simp [results, Tryz.results37, go_sem]) rfl ⟨rfl, rfl⟩
theorem same9_zero (u : Option Addr) (c : Nat) (w : World) : Calls Tryz.prog 41 #[.slice u 0 c, Value.slice none 0 0] w fun e w' => e = .returned (.bool true) ∧ w' = w := by
  go_enter Tryz.func41, Tryz.ntmps41
  go_wp2_with fail
  go_loopg [5] 0 (fun gg i_ wr => i_ = .int .i64 0 ∧ wr = w)
  case atStart => exact ⟨rfl, rfl⟩
  case round =>
    obtain ⟨rfl, rfl⟩ := hrel
    go_wp2_with fail
    exact bodyPost_ret (v := .bool true) (by simp [results, Tryz.results41, go_sem]) rfl ⟨rfl, rfl⟩
theorem same11_zero (u : Option Addr) (c : Nat) (w : World) : Calls Tryz.prog 40 #[.slice u 0 c, Value.slice none 0 0] w fun e w' => e = .returned (.bool true) ∧ w' = w := by
  go_enter Tryz.func40, Tryz.ntmps40
  go_wp2_with fail
  go_loopg [5] 0 (fun gg i_ wr => i_ = .int .i64 0 ∧ wr = w)
  case atStart => exact ⟨rfl, rfl⟩
  case round =>
    obtain ⟨rfl, rfl⟩ := hrel
    go_wp2_with fail
    exact bodyPost_ret (v := .bool true) (by simp [results, Tryz.results40, go_sem]) rfl ⟨rfl, rfl⟩
/-- The zero state is the same as itself. -/
theorem same_zero (u3 u4 u5 u6 u7 : Option Addr) (c3 c4 c5 c6 c7 : Nat) (w : World) : Calls Tryz.prog 13 #[.agg #[.int .i64 0, .int .i64 0, .int .i64 0, .slice u3 0 c3, .slice u4 0 c4, .slice u5 0 c5, .slice u6 0 c6, .slice u7 0 c7], .agg #[.int .i64 0, .int .i64 0, .int .i64 0, .slice none 0 0, .slice none 0 0, .slice none 0 0, .slice none 0 0, .slice none 0 0]] w fun e w' => e = .returned (.bool true) ∧ Below w.heap.size w w' := by
  obtain ⟨B0, P0, L0⟩ := box1 w #[.int .i64 0, .int .i64 0, .int .i64 0, .slice u3 0 c3, .slice u4 0 c4, .slice u5 0 c5, .slice u6 0 c6, .slice u7 0 c7] 34
  obtain ⟨W0, hW0⟩ : ∃ W0, W0 = w.alloc (.cells #[.int .i64 0, .int .i64 0, .int .i64 0, .slice u3 0 c3, .slice u4 0 c4, .slice u5 0 c5, .slice u6 0 c6, .slice u7 0 c7] 34) := ⟨_, rfl⟩
  rw [← hW0] at B0 P0 L0
  obtain ⟨B1, P1, L1⟩ := box1 W0 #[.int .i64 0, .int .i64 0, .int .i64 0, .slice none 0 0, .slice none 0 0, .slice none 0 0, .slice none 0 0, .slice none 0 0] 34
  obtain ⟨W1, hW1⟩ : ∃ W1, W1 = W0.alloc (.cells #[.int .i64 0, .int .i64 0, .int .i64 0, .slice none 0 0, .slice none 0 0, .slice none 0 0, .slice none 0 0, .slice none 0 0] 34) := ⟨_, rfl⟩
  rw [← hW1] at B1 P1 L1
  have q0 : W1.heap[w.heap.size]? = some (.cells #[.int .i64 0, .int .i64 0, .int .i64 0, .slice u3 0 c3, .slice u4 0 c4, .slice u5 0 c5, .slice u6 0 c6, .slice u7 0 c7] 34 (0, 0)) := (B1.block _ (by omega)).trans P0
  rw [L0] at P1
  have HB : Hid (Below w.heap.size w W1) := below_on B0 B1
  obtain ⟨R, hR⟩ : ∃ R, R = w.heap.size := ⟨_, rfl⟩
  rw [← hR] at q0 P1
  obtain ⟨d0, d1, d2, d3, d4, d5, d6, d7⟩ := eight_cells q0
  obtain ⟨e0, e1, e2, e3, e4, e5, e6, e7⟩ := eight_cells P1
  have HW : Hid (W1 = (w.alloc (.cells #[.int .i64 0, .int .i64 0, .int .i64 0, .slice u3 0 c3, .slice u4 0 c4, .slice u5 0 c5, .slice u6 0 c6, .slice u7 0 c7] 34)).alloc (.cells #[.int .i64 0, .int .i64 0, .int .i64 0, .slice none 0 0, .slice none 0 0, .slice none 0 0, .slice none 0 0, .slice none 0 0] 34)) := by show _ = _; rw [hW1, hW0]
  have HR : Hid (w.heap.size = R) := hR.symm
  have C3 := Lib.hid (same3_zero u3 c3 W1)
  have C9 := Lib.hid (same9_zero u7 c7 W1)
  have C11 := Lib.hid (same11_zero u6 c6 W1)
  clear hR B0 P0 L0 B1 P1 L1 hW0 hW1 q0
  go_enter Tryz.func13, Tryz.ntmps13
  go_upto_region 1 with fail
  rw [← HW.out, HR.out]
  go_wp2_with fail
  refine C3.out.mono ?_
  rintro e w6 ⟨rfl, rfl⟩
  clear HW
  go_wp2_with fail
  go_loopg [5] 0 (fun gg i_ wr => i_ = .int .i64 0 ∧ Hid (wr = w6))
  case atStart => exact ⟨rfl, rfl⟩
  case round =>
   obtain ⟨rfl, hw⟩ := hrel
   rw [hw.out]
   clear hw
   go_wp2_with fail
   go_loopg [6] 0 (fun gg i_ wr => i_ = .int .i64 0 ∧ Hid (wr = w6))
   case atStart => exact ⟨rfl, rfl⟩
   case round =>
    obtain ⟨rfl, hw⟩ := hrel
    rw [hw.out]
    clear hw
    go_wp2_with fail
    refine C11.out.mono ?_
    rintro e w7 ⟨rfl, rfl⟩
    go_wp2_with fail
    refine C9.out.mono ?_
    rintro e w8 ⟨rfl, rfl⟩
    go_wp2_with fail
    first
      | exact bodyPost_ret (v := .bool true) (by simp [results, Tryz.results13, go_sem]) rfl ⟨rfl, HB.out⟩
      | trace_state
end Go.Proofs.YthegkookfpnbeaaGreatDoor.Sta
