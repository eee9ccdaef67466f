/- State: the program's Write: a state's bytes. -/
import Derived.Test.YtmdgjcikekojdaaGreatDoorZf
set_option linter.unusedVariables false
set_option linter.unusedSimpArgs false
set_option maxRecDepth 100000
namespace Go.Proofs.YtmdgjcikekojdaaGreatDoor.Sta
open Go.RowKit Go.Lib Go.Proofs.YtmdgjcikekojdaaGreatDoor.Bx Go.Proofs.YtmdgjcikekojdaaGreatDoor.Frm Go.Proofs.YtmdgjcikekojdaaGreatDoor.Wds

theorem state_pre (S : Sta) : (staC.put S ([], false)).1 ≠ [] :=
  (pairC_ok numC_ok (pairC_ok numC_ok (pairC_ok (listC_ok labC_ok) (pairC_ok (listC_ok docC_ok) (pairC_ok (listC_ok stkC_ok) (pairC_ok (listC_ok seaC_ok) (listC_ok entC_ok))))))).put_pre S.2 (numC.put S.1 ([], false)) (by
    show [] ++ numL S.1 ≠ []
    intro e
    have := congrArg List.length e
    rw [List.nil_append, num_len] at this
    cases this)
set_option maxHeartbeats 8000000 in
theorem write_ok {P : Nat → Prop} (a : Sta) (cs : List Value) (w : World) (h : staM.R P w cs a) (hl : (staC.enc a).length ≤ 290000000) : Calls Tryz.prog 4 #[.agg cs.toArray] w fun e w' => e = .returned (.tuple #[.string (mkB (writeE a).1), .bool (writeE a).2]) ∧ Below w.heap.size w w' := by
  obtain ⟨R0, hR0⟩ : ∃ R0, R0 = w.heap.size := ⟨_, rfl⟩
  have h0 : staM.R (fun b => b < R0 + 1) w cs a := staM_ok.mono h fun b hb _ => by omega
  clear h
  have h := h0
  obtain ⟨u3, c3, u4, c4, u5, c5, u6, c6, u7, c7, rfl, _, _, _, _, _⟩ := staM_cells h0
  clear h0
  have HP : Hid (∀ w1, Below w.heap.size w w1 → ∀ {base : Nat} {v : Value} {l : List UInt8} {bad : Bool}, Wr base w1 (R0 + 1) v l bad → l.length + (staC.enc a).length ≤ 290000000 → Calls Tryz.prog 11 #[.pointer (some ⟨R0 + 1, 0, none⟩), .agg #[.int .i64 a.1, .int .i64 a.2.1, .int .i64 a.2.2.1, .slice u3 a.2.2.2.1.length c3, .slice u4 a.2.2.2.2.1.length c4, .slice u5 a.2.2.2.2.2.1.length c5, .slice u6 a.2.2.2.2.2.2.1.length c6, .slice u7 a.2.2.2.2.2.2.2.length c7]] w1 (Put base w1 (R0 + 1) v (staC.put a (l, bad)).1 (staC.put a (l, bad)).2)) := fun w1 b1 base v l bad k hl => put_State k a _ (staM_ok.keep h (Keep.below b1)) hl
  have HE : Hid (outV ((staC.put a ([], false)).1, (staC.put a ([], false)).2) = writeE a) := rfl
  have HN := Lib.hid (state_pre a)
  show Calls _ _ #[.agg #[.int .i64 a.1, .int .i64 a.2.1, .int .i64 a.2.2.1, .slice u3 a.2.2.2.1.length c3, .slice u4 a.2.2.2.2.1.length c4, .slice u5 a.2.2.2.2.2.1.length c5, .slice u6 a.2.2.2.2.2.2.1.length c6, .slice u7 a.2.2.2.2.2.2.2.length c7]] _ _
  obtain ⟨x0, hx0⟩ : ∃ x, x = a.1 := ⟨_, rfl⟩
  obtain ⟨x1, hx1⟩ : ∃ x, x = a.2.1 := ⟨_, rfl⟩
  obtain ⟨x2, hx2⟩ : ∃ x, x = a.2.2.1 := ⟨_, rfl⟩
  obtain ⟨n3, hn3⟩ : ∃ n, n = a.2.2.2.1.length := ⟨_, rfl⟩
  obtain ⟨n4, hn4⟩ : ∃ n, n = a.2.2.2.2.1.length := ⟨_, rfl⟩
  obtain ⟨n5, hn5⟩ : ∃ n, n = a.2.2.2.2.2.1.length := ⟨_, rfl⟩
  obtain ⟨n6, hn6⟩ : ∃ n, n = a.2.2.2.2.2.2.1.length := ⟨_, rfl⟩
  obtain ⟨n7, hn7⟩ : ∃ n, n = a.2.2.2.2.2.2.2.length := ⟨_, rfl⟩
  rw [← hx0, ← hx1, ← hx2, ← hn3, ← hn4, ← hn5, ← hn6, ← hn7] at HP ⊢
  clear hx0 hx1 hx2 hn3 hn4 hn5 hn6 hn7 h
  obtain ⟨B0, P0, L0⟩ := box1 w #[.int .i64 x0, .int .i64 x1, .int .i64 x2, .slice u3 n3 c3, .slice u4 n4 c4, .slice u5 n5 c5, .slice u6 n6 c6, .slice u7 n7 c7] 28
  obtain ⟨W0, hW0⟩ : ∃ W0, W0 = w.alloc (.cells #[.int .i64 x0, .int .i64 x1, .int .i64 x2, .slice u3 n3 c3, .slice u4 n4 c4, .slice u5 n5 c5, .slice u6 n6 c6, .slice u7 n7 c7] 28) := ⟨_, rfl⟩
  rw [← hW0] at B0 P0 L0
  obtain ⟨B1, P1, L1⟩ := box1 W0 #[.slice none 0 0, .bool false] 45
  obtain ⟨W1, hW1⟩ : ∃ W1, W1 = W0.alloc (.cells #[.slice none 0 0, .bool false] 45) := ⟨_, rfl⟩
  rw [← hW1] at B1 P1 L1
  rw [← hR0] at L0 P0
  rw [L0] at P1 L1
  have hW : Wr (R0 + 1 + 1) W1 (R0 + 1) (.slice none 0 0) [] false := ⟨by omega, by omega, P1, Rk.OwnK.nil_ _ _ _ _⟩
  have q0 : W1.heap[R0]? = some (.cells #[.int .i64 x0, .int .i64 x1, .int .i64 x2, .slice u3 n3 c3, .slice u4 n4 c4, .slice u5 n5 c5, .slice u6 n6 c6, .slice u7 n7 c7] 28 (0, 0)) := (B1.block R0 (by omega)).trans P0
  obtain ⟨d0, d1, d2, d3, d4, d5, d6, d7⟩ := eight_cells q0
  have B01 := below_on B0 B1
  have C := Lib.hid (HP.out W1 B01 hW (by rw [List.length_nil]; omega))
  have HW := Lib.hid hW
  have HB1 : Hid (Below R0 w W1) := by rw [hR0]; exact B01
  have HL1 : Hid (W1.heap.size = R0 + 1 + 1) := L1
  have HW1 : Hid (W1 = (w.alloc (.cells #[.int .i64 x0, .int .i64 x1, .int .i64 x2, .slice u3 n3 c3, .slice u4 n4 c4, .slice u5 n5 c5, .slice u6 n6 c6, .slice u7 n7 c7] 28)).alloc (.cells #[.slice none 0 0, .bool false] 45)) := by show _ = _; rw [hW1, hW0]
  have HL0 : Hid (w.heap.size = R0) := hR0.symm
  clear hR0 B0 P0 L0 B1 P1 L1 hW0 hW1 q0 hW B01 hl HP
  generalize staC.put a ([], false) = QF at *
  generalize writeE a = E at *
  go_enter Tryz.func4, Tryz.ntmps4
  go_upto_region 2 with fail
  rw [← HW1.out, HL0.out]
  go_wp2_with fail
  refine C.out.mono ?_
  rintro e w6 ⟨rfl, v6, K6, S6⟩
  have D6 : Hid (Below (R0 + 1) W1 w6) := S6.low HW.out
  have C6 := Lib.hid (written_any K6 HN.out)
  rw [HE.out] at C6
  have HL6 : Hid (R0 + 1 + 1 ≤ w6.heap.size) := K6.2.1
  clear C K6 S6 d0 d1 d2 d3 d4 d5 d6 d7
  go_wp2_with fail
  refine C6.out.mono ?_
  rintro e w7 ⟨rfl, b7⟩
  have FE : Hid (Below w.heap.size w w7) := by
    show Below _ _ _
    rw [HL0.out]
    exact HB1.out.trans ((D6.out.trans (b7.mono (by have := HL6.out; omega))).mono (Nat.le_succ _))
  clear b7 C6
  go_wp2_with fail
  exact bodyPost_ret (v := .tuple #[.string (mkB E.1), .bool E.2]) (by simp [results, Tryz.results4, go_sem]) rfl ⟨rfl, FE.out⟩
end Go.Proofs.YtmdgjcikekojdaaGreatDoor.Sta
