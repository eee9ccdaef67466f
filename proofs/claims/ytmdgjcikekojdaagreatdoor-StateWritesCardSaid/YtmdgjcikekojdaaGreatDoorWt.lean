/- State: the plain text's Same of two states that are the same. -/
import Derived.Test.YtmdgjcikekojdaaGreatDoorWs
set_option linter.unusedVariables false
set_option linter.unusedSimpArgs false
set_option maxRecDepth 100000
namespace Go.Proofs.YtmdgjcikekojdaaGreatDoor.Sta
open Go.RowKit Go.Lib Go.Proofs.YtmdgjcikekojdaaGreatDoor.Bx Go.Proofs.YtmdgjcikekojdaaGreatDoor.Frm Go.Proofs.YtmdgjcikekojdaaGreatDoor.Wds

set_option maxHeartbeats 16000000 in
theorem same_State {P P' : Nat → Prop} {k1 k2 : List Value} (S : Sta) (w : World) (h1 : staM.R P w k1 S) (h2 : staM.R P' w k2 S) : Calls Tryz.prog 10 #[.agg k1.toArray, .agg k2.toArray] w fun e w' => e = .returned (.bool true) ∧ Below w.heap.size w w' := by
  obtain ⟨u3, c3, u4, c4, u5, c5, u6, c6, u7, c7, rfl, p3, p4, p5, p6, p7⟩ := staM_cells h1
  obtain ⟨v3, d3, v4, d4, v5, d5, v6, d6, v7, d7, rfl, q3, q4, q5, q6, q7⟩ := staM_cells h2
  clear h1 h2
  obtain ⟨x0, x1, x2, L, D, T, E, A⟩ := S
  simp only at p3 p4 p5 p6 p7 q3 q4 q5 q6 q7 ⊢
  have K3 := fun (w' : World) (b : Below w.heap.size w w') => same_Labels L w' (p3.keep labM_ok (Keep.below b)) (q3.keep labM_ok (Keep.below b))
  have K6 := fun (w' : World) (b : Below w.heap.size w w') => same_Seat E w' (p6.keep seaM_ok (Keep.below b)) (q6.keep seaM_ok (Keep.below b))
  have K7 := fun (w' : World) (b : Below w.heap.size w w') => same_Entrys A w' (p7.keep entM_ok (Keep.below b)) (q7.keep entM_ok (Keep.below b))
  have G4 := fun (w' : World) (b : Below w.heap.size w w') => And.intro (p4.keep docM_ok (Keep.below b)) (q4.keep docM_ok (Keep.below b))
  have G5 := fun (w' : World) (b : Below w.heap.size w w') => And.intro (p5.keep stkM_ok (Keep.below b)) (q5.keep stkM_ok (Keep.below b))
  have b4 : D.length ≤ 9223372036854775807 := by have := p4.len; unfold maxLen at this; omega
  have b5 : T.length ≤ 9223372036854775807 := by have := p5.len; unfold maxLen at this; omega
  clear p3 p4 p5 p6 p7 q3 q4 q5 q6 q7
  generalize L.length = n3 at *
  generalize E.length = n6 at *
  generalize A.length = n7 at *
  obtain ⟨n4, h4⟩ : ∃ n, n = D.length := ⟨_, rfl⟩
  obtain ⟨n5, h5⟩ : ∃ n, n = T.length := ⟨_, rfl⟩
  rw [← h4] at G4 b4 ⊢
  rw [← h5] at G5 b5 ⊢
  have HN := Lib.hid (And.intro h4 h5)
  clear h4 h5
  show Calls _ _ #[.agg #[.int .i64 x0, .int .i64 x1, .int .i64 x2, .slice u3 n3 c3, .slice u4 n4 c4, .slice u5 n5 c5, .slice u6 n6 c6, .slice u7 n7 c7], .agg #[.int .i64 x0, .int .i64 x1, .int .i64 x2, .slice v3 n3 d3, .slice v4 n4 d4, .slice v5 n5 d5, .slice v6 n6 d6, .slice v7 n7 d7]] _ _
  obtain ⟨B0, P0, L0⟩ := box1 w #[.int .i64 x0, .int .i64 x1, .int .i64 x2, .slice u3 n3 c3, .slice u4 n4 c4, .slice u5 n5 c5, .slice u6 n6 c6, .slice u7 n7 c7] 28
  obtain ⟨W0, hW0⟩ : ∃ W0, W0 = w.alloc (.cells #[.int .i64 x0, .int .i64 x1, .int .i64 x2, .slice u3 n3 c3, .slice u4 n4 c4, .slice u5 n5 c5, .slice u6 n6 c6, .slice u7 n7 c7] 28) := ⟨_, rfl⟩
  rw [← hW0] at B0 P0 L0
  obtain ⟨B1, P1, L1⟩ := box1 W0 #[.int .i64 x0, .int .i64 x1, .int .i64 x2, .slice v3 n3 d3, .slice v4 n4 d4, .slice v5 n5 d5, .slice v6 n6 d6, .slice v7 n7 d7] 28
  obtain ⟨W1, hW1⟩ : ∃ W1, W1 = W0.alloc (.cells #[.int .i64 x0, .int .i64 x1, .int .i64 x2, .slice v3 n3 d3, .slice v4 n4 d4, .slice v5 n5 d5, .slice v6 n6 d6, .slice v7 n7 d7] 28) := ⟨_, rfl⟩
  rw [← hW1] at B1 P1 L1
  have q0 : W1.heap[w.heap.size]? = some (.cells #[.int .i64 x0, .int .i64 x1, .int .i64 x2, .slice u3 n3 c3, .slice u4 n4 c4, .slice u5 n5 c5, .slice u6 n6 c6, .slice u7 n7 c7] 28 (0, 0)) := (B1.block _ (by omega)).trans P0
  rw [L0] at P1 L1
  have bb : Below w.heap.size w W1 := below_on B0 B1
  obtain ⟨R, hR⟩ : ∃ R, R = w.heap.size := ⟨_, rfl⟩
  rw [← hR] at q0 P1 L1
  have HQ0 := Lib.hid q0
  have HQ1 := Lib.hid P1
  have HL : Hid (W1.heap.size = R + 1 + 1) := L1
  have HB : Hid (Below w.heap.size w W1) := bb
  have HW : Hid (W1 = (w.alloc (.cells #[.int .i64 x0, .int .i64 x1, .int .i64 x2, .slice u3 n3 c3, .slice u4 n4 c4, .slice u5 n5 c5, .slice u6 n6 c6, .slice u7 n7 c7] 28)).alloc (.cells #[.int .i64 x0, .int .i64 x1, .int .i64 x2, .slice v3 n3 d3, .slice v4 n4 d4, .slice v5 n5 d5, .slice v6 n6 d6, .slice v7 n7 d7] 28)) := by show _ = _; rw [hW1, hW0]
  have HR : Hid (w.heap.size = R) := hR.symm
  have C3 := Lib.hid (K3 W1 bb)
  have H4 : Hid (∀ w', Below W1.heap.size W1 w' → _) := fun w' (b : Below W1.heap.size W1 w') => G4 w' (bb.trans (b.mono bb.size))
  have H5 : Hid (∀ w', Below W1.heap.size W1 w' → _) := fun w' (b : Below W1.heap.size W1 w') => G5 w' (bb.trans (b.mono bb.size))
  have H6 : Hid (∀ w', Below W1.heap.size W1 w' → _) := fun w' (b : Below W1.heap.size W1 w') => K6 w' (bb.trans (b.mono bb.size))
  have H7 : Hid (∀ w', Below W1.heap.size W1 w' → _) := fun w' (b : Below W1.heap.size W1 w') => K7 w' (bb.trans (b.mono bb.size))
  obtain ⟨a0, a1, a2, a3, a4, a5, a6, a7⟩ := eight_cells q0
  obtain ⟨e0, e1, e2, e3, e4, e5, e6, e7⟩ := eight_cells P1
  clear hR B0 P0 L0 B1 P1 L1 hW0 hW1 q0 K3 K6 K7 G4 G5 bb
  have z0 : (x0 != x0) = false := by simp
  have z1 : (x1 != x1) = false := by simp
  have z2 : (x2 != x2) = false := by simp
  go_enter Tryz.func10, Tryz.ntmps10
  go_upto_region 1 with fail
  rw [← HW.out, HR.out]
  go_wp2_with fail
  refine C3.out.mono ?_
  rintro e w6 ⟨rfl, b6⟩
  have HB6 := Lib.hid b6
  clear b6 C3 a0 e0 a1 e1 a2 e2 a3 e3 a4 e4 a5 e5 a6 e6 a7 e7
  obtain ⟨_, _, _, _, a4, a5, _, _⟩ := eight_cells ((HB6.out.block R (by have := HL.out; omega)).trans HQ0.out)
  obtain ⟨_, _, _, _, e4, e5, _, _⟩ := eight_cells ((HB6.out.block (R + 1) (by have := HL.out; omega)).trans HQ1.out)
  go_wp2_with fail
  clear a4 a5 e4 e5
  go_loopg [5] n4 (fun g i_ wr => ∃ (i : Nat), i ≤ n4 ∧ n4 - i ≤ g ∧ i_ = .int .i64 (i : Nat) ∧ Hid (Below W1.heap.size W1 wr))
  case atStart => exact ⟨0, by omega, by omega, rfl, HB6⟩
  case round =>
    obtain ⟨i, hi, hg, rfl, HX⟩ := hrel
    obtain ⟨_, _, _, _, a4, a5, _, _⟩ := eight_cells ((HX.out.block R (by have := HL.out; omega)).trans HQ0.out)
    obtain ⟨_, _, _, _, e4, e5, _, _⟩ := eight_cells ((HX.out.block (R + 1) (by have := HL.out; omega)).trans HQ1.out)
    by_cases hin : i < n4
    · have iw : ((i : Nat) : Int) < (n4 : Int) := by omega
      have n0 : (0 : Int) ≤ ((i : Nat) : Int) := by omega
      have hix : i < D.length := by rw [← HN.out.1]; exact hin
      obtain ⟨r1, r2⟩ := H4.out wr HX.out
      obtain ⟨b1, f1, s1, rfl, hlt1, _, hR1, hc1⟩ := r1.get hix
      obtain ⟨b2, f2, s2, rfl, hlt2, _, hR2, hc2⟩ := r2.get hix
      obtain ⟨x, hx⟩ : ∃ x, x = D[i] := ⟨_, rfl⟩
      rw [← hx] at hR1 hR2
      obtain ⟨g1, l1, rfl, t1⟩ := docM_cells hR1
      obtain ⟨g2, l2, rfl, t2⟩ := docM_cells hR2
      have m10 : wr.cell? ⟨b1, f1 + i * 2, none⟩ = some (.bool x.1) := hc1 0 _ rfl
      have m11 : wr.cell? ⟨b1, f1 + i * 2 + 1, none⟩ = some (.slice g1 x.2.length l1) := hc1 1 _ rfl
      have m20 : wr.cell? ⟨b2, f2 + i * 2, none⟩ = some (.bool x.1) := hc2 0 _ rfl
      have m21 : wr.cell? ⟨b2, f2 + i * 2 + 1, none⟩ = some (.slice g2 x.2.length l2) := hc2 1 _ rfl
      have C : Hid (Calls Tryz.prog 28 #[.slice g1 x.2.length l1, .slice g2 x.2.length l2] wr.drew fun e w' => e = .returned (.bool true) ∧ Below wr.drew.heap.size wr.drew w') := same_Segs x.2 wr.drew (t1.keep segM_ok (Keep.below (Below.drew (Below.refl _ _)))) (t2.keep segM_ok (Keep.below (Below.drew (Below.refl _ _))))
      have HWD : Hid (Below W1.heap.size W1 wr.drew) := Below.drew HX.out
      generalize x.2.length = ll at *
      generalize x.1 = xb at *
      have zb : (xb != xb) = false := by simp
      clear r1 r2 hR1 hR2 hc1 hc2 hx hix t1 t2
      go_upto_region 6 with fail
      refine still_tailW 26 (by kernel_rfl) (by kernel_rfl) ?_
      simp only [List.take_succ_cons, List.take_zero, List.drop_succ_cons, List.drop_zero]
      have y1 := drew_cell m10
      have y2 := drew_cell m11
      have y3 := drew_cell m20
      have y4 := drew_cell m21
      have y5 := drew_cell a4
      have y6 := drew_cell e4
      have hlt1' : b1 < wr.drew.heap.size := hlt1
      have hlt2' : b2 < wr.drew.heap.size := hlt2
      generalize wr.drew = wo at *
      repeat still_step
      refine wpStill_nil ?_
      clear y1 y2 y3 y4 y5 y6 m10 m11 m20 m21 a4 a5 e4 e5
      go_wp2_with fail
      refine C.out.mono ?_
      rintro e w5 ⟨rfl, b5⟩
      have HX5 : Hid (Below W1.heap.size W1 w5) := below_on HWD.out b5
      clear b5 C
      go_wp2_with fail
      go_roundg (n4 - (i + 1))
      case measure => omega
      case rel => exact ⟨i + 1, by omega, Nat.le_refl _, by go_num, HX5⟩
    · obtain rfl : i = n4 := by omega
      have iw : ¬ ((i : Nat) : Int) < ((i : Nat) : Int) := by omega
      go_wp2_with fail
      clear a4 a5 e4 e5 hi hg iw H4
      go_loopg [6] n5 (fun g i_ wr => ∃ (i : Nat), i ≤ n5 ∧ n5 - i ≤ g ∧ i_ = .int .i64 (i : Nat) ∧ Hid (Below W1.heap.size W1 wr))
      case atStart => exact ⟨0, by omega, by omega, rfl, HX⟩
      case round =>
        clear HX
        obtain ⟨j, hi, hg, rfl, HX⟩ := hrel
        obtain ⟨_, _, _, _, _, a5, a6, a7⟩ := eight_cells ((HX.out.block R (by have := HL.out; omega)).trans HQ0.out)
        obtain ⟨_, _, _, _, _, e5, e6, e7⟩ := eight_cells ((HX.out.block (R + 1) (by have := HL.out; omega)).trans HQ1.out)
        by_cases hjn : j < n5
        · have iw : ((j : Nat) : Int) < (n5 : Int) := by omega
          have n0 : (0 : Int) ≤ ((j : Nat) : Int) := by omega
          have hix : j < T.length := by rw [← HN.out.2]; exact hjn
          obtain ⟨r1, r2⟩ := H5.out wr HX.out
          obtain ⟨b1, f1, s1, rfl, hlt1, _, hR1, hc1⟩ := r1.get hix
          obtain ⟨b2, f2, s2, rfl, hlt2, _, hR2, hc2⟩ := r2.get hix
          obtain ⟨x, hx⟩ : ∃ x, x = T[j] := ⟨_, rfl⟩
          rw [← hx] at hR1 hR2
          obtain ⟨g1, l1, rfl, t1⟩ := stkM_cells hR1
          obtain ⟨g2, l2, rfl, t2⟩ := stkM_cells hR2
          have m10 : wr.cell? ⟨b1, f1 + j, none⟩ = some (.slice g1 x.length l1) := by have q := hc1 0 _ rfl; rw [show f1 + j * stkM.k + 0 = f1 + j from by show f1 + j * 1 + 0 = _; omega] at q; exact q
          have m20 : wr.cell? ⟨b2, f2 + j, none⟩ = some (.slice g2 x.length l2) := by have q := hc2 0 _ rfl; rw [show f2 + j * stkM.k + 0 = f2 + j from by show f2 + j * 1 + 0 = _; omega] at q; exact q
          have C : Hid (∀ m, Calls Tryz.prog 29 #[.slice g1 x.length l1, .slice g2 x.length l2] (wr.drewN m) fun e w' => e = .returned (.bool true) ∧ ∃ q, w' = (wr.drewN m).drewN q) := fun m => same_Undo x _ (t1.keep thgM_ok (Keep.below (d_drews (Below.refl _ _) m))) (t2.keep thgM_ok (Keep.below (d_drews (Below.refl _ _) m)))
          generalize x.length = ll at *
          clear r1 r2 hR1 hR2 hc1 hc2 hx hix t1 t2
          go_upto_region 11 with fail
          go_quiet ((go_at_call 29; with_reducible exact Calls.quiet_of (C.out _)))
          have HX5 : Hid (Below W1.heap.size W1 (wr.drewN nq)) := d_drews HX.out _
          go_wp2_with fail
          go_roundg (n5 - (j + 1))
          case measure => omega
          case rel => exact ⟨j + 1, by omega, Nat.le_refl _, by go_num, HX5⟩
        · obtain rfl : j = n5 := by omega
          have iw : ¬ ((j : Nat) : Int) < ((j : Nat) : Int) := by omega
          have C6 := Lib.hid (H6.out wr HX.out)
          go_wp2_with fail
          refine C6.out.mono ?_
          rintro e w8 ⟨rfl, b8⟩
          have HX8 : Hid (Below W1.heap.size W1 w8) := below_on HX.out b8
          clear b8 C6 a5 a6 a7 e5 e6 e7
          obtain ⟨_, _, _, _, _, _, _, a7⟩ := eight_cells ((HX8.out.block R (by have := HL.out; omega)).trans HQ0.out)
          obtain ⟨_, _, _, _, _, _, _, e7⟩ := eight_cells ((HX8.out.block (R + 1) (by have := HL.out; omega)).trans HQ1.out)
          have C7 := Lib.hid (H7.out w8 HX8.out)
          go_wp2_with fail
          refine C7.out.mono ?_
          rintro e w9 ⟨rfl, b9⟩
          have HX9 : Hid (Below w.heap.size w w9) := by
            have b := below_on HX8.out b9
            exact HB.out.trans (b.mono HB.out.size)
          clear b9 C7
          go_wp2_with fail
          go_ret
          exact ⟨rfl, HX9.out⟩
end Go.Proofs.YtmdgjcikekojdaaGreatDoor.Sta
