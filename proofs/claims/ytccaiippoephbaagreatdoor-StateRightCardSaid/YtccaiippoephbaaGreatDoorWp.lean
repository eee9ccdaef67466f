/- State: what the law's Small of a state bounds. -/
import Derived.Test.YtccaiippoephbaaGreatDoorSma
import Derived.Test.YtccaiippoephbaaGreatDoorWm
import Derived.Test.YtccaiippoephbaaGreatDoorWo
set_option linter.unusedVariables false
set_option linter.unusedSimpArgs false
set_option maxRecDepth 100000
namespace Go.Proofs.YtccaiippoephbaaGreatDoor.Sta
open Go.RowKit Go.Lib Go.Proofs.YtccaiippoephbaaGreatDoor.Bx Go.Proofs.YtccaiippoephbaaGreatDoor.Frm Go.Proofs.YtccaiippoephbaaGreatDoor.Wds

def BigS (S : Sta) : Prop := (∀ x ∈ S.2.2.2.2.1, ∀ y ∈ x.2, y.2.2.1.length ≤ 140737488355328 ∧ y.2.2.2.1.length ≤ 140737488355328 ∧ y.2.2.2.2.length ≤ 140737488355328) ∧ (∀ x ∈ S.2.2.2.2.2.1, ∀ y ∈ x, y.2.2.2.2.length ≤ 140737488355328) ∧ ∀ x ∈ S.2.2.2.2.2.2.1, x.1.length ≤ 140737488355328 ∧ x.2.2.2.2.length ≤ 140737488355328
theorem staG_big {S : Sta} (h : staG S) : BigS S :=
  ⟨fun x hx y hy => ⟨((h.2.2.2.2.1.2 x hx).2.2 y hy).2.2.1, ((h.2.2.2.2.1.2 x hx).2.2 y hy).2.2.2.1.1, ((h.2.2.2.2.1.2 x hx).2.2 y hy).2.2.2.2.1⟩, fun x hx y hy => ((h.2.2.2.2.2.1.2 x hx).2 y hy).2.2.2.2, fun x hx => ⟨(h.2.2.2.2.2.2.1.2 x hx).1, (h.2.2.2.2.2.2.1.2 x hx).2.2.2.2⟩⟩
theorem stkS_mono {a b : Nat} (h : a ≤ b) (x : List Thg) (hx : stkS a x) : stkS b x := ⟨hx.1, fun y hy => Nat.le_trans (hx.2 y hy) h⟩
theorem seaS_mono {a b : Nat} (h : a ≤ b) (x : Sea) (hx : seaS a x) : seaS b x := ⟨Nat.le_trans hx.1 h, Nat.le_trans hx.2 h⟩
set_option maxHeartbeats 16000000 in
theorem sm14 {P : Nat → Prop} {cs : List Value} (S : Sta) (w : World) (h : staM.R P w cs S) (ht : BigS S) : Calls Tryz.prog 8 #[.agg cs.toArray] w fun e w' => AnyS (staS S) e ∧ Below w.heap.size w w' := by
  obtain ⟨u3, c3, u4, c4, u5, c5, u6, c6, u7, c7, rfl, p3, p4, p5, p6, p7⟩ := staM_cells h
  clear h
  obtain ⟨x0, x1, x2, L, D, K, E, A⟩ := S
  simp only at p3 p4 p5 p6 p7 ⊢
  obtain ⟨n3, hn3⟩ : ∃ n, n = L.length := ⟨_, rfl⟩
  have HN3 := Lib.hid hn3
  obtain ⟨n4, hn4⟩ : ∃ n, n = D.length := ⟨_, rfl⟩
  have HN4 := Lib.hid hn4
  obtain ⟨n5, hn5⟩ : ∃ n, n = K.length := ⟨_, rfl⟩
  have HN5 := Lib.hid hn5
  obtain ⟨n6, hn6⟩ : ∃ n, n = E.length := ⟨_, rfl⟩
  have HN6 := Lib.hid hn6
  obtain ⟨n7, hn7⟩ : ∃ n, n = A.length := ⟨_, rfl⟩
  have HN7 := Lib.hid hn7
  simp only [← hn3, ← hn4, ← hn5, ← hn6, ← hn7]
  rw [← hn3] at p3
  rw [← hn4] at p4
  rw [← hn5] at p5
  rw [← hn6] at p6
  rw [← hn7] at p7
  have HT : Hid (BigS (x0, x1, x2, L, D, K, E, A)) := ht
  have HG : Hid (∀ b : Bool, AnyS (labsS L ∧ (n4 ≤ 20 ∧ ∀ x ∈ D, docS x) ∧ (n5 ≤ 20 ∧ ∀ x ∈ K, stkS 70000 x) ∧ (n6 ≤ 20 ∧ ∀ x ∈ E, seaS 70000 x) ∧ n7 ≤ 300 ∧ ∀ x ∈ A, entS x) (.returned (.bool b)) → AnyS (staS (x0, x1, x2, L, D, K, E, A)) (.returned (.bool b))) := fun b h => by
    unfold staS
    simp only
    rw [← hn4, ← hn5, ← hn6, ← hn7]
    exact h
  clear ht
  have hm3 : n3 ≤ 9223372036854775807 := by have q := p3.len; simp only [maxLen] at q; omega
  have hm4 : n4 ≤ 9223372036854775807 := by have q := p4.len; simp only [maxLen] at q; omega
  have hm5 : n5 ≤ 9223372036854775807 := by have q := p5.len; simp only [maxLen] at q; omega
  have hm6 : n6 ≤ 9223372036854775807 := by have q := p6.len; simp only [maxLen] at q; omega
  have hm7 : n7 ≤ 9223372036854775807 := by have q := p7.len; simp only [maxLen] at q; omega
  clear hn3 hn4 hn5 hn6 hn7
  show Calls _ _ #[.agg #[.int .i64 x0, .int .i64 x1, .int .i64 x2, .slice u3 n3 c3, .slice u4 n4 c4, .slice u5 n5 c5, .slice u6 n6 c6, .slice u7 n7 c7]] _ _
  obtain ⟨B0, P0, L0⟩ := box1 w #[.int .i64 x0, .int .i64 x1, .int .i64 x2, .slice u3 n3 c3, .slice u4 n4 c4, .slice u5 n5 c5, .slice u6 n6 c6, .slice u7 n7 c7] 31
  obtain ⟨W0, hW0⟩ : ∃ W0, W0 = w.alloc (.cells #[.int .i64 x0, .int .i64 x1, .int .i64 x2, .slice u3 n3 c3, .slice u4 n4 c4, .slice u5 n5 c5, .slice u6 n6 c6, .slice u7 n7 c7] 31) := ⟨_, rfl⟩
  rw [← hW0] at B0 P0 L0
  obtain ⟨R, hR⟩ : ∃ R, R = w.heap.size := ⟨_, rfl⟩
  rw [← hR] at P0 L0
  have HB : Hid (Below w.heap.size w W0) := B0
  have HP := Lib.hid P0
  have HL : Hid (W0.heap.size = R + 1) := L0
  have HW := Lib.hid hW0
  have HR : Hid (w.heap.size = R) := hR.symm
  have HX : Hid (Below W0.heap.size W0 W0) := Below.refl _ _
  have HD3 : Hid (∀ w', Below W0.heap.size W0 w' → RowP labM P w' (.slice u3 n3 c3) L) := fun w' b => p3.keep labM_ok (Keep.below (HB.out.trans (b.mono HB.out.size)))
  have HD4 : Hid (∀ w', Below W0.heap.size W0 w' → RowP docM P w' (.slice u4 n4 c4) D) := fun w' b => p4.keep docM_ok (Keep.below (HB.out.trans (b.mono HB.out.size)))
  have HD5 : Hid (∀ w', Below W0.heap.size W0 w' → RowP stkM P w' (.slice u5 n5 c5) K) := fun w' b => p5.keep stkM_ok (Keep.below (HB.out.trans (b.mono HB.out.size)))
  have HD6 : Hid (∀ w', Below W0.heap.size W0 w' → RowP seaM P w' (.slice u6 n6 c6) E) := fun w' b => p6.keep seaM_ok (Keep.below (HB.out.trans (b.mono HB.out.size)))
  have HD7 : Hid (∀ w', Below W0.heap.size W0 w' → RowP entM P w' (.slice u7 n7 c7) A) := fun w' b => p7.keep entM_ok (Keep.below (HB.out.trans (b.mono HB.out.size)))
  clear hR B0 P0 L0 hW0 p3 p4 p5 p6 p7
  go_enter Tryz.func8, Tryz.ntmps8
  go_upto_region 1 with fail
  rw [← HW.out, HR.out]
  obtain ⟨a0, a1, a2, a3, a4, a5, a6, a7⟩ := eight_cells ((HX.out.block R (by have := HL.out; omega)).trans HP.out)
  have C3 := Lib.hid (sm03 L W0 (HD3.out W0 HX.out))
  go_wp2_with fail
  refine C3.out.mono ?_
  rintro e w1 ⟨⟨b, rfl, hb⟩, b1⟩
  have HX1 : Hid (Below W0.heap.size W0 w1) := b1
  clear b1 C3 HX a0 a1 a2 a3 a4 a5 a6 a7
  have HX := HX1
  clear HX1
  obtain ⟨a0, a1, a2, a3, a4, a5, a6, a7⟩ := eight_cells ((HX.out.block R (by have := HL.out; omega)).trans HP.out)
  cases b with
  | false =>
    have HXF := HX
    have HE : Hid (Below w.heap.size w w1) := HB.out.trans (HXF.out.mono HB.out.size)
    go_wp2_with fail
    go_ret
    exact ⟨any_no, HE.out⟩
  | true =>
    have HLs : Hid (labsS L) := hb rfl
    clear hb
    by_cases k0 : 20 < n4
    · have kw0 : (20 : Int) < (n4 : Nat) := by omega
      have kd0 : decide ((20 : Int) < (n4 : Nat)) = true := decide_eq_true kw0
      have HXF := HX
      have HE : Hid (Below w.heap.size w w1) := HB.out.trans (HXF.out.mono HB.out.size)
      go_wp2_with fail
      go_ret
      exact ⟨any_no, HE.out⟩
    · have kw0 : ¬ (20 : Int) < (n4 : Nat) := by omega
      have kd0 : decide ((20 : Int) < (n4 : Nat)) = false := decide_eq_false kw0
      by_cases k1 : 20 < n5
      · have kw1 : (20 : Int) < (n5 : Nat) := by omega
        have kd1 : decide ((20 : Int) < (n5 : Nat)) = true := decide_eq_true kw1
        have HXF := HX
        have HE : Hid (Below w.heap.size w w1) := HB.out.trans (HXF.out.mono HB.out.size)
        go_wp2_with fail
        go_ret
        exact ⟨any_no, HE.out⟩
      · have kw1 : ¬ (20 : Int) < (n5 : Nat) := by omega
        have kd1 : decide ((20 : Int) < (n5 : Nat)) = false := decide_eq_false kw1
        by_cases k2 : 20 < n6
        · have kw2 : (20 : Int) < (n6 : Nat) := by omega
          have kd2 : decide ((20 : Int) < (n6 : Nat)) = true := decide_eq_true kw2
          have HXF := HX
          have HE : Hid (Below w.heap.size w w1) := HB.out.trans (HXF.out.mono HB.out.size)
          go_wp2_with fail
          go_ret
          exact ⟨any_no, HE.out⟩
        · have kw2 : ¬ (20 : Int) < (n6 : Nat) := by omega
          have kd2 : decide ((20 : Int) < (n6 : Nat)) = false := decide_eq_false kw2
          by_cases k3 : 300 < n7
          · have kw3 : (300 : Int) < (n7 : Nat) := by omega
            have kd3 : decide ((300 : Int) < (n7 : Nat)) = true := decide_eq_true kw3
            have HXF := HX
            have HE : Hid (Below w.heap.size w w1) := HB.out.trans (HXF.out.mono HB.out.size)
            go_wp2_with fail
            go_ret
            exact ⟨any_no, HE.out⟩
          · have kw3 : ¬ (300 : Int) < (n7 : Nat) := by omega
            have kd3 : decide ((300 : Int) < (n7 : Nat)) = false := decide_eq_false kw3
            go_wp2_with fail
            clear a0 a1 a2 a3 a4 a5 a6 a7
            go_loopg [45] n4 (fun g i_ wr => ∃ (i4 : Nat), i4 ≤ n4 ∧ n4 - i4 ≤ g ∧ i_ = .int .i64 (i4 : Nat) ∧ Hid (∀ x ∈ D.take i4, docS x) ∧ Hid (Below W0.heap.size W0 wr))
            case atStart => exact ⟨0, by omega, by omega, rfl, take_zero, HX⟩
            case round =>
              clear HX
              obtain ⟨i4, hi4, hg4, rfl, HV, HX⟩ := hrel
              by_cases hin : i4 < n4
              · have iwi4 : ((i4 : Nat) : Int) < (n4 : Int) := by omega
                have n0i4 : (0 : Int) ≤ ((i4 : Nat) : Int) := by omega
                have hixi4 : i4 < D.length := by rw [← HN4.out]; exact hin
                obtain ⟨b1, f1, s1_, rfl, hlt1, _, hR1, hc1⟩ := (HD4.out wr HX.out).get hixi4
                obtain ⟨x, hx⟩ : ∃ z, z = D[i4] := ⟨_, rfl⟩
                have hmem : x ∈ D := hx ▸ List.getElem_mem hixi4
                rw [← hx] at hR1
                have HXI : Hid (D[i4] = x) := hx.symm
                obtain ⟨r1, d1, rfl, q1⟩ := docM_cells hR1
                obtain ⟨z0, hz0⟩ : ∃ q, q = x.1 := ⟨_, rfl⟩
                obtain ⟨m1, hm1⟩ : ∃ q, q = x.2.length := ⟨_, rfl⟩
                rw [← hz0, ← hm1] at hc1
                rw [← hm1] at q1
                have HMM := Lib.hid hm1
                have e0 : wr.cell? ⟨b1, f1 + i4 * 2, none⟩ = some (.bool z0) := hc1 0 _ rfl
                have e1 : wr.cell? ⟨b1, f1 + i4 * 2 + 1, none⟩ = some (.slice r1 m1 d1) := hc1 1 _ rfl
                obtain ⟨bX, pX, lX⟩ := box1 wr #[.bool z0, .slice r1 m1 d1] 51
                obtain ⟨W5, hW5⟩ : ∃ W5, W5 = wr.alloc (.cells #[.bool z0, .slice r1 m1 d1] 51) := ⟨_, rfl⟩
                rw [← hW5] at bX pX lX
                obtain ⟨X, hX⟩ : ∃ X, X = wr.heap.size := ⟨_, rfl⟩
                rw [← hX] at pX lX
                have HW5 := Lib.hid hW5
                have HXX : Hid (wr.heap.size = X) := hX.symm
                have HX5 : Hid (Below W0.heap.size W0 W5) := below_on HX.out bX
                have HQ1 : Hid (RowP segM P W5 (.slice r1 m1 d1) x.2) := q1.keep segM_ok (Keep.below bX)
                have HML : Hid (x ∈ D) := hmem
                obtain ⟨g0, g1⟩ := two_cells pX
                clear hc1 hR1 hx hlt1 hX hW5 bX pX lX hmem hz0 hm1 q1
                go_upto_region 7 with fail
                rw [← HW5.out, HXX.out]
                clear e0 e1
                have C6 := Lib.hid (sm06 x.2 W5 HQ1.out (HT.out.1 x HML.out))
                clear HQ1 HML
                go_wp2_with fail
                refine C6.out.mono ?_
                rintro e w7 ⟨⟨b, rfl, hb⟩, b7⟩
                have HX7 : Hid (Below W0.heap.size W0 w7) := below_on HX5.out b7
                clear b7 C6 g0 g1
                cases b with
                | false =>
                  have HXF := HX7
                  have HE : Hid (Below w.heap.size w w7) := HB.out.trans (HXF.out.mono HB.out.size)
                  go_wp2_with fail
                  go_ret
                  exact ⟨any_no, HE.out⟩
                | true =>
                  have HV2 : Hid (∀ x ∈ D.take (i4 + 1), docS x) := take_step hixi4 HV.out (by rw [HXI.out]; exact hb rfl)
                  clear HV HXI HMM hb
                  go_wp2_with fail
                  go_roundg (n4 - (i4 + 1))
                  case measure => omega
                  case rel => exact ⟨i4 + 1, by omega, Nat.le_refl _, by go_num, HV2, HX7⟩
              · obtain rfl : n4 = i4 := by omega
                have iwi4 : ¬ ((n4 : Nat) : Int) < ((n4 : Nat) : Int) := by omega
                have HDs : Hid (∀ x ∈ D, docS x) := take_whole HN4.out HV.out
                clear HV hi4 hg4 hin
                obtain ⟨a0, a1, a2, a3, a4, a5, a6, a7⟩ := eight_cells ((HX.out.block R (by have := HL.out; omega)).trans HP.out)
                go_wp2_with fail
                clear a0 a1 a2 a3 a4 a5 a6 a7
                go_loopg [3, 57] n5 (fun g a_ i_ wr => ∃ (i5 : Nat) (acc : Nat), i5 ≤ n5 ∧ n5 - i5 ≤ g ∧ i_ = .int .i64 (i5 : Nat) ∧ a_ = .int .i64 (acc : Nat) ∧ acc ≤ i5 * 8444249301319680 ∧ Hid (∀ x ∈ K.take i5, stkS acc x) ∧ Hid (Below W0.heap.size W0 wr))
                case atStart => exact ⟨0, 0, by omega, by omega, rfl, rfl, by omega, take_zero, HX⟩
                case round =>
                  clear HX
                  obtain ⟨i5, acc, hi5, hg5, rfl, rfl, hacc, HV, HX⟩ := hrel
                  by_cases hin : i5 < n5
                  · have iwi5 : ((i5 : Nat) : Int) < (n5 : Int) := by omega
                    have n0i5 : (0 : Int) ≤ ((i5 : Nat) : Int) := by omega
                    have hixi5 : i5 < K.length := by rw [← HN5.out]; exact hin
                    obtain ⟨b1, f1, s1_, rfl, hlt1, _, hR1, hc1⟩ := (HD5.out wr HX.out).get hixi5
                    obtain ⟨xk, hx⟩ : ∃ z, z = K[i5] := ⟨_, rfl⟩
                    have hmem : xk ∈ K := hx ▸ List.getElem_mem hixi5
                    rw [← hx] at hR1
                    have HXI : Hid (K[i5] = xk) := hx.symm
                    obtain ⟨r1, d1, rfl, q1⟩ := stkM_cells hR1
                    obtain ⟨na, hna⟩ : ∃ q, q = xk.length := ⟨_, rfl⟩
                    rw [← hna] at hc1 q1
                    have hmna : na ≤ 9223372036854775807 := by have q := q1.len; simp only [maxLen] at q; omega
                    have HNA := Lib.hid hna
                    have m1 : wr.cell? ⟨b1, f1 + i5, none⟩ = some (.slice r1 na d1) := by have q := hc1 0 _ rfl; rw [show f1 + i5 * stkM.k + 0 = f1 + i5 from by show f1 + i5 * 1 + 0 = _; omega] at q; exact q
                    have HTX : Hid (∀ y ∈ xk, y.2.2.2.2.length ≤ 140737488355328) := HT.out.2.1 xk hmem
                    have HXIO := HXI
                    have HVO := HV
                    have HXO := HX
                    obtain ⟨WI, hWI⟩ : ∃ WI : World, WI = wr := ⟨_, rfl⟩
                    subst hWI
                    have HQ1 : Hid (∀ w', Below WI.heap.size WI w' → RowP thgM P w' (.slice r1 na d1) xk) := fun w' b => q1.keep thgM_ok (Keep.below b)
                    obtain ⟨a_0, ha_0⟩ : ∃ q : Nat, q = acc := ⟨_, rfl⟩
                    subst ha_0
                    clear hR1 hc1 hna hx hmem q1 hlt1 HXI HV HX
                    by_cases k0 : 60 < na
                    · have kw0 : (60 : Int) < (na : Nat) := by omega
                      have kd0 : decide ((60 : Int) < (na : Nat)) = true := decide_eq_true kw0
                      have HXF := HXO
                      have HE : Hid (Below w.heap.size w WI) := HB.out.trans (HXF.out.mono HB.out.size)
                      go_wp2_with fail
                      go_ret
                      exact ⟨any_no, HE.out⟩
                    · have kw0 : ¬ (60 : Int) < (na : Nat) := by omega
                      have kd0 : decide ((60 : Int) < (na : Nat)) = false := decide_eq_false kw0
                      have HX : Hid (Below WI.heap.size WI WI) := Below.refl _ _
                      go_wp2_with fail
                      clear m1
                      go_loopg [3, 66] na (fun g a_ i_ wr => ∃ (j5 : Nat) (acc : Nat), j5 ≤ na ∧ na - j5 ≤ g ∧ i_ = .int .i64 (j5 : Nat) ∧ a_ = .int .i64 (acc : Nat) ∧ a_0 ≤ acc ∧ acc ≤ a_0 + j5 * 140737488355328 ∧ Hid (∀ x ∈ xk.take j5, thgS acc x) ∧ Hid (Below WI.heap.size WI wr))
                      case atStart => exact ⟨0, _, by omega, by omega, rfl, rfl, by omega, by omega, take_zero, HX⟩
                      case round =>
                        clear HX
                        obtain ⟨j5, acc, hj5, hgj5, rfl, rfl, hac1, hac2, HV, HX⟩ := hrel
                        by_cases hin : j5 < na
                        · have iwj5 : ((j5 : Nat) : Int) < (na : Int) := by omega
                          have n0j5 : (0 : Int) ≤ ((j5 : Nat) : Int) := by omega
                          have hixj5 : j5 < xk.length := by rw [← HNA.out]; exact hin
                          obtain ⟨b1, f1, s1_, rfl, hlt1, _, hR1, hc1⟩ := (HQ1.out wr HX.out).get hixj5
                          obtain ⟨y, hx⟩ : ∃ z, z = xk[j5] := ⟨_, rfl⟩
                          have hmem : y ∈ xk := hx ▸ List.getElem_mem hixj5
                          rw [← hx] at hR1
                          have HXI : Hid (xk[j5] = y) := hx.symm
                          obtain rfl := thgM_cells hR1
                          obtain ⟨z0, hz0⟩ : ∃ q, q = y.1 := ⟨_, rfl⟩
                          obtain ⟨z1, hz1⟩ : ∃ q, q = y.2.1 := ⟨_, rfl⟩
                          obtain ⟨z2, hz2⟩ : ∃ q, q = y.2.2.1 := ⟨_, rfl⟩
                          obtain ⟨z3, hz3⟩ : ∃ q, q = y.2.2.2.1 := ⟨_, rfl⟩
                          obtain ⟨m4, hm4⟩ : ∃ q, q = y.2.2.2.2.length := ⟨_, rfl⟩
                          obtain ⟨t4, ht4⟩ : ∃ q, q = mkB y.2.2.2.2 := ⟨_, rfl⟩
                          have y4 : t4.size = m4 := by rw [ht4, mkB_size, hm4]
                          rw [← hz0, ← hz1, ← hz2, ← hz3, ← ht4] at hc1
                          have hb4 : m4 ≤ 140737488355328 := by rw [hm4]; exact HTX.out y hmem
                          have HMM := Lib.hid hm4
                          have e0 : wr.cell? ⟨b1, f1 + j5 * 5, none⟩ = some (.int .i64 z0) := hc1 0 _ rfl
                          have e1 : wr.cell? ⟨b1, f1 + j5 * 5 + 1, none⟩ = some (.int .i64 z1) := hc1 1 _ rfl
                          have e2 : wr.cell? ⟨b1, f1 + j5 * 5 + 2, none⟩ = some (.int .i64 z2) := hc1 2 _ rfl
                          have e3 : wr.cell? ⟨b1, f1 + j5 * 5 + 3, none⟩ = some (.int .i64 z3) := hc1 3 _ rfl
                          have e4 : wr.cell? ⟨b1, f1 + j5 * 5 + 4, none⟩ = some (.string t4) := hc1 4 _ rfl
                          obtain ⟨bX, pX, lX⟩ := box1 wr #[.int .i64 z0, .int .i64 z1, .int .i64 z2, .int .i64 z3, .string t4] 55
                          obtain ⟨W5, hW5⟩ : ∃ W5, W5 = wr.alloc (.cells #[.int .i64 z0, .int .i64 z1, .int .i64 z2, .int .i64 z3, .string t4] 55) := ⟨_, rfl⟩
                          rw [← hW5] at bX pX lX
                          obtain ⟨X, hX⟩ : ∃ X, X = wr.heap.size := ⟨_, rfl⟩
                          rw [← hX] at pX lX
                          have HW5 := Lib.hid hW5
                          have HXX : Hid (wr.heap.size = X) := hX.symm
                          have HX5 : Hid (Below WI.heap.size WI W5) := below_on HX.out bX
                          obtain ⟨g0, g1, g2, g3, g4⟩ := five_cells' pX
                          clear hc1 hR1 hx hlt1 hX hW5 bX pX lX hmem hz0 hz1 hz2 hz3 ht4 hm4 
                          go_upto_region 18 with fail
                          rw [← HW5.out, HXX.out]
                          clear e0 e1 e2 e3 e4
                          have z_0 : IntKind.i64.wrap (((acc : Nat) : Int) + (m4 : Nat)) = ((acc : Nat) : Int) + (m4 : Nat) := IntWalk.i64_in _ (by omega)
                          have HV2 : Hid (∀ x ∈ xk.take (j5 + 1), thgS (acc + m4) x) := take_step hixj5 (take_mono HV.out (fun _ h => Nat.le_trans h (by omega))) (by rw [HXI.out]; show _ ≤ _; rw [← HMM.out]; omega)
                          clear HV HXI HMM
                          go_wp2_with fail
                          go_roundg (na - (j5 + 1))
                          case measure => omega
                          case rel => exact ⟨j5 + 1, acc + m4, by omega, Nat.le_refl _, by go_num, by simp, by omega, by omega, HV2, HX5⟩
                        · obtain rfl : na = j5 := by omega
                          have iwj5 : ¬ ((na : Nat) : Int) < ((na : Nat) : Int) := by omega
                          have HV2 : Hid (∀ x ∈ K.take (i5 + 1), stkS acc x) := take_step hixi5 (take_mono HVO.out (stkS_mono (by omega))) (by rw [HXIO.out]; exact ⟨by rw [← HNA.out]; omega, take_whole HNA.out HV.out⟩)
                          have HX9 : Hid (Below W0.heap.size W0 wr) := below_on HXO.out HX.out
                          clear HV HVO HXIO HX
                          go_wp2_with fail
                          go_roundg (n5 - (i5 + 1))
                          case measure => omega
                          case rel => exact ⟨i5 + 1, acc, by omega, Nat.le_refl _, by go_num, rfl, by omega, HV2, HX9⟩
                  · obtain rfl : n5 = i5 := by omega
                    have iwi5 : ¬ ((n5 : Nat) : Int) < ((n5 : Nat) : Int) := by omega
                    have HKs : Hid (∀ x ∈ K, stkS acc x) := take_whole HN5.out HV.out
                    clear HV hi5 hg5 hin
                    obtain ⟨a0, a1, a2, a3, a4, a5, a6, a7⟩ := eight_cells ((HX.out.block R (by have := HL.out; omega)).trans HP.out)
                    go_wp2_with fail
                    clear a0 a1 a2 a3 a4 a5 a6 a7
                    go_loopg [3, 80] n6 (fun g a_ i_ wr => ∃ (i6 : Nat) (acc : Nat), i6 ≤ n6 ∧ n6 - i6 ≤ g ∧ i_ = .int .i64 (i6 : Nat) ∧ a_ = .int .i64 (acc : Nat) ∧ acc ≤ 168884986026393600 + i6 * 281474976710656 ∧ Hid (∀ x ∈ K, stkS acc x) ∧ Hid (∀ x ∈ E.take i6, seaS acc x) ∧ Hid (Below W0.heap.size W0 wr))
                    case atStart => exact ⟨0, _, by omega, by omega, rfl, rfl, by omega, HKs, take_zero, HX⟩
                    case round =>
                      clear HX HKs
                      obtain ⟨i6, acc, hi6, hg6, rfl, rfl, hacc, HKs, HV, HX⟩ := hrel
                      by_cases hin : i6 < n6
                      · have iwi6 : ((i6 : Nat) : Int) < (n6 : Int) := by omega
                        have n0i6 : (0 : Int) ≤ ((i6 : Nat) : Int) := by omega
                        have hixi6 : i6 < E.length := by rw [← HN6.out]; exact hin
                        obtain ⟨b1, f1, s1_, rfl, hlt1, _, hR1, hc1⟩ := (HD6.out wr HX.out).get hixi6
                        obtain ⟨x, hx⟩ : ∃ z, z = E[i6] := ⟨_, rfl⟩
                        have hmem : x ∈ E := hx ▸ List.getElem_mem hixi6
                        rw [← hx] at hR1
                        have HXI : Hid (E[i6] = x) := hx.symm
                        obtain rfl := seaM_cells hR1
                        obtain ⟨m0, hm0⟩ : ∃ q, q = x.1.length := ⟨_, rfl⟩
                        obtain ⟨t0, ht0⟩ : ∃ q, q = mkB x.1 := ⟨_, rfl⟩
                        have y0 : t0.size = m0 := by rw [ht0, mkB_size, hm0]
                        obtain ⟨z1, hz1⟩ : ∃ q, q = x.2.1 := ⟨_, rfl⟩
                        obtain ⟨z2, hz2⟩ : ∃ q, q = x.2.2.1 := ⟨_, rfl⟩
                        obtain ⟨z3, hz3⟩ : ∃ q, q = x.2.2.2.1 := ⟨_, rfl⟩
                        obtain ⟨m4, hm4⟩ : ∃ q, q = x.2.2.2.2.length := ⟨_, rfl⟩
                        obtain ⟨t4, ht4⟩ : ∃ q, q = mkB x.2.2.2.2 := ⟨_, rfl⟩
                        have y4 : t4.size = m4 := by rw [ht4, mkB_size, hm4]
                        rw [← ht0, ← hz1, ← hz2, ← hz3, ← ht4] at hc1
                        have hb0 : m0 ≤ 140737488355328 := by rw [hm0]; exact (HT.out.2.2 x hmem).1
                        have hb4 : m4 ≤ 140737488355328 := by rw [hm4]; exact (HT.out.2.2 x hmem).2
                        have HMM := Lib.hid (And.intro hm0 hm4)
                        have e0 : wr.cell? ⟨b1, f1 + i6 * 5, none⟩ = some (.string t0) := hc1 0 _ rfl
                        have e1 : wr.cell? ⟨b1, f1 + i6 * 5 + 1, none⟩ = some (.int .i64 z1) := hc1 1 _ rfl
                        have e2 : wr.cell? ⟨b1, f1 + i6 * 5 + 2, none⟩ = some (.int .i64 z2) := hc1 2 _ rfl
                        have e3 : wr.cell? ⟨b1, f1 + i6 * 5 + 3, none⟩ = some (.int .i64 z3) := hc1 3 _ rfl
                        have e4 : wr.cell? ⟨b1, f1 + i6 * 5 + 4, none⟩ = some (.string t4) := hc1 4 _ rfl
                        obtain ⟨bX, pX, lX⟩ := box1 wr #[.string t0, .int .i64 z1, .int .i64 z2, .int .i64 z3, .string t4] 57
                        obtain ⟨W5, hW5⟩ : ∃ W5, W5 = wr.alloc (.cells #[.string t0, .int .i64 z1, .int .i64 z2, .int .i64 z3, .string t4] 57) := ⟨_, rfl⟩
                        rw [← hW5] at bX pX lX
                        obtain ⟨X, hX⟩ : ∃ X, X = wr.heap.size := ⟨_, rfl⟩
                        rw [← hX] at pX lX
                        have HW5 := Lib.hid hW5
                        have HXX : Hid (wr.heap.size = X) := hX.symm
                        have HX5 : Hid (Below W0.heap.size W0 W5) := below_on HX.out bX
                        obtain ⟨g0, g1, g2, g3, g4⟩ := five_cells' pX
                        clear hc1 hR1 hx hlt1 hX hW5 bX pX lX hmem ht0 hz1 hz2 hz3 ht4 hm0 hm4 
                        go_upto_region 24 with fail
                        rw [← HW5.out, HXX.out]
                        clear e0 e1 e2 e3 e4
                        have z_0 : IntKind.i64.wrap (((m0 : Nat) : Int) + (m4 : Nat)) = ((m0 : Nat) : Int) + (m4 : Nat) := IntWalk.i64_in _ (by omega)
                        have z_1 : IntKind.i64.wrap (((acc : Nat) : Int) + (((m0 : Nat) : Int) + (m4 : Nat))) = ((acc : Nat) : Int) + (((m0 : Nat) : Int) + (m4 : Nat)) := IntWalk.i64_in _ (by omega)
                        have HV2 : Hid (∀ x ∈ E.take (i6 + 1), seaS (acc + (m0 + m4)) x) := take_step hixi6 (take_mono HV.out (seaS_mono (by omega))) (by rw [HXI.out]; exact ⟨by rw [← HMM.out.1]; omega, by rw [← HMM.out.2]; omega⟩)
                        have HK2 : Hid (∀ x ∈ K, stkS (acc + (m0 + m4)) x) := take_mono HKs.out (stkS_mono (by omega))
                        clear HV HXI HMM HKs
                        go_wp2_with fail
                        go_roundg (n6 - (i6 + 1))
                        case measure => omega
                        case rel => exact ⟨i6 + 1, acc + (m0 + m4), by omega, Nat.le_refl _, by go_num, by simp, by omega, HK2, HV2, HX5⟩
                      · obtain rfl : n6 = i6 := by omega
                        have iwi6 : ¬ ((n6 : Nat) : Int) < ((n6 : Nat) : Int) := by omega
                        have HEs : Hid (∀ x ∈ E, seaS acc x) := take_whole HN6.out HV.out
                        clear HV hi6 hg6 hin
                        obtain ⟨a0, a1, a2, a3, a4, a5, a6, a7⟩ := eight_cells ((HX.out.block R (by have := HL.out; omega)).trans HP.out)
                        go_wp2_with fail
                        clear a0 a1 a2 a3 a4 a5 a6 a7
                        go_loopg [97] n7 (fun g i_ wr => ∃ (i7 : Nat), i7 ≤ n7 ∧ n7 - i7 ≤ g ∧ i_ = .int .i64 (i7 : Nat) ∧ Hid (∀ x ∈ A.take i7, entS x) ∧ Hid (Below W0.heap.size W0 wr))
                        case atStart => exact ⟨0, by omega, by omega, rfl, take_zero, HX⟩
                        case round =>
                          clear HX
                          obtain ⟨i7, hi7, hg7, rfl, HV, HX⟩ := hrel
                          by_cases hin : i7 < n7
                          · have iwi7 : ((i7 : Nat) : Int) < (n7 : Int) := by omega
                            have n0i7 : (0 : Int) ≤ ((i7 : Nat) : Int) := by omega
                            have hixi7 : i7 < A.length := by rw [← HN7.out]; exact hin
                            obtain ⟨b1, f1, s1_, rfl, hlt1, _, hR1, hc1⟩ := (HD7.out wr HX.out).get hixi7
                            obtain ⟨x, hx⟩ : ∃ z, z = A[i7] := ⟨_, rfl⟩
                            have hmem : x ∈ A := hx ▸ List.getElem_mem hixi7
                            rw [← hx] at hR1
                            have HXI : Hid (A[i7] = x) := hx.symm
                            obtain ⟨r3, d3, r4, d4, rfl, q3, q4⟩ := entM_cells hR1
                            obtain ⟨z0, hz0⟩ : ∃ q, q = x.1 := ⟨_, rfl⟩
                            obtain ⟨z1, hz1⟩ : ∃ q, q = x.2.1 := ⟨_, rfl⟩
                            obtain ⟨z2, hz2⟩ : ∃ q, q = x.2.2.1 := ⟨_, rfl⟩
                            obtain ⟨m3, hm3⟩ : ∃ q, q = x.2.2.2.1.length := ⟨_, rfl⟩
                            obtain ⟨m4, hm4⟩ : ∃ q, q = x.2.2.2.2.length := ⟨_, rfl⟩
                            rw [← hz0, ← hz1, ← hz2, ← hm3, ← hm4] at hc1
                            rw [← hm3] at q3
                            rw [← hm4] at q4
                            have HMM := Lib.hid (And.intro hm3 hm4)
                            have e0 : wr.cell? ⟨b1, f1 + i7 * 5, none⟩ = some (.int .i64 z0) := hc1 0 _ rfl
                            have e1 : wr.cell? ⟨b1, f1 + i7 * 5 + 1, none⟩ = some (.int .i64 z1) := hc1 1 _ rfl
                            have e2 : wr.cell? ⟨b1, f1 + i7 * 5 + 2, none⟩ = some (.int .i64 z2) := hc1 2 _ rfl
                            have e3 : wr.cell? ⟨b1, f1 + i7 * 5 + 3, none⟩ = some (.slice r3 m3 d3) := hc1 3 _ rfl
                            have e4 : wr.cell? ⟨b1, f1 + i7 * 5 + 4, none⟩ = some (.slice r4 m4 d4) := hc1 4 _ rfl
                            obtain ⟨bX, pX, lX⟩ := box1 wr #[.int .i64 z0, .int .i64 z1, .int .i64 z2, .slice r3 m3 d3, .slice r4 m4 d4] 59
                            obtain ⟨W5, hW5⟩ : ∃ W5, W5 = wr.alloc (.cells #[.int .i64 z0, .int .i64 z1, .int .i64 z2, .slice r3 m3 d3, .slice r4 m4 d4] 59) := ⟨_, rfl⟩
                            rw [← hW5] at bX pX lX
                            obtain ⟨X, hX⟩ : ∃ X, X = wr.heap.size := ⟨_, rfl⟩
                            rw [← hX] at pX lX
                            have HW5 := Lib.hid hW5
                            have HXX : Hid (wr.heap.size = X) := hX.symm
                            have HX5 : Hid (Below W0.heap.size W0 W5) := below_on HX.out bX
                            obtain ⟨g0, g1, g2, g3, g4⟩ := five_cells' pX
                            clear hc1 hR1 hx hlt1 hX hW5 bX pX lX hmem hz0 hz1 hz2 hm3 hm4 q3 q4
                            go_upto_region 29 with fail
                            rw [← HW5.out, HXX.out]
                            clear e0 e1 e2 e3 e4
                            by_cases k0 : 300 < m3
                            · have kw0 : (300 : Int) < (m3 : Nat) := by omega
                              have kd0 : decide ((300 : Int) < (m3 : Nat)) = true := decide_eq_true kw0
                              have HXF := HX5
                              have HE : Hid (Below w.heap.size w W5) := HB.out.trans (HXF.out.mono HB.out.size)
                              go_wp2_with fail
                              go_ret
                              exact ⟨any_no, HE.out⟩
                            · have kw0 : ¬ (300 : Int) < (m3 : Nat) := by omega
                              have kd0 : decide ((300 : Int) < (m3 : Nat)) = false := decide_eq_false kw0
                              by_cases k1 : 300 < m4
                              · have kw1 : (300 : Int) < (m4 : Nat) := by omega
                                have kd1 : decide ((300 : Int) < (m4 : Nat)) = true := decide_eq_true kw1
                                have HXF := HX5
                                have HE : Hid (Below w.heap.size w W5) := HB.out.trans (HXF.out.mono HB.out.size)
                                go_wp2_with fail
                                go_ret
                                exact ⟨any_no, HE.out⟩
                              · have kw1 : ¬ (300 : Int) < (m4 : Nat) := by omega
                                have kd1 : decide ((300 : Int) < (m4 : Nat)) = false := decide_eq_false kw1
                                have HV2 : Hid (∀ x ∈ A.take (i7 + 1), entS x) := take_step hixi7 HV.out (by rw [HXI.out]; exact ⟨by rw [← HMM.out.1]; omega, by rw [← HMM.out.2]; omega⟩)
                                clear HV HXI HMM
                                go_wp2_with fail
                                go_roundg (n7 - (i7 + 1))
                                case measure => omega
                                case rel => exact ⟨i7 + 1, by omega, Nat.le_refl _, by go_num, HV2, HX5⟩
                          · obtain rfl : n7 = i7 := by omega
                            have iwi7 : ¬ ((n7 : Nat) : Int) < ((n7 : Nat) : Int) := by omega
                            have HA : Hid (∀ x ∈ A, entS x) := take_whole HN7.out HV.out
                            clear HV
                            have HE : Hid (Below w.heap.size w wr) := HB.out.trans (HX.out.mono HB.out.size)
                            by_cases k : acc ≤ 70000
                            · have kw : (acc : Int) ≤ 70000 := by omega
                              have kd : decide ((acc : Int) ≤ 70000) = true := decide_eq_true kw
                              have HR1 : Hid (AnyS (staS (x0, x1, x2, L, D, K, E, A)) (.returned (.bool true))) := HG.out true (any_yes ⟨HLs.out, ⟨by omega, HDs.out⟩, ⟨by omega, take_mono HKs.out (stkS_mono k)⟩, ⟨by omega, take_mono HEs.out (seaS_mono k)⟩, by omega, HA.out⟩)
                              go_wp2_with fail
                              go_ret
                              exact ⟨HR1.out, HE.out⟩
                            · have kw : ¬ (acc : Int) ≤ 70000 := by omega
                              have kd : decide ((acc : Int) ≤ 70000) = false := decide_eq_false kw
                              go_wp2_with fail
                              go_ret
                              exact ⟨any_no, HE.out⟩
end Go.Proofs.YtccaiippoephbaaGreatDoor.Sta
/- State: StateRight's walk, given what is owed. -/
set_option linter.unusedVariables false
set_option linter.unusedSimpArgs false
set_option maxRecDepth 100000
namespace Go.Proofs.YtccaiippoephbaaGreatDoor.Sta
open Go.RowKit Go.Lib Go.Proofs.YtccaiippoephbaaGreatDoor.Bx Go.Proofs.YtccaiippoephbaaGreatDoor.Frm Go.Proofs.YtccaiippoephbaaGreatDoor.Wds

set_option maxHeartbeats 16000000 in
theorem right_walk {OK1 : Seg → Prop} {OKu : List Thg → Prop} {OKa : List UInt8 → Prop} (w : World) (LS : LoadS w (fun X => (∀ y ∈ X, OK1 y) ∧ (X.map fun y => y.1).Nodup)) (LU : LoadU w OKu) (TK : ToldK OKa) (RG : RightG OK1) (RU : RightU OKu) (RT : RToldK OKa) {cs cs' : List Value} (C : Cfg) (S : Sta) (hR : Slt.Roots w) (h : cfgM.R (fun _ => True) w cs C) (h' : staM.R (fun _ => True) w cs' S) (hg : cfgG C) (hg' : staG S) : Calls Tryz.prog 3 #[.agg cs.toArray, .agg cs'.toArray] w fun e w' => e = .returned (.bool true) ∧ Below w.heap.size w w' := by
  have C1 := Lib.hid (fun w' (b : Below w.heap.size w w') => one_ok w' (hR.below b (World.block_lt_of_cell? _ _ (hR 0 (by decide)))))
  clear hR
  have HCM := Lib.hid (fun w' (b : Below w.heap.size w w') => cfgM_ok.keep h (Keep.below b))
  have HSM := Lib.hid (fun w' (b : Below w.heap.size w w') => staM_ok.keep h' (Keep.below b))
  have HCG := Lib.hid hg
  have HSG := Lib.hid hg'
  obtain ⟨u0, k0, u1, k1, rfl, p0, p1⟩ := cfgM_cells h
  obtain ⟨y3, d3, y4, d4, y5, d5, y6, d6, y7, d7, rfl, r3, r4, r5, r6, r7⟩ := staM_cells h'
  clear h h'
  obtain ⟨U, L, q2, q3, q4, q5, q6, q7, q8⟩ := C
  obtain ⟨x0, x1, x2, M, D, K, E, A⟩ := S
  simp only at HCM HSM p0 p1 r3 r4 r5 r6 r7 hg hg' ⊢
  have HBU : Hid (∀ x ∈ U, x.1.length ≤ 140737488355328 ∧ x.2.1.length ≤ 140737488355328 ∧ x.2.2.length ≤ 140737488355328) := fun x hx => ⟨(hg.1.2 x hx).1, (hg.1.2 x hx).2.1, (hg.1.2 x hx).2.2⟩
  have HBL : Hid (∀ x ∈ L, labG x) := hg.2.1.2
  have HGM : Hid (∀ x ∈ M, labG x) := hg'.2.2.2.1.2
  obtain ⟨n0, hn0⟩ : ∃ n, n = U.length := ⟨_, rfl⟩
  obtain ⟨n1, hn1⟩ : ∃ n, n = L.length := ⟨_, rfl⟩
  obtain ⟨m3, hm3⟩ : ∃ n, n = M.length := ⟨_, rfl⟩
  obtain ⟨m4, hm4⟩ : ∃ n, n = D.length := ⟨_, rfl⟩
  obtain ⟨m5, hm5⟩ : ∃ n, n = K.length := ⟨_, rfl⟩
  obtain ⟨m6, hm6⟩ : ∃ n, n = E.length := ⟨_, rfl⟩
  obtain ⟨m7, hm7⟩ : ∃ n, n = A.length := ⟨_, rfl⟩
  have HCGX := HCG
  have HSGX := HSG
  simp only [← hn0, ← hn1, ← hm3, ← hm4, ← hm5, ← hm6, ← hm7] at HCM HSM p0 p1 r3 r4 r5 r6 r7 ⊢
  have HM := Lib.hid (fun w' (b : Below w.heap.size w w') => r3.keep labM_ok (Keep.below b))
  have HU0 : Hid (n0 = U.length) := hn0
  have HU3 : Hid (m3 = M.length) := hm3
  have HU4 : Hid (m4 = D.length) := hm4
  clear p0 p1 r3 r4 r5 r6 r7 hg hg' hn0 hn1 hm3 hm4 hm5 hm6 hm7
  show Calls _ _ #[.agg #[.slice u0 n0 k0, .slice u1 n1 k1, .int .i64 q2, .int .i64 q3, .int .i64 q4, .int .i64 q5, .int .i64 q6, .int .i64 q7, .int .i64 q8], .agg #[.int .i64 x0, .int .i64 x1, .int .i64 x2, .slice y3 m3 d3, .slice y4 m4 d4, .slice y5 m5 d5, .slice y6 m6 d6, .slice y7 m7 d7]] _ _
  obtain ⟨B0, P0, L0⟩ := box1 w #[.slice u0 n0 k0, .slice u1 n1 k1, .int .i64 q2, .int .i64 q3, .int .i64 q4, .int .i64 q5, .int .i64 q6, .int .i64 q7, .int .i64 q8] 25
  obtain ⟨W0, hW0⟩ : ∃ W0, W0 = w.alloc (.cells #[.slice u0 n0 k0, .slice u1 n1 k1, .int .i64 q2, .int .i64 q3, .int .i64 q4, .int .i64 q5, .int .i64 q6, .int .i64 q7, .int .i64 q8] 25) := ⟨_, rfl⟩
  rw [← hW0] at B0 P0 L0
  obtain ⟨B1, P1, L1⟩ := box1 W0 #[.int .i64 x0, .int .i64 x1, .int .i64 x2, .slice y3 m3 d3, .slice y4 m4 d4, .slice y5 m5 d5, .slice y6 m6 d6, .slice y7 m7 d7] 31
  obtain ⟨W1, hW1⟩ : ∃ W1, W1 = W0.alloc (.cells #[.int .i64 x0, .int .i64 x1, .int .i64 x2, .slice y3 m3 d3, .slice y4 m4 d4, .slice y5 m5 d5, .slice y6 m6 d6, .slice y7 m7 d7] 31) := ⟨_, rfl⟩
  rw [← hW1] at B1 P1 L1
  have q0 : W1.heap[w.heap.size]? = some (.cells #[.slice u0 n0 k0, .slice u1 n1 k1, .int .i64 q2, .int .i64 q3, .int .i64 q4, .int .i64 q5, .int .i64 q6, .int .i64 q7, .int .i64 q8] 25 (0, 0)) := (B1.block _ (by omega)).trans P0
  rw [L0] at P1 L1
  have HB : Hid (Below w.heap.size w W1) := below_on B0 B1
  obtain ⟨R, hR⟩ : ∃ R, R = w.heap.size := ⟨_, rfl⟩
  rw [← hR] at q0 P1 L1
  have HG : Hid (∀ w', Below W1.heap.size W1 w' → w'.heap[R]? = some (.cells #[.slice u0 n0 k0, .slice u1 n1 k1, .int .i64 q2, .int .i64 q3, .int .i64 q4, .int .i64 q5, .int .i64 q6, .int .i64 q7, .int .i64 q8] 25 (0, 0)) ∧ w'.heap[R + 1]? = some (.cells #[.int .i64 x0, .int .i64 x1, .int .i64 x2, .slice y3 m3 d3, .slice y4 m4 d4, .slice y5 m5 d5, .slice y6 m6 d6, .slice y7 m7 d7] 31 (0, 0))) := fun w' b => ⟨(b.block R (by omega)).trans q0, (b.block (R + 1) (by omega)).trans P1⟩
  have HX : Hid (Below W1.heap.size W1 W1) := Below.refl _ _
  have HW : Hid (W1 = (w.alloc (.cells #[.slice u0 n0 k0, .slice u1 n1 k1, .int .i64 q2, .int .i64 q3, .int .i64 q4, .int .i64 q5, .int .i64 q6, .int .i64 q7, .int .i64 q8] 25)).alloc (.cells #[.int .i64 x0, .int .i64 x1, .int .i64 x2, .slice y3 m3 d3, .slice y4 m4 d4, .slice y5 m5 d5, .slice y6 m6 d6, .slice y7 m7 d7] 31)) := by show _ = _; rw [hW1, hW0]
  have HR : Hid (w.heap.size = R) := hR.symm
  clear hR B0 P0 L0 B1 P1 L1 hW0 hW1 q0
  go_enter Tryz.func3, Tryz.ntmps3
  go_upto_region 1 with fail
  rw [← HW.out, HR.out]
  have CO1 := Lib.hid (C1.out W1 (HB.out.trans (HX.out.mono HB.out.size)))
  go_wp2_with fail
  refine CO1.out.mono ?_
  rintro e w1 ⟨U1, t1, v1, rfl, b_, hU1, ht1, hr1⟩
  have HO1 := Lib.hid (one_cfg hU1 hr1)
  have HT1 := Lib.hid ht1
  clear hU1 ht1 hr1 CO1
  have HX2 : Hid (Below W1.heap.size W1 w1) := below_on HX.out b_
  clear b_ HX
  have HX := HX2
  clear HX2
  have CO2 := Lib.hid (C1.out w1 (HB.out.trans (HX.out.mono HB.out.size)))
  go_wp2_with fail
  refine CO2.out.mono ?_
  rintro e w2 ⟨U2, t2, v2, rfl, b_, hU2, ht2, hr2⟩
  have HO1' := Lib.hid (cfgM_ok.keep HO1.out (Keep.below b_))
  have HO2 := Lib.hid (one_cfg hU2 hr2)
  clear hU2 ht2 hr2 CO2 HO1
  have HX2 : Hid (Below W1.heap.size W1 w2) := below_on HX.out b_
  clear b_ HX
  have HX := HX2
  clear HX2
  have CF3 := Lib.hid (fresh_made (oneC t2) w2 HO2.out (by show 1 ≤ 90000; decide) (by intro x hx; simp only [oneC, List.mem_singleton] at hx; subst hx; decide) (by show 1 ≤ 90000; decide))
  go_wp2_with fail
  refine CF3.out.mono ?_
  rintro e w3 ⟨a3, c3, a4, c4, a5, c5, a6, c6, a7, c7, rfl, hs, b_⟩
  have CR := Lib.hid (right_fresh (oneC t1) w3 (cfgM_ok.keep HO1'.out (Keep.below b_)) hs (one_may HT1.out) (one_bound HT1.out) one_labs)
  have HX2 : Hid (Below W1.heap.size W1 w3) := below_on HX.out b_
  clear b_ HX
  have HX := HX2
  clear HX2
  clear CF3 hs HO2 HO1' HT1 C1
  go_wp2_with fail
  refine CR.out.mono ?_
  rintro e w4 ⟨rfl, b_⟩
  have HX2 : Hid (Below W1.heap.size W1 w4) := below_on HX.out b_
  clear b_ HX
  have HX := HX2
  clear HX2
  clear CR
  obtain ⟨a0, a1, a2, a3, a4, a5, a6, a7, a8⟩ := nine_cells' (HG.out _ HX.out).1
  obtain ⟨b0, b1, b2, b3, b4, b5, b6, b7⟩ := eight_cells (HG.out _ HX.out).2
  have CW := Lib.hid (few_ok (U, L, q2, q3, q4, q5, q6, q7, q8) w4 (HCM.out w4 (HB.out.trans (HX.out.mono HB.out.size))) HBU.out)
  go_wp2_with fail
  refine CW.out.mono ?_
  rintro e w5 ⟨⟨b, rfl, hfew⟩, b_⟩
  have HX2 : Hid (Below W1.heap.size W1 w5) := below_on HX.out b_
  clear b_ HX
  have HX := HX2
  clear HX2
  clear CW a0 a1 a2 a3 a4 a5 a6 a7 a8 b0 b1 b2 b3 b4 b5 b6 b7
  obtain ⟨a0, a1, a2, a3, a4, a5, a6, a7, a8⟩ := nine_cells' (HG.out _ HX.out).1
  obtain ⟨b0, b1, b2, b3, b4, b5, b6, b7⟩ := eight_cells (HG.out _ HX.out).2
  cases b with
  | false =>
    have HE : Hid (Below w.heap.size w w5) := HB.out.trans (HX.out.mono HB.out.size)
    go_wp2_with fail
    go_ret
    exact ⟨rfl, HE.out⟩
  | true =>
    have HF : Hid (fewS (U, L, q2, q3, q4, q5, q6, q7, q8)) := hfew rfl
    clear hfew
    have CS := Lib.hid (sm14 (x0, x1, x2, M, D, K, E, A) w5 (HSM.out w5 (HB.out.trans (HX.out.mono HB.out.size))) (staG_big HSG.out))
    go_wp2_with fail
    refine CS.out.mono ?_
    rintro e wr ⟨⟨b, rfl, hsm⟩, b_⟩
    have HX2 : Hid (Below W1.heap.size W1 wr) := below_on HX.out b_
    clear b_ HX
    have HX := HX2
    clear HX2
    clear CS a0 a1 a2 a3 a4 a5 a6 a7 a8 b0 b1 b2 b3 b4 b5 b6 b7
    cases b with
    | false =>
      have HE : Hid (Below w.heap.size w wr) := HB.out.trans (HX.out.mono HB.out.size)
      go_wp2_with fail
      go_ret
      exact ⟨rfl, HE.out⟩
    | true =>
      have HS : Hid (staS (x0, x1, x2, M, D, K, E, A)) := hsm rfl
      clear hsm
      have CA0 : Hid (∀ w', Below wr.heap.size wr w' → Calls Tryz.prog 4 #[.agg #[.slice u0 n0 k0, .slice u1 n1 k1, .int .i64 q2, .int .i64 q3, .int .i64 q4, .int .i64 q5, .int .i64 q6, .int .i64 q7, .int .i64 q8], .agg #[.int .i64 x0, .int .i64 x1, .int .i64 x2, .slice y3 m3 d3, .slice y4 m4 d4, .slice y5 m5 d5, .slice y6 m6 d6, .slice y7 m7 d7]] w' fun e w'' => IffB (rightR (fun X => (∀ y ∈ X, OK1 y) ∧ (X.map fun y => y.1).Nodup) OKu OKa (U, L, q2, q3, q4, q5, q6, q7, q8) (x0, x1, x2, M, D, K, E, A)) e ∧ Below w'.heap.size w' w'') := fun w' b => right_ok LS LU TK (U, L, q2, q3, q4, q5, q6, q7, q8) (x0, x1, x2, M, D, K, E, A) w' (HB.out.trans ((below_on HX.out b).mono HB.out.size)) (HCM.out w' (HB.out.trans ((below_on HX.out b).mono HB.out.size))) (HSM.out w' (HB.out.trans ((below_on HX.out b).mono HB.out.size))) HCG.out HSG.out HS.out
      have CB0 : Hid (∀ w', Below wr.heap.size wr w' → Calls Tryz.prog 9 #[.agg #[.slice u0 n0 k0, .slice u1 n1 k1, .int .i64 q2, .int .i64 q3, .int .i64 q4, .int .i64 q5, .int .i64 q6, .int .i64 q7, .int .i64 q8], .agg #[.int .i64 x0, .int .i64 x1, .int .i64 x2, .slice y3 m3 d3, .slice y4 m4 d4, .slice y5 m5 d5, .slice y6 m6 d6, .slice y7 m7 d7]] w' fun e w'' => IffB (rightR (fun X => (∀ y ∈ X, OK1 y) ∧ (X.map fun y => y.1).Nodup) OKu OKa (U, L, q2, q3, q4, q5, q6, q7, q8) (x0, x1, x2, M, D, K, E, A)) e ∧ Below w'.heap.size w' w'') := fun w' b => rright_of (rdocs_ok RG) (rstacks_ok RU) (rrest_ok RT) (U, L, q2, q3, q4, q5, q6, q7, q8) (x0, x1, x2, M, D, K, E, A) w' (HCM.out w' (HB.out.trans ((below_on HX.out b).mono HB.out.size))) (HSM.out w' (HB.out.trans ((below_on HX.out b).mono HB.out.size))) HCG.out HSG.out HS.out (fun x hx => Nat.le_trans (HF.out.1.2 x hx).2.2 (by decide))
      have HRc : Hid (∀ w', Below wr.heap.size wr w' → Below wr.heap.size wr w' ∧ w'.cell? ⟨R, 0, none⟩ = some (.slice u0 n0 k0) ∧ w'.cell? ⟨R, 1, none⟩ = some (.slice u1 n1 k1) ∧ w'.cell? ⟨R, 2, none⟩ = some (.int .i64 q2) ∧ w'.cell? ⟨R, 3, none⟩ = some (.int .i64 q3) ∧ w'.cell? ⟨R, 4, none⟩ = some (.int .i64 q4) ∧ w'.cell? ⟨R, 5, none⟩ = some (.int .i64 q5) ∧ w'.cell? ⟨R, 6, none⟩ = some (.int .i64 q6) ∧ w'.cell? ⟨R, 7, none⟩ = some (.int .i64 q7) ∧ w'.cell? ⟨R, 8, none⟩ = some (.int .i64 q8) ∧ w'.cell? ⟨R + 1, 0, none⟩ = some (.int .i64 x0) ∧ w'.cell? ⟨R + 1, 1, none⟩ = some (.int .i64 x1) ∧ w'.cell? ⟨R + 1, 2, none⟩ = some (.int .i64 x2) ∧ w'.cell? ⟨R + 1, 3, none⟩ = some (.slice y3 m3 d3) ∧ w'.cell? ⟨R + 1, 4, none⟩ = some (.slice y4 m4 d4) ∧ w'.cell? ⟨R + 1, 5, none⟩ = some (.slice y5 m5 d5) ∧ w'.cell? ⟨R + 1, 6, none⟩ = some (.slice y6 m6 d6) ∧ w'.cell? ⟨R + 1, 7, none⟩ = some (.slice y7 m7 d7)) := fun w' hb => by
        obtain ⟨a0, a1, a2, a3, a4, a5, a6, a7, a8⟩ := nine_cells' (HG.out _ (below_on HX.out hb)).1
        obtain ⟨b0, b1, b2, b3, b4, b5, b6, b7⟩ := eight_cells (HG.out _ (below_on HX.out hb)).2
        exact ⟨hb, a0, a1, a2, a3, a4, a5, a6, a7, a8, b0, b1, b2, b3, b4, b5, b6, b7⟩
      by_cases kR : rightR (fun X => (∀ y ∈ X, OK1 y) ∧ (X.map fun y => y.1).Nodup) OKu OKa (U, L, q2, q3, q4, q5, q6, q7, q8) (x0, x1, x2, M, D, K, E, A)
      · have CA : Hid (∀ w', Below wr.heap.size wr w' → Calls Tryz.prog 4 #[.agg #[.slice u0 n0 k0, .slice u1 n1 k1, .int .i64 q2, .int .i64 q3, .int .i64 q4, .int .i64 q5, .int .i64 q6, .int .i64 q7, .int .i64 q8], .agg #[.int .i64 x0, .int .i64 x1, .int .i64 x2, .slice y3 m3 d3, .slice y4 m4 d4, .slice y5 m5 d5, .slice y6 m6 d6, .slice y7 m7 d7]] w' fun e w'' => e = .returned (.bool true) ∧ Below w'.heap.size w' w'') := fun w' b => (CA0.out w' b).mono fun e w'' h => by
          rcases h.1.det with ⟨q, e1⟩ | ⟨q, e1⟩
          · exact ⟨e1, h.2⟩
          · exact absurd kR q
        have CB : Hid (∀ w', Below wr.heap.size wr w' → Calls Tryz.prog 9 #[.agg #[.slice u0 n0 k0, .slice u1 n1 k1, .int .i64 q2, .int .i64 q3, .int .i64 q4, .int .i64 q5, .int .i64 q6, .int .i64 q7, .int .i64 q8], .agg #[.int .i64 x0, .int .i64 x1, .int .i64 x2, .slice y3 m3 d3, .slice y4 m4 d4, .slice y5 m5 d5, .slice y6 m6 d6, .slice y7 m7 d7]] w' fun e w'' => e = .returned (.bool true) ∧ Below w'.heap.size w' w'') := fun w' b => (CB0.out w' b).mono fun e w'' h => by
          rcases h.1.det with ⟨q, e1⟩ | ⟨q, e1⟩
          · exact ⟨e1, h.2⟩
          · exact absurd kR q
        clear CA0 CB0 kR
        go_upto_region 5 with fail
        go_cut [4] from 18 to 24 (fun z wx => z = .bool true ∧ Hid (Below wr.heap.size wr wx))
        case first =>
          go_region_held3 (fun w' => Below wr.heap.size wr w' ∧ w'.cell? ⟨R, 0, none⟩ = some (.slice u0 n0 k0) ∧ w'.cell? ⟨R, 1, none⟩ = some (.slice u1 n1 k1) ∧ w'.cell? ⟨R, 2, none⟩ = some (.int .i64 q2) ∧ w'.cell? ⟨R, 3, none⟩ = some (.int .i64 q3) ∧ w'.cell? ⟨R, 4, none⟩ = some (.int .i64 q4) ∧ w'.cell? ⟨R, 5, none⟩ = some (.int .i64 q5) ∧ w'.cell? ⟨R, 6, none⟩ = some (.int .i64 q6) ∧ w'.cell? ⟨R, 7, none⟩ = some (.int .i64 q7) ∧ w'.cell? ⟨R, 8, none⟩ = some (.int .i64 q8) ∧ w'.cell? ⟨R + 1, 0, none⟩ = some (.int .i64 x0) ∧ w'.cell? ⟨R + 1, 1, none⟩ = some (.int .i64 x1) ∧ w'.cell? ⟨R + 1, 2, none⟩ = some (.int .i64 x2) ∧ w'.cell? ⟨R + 1, 3, none⟩ = some (.slice y3 m3 d3) ∧ w'.cell? ⟨R + 1, 4, none⟩ = some (.slice y4 m4 d4) ∧ w'.cell? ⟨R + 1, 5, none⟩ = some (.slice y5 m5 d5) ∧ w'.cell? ⟨R + 1, 6, none⟩ = some (.slice y6 m6 d6) ∧ w'.cell? ⟨R + 1, 7, none⟩ = some (.slice y7 m7 d7))
            ((refine HRc.out _ ?_; focus ((repeat first | with_reducible assumption | with_reducible exact Below.refl _ _ | with_reducible apply Below.drew | with_reducible apply below_drews); done)))
            (first
              | (go_at_call 4; (with_reducible refine (CA.out _ (by (repeat first | with_reducible assumption | with_reducible exact Below.refl _ _ | with_reducible apply Below.drew | with_reducible apply below_drews))).mono ?_); rintro e wCA ⟨rfl, bCA⟩; have kCA : Below wr.heap.size wr wCA := below_on (by (repeat first | with_reducible assumption | with_reducible exact Below.refl _ _ | with_reducible apply Below.drew | with_reducible apply below_drews)) bCA)
              | (go_at_call 9; (with_reducible refine (CB.out _ (by (repeat first | with_reducible assumption | with_reducible exact Below.refl _ _ | with_reducible apply Below.drew | with_reducible apply below_drews))).mono ?_); rintro e wCB ⟨rfl, bCB⟩; have kCB : Below wr.heap.size wr wCB := below_on (by (repeat first | with_reducible assumption | with_reducible exact Below.refl _ _ | with_reducible apply Below.drew | with_reducible apply below_drews)) bCB))
          all_goals go_wp2_with fail
          all_goals go_meet
          all_goals exact ⟨rfl, (show Below wr.heap.size wr _ from by (repeat first | with_reducible assumption | with_reducible exact Below.refl _ _ | with_reducible apply Below.drew | with_reducible apply below_drews))⟩
        case rest =>
          obtain ⟨rfl, HZ9⟩ := hcut
          have HE : Hid (Below w.heap.size w wc) := HB.out.trans ((below_on HX.out HZ9.out).mono HB.out.size)
          go_wp2_with fail
          go_ret
          exact ⟨rfl, HE.out⟩
      · have CA : Hid (∀ w', Below wr.heap.size wr w' → Calls Tryz.prog 4 #[.agg #[.slice u0 n0 k0, .slice u1 n1 k1, .int .i64 q2, .int .i64 q3, .int .i64 q4, .int .i64 q5, .int .i64 q6, .int .i64 q7, .int .i64 q8], .agg #[.int .i64 x0, .int .i64 x1, .int .i64 x2, .slice y3 m3 d3, .slice y4 m4 d4, .slice y5 m5 d5, .slice y6 m6 d6, .slice y7 m7 d7]] w' fun e w'' => e = .returned (.bool false) ∧ Below w'.heap.size w' w'') := fun w' b => (CA0.out w' b).mono fun e w'' h => by
          rcases h.1.det with ⟨q, e1⟩ | ⟨q, e1⟩
          · exact absurd q kR
          · exact ⟨e1, h.2⟩
        have CB : Hid (∀ w', Below wr.heap.size wr w' → Calls Tryz.prog 9 #[.agg #[.slice u0 n0 k0, .slice u1 n1 k1, .int .i64 q2, .int .i64 q3, .int .i64 q4, .int .i64 q5, .int .i64 q6, .int .i64 q7, .int .i64 q8], .agg #[.int .i64 x0, .int .i64 x1, .int .i64 x2, .slice y3 m3 d3, .slice y4 m4 d4, .slice y5 m5 d5, .slice y6 m6 d6, .slice y7 m7 d7]] w' fun e w'' => e = .returned (.bool false) ∧ Below w'.heap.size w' w'') := fun w' b => (CB0.out w' b).mono fun e w'' h => by
          rcases h.1.det with ⟨q, e1⟩ | ⟨q, e1⟩
          · exact absurd q kR
          · exact ⟨e1, h.2⟩
        clear CA0 CB0 kR
        go_upto_region 5 with fail
        go_cut [4] from 18 to 24 (fun z wx => z = .bool true ∧ Hid (Below wr.heap.size wr wx))
        case first =>
          go_region_held3 (fun w' => Below wr.heap.size wr w' ∧ w'.cell? ⟨R, 0, none⟩ = some (.slice u0 n0 k0) ∧ w'.cell? ⟨R, 1, none⟩ = some (.slice u1 n1 k1) ∧ w'.cell? ⟨R, 2, none⟩ = some (.int .i64 q2) ∧ w'.cell? ⟨R, 3, none⟩ = some (.int .i64 q3) ∧ w'.cell? ⟨R, 4, none⟩ = some (.int .i64 q4) ∧ w'.cell? ⟨R, 5, none⟩ = some (.int .i64 q5) ∧ w'.cell? ⟨R, 6, none⟩ = some (.int .i64 q6) ∧ w'.cell? ⟨R, 7, none⟩ = some (.int .i64 q7) ∧ w'.cell? ⟨R, 8, none⟩ = some (.int .i64 q8) ∧ w'.cell? ⟨R + 1, 0, none⟩ = some (.int .i64 x0) ∧ w'.cell? ⟨R + 1, 1, none⟩ = some (.int .i64 x1) ∧ w'.cell? ⟨R + 1, 2, none⟩ = some (.int .i64 x2) ∧ w'.cell? ⟨R + 1, 3, none⟩ = some (.slice y3 m3 d3) ∧ w'.cell? ⟨R + 1, 4, none⟩ = some (.slice y4 m4 d4) ∧ w'.cell? ⟨R + 1, 5, none⟩ = some (.slice y5 m5 d5) ∧ w'.cell? ⟨R + 1, 6, none⟩ = some (.slice y6 m6 d6) ∧ w'.cell? ⟨R + 1, 7, none⟩ = some (.slice y7 m7 d7))
            ((refine HRc.out _ ?_; focus ((repeat first | with_reducible assumption | with_reducible exact Below.refl _ _ | with_reducible apply Below.drew | with_reducible apply below_drews); done)))
            (first
              | (go_at_call 4; (with_reducible refine (CA.out _ (by (repeat first | with_reducible assumption | with_reducible exact Below.refl _ _ | with_reducible apply Below.drew | with_reducible apply below_drews))).mono ?_); rintro e wCA ⟨rfl, bCA⟩; have kCA : Below wr.heap.size wr wCA := below_on (by (repeat first | with_reducible assumption | with_reducible exact Below.refl _ _ | with_reducible apply Below.drew | with_reducible apply below_drews)) bCA)
              | (go_at_call 9; (with_reducible refine (CB.out _ (by (repeat first | with_reducible assumption | with_reducible exact Below.refl _ _ | with_reducible apply Below.drew | with_reducible apply below_drews))).mono ?_); rintro e wCB ⟨rfl, bCB⟩; have kCB : Below wr.heap.size wr wCB := below_on (by (repeat first | with_reducible assumption | with_reducible exact Below.refl _ _ | with_reducible apply Below.drew | with_reducible apply below_drews)) bCB))
          all_goals go_wp2_with fail
          all_goals go_meet
          all_goals exact ⟨rfl, (show Below wr.heap.size wr _ from by (repeat first | with_reducible assumption | with_reducible exact Below.refl _ _ | with_reducible apply Below.drew | with_reducible apply below_drews))⟩
        case rest =>
          obtain ⟨rfl, HZ9⟩ := hcut
          have HE : Hid (Below w.heap.size w wc) := HB.out.trans ((below_on HX.out HZ9.out).mono HB.out.size)
          go_wp2_with fail
          go_ret
          exact ⟨rfl, HE.out⟩
end Go.Proofs.YtccaiippoephbaaGreatDoor.Sta
