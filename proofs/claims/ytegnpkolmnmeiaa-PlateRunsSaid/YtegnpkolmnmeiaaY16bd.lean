/- Plate: PlateRuns's walk where there is no disk. -/
import Derived.Test.YtegnpkolmnmeiaaY16bc
set_option linter.unusedVariables false
set_option linter.unusedSimpArgs false
set_option maxRecDepth 100000
namespace Go.Proofs.Ytegnpkolmnmeiaa.Plt
open Go.RowKit Go.Lib Go.Proofs.Ytegnpkolmnmeiaa.Bx
set_option maxHeartbeats 4000000 in
theorem runs_mid {w : World} (n : Int) (h1 : 300 < n) (h2 : n ≤ 16384) (v : Value) : Calls Try.prog 3 #[.int .i64 n, v] w fun e w' => e = .returned (.bool true) ∧ Below w.heap.size w w' := by
  have CA := Lib.hid (awake_any w)
  go_enter Try.func3, Try.ntmps3
  go_wp2_with fail
  refine CA.out.mono ?_
  rintro e w1 ⟨rfl, b1⟩
  have B1 := Lib.hid b1
  clear b1 CA
  go_wp2_with fail
  go_ret
  exact ⟨rfl, B1.out⟩
set_option maxHeartbeats 8000000 in
theorem runs_none {w : World} (n : Int) (h1 : n < 1 ∨ 16384 < n) (v : Value) : Calls Try.prog 3 #[.int .i64 n, v] w fun e w' => e = .returned (.bool true) ∧ Below w.heap.size w w' := by
  have CA := Lib.hid (awake_any w)
  have g1 : ¬ (300 < n ∧ n ≤ 16384) := by omega
  obtain ⟨b, hb⟩ : ∃ b, b = decide (300 < n) := ⟨_, rfl⟩
  rcases h1 with h1 | h1
  all_goals (
    first | (have g2 : ¬ 300 < n := (by omega)) | (have g2 : 300 < n := (by omega); have g3 : ¬ n ≤ 16384 := (by omega))
    clear g1 hb
    go_enter Try.func3, Try.ntmps3
    go_wp2_with fail
    refine CA.out.mono ?_
    rintro e w1 ⟨rfl, b1⟩
    have B1 := Lib.hid b1
    have CN := Lib.hid (new_no n w1 (by omega))
    have CR := Lib.hid (rnew_no n w1 (by omega))
    have C1 := Lib.hid (get_nil 0 w1)
    have C2 := Lib.hid (lay_nil 0 ByteArray.empty w1)
    have C3 := Lib.hid (bar_nil w1)
    have C4 := Lib.hid (on_nil w1)
    have C5 := Lib.hid (size_nil w1)
    have C6 := Lib.hid (loose_nil w1)
    clear b1 CA
    go_wp2_with (first | (go_at_call 6; refine CN.out.mono ?_; rintro e w2 ⟨rfl, rfl⟩) | (go_at_call 7; refine CR.out.mono ?_; rintro e w2 ⟨rfl, rfl⟩) | (go_at_call 8; refine C1.out.mono ?_; rintro e w2 ⟨rfl, rfl⟩) | (go_at_call 9; refine C2.out.mono ?_; rintro e w2 ⟨rfl, rfl⟩) | (go_at_call 10; refine C3.out.mono ?_; rintro e w2 ⟨rfl, rfl⟩) | (go_at_call 11; refine C4.out.mono ?_; rintro e w2 ⟨rfl, rfl⟩) | (go_at_call 12; refine C5.out.mono ?_; rintro e w2 ⟨rfl, rfl⟩) | (go_at_call 13; refine C6.out.mono ?_; rintro e w2 ⟨rfl, rfl⟩))
    go_ret
    exact ⟨rfl, B1.out⟩)
set_option maxHeartbeats 16000000 in
theorem runs_some {w : World} (n : Nat) (h1 : 1 ≤ n) (h2 : n ≤ 300) (v : Value) (A : List Ac) (hA : Rk.Rows 4 actR w v A) : Calls Try.prog 3 #[.int .i64 (n : Nat), v] w fun e w' => e = .returned (.bool true) ∧ Below w.heap.size w w' := by
  have CA := Lib.hid (awake_any w)
  obtain ⟨va, vc, rfl⟩ := Rk.Rows.is_slice hA
  obtain ⟨_, hvc, hvm⟩ := Rk.Rows.len hA
  obtain ⟨m, hm⟩ : ∃ m, m = A.length := ⟨_, rfl⟩
  have HM := Lib.hid hm
  rw [← hm] at hA hvc ⊢
  have HA0 := Lib.hid hA
  unfold maxLen at hvm
  have g2 : ¬ (300 : Int) < (n : Nat) := by omega
  have g3 : ¬ 300 < n := by omega
  clear hm hA
  go_enter Try.func3, Try.ntmps3
  go_wp2_with fail
  refine CA.out.mono ?_
  rintro e w1 ⟨rfl, b1⟩
  have B1 := Lib.hid b1
  have CN := Lib.hid (newX n w1 h1 (by omega))
  clear b1 CA
  go_wp2_with fail
  refine CN.out.mono ?_
  rintro e w2 ⟨B, F, rfl, d2, b2⟩
  have D2 := Lib.hid d2
  have B2 := Lib.hid (below_on B1.out b2)
  have CR := Lib.hid (rnew_yes n w2 h1 (by omega))
  have HA1 : Hid (w.heap.size ≤ w1.heap.size) := B1.out.size
  have HA2 : Hid (w.heap.size ≤ w2.heap.size) := B2.out.size
  clear d2 b2 CN
  go_wp2_with fail
  refine CR.out.mono ?_
  rintro e w3 ⟨R, G, rfl, d3, b3⟩
  have HBO : Hid (Both w1.heap.size w2.heap.size B R 0 n 0 w.heap.size w w3 (newD n)) := ⟨F, G, D2.out.below b3, d3, fun g hg hG => by
    have := (D2.out.lt g hg).2
    have := (d3.lt g hG).1
    omega, fun j hj => Nat.zero_le _, rfl, below_on B2.out b3⟩
  clear d3 b3 CR D2 B2
  have HC : Hid (∀ t, t ≤ 100 → (t + 1) * 400 ≤ 10000000) := fun t ht => by omega
  go_upto_block 0 with fail
  go_cut [] (fun wx => ∃ (t : Nat) (D : DK), Hid (t ≤ 100) ∧ Hid (Both w1.heap.size w2.heap.size B R (t * 400) n t w.heap.size w wx D))
  case first =>
    go_wp2_with fail
    go_loopg [11, 98] m (fun g _ i_ wr => ∃ (t : Nat) (D : DK), t ≤ m ∧ m - t ≤ g ∧ i_ = .int .i64 t ∧ t ≤ 100 ∧ Hid (Both w1.heap.size w2.heap.size B R (t * 400) n t w.heap.size w wr D))
    case atStart => exact ⟨0, _, by omega, by omega, rfl, by omega, by rw [Nat.zero_mul]; exact HBO.out⟩
    case round =>
      obtain ⟨t, D, ht, hg, rfl, h100, HR⟩ := hrel
      by_cases hlt : t < m
      · have iw : (t : Int) < (m : Nat) := by omega
        have n0 : (0 : Int) ≤ (t : Nat) := by omega
        obtain ⟨b, off, x, rfl, hb, hx4, ⟨pv, rfl, hp, hq, ha, hs, hz⟩, hc⟩ := Rk.Rows.get HA0.out (j := t) (by rw [← HM.out]; exact hlt)
        obtain ⟨F, G, hD, hG, hFG, hS, hN, hB⟩ := HR.out
        have c0 := vcell hB hb (hc 0 _ rfl)
        have c1 := vcell hB hb (hc 1 _ rfl)
        have c2 := vcell hB hb (hc 2 _ rfl)
        have c3 := vcell hB hb (hc 3 _ rfl)
        rw [Nat.add_zero] at c0
        generalize A[t]'(by rw [← HM.out]; exact hlt) = y at *
        obtain ⟨q, a, s, pk⟩ := y
        simp only at c0 c1 c2 c3 hp hq ha hs hz
        obtain ⟨pa, pc, rfl, _, _⟩ := row_z hp
        obtain ⟨pn, hpn⟩ : ∃ pn, pn = pk.length := ⟨_, rfl⟩
        rw [← hpn] at c3 hp
        obtain ⟨q1, q2⟩ := hq
        obtain ⟨a1, a2⟩ := ha
        have HAB : Hid (w.heap.size ≤ wr.heap.size) := hB.size
        by_cases h8 : t = 100
        · have i8 : ((t : Int) == 100) = true := by rw [h8]; rfl
          clear hc hx4 h8 hpn hD hG hFG hS hN hB
          go_wp2_with fail
          go_meet
          exact ⟨t, D, h100, HR.out.below HAB.out (below_al (Below.refl _ _) _)⟩
        · have i8 : ((t : Int) == 100) = false := by simp; omega
          have ht100 : t + 1 ≤ 100 := by omega
          obtain ⟨W4, hW4⟩ : ∃ W4, W4 = wr.alloc (.cells #[.int .i64 q, .int .i64 a, .string s, .slice pa pn pc] 37) := ⟨_, rfl⟩
          obtain ⟨bx, rx, lx⟩ := box1 wr #[.int .i64 q, .int .i64 a, .string s, .slice pa pn pc] 37
          rw [← hW4] at bx rx lx
          have HW4 := Lib.hid hW4
          obtain ⟨X, hX⟩ : ∃ X, X = wr.heap.size := ⟨_, rfl⟩
          have HXE := Lib.hid hX
          have HRX : Hid (W4.heap[X]? = some (.cells #[.int .i64 q, .int .i64 a, .string s, .slice pa pn pc] 37 (0, 0))) := by rw [hX]; exact rx
          have HX2 : Hid (X < W4.heap.size) := by show X < _; omega
          have HXF : Hid (∀ g, F g → g < X) := fun g hg => by rw [hX]; exact (hD.lt g hg).2
          have HXG : Hid (∀ g, G g → g < X) := fun g hg => by rw [hX]; exact (hG.lt g hg).2
          obtain ⟨x0, x1, x2, x3⟩ := four_cells HRX.out
          have HP := Lib.hid ((hp.below hB (Nat.le_refl _)).below bx (Nat.le_refl _))
          have HPO : Hid (pk ≠ [] → ∀ b, (Value.slice pa pn pc).ownBlock = some b → b < w.heap.size) := fun hne b e => by
            obtain ⟨_, a', c', e', _, _, h3⟩ := hp
            injection e' with e1 e2 e3
            subst e1
            rcases h3 with h3 | ⟨b', off', rfl, hlt', _⟩
            · have := cellsZ_len pk
              rw [h3] at this
              exact absurd (List.eq_nil_of_length_eq_zero (by simpa using this.symm)) hne
            · have e9 : b' = b := by simpa [Value.ownBlock] using e
              rw [← e9]
              exact hlt'
          have HPF : Hid (pk ≠ [] → ∀ b, (Value.slice pa pn pc).ownBlock = some b → ¬ F b) := fun hne b e hF => by
            have h1 := HPO.out hne b e
            have h2 := (hD.lt b hF).1
            have := HA1.out
            omega
          have HPG : Hid (pk ≠ [] → ∀ b, (Value.slice pa pn pc).ownBlock = some b → ¬ G b) := fun hne b e hF => by
            have h1 := HPO.out hne b e
            have h2 := (hG.lt b hF).1
            have := HA2.out
            omega
          have HD := Lib.hid (hD.below bx)
          have HG := Lib.hid (hG.below bx)
          have HFG := Lib.hid hFG
          have HS9 := Lib.hid (short_mono hS (show t ≤ 90000 by omega))
          have HS := Lib.hid hS
          have HN := Lib.hid hN
          have HB := Lib.hid (below_on hB bx)
          have HAB4 : Hid (w.heap.size ≤ W4.heap.size) := HB.out.size
          have HZ := Lib.hid hz
          have HSZ := Lib.hid hs
          have HC1 : Hid (t * 400 ≤ 10000000) := by show _ ≤ _; omega
          have HC2 : Hid (t * 400 + 1 ≤ (t + 1) * 400) := by show _ ≤ _; omega
          have HC3 : Hid (t * 400 + D.n ≤ (t + 1) * 400) := by show _ ≤ _; rw [hN]; omega
          clear hc hx4 h8 hpn hW4 hX bx rx lx hp hD hG hFG hS hN hB hz hs
          go_upto_region 15 with fail
          go_upto_block 2 with fail
          rw [← HW4.out, ← HXE.out]
          go_cut [13, 14] (fun x y wx => ∃ (bb : Bool) (D' : DK), x = .bool bb ∧ y = .bool bb ∧ Hid (wx.heap[X]? = some (.cells #[.int .i64 q, .int .i64 a, .string s, .slice pa pn pc] 37 (0, 0))) ∧ Hid (X < wx.heap.size) ∧ Hid (Both w1.heap.size w2.heap.size B R ((t + 1) * 400) n (t + 1) w.heap.size w wx D'))
          case first =>
            by_cases g0 : q = 0
            · subst g0
              have CL := Lib.hid (layX a s HSZ.out HD.out HS9.out)
              have SL := Lib.hid (short_lay a s HS.out)
              clear c0 c1 c2 c3
              go_wp2_with fail
              refine CL.out.mono ?_
              rintro e w5 ⟨rfl, F5, d5, k5, n5⟩
              have r5 : w5.heap[X]? = _ := (k5.block X HX2.out (fun h => by have := HXF.out X h; omega)).trans HRX.out
              have G5 := Lib.hid (rdisk_after HG.out HFG.out k5)
              have CR := Lib.hid (rlayX a s HSZ.out G5.out HC1.out HS9.out)
              obtain ⟨y0, y1, y2, y3⟩ := four_cells r5
              have HR5 := Lib.hid r5
              have D5 := Lib.hid d5
              have K5 := Lib.hid k5
              have N5 := Lib.hid n5
              clear d5 k5 n5 r5 CL
              go_wp2_with fail
              refine CR.out.mono ?_
              rintro e w6 ⟨rfl, G6, d6, k6, n6⟩
              have HR6 : Hid (w6.heap[X]? = _) := (k6.block X (Nat.lt_of_lt_of_le HX2.out K5.out.size) (fun h => by have := HXG.out X h; omega)).trans HR5.out
              have HX6 : Hid (X < w6.heap.size) := Nat.lt_of_lt_of_le HX2.out (Nat.le_trans K5.out.size k6.size)
              have HBO6 := Lib.hid ((both_step (t := t + 1) (n := n) HA1.out HA2.out HD.out HG.out HFG.out HB.out HAB4.out D5.out K5.out N5.out d6 k6 n6 SL.out.1 (SL.out.2.trans HN.out)).mono HC2.out)
              clear d6 k6 n6 CR
              go_wp2_with fail
              go_meet
              exact ⟨_, _, rfl, rfl, HR6.out, HX6.out, HBO6.out⟩
            · by_cases g1 : q = 1
              · subst g1
                have CL := Lib.hid (barX HD.out)
                have SL := Lib.hid (short_bar HS.out)
                clear c0 c1 c2 c3
                go_wp2_with fail
                refine CL.out.mono ?_
                rintro e w5 ⟨rfl, F5, d5, k5, n5⟩
                have r5 : w5.heap[X]? = _ := (k5.block X HX2.out (fun h => by have := HXF.out X h; omega)).trans HRX.out
                have G5 := Lib.hid (rdisk_after HG.out HFG.out k5)
                have CR := Lib.hid (rbarX G5.out HC1.out)
                obtain ⟨y0, y1, y2, y3⟩ := four_cells r5
                have HR5 := Lib.hid r5
                have D5 := Lib.hid d5
                have K5 := Lib.hid k5
                have N5 := Lib.hid n5
                clear d5 k5 n5 r5 CL
                go_wp2_with fail
                refine CR.out.mono ?_
                rintro e w6 ⟨rfl, G6, d6, k6, n6⟩
                have HR6 : Hid (w6.heap[X]? = _) := (k6.block X (Nat.lt_of_lt_of_le HX2.out K5.out.size) (fun h => by have := HXG.out X h; omega)).trans HR5.out
                have HX6 : Hid (X < w6.heap.size) := Nat.lt_of_lt_of_le HX2.out (Nat.le_trans K5.out.size k6.size)
                have HBO6 := Lib.hid ((both_step (t := t + 1) (n := n) HA1.out HA2.out HD.out HG.out HFG.out HB.out HAB4.out D5.out K5.out N5.out d6 k6 n6 SL.out.1 (SL.out.2.trans HN.out)).mono HC3.out)
                clear d6 k6 n6 CR
                go_wp2_with fail
                go_meet
                exact ⟨_, _, rfl, rfl, HR6.out, HX6.out, HBO6.out⟩
              · by_cases g2 : q = 2
                · subst g2
                  have CL := Lib.hid (limX a a2 HD.out)
                  clear c0 c1 c2 c3
                  go_wp2_with fail
                  refine CL.out.mono ?_
                  rintro e w5 ⟨rfl, F5, d5, k5, n5⟩
                  have r5 : w5.heap[X]? = _ := (k5.block X HX2.out (fun h => by have := HXF.out X h; omega)).trans HRX.out
                  have G5 := rdisk_after HG.out HFG.out k5
                  obtain ⟨l1, l2, ⟨z1, l3⟩, l4, ⟨z0, l5⟩⟩ := rlimX a a2 G5
                  obtain ⟨y0, y1, y2, y3⟩ := four_cells r5
                  have HR6 : Hid ((w5.setCell ⟨R, 1, none⟩ (.int .i64 (if a < -1 then -1 else a))).heap[X]? = _) := (l2.block X (Nat.lt_of_lt_of_le HX2.out k5.size) (fun h => by have := HXG.out X h; omega)).trans r5
                  have HX6 : Hid (X < (w5.setCell ⟨R, 1, none⟩ (.int .i64 (if a < -1 then -1 else a))).heap.size) := Nat.lt_of_lt_of_le HX2.out (Nat.le_trans k5.size l2.size)
                  have HBO6 := Lib.hid ((both_step (t := t + 1) (n := n) HA1.out HA2.out HD.out HG.out HFG.out HB.out HAB4.out d5 k5 n5 l1 l2 (fun g q => .inl q) (short_mono HS.out (by omega)) HN.out).mono (show t * 400 ≤ (t + 1) * 400 by omega))
                  clear d5 k5 n5 r5 CL G5 l1 l2
                  by_cases hl : a < -1
                  · have hl2 : max a (-1) = -1 := by omega
                    rw [if_pos hl] at HR6 HX6 HBO6
                    go_wp2_with fail
                    go_meet
                    exact ⟨false, _, rfl, rfl, HR6.out, HX6.out, HBO6.out⟩
                  · have hl2 : max a (-1) = a := by omega
                    rw [if_neg hl] at HR6 HX6 HBO6
                    go_wp2_with fail
                    go_meet
                    exact ⟨false, _, rfl, rfl, HR6.out, HX6.out, HBO6.out⟩
                · by_cases g3 : q = 3
                  · subst g3
                    have CL := Lib.hid (fallX pk HP.out HZ.out HPF.out HD.out HS9.out)
                    have SL := Lib.hid (short_fall (D := D) pk (t + 1))
                    clear c0 c1 c2 c3
                    go_wp2_with fail
                    refine CL.out.mono ?_
                    rintro e w5 ⟨rfl, F5, d5, k5, n5⟩
                    have r5 : w5.heap[X]? = _ := (k5.block X HX2.out (fun h => by have := HXF.out X h; omega)).trans HRX.out
                    have G5 := Lib.hid (rdisk_after HG.out HFG.out k5)
                    have HP5 : Hid (Rk.RowK 1 w5 (.slice pa pn pc) (cellsZ pk)) := by
                      by_cases hne : pk = []
                      · have h1 := HP.out
                        subst hne
                        exact rowk_empty h1
                      · exact rowk_same HP.out k5.size (fun b e => k5.block b (Nat.lt_of_lt_of_le (HPO.out hne b e) HAB4.out) (HPF.out hne b e))
                    have CR := Lib.hid (rfallX pk HP5.out HZ.out HPG.out G5.out HC1.out HS9.out)
                    obtain ⟨y0, y1, y2, y3⟩ := four_cells r5
                    have HR5 := Lib.hid r5
                    have D5 := Lib.hid d5
                    have K5 := Lib.hid k5
                    have N5 := Lib.hid n5
                    clear d5 k5 n5 r5 CL
                    go_wp2_with fail
                    refine CR.out.mono ?_
                    rintro e w6 ⟨rfl, G6, d6, k6, n6⟩
                    have HR6 : Hid (w6.heap[X]? = _) := (k6.block X (Nat.lt_of_lt_of_le HX2.out K5.out.size) (fun h => by have := HXG.out X h; omega)).trans HR5.out
                    have HX6 : Hid (X < w6.heap.size) := Nat.lt_of_lt_of_le HX2.out (Nat.le_trans K5.out.size k6.size)
                    have HBO6 := Lib.hid ((both_step (t := t + 1) (n := n) HA1.out HA2.out HD.out HG.out HFG.out HB.out HAB4.out D5.out K5.out N5.out d6 k6 n6 SL.out.1 (SL.out.2.trans HN.out)).mono HC3.out)
                    clear d6 k6 n6 CR
                    go_wp2_with fail
                    go_meet
                    exact ⟨false, _, rfl, rfl, HR6.out, HX6.out, HBO6.out⟩
                  · have HBO6 : Hid (Both w1.heap.size w2.heap.size B R ((t + 1) * 400) n (t + 1) w.heap.size w W4 D) := Both.mono ⟨F, G, HD.out, HG.out, HFG.out, short_mono HS.out (by omega), HN.out, HB.out⟩ (show t * 400 ≤ (t + 1) * 400 by omega)
                    clear c0 c1 c2 c3
                    go_wp2_with fail
                    go_meet
                    exact ⟨false, _, rfl, rfl, HRX.out, HX2.out, HBO6.out⟩
          case rest =>
            obtain ⟨wo, hwo⟩ : ∃ wo : World, wo = wc := ⟨_, rfl⟩
            subst hwo
            obtain ⟨bb, D', rfl, rfl, HRo, HXo, HBo⟩ := hcut
            have HAo : Hid (w.heap.size ≤ wo.heap.size) := by obtain ⟨_, _, _, _, _, _, _, h⟩ := HBo.out; exact h.size
            clear HR HW4 HXE c0 c1 c2 c3 HRX HX2 HXF HXG x0 x1 x2 x3 HP HPO HPF HPG HD HG HFG HS9 HS HN HB HAB4 HZ HSZ HC1 HC2 HC3 HAB
            go_upto_region 28 with fail
            go_cut [168] from 149 to 168 (fun z wx => z = .bool false ∧ Hid (Below wo.heap.size wo wx))
            case first =>
              obtain ⟨Fo, Go, hDo, hGo, hFGo, hSo, hNo, hBo⟩ := HBo.out
              have HOn : Hid (∀ w', Below wo.heap.size wo w' → Calls Try.prog 11 #[.pointer (some ⟨B, 0, none⟩)] w' fun e w'' => e = .returned (.bool (!D'.off)) ∧ w' = w'') := fun w' hb => onX (hDo.below hb)
              have HLo : Hid (∀ w', Below wo.heap.size wo w' → Calls Try.prog 13 #[.pointer (some ⟨B, 0, none⟩)] w' (Listed w' (looseL D'))) := fun w' hb => looseX (hDo.below hb)
              have HRl : Hid (∀ w', Below wo.heap.size wo w' → Calls Try.prog 20 #[.pointer (some ⟨R, 0, none⟩)] w' (Listed w' (looseL D'))) := fun w' hb => rlooseX (hGo.below hb)
              have HRc : Hid (∀ w', Below wo.heap.size wo w' → Below wo.heap.size wo w' ∧ w'.cell? ⟨R, 2, none⟩ = some (.bool D'.off)) := fun w' hb => ⟨hb, (roff (hGo.below hb)).1⟩
              have e1 : (bb != bb) = false := by cases bb <;> rfl
              have e2 : ((!D'.off) == D'.off) = false := by cases D'.off <;> rfl
              generalize looseL D' = LL at *
              generalize D'.off = of at *
              clear hDo hGo hFGo hSo hNo hBo
              go_region_held3 (fun w' => Below wo.heap.size wo w' ∧ w'.cell? ⟨R, 2, none⟩ = some (.bool of))
                ((refine HRc.out _ ?_; focus ((repeat first | with_reducible assumption | with_reducible exact Below.refl _ _ | with_reducible exact KB.out | with_reducible exact KA.out | with_reducible apply Below.drew | with_reducible apply below_drews); done)))
                (first
                  | (go_at_call 11; (with_reducible refine (HOn.out _ (by (repeat first | with_reducible exact Below.refl _ _ | with_reducible exact KB.out | with_reducible exact KA.out | with_reducible apply Below.drew | with_reducible apply below_drews))).mono ?_); rintro e wa ⟨rfl, rfl⟩)
                  | (go_at_call 13; (with_reducible refine (HLo.out _ (by (repeat first | with_reducible exact Below.refl _ _ | with_reducible exact KB.out | with_reducible exact KA.out | with_reducible apply Below.drew | with_reducible apply below_drews))).mono ?_); rintro e wa ⟨va1, rfl, ra, -, ba⟩; have ka : Below wo.heap.size wo wa := below_on (by (repeat first | with_reducible exact Below.refl _ _ | with_reducible exact KB.out | with_reducible exact KA.out | with_reducible apply Below.drew | with_reducible apply below_drews)) ba; have RA : Hid (∀ w', Below wa.heap.size wa w' → Rk.RowK 1 w' va1 (cellsN LL)) := fun w' hb => ra.below hb (Nat.le_refl _); (first | (have JA : Hid (Below wb.heap.size wb wa) := below_on (by (repeat first | with_reducible exact Below.refl _ _ | with_reducible apply Below.drew)) ba) | skip); have KA := Lib.hid ka; clear ra ba ka)
                  | (go_at_call 20; (with_reducible refine (HRl.out _ (by (repeat first | with_reducible exact Below.refl _ _ | with_reducible exact KB.out | with_reducible exact KA.out | with_reducible apply Below.drew | with_reducible apply below_drews))).mono ?_); rintro e wb ⟨vb1, rfl, rb, -, bb9⟩; have kb : Below wo.heap.size wo wb := below_on (by (repeat first | with_reducible exact Below.refl _ _ | with_reducible exact KB.out | with_reducible exact KA.out | with_reducible apply Below.drew | with_reducible apply below_drews)) bb9; have RB : Hid (∀ w', Below wb.heap.size wb w' → Rk.RowK 1 w' vb1 (cellsN LL)) := fun w' hb => rb.below hb (Nat.le_refl _); (first | (have JB : Hid (Below wa.heap.size wa wb) := below_on (by (repeat first | with_reducible exact Below.refl _ _ | with_reducible apply Below.drew)) bb9) | skip); have KB := Lib.hid kb; clear rb bb9 kb)
                  | (go_at_call 19; (with_reducible refine (ints_same (L := LL) _ (RA.out _ (by (repeat first | with_reducible exact Below.refl _ _ | with_reducible exact JB.out | with_reducible apply Below.drew))) (RB.out _ (by (repeat first | with_reducible exact Below.refl _ _ | with_reducible exact JA.out | with_reducible apply Below.drew)))).mono ?_); rintro e wi ⟨rfl, qi, rfl⟩))
              all_goals go_wp2_with fail
              all_goals go_meet
              all_goals exact ⟨rfl, (show Below wo.heap.size wo _ from by (repeat first | with_reducible assumption | with_reducible exact Below.refl _ _ | with_reducible exact KB.out | with_reducible exact KA.out | with_reducible apply Below.drew | with_reducible apply below_drews))⟩
            case rest =>
              obtain ⟨wz, hwz⟩ : ∃ wz : World, wz = wc := ⟨_, rfl⟩
              subst hwz
              obtain ⟨rfl, HBZ⟩ := hcut
              have HBO := Lib.hid (HBo.out.below HAo.out HBZ.out)
              have hX9 : wz.heap[X]? = _ := (HBZ.out.block X HXo.out).trans HRo.out
              obtain ⟨x0, x1, x2, x3⟩ := four_cells hX9
              have HAz : Hid (w.heap.size ≤ wz.heap.size) := Nat.le_trans HAo.out HBZ.out.size
              obtain ⟨bx, rx, lx⟩ := box1 wz #[.int .i64 (-1), .int .i64 a, .int .i64 (n : Nat)] 3
              obtain ⟨W5, hW5⟩ : ∃ W5, W5 = wz.alloc (.cells #[.int .i64 (-1), .int .i64 a, .int .i64 (n : Nat)] 3) := ⟨_, rfl⟩
              rw [← hW5] at bx rx lx
              have HBO5 := Lib.hid (HBO.out.below HAz.out bx)
              have HW5 := Lib.hid hW5
              obtain ⟨Y, hY⟩ : ∃ Y, Y = wz.heap.size := ⟨_, rfl⟩
              have HYE := Lib.hid hY
              rw [← hY] at rx lx
              have HRY := Lib.hid rx
              have HYL : Hid (Y < W5.heap.size) := by show Y < _; omega
              have HA5 : Hid (w.heap.size ≤ W5.heap.size) := Nat.le_trans HAz.out bx.size
              clear hX9 bx rx lx hW5 hY HBo HRo
              go_upto_region 31 with fail
              rw [← HW5.out, ← HYE.out]
              go_loopg [16, 17, 18, 19, 20, 174] 3 (fun gg _ _ _ _ _ i_ wr => ∃ k : Nat, k ≤ 3 ∧ 3 - k ≤ gg ∧ i_ = .int .i64 k ∧ Hid (Below W5.heap.size W5 wr))
              case atStart => exact ⟨0, by omega, by omega, rfl, Below.refl _ _⟩
              case round =>
                obtain ⟨k, hk3, hgk, rfl, HBk⟩ := hrel
                by_cases hkl : k < 3
                · have kw : (k : Int) < 3 := by omega
                  have k0 : (0 : Int) ≤ (k : Nat) := by omega
                  obtain ⟨x, hxc⟩ := three_at ((HBk.out.block Y HYL.out).trans HRY.out) hkl
                  obtain ⟨Fk, Gk, hDk, hGk, _, _, _, _⟩ := HBO5.out.below HA5.out HBk.out
                  have CG := Lib.hid (getX x hDk)
                  have CR := Lib.hid (rgetX x hGk)
                  have ss := str_self (getS D' x)
                  have bs := bool_self (getB D' x)
                  generalize getS D' x = r at *
                  generalize getB D' x = rb at *
                  clear hDk hGk
                  go_wp2_with fail
                  refine CG.out.mono ?_
                  rintro e w6 ⟨rfl, rfl⟩
                  go_wp2_with fail
                  refine CR.out.mono ?_
                  rintro e w7 ⟨rfl, b7⟩
                  have HB7 := Lib.hid (below_on HBk.out b7)
                  clear b7
                  go_wp2_with fail
                  go_roundg (3 - (k + 1))
                  case measure => omega
                  case rel => exact ⟨k + 1, by omega, Nat.le_refl _, by go_num, HB7.out⟩
                · obtain rfl : k = 3 := by omega
                  have kw : ¬ ((3 : Nat) : Int) < 3 := by omega
                  have HBf := Lib.hid (HBO5.out.below HA5.out HBk.out)
                  go_wp2_with fail
                  go_roundg (m - (t + 1))
                  case measure => omega
                  case rel => exact ⟨t + 1, D', by omega, Nat.le_refl _, by go_num, ht100, HBf.out⟩
      · obtain rfl : t = m := by omega
        have iw : ¬ ((t : Int) < (t : Nat)) := by omega
        go_wp2_with fail
        go_meet
        exact ⟨t, D, h100, HR.out⟩
  case rest =>
    obtain ⟨wo, hwo⟩ : ∃ wo : World, wo = wc := ⟨_, rfl⟩
    subst hwo
    obtain ⟨t, D, HT, HR⟩ := hcut
    have HAo : Hid (w.heap.size ≤ wo.heap.size) := by obtain ⟨_, _, _, _, _, _, _, h⟩ := HR.out; exact h.size
    have HBW : Hid (Below w.heap.size w wo) := by obtain ⟨_, _, _, _, _, _, _, h⟩ := HR.out; exact h
    go_wp2_with fail
    go_loopg [21, 22, 23, 24, 25, 201] n (fun gg _ _ _ _ _ i_ wr => ∃ k : Nat, k ≤ n ∧ n - k ≤ gg ∧ i_ = .int .i64 k ∧ Hid (Below wo.heap.size wo wr))
    case atStart => exact ⟨0, by omega, by omega, rfl, Below.refl _ _⟩
    case round =>
      obtain ⟨k, hk3, hgk, rfl, HBk⟩ := hrel
      by_cases hkl : k < n
      · have kw : (k : Int) < (n : Nat) := by omega
        have k0 : (0 : Int) ≤ (k : Nat) := by omega
        obtain ⟨Fk, Gk, hDk, hGk, _, _, _, _⟩ := HR.out.below HAo.out HBk.out
        have CG := Lib.hid (getX (k : Nat) hDk)
        have CR := Lib.hid (rgetX (k : Nat) hGk)
        have ss := str_self (getS D (k : Nat))
        have bs := bool_self (getB D (k : Nat))
        generalize getS D (k : Nat) = r at *
        generalize getB D (k : Nat) = rb at *
        clear hDk hGk
        go_wp2_with fail
        refine CG.out.mono ?_
        rintro e w6 ⟨rfl, rfl⟩
        go_wp2_with fail
        refine CR.out.mono ?_
        rintro e w7 ⟨rfl, b7⟩
        have HB7 := Lib.hid (below_on HBk.out b7)
        clear b7
        go_wp2_with fail
        go_roundg (n - (k + 1))
        case measure => omega
        case rel => exact ⟨k + 1, by omega, Nat.le_refl _, by go_num, HB7.out⟩
      · obtain rfl : k = n := by omega
        have kw : ¬ ((k : Int) < (k : Nat)) := by omega
        have HBf := Lib.hid (HBW.out.trans (HBk.out.mono HAo.out))
        go_wp2_with fail
        go_ret
        exact ⟨rfl, HBf.out⟩
end Go.Proofs.Ytegnpkolmnmeiaa.Plt
