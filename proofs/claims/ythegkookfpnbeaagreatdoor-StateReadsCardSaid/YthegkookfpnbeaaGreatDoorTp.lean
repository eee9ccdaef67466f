/- State: the walk of StateReads. -/
import Derived.Test.YthegkookfpnbeaaGreatDoorTn
set_option linter.unusedVariables false
set_option linter.unusedSimpArgs false
set_option maxRecDepth 100000
namespace Go.Proofs.YthegkookfpnbeaaGreatDoor.Sta
open Go.RowKit Go.Lib Go.Proofs.YthegkookfpnbeaaGreatDoor.Bx Go.Proofs.YthegkookfpnbeaaGreatDoor.Frm Go.Proofs.YthegkookfpnbeaaGreatDoor.Wds

theorem fresh_one : (writeE (freshS [(-1, 0, [0], [0])] 1)).2 = true ∧ (writeE (freshS [(-1, 0, [0], [0])] 1)).1.length = 72 ∧ (staC.enc (freshS [(-1, 0, [0], [0])] 1)).length = 72 := by decide +kernel
theorem readE_is (s : List UInt8) : readE s = readA staC zeroS s := rfl
theorem writeE_is (S : Sta) : writeE S = writeA staC S := rfl
theorem rd_zero {s : List UInt8} (h : (readE s).2 = false) : readE s = (zeroS, false) := by
  rw [readE_is] at h ⊢
  exact read_no h
theorem rd_enc {s : List UInt8} (h : (readE s).2 = true) : staC.enc (readE s).1 = s := by
  rw [readE_is] at h ⊢
  exact (read_yes (c := staC) (z := zeroS) staC_ok h).2.2
theorem rd_write {s : List UInt8} (h : (readE s).2 = true) : writeE (readE s).1 = (s, true) := by
  have h2 := rd_enc h
  rw [writeE_is]
  rw [readE_is] at h h2 ⊢
  rw [write_fit staC_ok (read_yes (c := staC) (z := zeroS) staC_ok h).1, h2]
theorem rd_more {s m : List UInt8} (h : (readE s).2 = true) (hm : m ≠ []) : readE (s ++ m) = (zeroS, false) := rd_zero (by
  rw [readE_is] at h ⊢
  exact read_more (c := staC) (z := zeroS) staC_ok h hm)
theorem rd_less {s : List UInt8} {k : Nat} (h : (readE s).2 = true) (hk : k < s.length) : readE (s.take k) = (zeroS, false) := rd_zero (by
  rw [readE_is] at h ⊢
  exact read_less (c := staC) (z := zeroS) staC_ok h hk)
theorem slice_to (w : World) (l : List UInt8) {j : Nat} (hj : j ≤ l.length) : (Instr.slice 9 (.string (mkB l)) none (some (.int .i64 (j : Nat))) none).run Tryz.prog w = .ok (.string (mkB (l.take j))) w := by
  rw [run_slice_string_to_if w 9 (mkB l) .i64 (j : Int) Tryz.underlying9, if_pos ⟨by omega, by rw [mkB_size]; omega⟩]
  show Result.ok (Value.string ((mkB l).extract 0 (j : Int).toNat)) w = _
  rw [mkB_extract, Int.toNat_natCast, List.drop_zero]
set_option maxHeartbeats 16000000 in
theorem reads_walk (s m : List UInt8) (cut : Int) (hs : s.length ≤ 140737488355328) (hm : m.length ≤ 140737488355328) (w : World) (hR : Slt.Roots w) : Calls Tryz.prog 6 #[.string (mkB s), .int .i64 cut, .string (mkB m)] w fun e w' => e = .returned (.bool true) ∧ Below w.heap.size w w' := by
  have C1 := Lib.hid (one_ok w hR)
  obtain ⟨F0, hF0⟩ : ∃ F0, F0 = mkB (writeE (freshS [(-1, 0, [0], [0])] 1)).1 := ⟨_, rfl⟩
  have hF : F0.size = 72 := by rw [hF0, mkB_size]; exact fresh_one.2.1
  have HF := Lib.hid hF0
  obtain ⟨n, hn⟩ : ∃ n, n = s.length := ⟨_, rfl⟩
  obtain ⟨q, hq⟩ : ∃ q, q = m.length := ⟨_, rfl⟩
  obtain ⟨st, hst⟩ : ∃ st, st = mkB s := ⟨_, rfl⟩
  obtain ⟨mt, hmt⟩ : ∃ mt, mt = mkB m := ⟨_, rfl⟩
  have sz : st.size = n := by rw [hst, mkB_size, hn]
  have sz2 : mt.size = q := by rw [hmt, mkB_size, hq]
  rw [← hn] at hs
  rw [← hq] at hm
  rw [← hst, ← hmt]
  have HNN := Lib.hid (And.intro hn (And.intro hst (And.intro hq hmt)))
  clear hn hst hq hmt hR hF0
  go_enter Tryz.func6, Tryz.ntmps6
  go_wp2_with fail
  refine C1.out.mono ?_
  rintro e w1 ⟨U, t, v1, rfl, b1, _, _, hrow⟩
  have C2 := Lib.hid (fresh_ok w1 (some ⟨U, 0, none⟩) 1 1 v1 [(-1, 0, [0], [0])] 9 2 2 1 1 5 0 hrow (by decide) (by intro x hx; simp only [List.mem_singleton] at hx; subst hx; decide) (by decide))
  have HB1 := Lib.hid b1
  clear b1 hrow C1
  go_wp2_with fail
  refine C2.out.mono ?_
  rintro e w2 ⟨v, rfl, ⟨cs, rfl, hcs⟩, b2⟩
  have C3 : Hid (Calls Tryz.prog 19 #[.agg cs.toArray] w2 fun e w' => e = .returned (.tuple #[.string F0, .bool true]) ∧ Below w2.heap.size w2 w') := by
    have h := write_ok (freshS [(-1, 0, [0], [0])] 1) cs w2 hcs (by rw [fresh_one.2.2]; decide)
    rw [fresh_one.1, ← HF.out] at h
    exact h
  have HB2 := Lib.hid (below_on HB1.out b2)
  clear b2 HB1 C2 HF hcs
  go_wp2_with fail
  refine C3.out.mono ?_
  rintro e w3 ⟨rfl, b3⟩
  have HB := Lib.hid (below_on HB2.out b3)
  clear b3 HB2 C3
  by_cases c_0 : 5000 < n
  · have g : (5000 : Int) < (n : Int) := by omega
    have gd : decide ((5000 : Int) < (n : Int)) = true := decide_eq_true g
    go_wp2_with fail
    go_ret
    exact ⟨rfl, HB.out⟩
  · have g0 : ¬ (5000 : Int) < (n : Int) := by omega
    have gd0 : decide ((5000 : Int) < (n : Int)) = false := decide_eq_false g0
    by_cases c_1 : 5000 < q
    · have g : (5000 : Int) < (q : Int) := by omega
      have gd : decide ((5000 : Int) < (q : Int)) = true := decide_eq_true g
      go_wp2_with fail
      go_ret
      exact ⟨rfl, HB.out⟩
    · have g1 : ¬ (5000 : Int) < (q : Int) := by omega
      have gd1 : decide ((5000 : Int) < (q : Int)) = false := decide_eq_false g1
      by_cases c_2 : m = []
      · have g2 : mt.toList.isEmpty = true := by rw [HNN.out.2.2.2, c_2]; exact empty_yes
        go_wp2_with fail
        go_ret
        exact ⟨rfl, HB.out⟩
      · have g2 : mt.toList.isEmpty = false := by rw [HNN.out.2.2.2]; exact empty_no c_2
        obtain ⟨s3, hs3⟩ : ∃ s3, s3 = mkB (s ++ m) := ⟨_, rfl⟩
        have XA : ∀ w, (Op.stringOp .add st mt).run Tryz.prog w = .ok (.string s3) w := fun w => by
          rw [hs3, ← mkB_app, ← HNN.out.2.1, ← HNN.out.2.2.2]
          exact run_string_add_sum w _ _ (by rw [sz, sz2]; omega)
        have HS3 := Lib.hid hs3
        have HM : Hid (m ≠ []) := c_2
        obtain ⟨k, hk⟩ : ∃ k, k = (readE s).2 := ⟨_, rfl⟩
        obtain ⟨S, hS⟩ : ∃ S, S = (readE s).1 := ⟨_, rfl⟩
        have HA1 : Hid (∀ w', Calls Tryz.prog 21 #[.string st] w' fun e w'' => ∃ v, e = .returned (.tuple #[v, .bool k]) ∧ StO w'.heap.size w'' v S ∧ Below w'.heap.size w' w'') := fun w' => by
          have h := read_ok s w' (by rw [← HNN.out.1]; omega)
          rw [← hk, ← hS, ← HNN.out.2.1] at h
          exact h
        have HK := Lib.hid (And.intro hk hS)
        clear hs3 c_2 hk hS
        go_wp2_with fail
        refine (HA1.out _).mono ?_
        rintro e w4 ⟨_, rfl, ⟨cs, rfl, hcs⟩, bw4⟩
        obtain ⟨u3, c3, u4, c4, u5, c5, u6, c6, u7, c7, rfl, _, _, _, _, _⟩ := staM_cells hcs
        have HC := Lib.hid hcs
        clear hcs
        obtain ⟨x0, hx0⟩ : ∃ x, x = S.1 := ⟨_, rfl⟩
        obtain ⟨x1, hx1⟩ : ∃ x, x = S.2.1 := ⟨_, rfl⟩
        obtain ⟨x2, hx2⟩ : ∃ x, x = S.2.2.1 := ⟨_, rfl⟩
        obtain ⟨n3, hn3⟩ : ∃ n, n = S.2.2.2.1.length := ⟨_, rfl⟩
        obtain ⟨n4, hn4⟩ : ∃ n, n = S.2.2.2.2.1.length := ⟨_, rfl⟩
        obtain ⟨n5, hn5⟩ : ∃ n, n = S.2.2.2.2.2.1.length := ⟨_, rfl⟩
        obtain ⟨n6, hn6⟩ : ∃ n, n = S.2.2.2.2.2.2.1.length := ⟨_, rfl⟩
        obtain ⟨n7, hn7⟩ : ∃ n, n = S.2.2.2.2.2.2.2.length := ⟨_, rfl⟩
        rw [← hx0, ← hx1, ← hx2, ← hn3, ← hn4, ← hn5, ← hn6, ← hn7] at HC ⊢
        have HX := Lib.hid (And.intro hx0 (And.intro hx1 (And.intro hx2 (And.intro hn3 (And.intro hn4 (And.intro hn5 (And.intro hn6 hn7)))))))
        clear hx0 hx1 hx2 hn3 hn4 hn5 hn6 hn7
        obtain ⟨bN, zz, _⟩ := box1 w4 #[.int .i64 x0, .int .i64 x1, .int .i64 x2, .slice u3 n3 c3, .slice u4 n4 c4, .slice u5 n5 c5, .slice u6 n6 c6, .slice u7 n7 c7] 34
        obtain ⟨W4, hW4⟩ : ∃ W4, W4 = w4.alloc (.cells #[.int .i64 x0, .int .i64 x1, .int .i64 x2, .slice u3 n3 c3, .slice u4 n4 c4, .slice u5 n5 c5, .slice u6 n6 c6, .slice u7 n7 c7] 34) := ⟨_, rfl⟩
        rw [← hW4] at bN zz
        have HBb : Hid (Below w.heap.size w W4) := below_on (below_on HB.out bw4) bN
        have HCN : Hid (staM.R (fun _ => True) W4 _ S) := staM_ok.mono (staM_ok.keep HC.out (Keep.below bN)) fun _ _ _ => trivial
        clear HC
        have HhW4 := Lib.hid hW4
        clear bN bw4 hW4 HB
        have HB := HBb
        clear HBb
        have HZ := Lib.hid zz
        clear zz
        go_upto_region 7 with fail
        rw [← HhW4.out]
        clear HhW4 HA1
        obtain ⟨R, hRR⟩ : ∃ R, R = w4.heap.size := ⟨_, rfl⟩
        rw [← hRR] at HZ ⊢
        clear hRR
        cases k with
        | false =>
          have hz : S = zeroS := by rw [HK.out.2, rd_zero HK.out.1.symm]
          have e0 : x0 = 0 := by rw [HX.out.1, hz]; rfl
          have e1 : x1 = 0 := by rw [HX.out.2.1, hz]; rfl
          have e2 : x2 = 0 := by rw [HX.out.2.2.1, hz]; rfl
          have e3 : n3 = 0 := by rw [HX.out.2.2.2.1, hz]; rfl
          have e4 : n4 = 0 := by rw [HX.out.2.2.2.2.1, hz]; rfl
          have e5 : n5 = 0 := by rw [HX.out.2.2.2.2.2.1, hz]; rfl
          have e6 : n6 = 0 := by rw [HX.out.2.2.2.2.2.2.1, hz]; rfl
          have e7 : n7 = 0 := by rw [HX.out.2.2.2.2.2.2.2, hz]; rfl
          clear HX hz HK HCN
          subst e0 e1 e2 e3 e4 e5 e6 e7
          obtain ⟨y0, y1, y2, y3, y4, y5, y6, y7⟩ := eight_cells HZ.out
          have CZ := Lib.hid (same_zero u3 u4 u5 u6 u7 c3 c4 c5 c6 c7 W4)
          clear HZ
          go_wp2_with fail
          refine CZ.out.mono ?_
          rintro e w5 ⟨rfl, b5⟩
          have HB5 := Lib.hid (below_on HB.out b5)
          clear HB
          have HB := HB5
          clear b5 HB5
          go_wp2_with fail
          go_ret
          exact ⟨rfl, HB.out⟩
        | true =>
          obtain ⟨y0, y1, y2, y3, y4, y5, y6, y7⟩ := eight_cells HZ.out
          have hy : (readE s).2 = true := HK.out.1.symm
          have hW : writeE S = (s, true) := by rw [HK.out.2]; exact rd_write hy
          have hE : staC.enc S = s := by rw [HK.out.2]; exact rd_enc hy
          have CW : Hid (Calls Tryz.prog 19 #[.agg #[.int .i64 x0, .int .i64 x1, .int .i64 x2, .slice u3 n3 c3, .slice u4 n4 c4, .slice u5 n5 c5, .slice u6 n6 c6, .slice u7 n7 c7]] W4 fun e w' => e = .returned (.tuple #[.string st, .bool true]) ∧ Below W4.heap.size W4 w') := by
            have h := write_ok S _ W4 HCN.out (by rw [hE, ← HNN.out.1]; omega)
            rw [hW, ← HNN.out.2.1] at h
            exact h
          have HA3 : Hid (∀ w', Calls Tryz.prog 21 #[.string s3] w' fun e w'' => ∃ v, e = .returned (.tuple #[v, .bool false]) ∧ StO w'.heap.size w'' v zeroS ∧ Below w'.heap.size w' w'') := fun w' => by
            have h := read_ok (s ++ m) w' (by rw [List.length_append, ← HNN.out.1, ← HNN.out.2.2.1]; omega)
            rw [rd_more hy HM.out, ← HS3.out] at h
            exact h
          have HA2 : Hid (∀ (j : Nat), j < n → ∀ w', Calls Tryz.prog 21 #[.string (mkB (s.take j))] w' fun e w'' => ∃ v, e = .returned (.tuple #[v, .bool false]) ∧ StO w'.heap.size w'' v zeroS ∧ Below w'.heap.size w' w'') := fun j hj w' => by
            have h := read_ok (s.take j) w' (by rw [List.length_take, ← HNN.out.1]; omega)
            rw [rd_less hy (by rw [← HNN.out.1]; exact hj)] at h
            exact h
          clear hE hW hy HCN HK HX HZ HS3 HM
          go_wp2_with fail
          refine CW.out.mono ?_
          rintro e w5 ⟨rfl, b5⟩
          have HB5 := Lib.hid (below_on HB.out b5)
          clear HB
          have HB := HB5
          clear b5 HB5 CW y0 y1 y2 y3 y4 y5 y6 y7
          go_wp2_with fail
          refine (HA3.out _).mono ?_
          rintro e w6 ⟨_, rfl, ⟨cs, rfl, hcs⟩, bw6⟩
          obtain ⟨z3, zc3, z4, zc4, z5, zc5, z6, zc6, z7, zc7, rfl, _, _, _, _, _⟩ := staM_cells hcs
          clear hcs
          simp only [show zeroS.1 = 0 from rfl, show zeroS.2.1 = 0 from rfl, show zeroS.2.2.1 = 0 from rfl, show zeroS.2.2.2.1.length = 0 from rfl, show zeroS.2.2.2.2.1.length = 0 from rfl, show zeroS.2.2.2.2.2.1.length = 0 from rfl, show zeroS.2.2.2.2.2.2.1.length = 0 from rfl, show zeroS.2.2.2.2.2.2.2.length = 0 from rfl]
          obtain ⟨bN, zz, _⟩ := box1 w6 #[.int .i64 0, .int .i64 0, .int .i64 0, .slice z3 0 zc3, .slice z4 0 zc4, .slice z5 0 zc5, .slice z6 0 zc6, .slice z7 0 zc7] 34
          obtain ⟨W6, hW6⟩ : ∃ W6, W6 = w6.alloc (.cells #[.int .i64 0, .int .i64 0, .int .i64 0, .slice z3 0 zc3, .slice z4 0 zc4, .slice z5 0 zc5, .slice z6 0 zc6, .slice z7 0 zc7] 34) := ⟨_, rfl⟩
          rw [← hW6] at bN zz
          have HBb : Hid (Below w.heap.size w W6) := below_on (below_on HB.out bw6) bN
          have HhW6 := Lib.hid hW6
          clear bN bw6 hW6 HB
          have HB := HBb
          clear HBb
          clear zz
          go_upto_region 13 with fail
          rw [← HhW6.out]
          clear HhW6 HA3
          by_cases k1 : cut < 0
          · have k2 : ¬ (0 : Int) ≤ cut := by omega
            have k3 : ¬ cut ≥ 0 := by omega
            have kd : decide ((0 : Int) ≤ cut) = false := decide_eq_false k2
            go_wp2_with fail
            go_ret
            exact ⟨rfl, HB.out⟩
          · obtain ⟨j, rfl⟩ : ∃ j : Nat, cut = (j : Int) := ⟨cut.toNat, by omega⟩
            have k2 : (0 : Int) ≤ (j : Int) := by omega
            by_cases k3 : j < n
            · have k4 : (j : Int) < (n : Int) := by omega
              have kd : decide ((j : Int) < (n : Int)) = true := decide_eq_true k4
              obtain ⟨s2, hs2⟩ : ∃ s2, s2 = mkB (s.take j) := ⟨_, rfl⟩
              have XS : ∀ w, (Instr.slice 9 (.string st) none (some (.int .i64 (j : Nat))) none).run Tryz.prog w = .ok (.string s2) w := fun w => by
                rw [HNN.out.2.1, hs2]
                exact slice_to w s (by rw [← HNN.out.1]; omega)
              have HA4 : Hid (∀ w', Calls Tryz.prog 21 #[.string s2] w' fun e w'' => ∃ v, e = .returned (.tuple #[v, .bool false]) ∧ StO w'.heap.size w'' v zeroS ∧ Below w'.heap.size w' w'') := fun w' => by rw [hs2]; exact HA2.out j k3 w'
              clear HA2 hs2
              go_wp2_with fail
              refine (HA4.out _).mono ?_
              rintro e w8 ⟨_, rfl, ⟨cs, rfl, hcs⟩, b8⟩
              obtain ⟨u3, c3, u4, c4, u5, c5, u6, c6, u7, c7, rfl, _, _, _, _, _⟩ := staM_cells hcs
              have HB8 := Lib.hid (below_on HB.out b8)
              clear HB
              have HB := HB8
              clear b8 HB8 HA4 hcs
              go_wp2_with fail
              go_ret
              exact ⟨rfl, HB.out⟩
            · have k4 : ¬ (j : Int) < (n : Int) := by omega
              have kd : decide ((j : Int) < (n : Int)) = false := decide_eq_false k4
              clear HA2
              go_wp2_with fail
              go_ret
              exact ⟨rfl, HB.out⟩
end Go.Proofs.YthegkookfpnbeaaGreatDoor.Sta
