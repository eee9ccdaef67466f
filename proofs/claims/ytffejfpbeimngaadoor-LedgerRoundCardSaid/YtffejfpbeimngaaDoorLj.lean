/- Ledger: the plain text's Read. -/
import Derived.Test.YtffejfpbeimngaaDoorLg
set_option linter.unusedVariables false
set_option linter.unusedSimpArgs false
set_option maxRecDepth 100000
namespace Go.Proofs.YtffejfpbeimngaaDoor.Ldg
open Go.RowKit Go.Lib Go.Proofs.YtffejfpbeimngaaDoor.Bx Go.Proofs.YtffejfpbeimngaaDoor.Frm Go.Proofs.YtffejfpbeimngaaDoor.Wds Go.Proofs.YtffejfpbeimngaaDoor.Plt

def GaveR (w : World) (R : List (List UInt8)) : Ending → World → Prop := fun e w' => ∃ a c, e = .returned (.slice a R.length c) ∧ Frm.OStrs w.heap.size w' (.slice a R.length c) R ∧ Below w.heap.size w w'
theorem rows_cells {w : World} {a : Option Addr} {n cap : Nat} {Pl : List (List UInt8)} (h : Frm.Strs w (.slice a n cap) Pl) (hn : Pl.length = n) (h0 : 0 < n) : ∃ b off, a = some ⟨b, off, none⟩ ∧ ∀ w', Below w.heap.size w w' → ∀ j, j < n → w'.cell? ⟨b, off + j, none⟩ = some (.string (mkB (Frm.tx Pl j))) := by
  obtain ⟨b, off, rfl, hb, _⟩ := h.get (j := 0) (by omega)
  refine ⟨b, off, rfl, fun w' hw j hj => ?_⟩
  obtain ⟨b', off', e, hb', hc⟩ := (h.below hw).get (j := j) (by omega)
  injection e with e
  injection e with e1 e2
  subst e1 e2
  exact hc
set_option maxHeartbeats 32000000 in
theorem rread_any {w : World} {a0 : Option Addr} {n cap0 : Nat} (Pl : List (List UInt8)) (hP : Frm.Strs w (.slice a0 n cap0) Pl) (hn : Pl.length = n) (hl : ∀ j, j < n → (Frm.tx Pl j).length = 128) (h2 : 2 ≤ n) (h60 : n ≤ 60) (start number : Nat) (hs : start < n) (hnum : number ≤ 1099511627776) : Calls Tryd.prog 11 #[.slice a0 n cap0, .int .i64 (start : Nat), .int .i64 (number : Nat)] w (GaveR w (recsR (Frm.tx Pl) n start number n)) := by
  obtain ⟨b0, off, rfl, hcells⟩ := rows_cells hP hn (by omega)
  have CE := Lib.hid hcells
  obtain ⟨c, hc⟩ : ∃ c, c = Frm.tx Pl := ⟨_, rfl⟩
  rw [← hc] at CE ⊢
  have CC : Hid (∀ i, i < n → (c i).length = 128) := by show ∀ i, _ → _; rw [hc]; exact hl
  have hn0 : 0 < n := by omega
  obtain ⟨R, hR⟩ : ∃ R, R = recsR c n start number n := ⟨_, rfl⟩
  rw [← hR]
  have HR0 : Hid (R = [] ++ recsR c n start (number + ([] : List (List UInt8)).length) n) := by show _ = _; rw [hR]; rfl
  clear hR hc hP hl hn hcells
  go_enter Tryd.func11, Tryd.ntmps11
  go_wp2_with fail
  go_loopg [8, 9, 10] n (fun g s8 s9 s10 wr => ∃ (R1 : List (List UInt8)) (a : Option Addr) (cp p room : Nat), room ≤ g ∧ room ≤ n ∧ 2 * R1.length + room ≤ n ∧ p < n ∧ s8 = .slice a R1.length cp ∧ s9 = .int .i64 (p : Nat) ∧ s10 = .int .i64 (room : Nat) ∧ Hid (R = R1 ++ recsR c n p (number + R1.length) room) ∧ Hid (Frm.OStrs w.heap.size wr (.slice a R1.length cp) R1) ∧ Hid (Below w.heap.size w wr))
  case atStart => exact ⟨[], none, 0, start, n, Nat.le_refl _, Nat.le_refl _, by simp, hs, rfl, rfl, rfl, HR0.out, Frm.OStrs.nil_ _ _, Below.refl _ _⟩
  case round =>
    obtain ⟨R1, oa, oc, p, room, hg, hr1, hr2, hp, rfl, rfl, rfl, HRR, HST, HB⟩ := hrel
    obtain ⟨wo, hwo⟩ : ∃ wo : World, wo = wr := ⟨_, rfl⟩
    subst hwo
    have c0 := CE.out _ HB.out p hp
    obtain ⟨h, hh⟩ : ∃ h, h = c p := ⟨_, rfl⟩
    have hh128 : h.length = 128 := by rw [hh]; exact CC.out _ hp
    have hsz : (mkB h).size = 128 := by rw [mkB_size, hh128]
    have FN : Hid (recOf c n p (number + R1.length) room = none → GaveR w R (.returned (.slice oa R1.length oc)) wo) := fun e => by
      have e0 : R = R1 := by rw [HRR.out, recsR_none e, List.append_nil]
      rw [e0]
      exact ⟨_, _, rfl, HST.out, HB.out⟩
    have NO : Hid (isHead h (number + R1.length) = false → GaveR w R (.returned (.slice oa R1.length oc)) wo) := fun e => FN.out (rec_no (by rw [← hh]; exact e))
    rw [← hh] at c0
    have HH := Lib.hid hh
    clear hh
    have XI : Hid (∀ (i : Nat) (w : World), i < 128 → (Instr.index 9 (.string (mkB h)) (.int .i64 (i : Nat))).run Tryd.prog w = .ok (.int .u8 ((h.getD i 0).toNat : Nat)) w) := fun i w hi => Wds.byte_run w h .i64 (by omega)
    obtain ⟨q0, hq0⟩ : ∃ q, q = (h.getD 0 0).toNat := ⟨_, rfl⟩
    have XI0 : ∀ w, (Instr.index 9 (.string (mkB h)) (.int .i64 0)).run Tryd.prog w = .ok (.int .u8 (q0 : Nat)) w := fun w => by rw [hq0]; exact XI.out 0 w (by omega)
    have HQ0 := Lib.hid hq0
    clear hq0
    obtain ⟨s, hs'⟩ : ∃ s, s = mkB h := ⟨_, rfl⟩
    rw [← hs'] at XI0 XI hsz c0
    have HSS := Lib.hid hs'
    clear hs'
    by_cases h72 : q0 = 72
    · subst h72
      go_wp2_with fail
      go_loopg [12, 13] 8 (fun g s12 s13 wx => ∃ j : Nat, j ≤ 8 ∧ 8 - j ≤ g ∧ s12 = .int .i64 (numOf h j : Nat) ∧ s13 = .int .i64 (1 + (j : Int)) ∧ wo = wx)
      case atStart => exact ⟨0, by omega, by omega, by rw [numOf_zero]; rfl, rfl, rfl⟩
      case round =>
        obtain ⟨j, hj, hgj, rfl, rfl, rfl⟩ := hrel
        obtain ⟨v, hv⟩ : ∃ v, v = numOf h j := ⟨_, rfl⟩
        rw [← hv]
        by_cases hj8 : j < 8
        · have gj : decide (1 + (j : Int) < 9) = true := decide_eq_true (by omega)
          by_cases hbig : 70368744177664 < v
          · have gb : decide ((70368744177664 : Int) < (v : Int)) = true := decide_eq_true (by omega)
            have HF := Lib.hid (NO.out (no_big hj (by omega)))
            clear XI NO FN HRR HST
            go_wp2_with fail
            all_goals exact bodyPost_ret (v := .slice oa R1.length oc) (by simp [results, Tryd.results11, go_sem]) rfl HF.out
          · have gb : decide ((70368744177664 : Int) < (v : Int)) = false := decide_eq_false (by omega)
            obtain ⟨x, hx⟩ : ∃ x, x = (h.getD (1 + j) 0).toNat := ⟨_, rfl⟩
            have hx8 : x < 256 := by rw [hx]; exact UInt8.toNat_lt _
            have e1 : ((1 + j : Nat) : Int) = 1 + (j : Int) := by omega
            have XJ : ∀ w, (Instr.index 9 (.string s) (.int .i64 (1 + (j : Int)))).run Tryd.prog w = .ok (.int .u8 (x : Nat)) w := fun w => by
              rw [← e1, hx]
              exact XI.out (1 + j) w (by omega)
            have HV : Hid (numOf h (j + 1) = v * 256 + x) := by
              show _ = _
              rw [numOf_next (by omega), ← hv, ← hx]
            clear e1 hx hv
            go_wp2_with fail
            go_roundg (8 - (j + 1))
            case measure => omega
            case rel => exact ⟨j + 1, by omega, Nat.le_refl _, by rw [HV.out]; go_num, by go_num, rfl⟩
        · obtain rfl : j = 8 := by omega
          have gj : decide (1 + ((8 : Nat) : Int) < 9) = false := decide_eq_false (by omega)
          obtain ⟨a9, ha9⟩ : ∃ x, x = (h.getD 9 0).toNat := ⟨_, rfl⟩
          obtain ⟨a10, ha10⟩ : ∃ x, x = (h.getD 10 0).toNat := ⟨_, rfl⟩
          have x9 : a9 < 256 := by rw [ha9]; exact UInt8.toNat_lt _
          have x10 : a10 < 256 := by rw [ha10]; exact UInt8.toNat_lt _
          have XI9 : ∀ w, (Instr.index 9 (.string s) (.int .i64 9)).run Tryd.prog w = .ok (.int .u8 (a9 : Nat)) w := fun w => by rw [ha9]; exact XI.out 9 w (by omega)
          have XI10 : ∀ w, (Instr.index 9 (.string s) (.int .i64 10)).run Tryd.prog w = .ok (.int .u8 (a10 : Nat)) w := fun w => by rw [ha10]; exact XI.out 10 w (by omega)
          obtain ⟨m, hm⟩ : ∃ m, m = lenOf h := ⟨_, rfl⟩
          have hm9 : a9 * 256 + a10 = m := by rw [ha9, ha10, hm]; rfl
          have em : (a9 : Int) * 256 + (a10 : Int) = (m : Int) := by omega
          have hm65 : m ≤ 65535 := by omega
          obtain ⟨k, hk⟩ : ∃ k, k = bodN m := ⟨_, rfl⟩
          have hk6 : k ≤ 600 := by rw [hk]; unfold bodN; omega
          have hmk : m ≤ 127 * k := by rw [hk]; exact bod_le m
          have hq : Int.tdiv ((m : Int) + 126) 127 = (k : Int) := by rw [hk]; exact quo127 m
          have HV := Lib.hid hv
          clear hv
          have HM := Lib.hid hm
          have HK := Lib.hid hk
          clear ha9 ha10 hm hk hm9
          go_wp2_with fail
          go_quiet (fail)
          have KD := Lib.hid (Wds.d_drews (Below.refl wo.heap.size wo) nq)
          have HB1 := Lib.hid (below_on HB.out KD.out)
          have HST1 : Hid (Frm.OStrs w.heap.size (wo.drewN nq) (.slice oa R1.length oc) R1) := HST.out.below KD.out
          have FN1 : Hid (recOf c n p (number + R1.length) room = none → GaveR w R (.returned (.slice oa R1.length oc)) (wo.drewN nq)) := fun e => by
            have e0 : R = R1 := by rw [HRR.out, recsR_none e, List.append_nil]
            rw [e0]
            exact ⟨_, _, rfl, HST1.out, HB1.out⟩
          clear FN NO KD HST HB XI9 XI10 c0
          generalize wo.drewN nq = wq at *
          have NO : Hid (isHead h (number + R1.length) = false → GaveR w R (.returned (.slice oa R1.length oc)) wq) := fun e => FN1.out (rec_no (by rw [← HH.out]; exact e))
          have hR1 : R1.length ≤ 60 := by omega
          by_cases hv1 : v = number + R1.length
          · subst hv1
            by_cases hv2 : number + R1.length < 1099511627776
            · have gv2 : decide ((1099511627776 : Int) ≤ (number : Int) + (R1.length : Int)) = false := decide_eq_false (by omega)
              by_cases hm0 : 0 < m
              · have gm : decide ((m : Int) = 0) = false := decide_eq_false (by omega)
                by_cases hkr : 1 + k ≤ room
                · have gk : decide ((room : Int) < 1 + (k : Int)) = false := decide_eq_false (by omega)
                  go_wp2_with fail
                  have HM2 : Hid (0 < lenOf h ∧ 1 + bodN (lenOf h) ≤ room) := ⟨by rw [← HM.out]; exact hm0, by rw [← HM.out, ← HK.out]; exact hkr⟩
                  go_loopg [16] 117 (fun g s16 wx => ∃ j : Nat, j ≤ 117 ∧ 117 - j ≤ g ∧ s16 = .int .i64 (11 + (j : Int)) ∧ Hid (∀ i, 11 ≤ i → i < 11 + j → h.getD i 0 = 0) ∧ wq = wx)
                  case atStart => exact ⟨0, by omega, by omega, rfl, fun i h1 h2 => absurd h2 (by omega), rfl⟩
                  case round =>
                    obtain ⟨j, hj, hgj, rfl, HZ, rfl⟩ := hrel
                    by_cases hj117 : j < 117
                    · have gj : decide (11 + (j : Int) < 128) = true := decide_eq_true (by omega)
                      obtain ⟨x, hx⟩ : ∃ x, x = (h.getD (11 + j) 0).toNat := ⟨_, rfl⟩
                      have e1 : ((11 + j : Nat) : Int) = 11 + (j : Int) := by omega
                      have XJ : ∀ w, (Instr.index 9 (.string s) (.int .i64 (11 + (j : Int)))).run Tryd.prog w = .ok (.int .u8 (x : Nat)) w := fun w => by
                        rw [← e1, hx]
                        exact XI.out (11 + j) w (by omega)
                      by_cases hx0 : x = 0
                      · have HZ2 : Hid (∀ i, 11 ≤ i → i < 11 + (j + 1) → h.getD i 0 = 0) := fun i h1 h2 => by
                          by_cases e : i = 11 + j
                          · subst e
                            exact UInt8.toNat_inj.1 (by rw [← hx, hx0]; rfl)
                          · exact HZ.out i h1 (by omega)
                        subst hx0
                        clear hx e1 HZ
                        go_wp2_with fail
                        go_roundg (117 - (j + 1))
                        case measure => omega
                        case rel => exact ⟨j + 1, by omega, Nat.le_refl _, by go_num, HZ2, rfl⟩
                      · have gx : ¬ (x : Int) = 0 := by omega
                        have HF := Lib.hid (NO.out (no_zero (i := 11 + j) (by omega) (fun e => hx0 (by rw [hx, e]; rfl))))
                        clear XI NO FN1 HRR HST1 hx e1
                        go_wp2_with fail
                        all_goals exact bodyPost_ret (v := .slice oa R1.length oc) (by simp [results, Tryd.results11, go_sem]) rfl HF.out
                    · obtain rfl : j = 117 := by omega
                      have gj : decide (11 + ((117 : Nat) : Int) < 128) = false := decide_eq_false (by omega)
                      have HIS : Hid (isHead h (number + R1.length) = true) := isHead_of hv2 HM2.out.1 (head_of hh128 (UInt8.toNat_inj.1 (by rw [← HQ0.out]; rfl)) (by rw [← HV.out]) hv2 (fun i h1 h2 => HZ.out i h1 (by omega)))
                      have HRT : Hid (recOf c n p (number + R1.length) room = textOf c n p m) := by
                        show _ = _
                        rw [HM.out, HH.out]
                        exact rec_text (by rw [← HH.out]; exact HIS.out) (by rw [← HH.out]; exact HM2.out.2)
                      have TB : Hid (∀ i, i < k → (c (plc n p i)).getD 0 0 ≠ 66 → GaveR w R (.returned (.slice oa R1.length oc)) wq) := fun i hi e => FN1.out (by rw [HRT.out]; exact text_bod (by rw [← HK.out]; exact bods_at hi e))
                      have TT : Hid (zeros ((cat c n p k).drop m) = false → GaveR w R (.returned (.slice oa R1.length oc)) wq) := fun e => FN1.out (by rw [HRT.out]; exact text_tail (by rw [← HK.out]; exact e))
                      have TY : Hid (bods c n p k = true → zeros ((cat c n p k).drop m) = true → recOf c n p (number + R1.length) room = some ((cat c n p k).take m)) := fun e1 e2 => by
                        rw [HRT.out, HK.out]
                        rw [HK.out] at e1 e2
                        exact text_yes e1 e2
                      clear XI NO HZ HIS HRT XI0 HQ0 HSS HV HH HM2
                      go_wp2_with fail
                      go_loopg [17, 18] k (fun g s17 s18 wx => ∃ j : Nat, j ≤ k ∧ k - j ≤ g ∧ s17 = .string (mkB (cat c n p j)) ∧ s18 = .int .i64 (1 + (j : Int)) ∧ Hid (bods c n p j = true) ∧ wq = wx)
                      case atStart => exact ⟨0, by omega, by omega, rfl, rfl, rfl, rfl⟩
                      case round =>
                        obtain ⟨j, hj, hgj, rfl, rfl, HD, rfl⟩ := hrel
                        by_cases hjk : j < k
                        · have gj : decide (1 + (j : Int) < 1 + (k : Int)) = true := decide_eq_true (by omega)
                          obtain ⟨q, hq'⟩ : ∃ q, q = plc n p j := ⟨_, rfl⟩
                          have hqn : q < n := by rw [hq']; exact Nat.mod_lt _ hn0
                          have c1 := CE.out wq HB1.out q hqn
                          have HQ : Int.tmod ((p : Int) + (1 + (j : Int))) (n : Int) = (q : Int) := by
                            rw [show (p : Int) + (1 + (j : Int)) = ((p + 1 + j : Nat) : Int) by omega, tmod_nat, hq']
                            rfl
                          have hnz : ¬ (n : Int) = 0 := by omega
                          obtain ⟨b, hb⟩ : ∃ b, b = c q := ⟨_, rfl⟩
                          have hb128 : b.length = 128 := by rw [hb]; exact CC.out _ hqn
                          obtain ⟨x, hx⟩ : ∃ x, x = (b.getD 0 0).toNat := ⟨_, rfl⟩
                          rw [← hb] at c1
                          have XB0 : ∀ w, (Instr.index 9 (.string (mkB b)) (.int .i64 0)).run Tryd.prog w = .ok (.int .u8 (x : Nat)) w := fun w => by rw [hx]; exact Wds.byte_run w b .i64 (i := 0) (by omega)
                          have XS : ∀ w, (Instr.slice 9 (.string (mkB b)) (some (.int .i64 1)) none none).run Tryd.prog w = .ok (.string (mkB (b.drop 1))) w := fun w => Wds.slice_from w b (i := 1) (by omega)
                          have hL : (cat c n p j).length = 127 * j := cat_len hn0 CC.out j
                          have hLN : cat c n p (j + 1) = cat c n p j ++ b.drop 1 := by rw [cat_next, ← hq', ← hb]
                          have AD : ∀ w, (Op.stringOp .add (mkB (cat c n p j)) (mkB (b.drop 1))).run Tryd.prog w = .ok (.string (mkB (cat c n p (j + 1)))) w := fun w => by
                            rw [hLN, show mkB (cat c n p j ++ b.drop 1) = mkB (cat c n p j) ++ mkB (b.drop 1) from (mkB_app _ _)]
                            exact run_string_add_sum w _ _ (by rw [mkB_size, mkB_size, hL, List.length_drop]; omega)
                          have hsz1 : (mkB b).size = 128 := by rw [mkB_size, hb128]
                          have hsz2 : (mkB (b.drop 1)).size = 127 := by rw [mkB_size, List.length_drop]; omega
                          have hsz3 : (mkB (cat c n p j)).size = 127 * j := by rw [mkB_size, hL]
                          have HX66 : Hid (x = 66 → bods c n p (j + 1) = true) := fun e => by
                            rw [bods_next, HD.out, ← hq', ← hb]
                            rw [Bool.true_and]
                            exact decide_eq_true (UInt8.toNat_inj.1 (by rw [← hx, e]; rfl))
                          have HXN : Hid (x ≠ 66 → GaveR w R (.returned (.slice oa R1.length oc)) wq) := fun e => TB.out j hjk (by rw [← hq', ← hb]; exact fun e' => e (by rw [hx, e']; rfl))
                          clear hx hLN hL hb hq' TB TT TY FN1 HD
                          obtain ⟨t17, ht17⟩ : ∃ t, t = mkB (cat c n p (j + 1)) := ⟨_, rfl⟩
                          rw [← ht17] at AD
                          have HT17 := Lib.hid ht17
                          clear ht17
                          generalize mkB (cat c n p j) = s17 at *
                          generalize mkB (b.drop 1) = sd at *
                          generalize mkB b = sb at *
                          by_cases hx66 : x = 66
                          · have HB66 := Lib.hid (HX66.out hx66)
                            subst hx66
                            clear HX66 HXN
                            go_wp2_with fail
                            go_roundg (k - (j + 1))
                            case measure => omega
                            case rel => exact ⟨j + 1, by omega, Nat.le_refl _, by rw [HT17.out], by go_num, HB66, rfl⟩
                          · have gx : ¬ (x : Int) = 66 := by omega
                            have HF := Lib.hid (HXN.out hx66)
                            clear HX66 HXN
                            go_wp2_with fail
                            all_goals exact bodyPost_ret (v := .slice oa R1.length oc) (by simp [results, Tryd.results11, go_sem]) rfl HF.out
                        · obtain rfl : j = k := by omega
                          have gj : decide (1 + (j : Int) < 1 + (j : Int)) = false := decide_eq_false (by omega)
                          obtain ⟨L, hL⟩ : ∃ L, L = cat c n p j := ⟨_, rfl⟩
                          have hLl : L.length = 127 * j := by rw [hL]; exact cat_len hn0 CC.out j
                          have TT1 : Hid (zeros (L.drop m) = false → GaveR w R (.returned (.slice oa R1.length oc)) wq) := by rw [hL]; exact TT.out
                          have TY1 : Hid (zeros (L.drop m) = true → recOf c n p (number + R1.length) room = some (L.take m)) := by rw [hL]; exact TY.out HD.out
                          rw [← hL]
                          have hLz : (mkB L).size = 127 * j := by rw [mkB_size, hLl]
                          clear TB TT TY FN1 HD hL
                          have XT : ∀ w, (Instr.slice 9 (.string (mkB L)) none (some (.int .i64 (m : Nat))) none).run Tryd.prog w = .ok (.string (mkB (L.take m))) w := fun w => Wds.slice_to w L (by omega)
                          have XL : Hid (∀ (i : Nat) (w : World), i < L.length → (Instr.index 9 (.string (mkB L)) (.int .i64 (i : Nat))).run Tryd.prog w = .ok (.int .u8 ((L.getD i 0).toNat : Nat)) w) := fun i w hi => Wds.byte_run w L .i64 hi
                          obtain ⟨sL, hsL⟩ : ∃ t, t = mkB L := ⟨_, rfl⟩
                          rw [← hsL] at XT XL hLz
                          rw [← hsL]
                          clear hsL
                          go_wp2_with fail
                          go_loopg [20] (127 * j) (fun g s20 wx => ∃ i : Nat, m + i ≤ 127 * j ∧ 127 * j - (m + i) ≤ g ∧ s20 = .int .i64 ((m : Int) + (i : Int)) ∧ Hid (∀ q, q < i → (L.drop m).getD q 0 = 0) ∧ wq = wx)
                          case atStart => exact ⟨0, by omega, by omega, by simp, fun q hq => absurd hq (by omega), rfl⟩
                          case round =>
                            obtain ⟨i, hi, hgi, rfl, HZ, rfl⟩ := hrel
                            by_cases hij : m + i < 127 * j
                            · have gi : decide ((m : Int) + (i : Int) < 127 * (j : Int)) = true := decide_eq_true (by omega)
                              obtain ⟨x, hx⟩ : ∃ x, x = (L.getD (m + i) 0).toNat := ⟨_, rfl⟩
                              have ed : (L.drop m).getD i 0 = L.getD (m + i) 0 := by rw [List.getD_eq_getElem?_getD, List.getD_eq_getElem?_getD, List.getElem?_drop]
                              have e1 : ((m + i : Nat) : Int) = (m : Int) + (i : Int) := by omega
                              have XJ : ∀ w, (Instr.index 9 (.string sL) (.int .i64 ((m : Int) + (i : Int)))).run Tryd.prog w = .ok (.int .u8 (x : Nat)) w := fun w => by
                                rw [← e1, hx]
                                exact XL.out (m + i) w (by omega)
                              by_cases hx0 : x = 0
                              · have HZ2 : Hid (∀ q, q < i + 1 → (L.drop m).getD q 0 = 0) := fun q hq => by
                                  by_cases e : q = i
                                  · subst e
                                    rw [ed]
                                    exact UInt8.toNat_inj.1 (by rw [← hx, hx0]; rfl)
                                  · exact HZ.out q (by omega)
                                subst hx0
                                clear hx e1 ed HZ TT1 TY1
                                go_wp2_with fail
                                go_roundg (127 * j - (m + (i + 1)))
                                case measure => omega
                                case rel => exact ⟨i + 1, by omega, Nat.le_refl _, by go_num, HZ2, rfl⟩
                              · have gx : ¬ (x : Int) = 0 := by omega
                                have HF := Lib.hid (TT1.out (zeros_at (i := i) (by rw [List.length_drop]; omega) (fun e => hx0 (by rw [hx, ← ed, e]; rfl))))
                                clear hx e1 ed TT1 TY1 XL
                                go_wp2_with fail
                                all_goals exact bodyPost_ret (v := .slice oa R1.length oc) (by simp [results, Tryd.results11, go_sem]) rfl HF.out
                            · have gi : decide ((m : Int) + (i : Int) < 127 * (j : Int)) = false := decide_eq_false (by omega)
                              have HRC := Lib.hid (TY1.out (zeros_all fun q hq => HZ.out q (by rw [List.length_drop] at hq; omega)))
                              clear TT1 TY1 XL HZ
                              obtain ⟨T, hT⟩ : ∃ T, T = L.take m := ⟨_, rfl⟩
                              have hTl : T.length = m := by rw [hT, List.length_take]; omega
                              rw [← hT] at HRC XT
                              have hpl : platesN T.length = 1 + j := by rw [hTl, HK.out]; exact plates_pos hm0 hm65
                              obtain ⟨p2, hp2⟩ : ∃ p2, p2 = (p + (1 + j)) % n := ⟨_, rfl⟩
                              have hp2n : p2 < n := by rw [hp2]; exact Nat.mod_lt _ hn0
                              have HP2 : Int.tmod ((p : Int) + (1 + (j : Int))) (n : Int) = (p2 : Int) := by
                                rw [show (p : Int) + (1 + (j : Int)) = ((p + (1 + j) : Nat) : Int) by omega, tmod_nat, hp2]
                              have hnz : ¬ (n : Int) = 0 := by omega
                              have HRN : Hid (R = (R1 ++ [T]) ++ recsR c n p2 (number + (R1 ++ [T]).length) (room - (1 + j))) := by
                                show _ = _
                                rw [HRR.out, recsR_some hn0 CC.out HRC.out, hpl, ← hp2, List.append_assoc, List.length_append]
                                rfl
                              have HRZ : Hid (room = 1 + j → R = R1 ++ [T]) := fun e => by
                                have h := HRN.out
                                rw [e, Nat.sub_self, show recsR c n p2 (number + (R1 ++ [T]).length) 0 = [] from rfl, List.append_nil] at h
                                exact h
                              have HCE : Hid (Frm.cellsT (R1 ++ [T]) = Frm.cellsT R1 ++ [[Value.string (mkB T)]]) := cT_app _ _
                              have HLE : Hid ((R1 ++ [T]).length = R1.length + 1) := List.length_append
                              clear hp2 hpl hTl hT HRR HRC
                              have HBY : Hid (Below w.heap.size w (wq.alloc (.cells #[.string (mkB T)] 9))) := below_al HB1.out _
                              have A1 : Hid (Rk.OwnK 9 1 w.heap.size (wq.alloc (.cells #[.string (mkB T)] 9)) (.slice oa R1.length oc) (Frm.cellsT R1)) := HST1.out.below (box1 wq _ _).1
                              have A2 : Hid (Rk.RowK 1 (wq.alloc (.cells #[.string (mkB T)] 9)) (.slice (some ⟨wq.heap.size, 0, none⟩) 1 1) [[Value.string (mkB T)]]) := Rk.row_one (e := 9) (heap_alloc_new _ _) rfl
                              have A3 : Hid ((Frm.cellsT R1).length + 1 ≤ 100000) := by show _ ≤ _; rw [Frm.cellsT_len]; omega
                              have A4 : Hid (w.heap.size ≤ (wq.alloc (.cells #[.string (mkB T)] 9)).heap.size) := HBY.out.size
                              have HYO : Hid (∀ z ∈ [[Value.string (mkB T)]], ∀ q ∈ z, q.oneCell' = true) := fun z hz q hq => by
                                simp only [List.mem_singleton] at hz
                                subst hz
                                simp only [List.mem_singleton] at hq
                                subst hq
                                rfl
                              clear HST1 HB1
                              generalize mkB T = sT at *
                              generalize R1 ++ [T] = R2 at *
                              go_wp2_with (at_builtin; refine Rk.wpList_append_rowk rfl _ _ 22 9 1 16 _ Tryd.underlying22 infoT rfl (by decide) (by decide) rfl w.heap.size _ _ (Frm.cellsT R1) _ rfl rfl A1.out A2.out HYO.out A3.out A4.out ?_)
                              intro v6 w9 h5 g5 k5
                              have K9 : Hid (Frm.OStrs w.heap.size w9 v6 R2) := by
                                show Rk.OwnK _ _ _ _ _ _
                                rw [HCE.out]
                                exact h5
                              have HB6 := Lib.hid (A1.out.belowOf HBY.out (Nat.le_refl _) A4.out g5)
                              clear h5 g5 k5 A1 A2 A3 A4 HBY HYO
                              obtain ⟨a6, c6, rfl, _, _⟩ := K9.out.read.is_slice
                              have er : ((room - (1 + j) : Nat) : Int) = (room : Int) - (1 + (j : Int)) := by omega
                              by_cases hz : room = 1 + j
                              · have gz : decide ((room : Int) - (1 + (j : Int)) = 0) = true := decide_eq_true (by omega)
                                have HF : Hid (GaveR w R (.returned (.slice a6 R2.length c6)) w9) := by
                                  show GaveR _ _ _ _
                                  rw [HRZ.out hz]
                                  exact ⟨_, _, rfl, K9.out, HB6.out⟩
                                clear er
                                have ez : (room : Int) - (1 + (j : Int)) = 0 := by omega
                                clear hz
                                go_wp2_with fail
                                all_goals exact bodyPost_ret (v := .slice a6 R2.length c6) (by simp [results, Tryd.results11, go_sem]) rfl HF.out
                              · have gz : decide ((room : Int) - (1 + (j : Int)) = 0) = false := decide_eq_false (by omega)
                                have ez : ¬ (room : Int) - (1 + (j : Int)) = 0 := by omega
                                have ER := Lib.hid er
                                clear er
                                go_wp2_with fail
                                go_roundg (room - (1 + j))
                                case measure => omega
                                case rel => exact ⟨R2, a6, c6, p2, room - (1 + j), Nat.le_refl _, by omega, by rw [HLE.out]; omega, hp2n, rfl, rfl, by rw [ER.out], HRN.out, K9.out, HB6.out⟩
                · have gk : decide ((room : Int) < 1 + (k : Int)) = true := decide_eq_true (by omega)
                  have HF := Lib.hid (FN1.out (rec_full (by rw [← HH.out, ← HM.out, ← HK.out]; omega)))
                  clear XI NO FN1 HRR HST1
                  go_wp2_with fail
                  all_goals exact bodyPost_ret (v := .slice oa R1.length oc) (by simp [results, Tryd.results11, go_sem]) rfl HF.out
              · have gm : decide ((m : Int) = 0) = true := decide_eq_true (by omega)
                have HF := Lib.hid (NO.out (isHead_no fun ⟨_, q, _⟩ => hm0 (by rw [HM.out]; exact q)))
                clear XI NO FN1 HRR HST1
                go_wp2_with fail
                all_goals exact bodyPost_ret (v := .slice oa R1.length oc) (by simp [results, Tryd.results11, go_sem]) rfl HF.out
            · have gv2 : decide ((1099511627776 : Int) ≤ (number : Int) + (R1.length : Int)) = true := decide_eq_true (by omega)
              have HF := Lib.hid (NO.out (isHead_no fun ⟨q, _, _⟩ => hv2 q))
              clear XI NO FN1 HRR HST1
              go_wp2_with fail
              all_goals exact bodyPost_ret (v := .slice oa R1.length oc) (by simp [results, Tryd.results11, go_sem]) rfl HF.out
          · have gv : decide ((v : Int) = (number : Int) + (R1.length : Int)) = false := decide_eq_false (by omega)
            have HF := Lib.hid (NO.out (no_num (by rw [← HV.out]; exact hv1)))
            clear XI NO FN1 HRR HST1
            go_wp2_with fail
            all_goals exact bodyPost_ret (v := .slice oa R1.length oc) (by simp [results, Tryd.results11, go_sem]) rfl HF.out
    · have g0 : ¬ (q0 : Int) = 72 := by omega
      have HF := Lib.hid (NO.out (no_first (fun e => h72 (by rw [HQ0.out, e]; rfl))))
      clear XI NO FN HRR HST
      go_wp2_with fail
      all_goals exact bodyPost_ret (v := .slice oa R1.length oc) (by simp [results, Tryd.results11, go_sem]) rfl HF.out
end Go.Proofs.YtffejfpbeimngaaDoor.Ldg
