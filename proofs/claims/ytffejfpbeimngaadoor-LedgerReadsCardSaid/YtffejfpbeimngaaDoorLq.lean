/- Ledger: LedgerReads, its walk. -/
import Derived.Test.YtffejfpbeimngaaDoorLo
set_option linter.unusedVariables false
set_option linter.unusedSimpArgs false
set_option maxRecDepth 100000
namespace Go.Proofs.YtffejfpbeimngaaDoor.Ldg
open Go.RowKit Go.Lib Go.Proofs.YtffejfpbeimngaaDoor.Bx Go.Proofs.YtffejfpbeimngaaDoor.Frm Go.Proofs.YtffejfpbeimngaaDoor.Wds Go.Proofs.YtffejfpbeimngaaDoor.Plt

set_option maxHeartbeats 16000000 in
theorem reads_walk {w : World} (v : Value) (X : List (List UInt8)) (hX : Frm.Strs w v X) (hT : ∀ x ∈ X, x.length ≤ maxLen) (start number : Int) : Calls Tryd.prog 3 #[v, .int .i64 start, .int .i64 number] w fun e w' => e = .returned (.bool true) ∧ Below w.heap.size w w' := by
  obtain ⟨a0, cap0, rfl, hc1, hc2⟩ := hX.is_slice
  have CA := Lib.hid (awake_any w)
  obtain ⟨n, hn⟩ : ∃ n, n = X.length := ⟨_, rfl⟩
  rw [← hn] at hX hc1 ⊢
  unfold maxLen at hc2
  go_enter Tryd.func3, Tryd.ntmps3
  go_wp2_with fail
  refine CA.out.mono ?_
  rintro e w1 ⟨rfl, b1⟩
  have B1 := Lib.hid b1
  have HX := Lib.hid hX
  have HN := Lib.hid hn
  clear b1 CA hX hn
  by_cases n2 : (n : Int) < 2
  · have gn2 : decide ((n : Int) < 2) = true := decide_eq_true n2
    go_wp2_with fail
    all_goals exact bodyPost_ret (v := .bool true) (by simp [results, Tryd.results3, go_sem]) rfl ⟨rfl, B1.out⟩
  have gn2 : decide ((n : Int) < 2) = false := decide_eq_false n2
  by_cases n60 : (60 : Int) < (n : Int)
  · have gn60 : decide ((60 : Int) < (n : Int)) = true := decide_eq_true n60
    go_wp2_with fail
    all_goals exact bodyPost_ret (v := .bool true) (by simp [results, Tryd.results3, go_sem]) rfl ⟨rfl, B1.out⟩
  have gn60 : decide ((60 : Int) < (n : Int)) = false := decide_eq_false n60
  by_cases s0 : start < 0
  · have gs0 : decide (start < 0) = true := decide_eq_true s0
    go_wp2_with fail
    all_goals exact bodyPost_ret (v := .bool true) (by simp [results, Tryd.results3, go_sem]) rfl ⟨rfl, B1.out⟩
  have gs0 : decide (start < 0) = false := decide_eq_false s0
  by_cases sn : (n : Int) ≤ start
  · have gsn : decide ((n : Int) ≤ start) = true := decide_eq_true sn
    go_wp2_with fail
    all_goals exact bodyPost_ret (v := .bool true) (by simp [results, Tryd.results3, go_sem]) rfl ⟨rfl, B1.out⟩
  have gsn : decide ((n : Int) ≤ start) = false := decide_eq_false sn
  by_cases m0 : number < 0
  · have gm0 : decide (number < 0) = true := decide_eq_true m0
    go_wp2_with fail
    all_goals exact bodyPost_ret (v := .bool true) (by simp [results, Tryd.results3, go_sem]) rfl ⟨rfl, B1.out⟩
  have gm0 : decide (number < 0) = false := decide_eq_false m0
  by_cases mb : (1099511627776 : Int) < number
  · have gmb : decide ((1099511627776 : Int) < number) = true := decide_eq_true mb
    go_wp2_with fail
    all_goals exact bodyPost_ret (v := .bool true) (by simp [results, Tryd.results3, go_sem]) rfl ⟨rfl, B1.out⟩
  have gmb : decide ((1099511627776 : Int) < number) = false := decide_eq_false mb
  obtain ⟨st, rfl⟩ := Int.eq_ofNat_of_zero_le (show 0 ≤ start by omega)
  obtain ⟨nm, rfl⟩ := Int.eq_ofNat_of_zero_le (show 0 ≤ number by omega)
  have CN := Lib.hid (newX n w1 (by omega) (by omega))
  go_wp2_with fail
  refine CN.out.mono ?_
  intro e w2 h
  obtain ⟨B, F, rfl, hd, hb⟩ := h
  have HX1 := Lib.hid (HX.out.below B1.out)
  have B2 := Lib.hid (below_on B1.out hb)
  have HD0 : Hid (Dr w1 B (layS (newD n) X 0) (.slice none 0 0) [] w2) := ⟨⟨F, hd, fun g hg => by cases hg⟩, Frm.OStrs.nil_ _ _, hb⟩
  clear hd hb CN HX
  have hn0 : 1 ≤ n := by omega
  obtain ⟨b0, off, rfl, hcells⟩ := rows_cells HX1.out HN.out.symm (by omega)
  have CE := Lib.hid hcells
  clear hcells
  have W12 := Lib.hid HD0.out.2.2
  go_wp2_with fail
  go_loopg [10, 52] n (fun g s10 s52 wr => ∃ (i : Nat) (a : Option Addr) (cp : Nat), i ≤ n ∧ n - i ≤ g ∧ s52 = .int .i64 (i : Nat) ∧ s10 = .slice a i cp ∧ Hid (∀ j, j < i → (Frm.tx X j).length ≤ 128) ∧ Hid (Dr w1 B (layS (newD n) X i) (.slice a i cp) (fullOf X i) wr))
  case atStart => exact ⟨0, none, 0, by omega, by omega, rfl, rfl, fun j hj => absurd hj (by omega), HD0.out⟩
  case round =>
    obtain ⟨i, a, cp, hi, hg, rfl, rfl, HL, HD⟩ := hrel
    by_cases hin : i < n
    · have gi : decide ((i : Int) < (n : Int)) = true := decide_eq_true (by omega)
      have c0 := CE.out wr HD.out.2.2 i hin
      obtain ⟨x, hx⟩ : ∃ x, x = Frm.tx X i := ⟨_, rfl⟩
      have hxm : x.length ≤ 9223372036854775807 := by
        rw [hx]
        have hlt : i < X.length := by rw [← HN.out]; exact hin
        rw [Frm.tx_at hlt]
        exact hT _ (List.getElem_mem hlt)
      rw [← hx] at c0
      obtain ⟨e1, e2, e3, e4⟩ := layS_ok (new_fine n).1 (new_fine n).2 i (Nat.le_of_lt hin) HL.out
      have CL := Lib.hid (HD.out.lay (fun j hj => Nat.le_trans (e4 j hj) (by omega)) i x hxm)
      by_cases hsz : x.length ≤ 128
      · have HL2 : Hid (∀ j, j < i + 1 → (Frm.tx X j).length ≤ 128) := fun j hj => by
          by_cases e : j = i
          · rw [e, ← hx]
            exact hsz
          · exact HL.out j (by omega)
        have hl1 := lay_at e1 (q := i) (by rw [e2]; exact hin) hsz
        obtain ⟨f1, f2, f3, f4, f5⟩ := hl1
        have es : layD (layS (newD n) X i) ((i : Nat) : Int) (mkB x) = layS (newD n) X (i + 1) := by rw [hx]; rfl
        have hr : ring (layS (newD n) X (i + 1)) 0 i = pad x := by rw [← es, f4, put_same]
        rw [es] at CL f2 f3
        rw [f1] at CL
        have HFN : Hid (fullOf X (i + 1) = fullOf X i ++ [pad x]) := by rw [hx]; exact fullOf_next X i
        have F2 := Lib.hid f2
        have hDn : i < (layS (newD n) X (i + 1)).n := by rw [f3, e2]; exact hin
        have HDN := Lib.hid hDn
        have HR := Lib.hid hr
        clear hx f1 f2 f3 f4 f5 e1 e2 e3 e4 es hr hDn HL
        obtain ⟨D2, hD2⟩ : ∃ D2, D2 = layS (newD n) X (i + 1) := ⟨_, rfl⟩
        rw [← hD2] at CL F2 HDN HR
        have HD2 := Lib.hid hD2
        clear hD2 hsz
        generalize mkB x = sx at *
        obtain ⟨px, hpx⟩ : ∃ px, px = pad x := ⟨_, rfl⟩
        rw [← hpx] at HR HFN
        clear hpx hxm HD
        go_wp2_with fail
        refine CL.out.mono ?_
        rintro e w4 ⟨rfl, hd4⟩
        have CG := Lib.hid (hd4.get F2.out HDN.out)
        rw [HR.out] at CG
        have HD4 := Lib.hid hd4
        clear hd4 CL HR HDN c0
        obtain ⟨sp, hsp⟩ : ∃ sp, sp = mkB px := ⟨_, rfl⟩
        rw [← hsp] at CG
        go_wp2_with fail
        refine CG.out.mono ?_
        rintro e w5 ⟨rfl, rfl⟩
        have HBY : Hid (Below w1.heap.size w1 (w5.alloc (.cells #[.string sp] 9))) := below_al HD4.out.2.2 _
        have A1 : Hid (Rk.OwnK 9 1 w1.heap.size (w5.alloc (.cells #[.string sp] 9)) (.slice a i cp) (Frm.cellsT (fullOf X i))) := HD4.out.2.1.below (box1 w5 _ _).1
        have A2 : Hid (Rk.RowK 1 (w5.alloc (.cells #[.string sp] 9)) (.slice (some ⟨w5.heap.size, 0, none⟩) 1 1) [[Value.string sp]]) := Rk.row_one (e := 9) (heap_alloc_new _ _) rfl
        have A3 : Hid ((Frm.cellsT (fullOf X i)).length + 1 ≤ 100000) := by show _ ≤ _; rw [Frm.cellsT_len, fullOf_len]; omega
        have A4 : Hid (w1.heap.size ≤ (w5.alloc (.cells #[.string sp] 9)).heap.size) := HBY.out.size
        have HYO : Hid (∀ z ∈ [[Value.string sp]], ∀ q ∈ z, q.oneCell' = true) := fun z hz q hq => by
          simp only [List.mem_singleton] at hz
          subst hz
          simp only [List.mem_singleton] at hq
          subst hq
          rfl
        have HCE : Hid (Frm.cellsT (fullOf X (i + 1)) = Frm.cellsT (fullOf X i) ++ [[Value.string sp]]) := by
          show _ = _
          rw [HFN.out, hsp]
          exact cT_app _ _
        have HDY : Hid (Dr w1 B D2 (.slice a i cp) (fullOf X i) (w5.alloc (.cells #[.string sp] 9))) := HD4.out.below (box1 w5 _ _).1
        clear hsp CG HD4 HFN
        go_wp2_with (at_builtin; refine Rk.wpList_append_rowk rfl _ _ 22 9 1 16 _ Tryd.underlying22 infoT rfl (by decide) (by decide) rfl w1.heap.size _ _ (Frm.cellsT (fullOf X i)) _ rfl rfl A1.out A2.out HYO.out A3.out A4.out ?_)
        intro v6 w9 h5 g5 k5
        have K9 : Hid (Frm.OStrs w1.heap.size w9 v6 (fullOf X (i + 1))) := by
          show Rk.OwnK _ _ _ _ _ _
          rw [HCE.out]
          exact h5
        have HB6 := Lib.hid (A1.out.belowOf HBY.out (Nat.le_refl _) A4.out g5)
        have HDK : Hid (∃ F, Disk w1.heap.size w9 B F D2 ∧ ∀ g, v6.ownBlock = some g → ¬ F g) := by
          obtain ⟨⟨F, q1, q2⟩, q3, q4⟩ := HDY.out
          refine ⟨F, q1.chg (Chg.of_grown (F := fun g => (Value.slice a i cp).ownBlock = some g) g5 (fun g hg => hg)) (fun g hg hv => q2 g hv hg), fun g hg hF => ?_⟩
          rcases k5 with k5 | k5
          · exact q2 g (by rw [← k5]; exact hg) hF
          · have hq := Option.some.inj (k5.symm.trans hg)
            have := (q1.lt g hF).2
            have hz := (box1 w5 #[.string sp] 9).2.2
            omega
        have HD9 : Hid (Dr w1 B D2 v6 (fullOf X (i + 1)) w9) := ⟨HDK.out, K9.out, HB6.out⟩
        clear h5 g5 k5 A1 A2 A3 A4 HBY HYO HDK HB6 HDY
        obtain ⟨a6, c6, e6, _, _⟩ := K9.out.read.is_slice
        rw [fullOf_len] at e6
        subst e6
        clear K9
        rw [HD2.out] at HD9
        go_wp2_with fail
        go_roundg (n - (i + 1))
        case measure => omega
        case rel => exact ⟨i + 1, a6, c6, by omega, Nat.le_refl _, by go_num, rfl, HL2.out, HD9.out⟩
      · obtain ⟨f1, f2⟩ := lay_no (D := layS (newD n) X i) (q := i) (x := x) (by omega)
        rw [f1, f2] at CL
        clear f1 f2 e1 e2 e3 e4 hx HL
        generalize mkB x = sx at *
        go_wp2_with fail
        refine CL.out.mono ?_
        rintro e w4 ⟨rfl, hd4⟩
        have HB4 := Lib.hid (B1.out.trans (hd4.2.2.mono B1.out.size))
        clear hd4 CL HD
        go_wp2_with fail
        all_goals exact bodyPost_ret (v := .bool true) (by simp [results, Tryd.results3, go_sem]) rfl ⟨rfl, HB4.out⟩
    · obtain rfl : i = n := by omega
      have gi : decide ((i : Int) < (i : Int)) = false := decide_eq_false (by omega)
      obtain ⟨e1, e2, e3, e4⟩ := layS_ok (new_fine i).1 (new_fine i).2 i (Nat.le_refl _) HL.out
      have ok0 : (LS.mk 0 i st nm 0).Ok := ⟨by show 0 ≤ _; omega, by show 2 ≤ i; omega, by show i ≤ _; omega, by show st < i; omega, by show nm ≤ _; omega, by show 0 ≤ i; omega⟩
      have hr0 : Rg (layS (newD i) X i) (LS.mk 0 i st nm 0) := ⟨e1.on, by rw [e2]; show 0 + i ≤ i; omega, fun q hq => by
        show (ring (layS (newD i) X i) 0 q).length = 128
        rw [e3 q, if_pos hq]
        exact pad_len (HL.out q hq)⟩
      have CO := Lib.hid (HD.out.wld.open_ (LS.mk 0 i st nm 0) ok0 rfl hr0)
      have HRE : Hid (recsR (ring (layS (newD i) X i) 0) i st nm i = recsR (Frm.tx (fullOf X i)) i st nm i) := recs_eq (fun q hq => by rw [e3 q, if_pos hq, fullOf_at X hq]) _ _ _ _ (by omega)
      have HFL : Hid (∀ j, j < i → (Frm.tx (fullOf X i) j).length = 128) := fun j hj => by
        rw [fullOf_at X hj]
        exact pad_len (HL.out j hj)
      obtain ⟨R, hR⟩ : ∃ R, R = recsR (Frm.tx (fullOf X i)) i st nm i := ⟨_, rfl⟩
      have CO2 : Hid (Calls Tryd.prog 9 #[.pointer (some ⟨B, 0, none⟩), .int .i64 0, .int .i64 (i : Nat), .int .i64 (st : Nat), .int .i64 (nm : Nat)] wr (Opened wr B (LS.mk 0 i st nm 0) R)) := by
        have h := CO.out
        simp only at h
        rw [HRE.out, ← hR] at h
        exact h
      have CRd : Hid (∀ w', Below wr.heap.size wr w' → Calls Tryd.prog 11 #[.slice a i cp, .int .i64 (st : Nat), .int .i64 (nm : Nat)] w' (GaveR w' R)) := fun w' hb => by
        rw [hR]
        exact rread_any (fullOf X i) (HD.out.2.1.below hb).read (fullOf_len X i) HFL.out (by omega) (by omega) st nm (by omega) (by omega)
      have B3 := Lib.hid (B1.out.trans (HD.out.2.2.mono B1.out.size))
      clear CO HRE HFL e1 e2 e3 e4 ok0 hr0 HL HD hR HD0 CE
      go_wp2_with fail
      refine CO2.out.mono ?_
      rintro e w4 ⟨X4, a4, c4, rfl, _, _, _, hs4, hb4⟩
      have CR2 := Lib.hid (CRd.out w4 hb4)
      have B4 := Lib.hid (below_on B3.out hb4)
      have HS4 := Lib.hid hs4
      clear hs4 hb4 CO2 CRd B3
      go_wp2_with fail
      refine CR2.out.mono ?_
      rintro e w5 ⟨a5, c5, rfl, hs5, hb5⟩
      have CSm := Lib.hid (Frm.rSame_any w5 (HS4.out.below hb5).read hs5.read)
      have B5 := Lib.hid (below_on B4.out hb5)
      have hsm : Frm.sameX R R = true := decide_eq_true rfl
      rw [hsm] at CSm
      clear hs5 hb5 CR2 B4 HS4 hsm
      go_wp2_with fail
      refine CSm.out.mono ?_
      rintro e w6 ⟨rfl, hb6⟩
      have B6 := Lib.hid (below_on B5.out hb6)
      clear hb6 CSm B5
      go_wp2_with fail
      all_goals exact bodyPost_ret (v := .bool true) (by simp [results, Tryd.results3, go_sem]) rfl ⟨rfl, B6.out⟩
end Go.Proofs.YtffejfpbeimngaaDoor.Ldg
