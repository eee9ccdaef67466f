/- State: the plain text's seg, given what 05.Right owes. -/
import Derived.Test.YtccaiippoephbaaGreatDoorWm
import Derived.Deep.QuietTactic
import Derived.BigQuiet
import Derived.Deep.RegionHeld3
set_option linter.unusedVariables false
set_option linter.unusedSimpArgs false
set_option maxRecDepth 100000
namespace Go.Proofs.YtccaiippoephbaaGreatDoor.Sta
open Go.RowKit Go.Lib Go.Proofs.YtccaiippoephbaaGreatDoor.Bx Go.Proofs.YtccaiippoephbaaGreatDoor.Frm Go.Proofs.YtccaiippoephbaaGreatDoor.Wds

/-- What 05.Right owes. -/
def RightG (OK1 : Seg → Prop) : Prop := ∀ (P : Nat → Prop) (w : World) (cs : List Value) (y : Seg), segM.R P w cs y → segS y → segG y → Calls Tryz.prog 69 #[.agg cs.toArray] w fun e w' => IffB (OK1 y) e ∧ Below w.heap.size w w'
set_option maxHeartbeats 16000000 in
theorem rseg_any {P : Nat → Prop} {OK1 : Seg → Prop} (RG : RightG OK1) {u0 u1 y3 y4 y5 y6 y7 : Option Addr} {n0 k0 n1 k1 m3 d3 m4 d4 m5 d5 m6 d6 m7 d7 : Nat} {q2 q3 q4 q5 q6 q7 q8 x0 x1 x2 : Int} {p3 p4 : Option Addr} {l3 g3 l4 g4 : Nat} (i0 i1 : Int) (tl : List UInt8) (Sp : List Spn) (Si : List Sit) (w : World) (hSp : RowP spnM P w (.slice p3 l3 g3) Sp) (hSi : RowP sitM P w (.slice p4 l4 g4) Si) (hy : segS (i0, i1, tl, Sp, Si)) (hyg : segG (i0, i1, tl, Sp, Si)) (hx1 : 0 ≤ x1 ∧ x1 ≤ 1099511627776) (h1 : n1 ≤ 9223372036854775807) : Calls Tryz.prog 47 #[.agg #[.slice u0 n0 k0, .slice u1 n1 k1, .int .i64 q2, .int .i64 q3, .int .i64 q4, .int .i64 q5, .int .i64 q6, .int .i64 q7, .int .i64 q8], .agg #[.int .i64 x0, .int .i64 x1, .int .i64 x2, .slice y3 m3 d3, .slice y4 m4 d4, .slice y5 m5 d5, .slice y6 m6 d6, .slice y7 m7 d7], .agg #[.int .i64 i0, .int .i64 i1, .string (mkB tl), .slice p3 l3 g3, .slice p4 l4 g4]] w fun e w' => IffB (OK1 (i0, i1, tl, Sp, Si) ∧ segR q2 x1 x2 n1 (i0, i1, tl, Sp, Si)) e ∧ Below w.heap.size w w' := by
  have hS : Hid (∀ w', Below w.heap.size w w' → RowP spnM P w' (.slice p3 l3 g3) Sp) := fun w' b => hSp.keep spnM_ok (Keep.below b)
  have hT : Hid (∀ w', Below w.heap.size w w' → RowP sitM P w' (.slice p4 l4 g4) Si) := fun w' b => hSi.keep sitM_ok (Keep.below b)
  have hSN : Hid (l3 = Sp.length) := hSp.len.1
  have hTN : Hid (l4 = Si.length) := hSi.len.1
  have hl3 : l3 ≤ 9223372036854775807 := by have q := hSp.len; simp only [maxLen] at q; omega
  have hl4 : l4 ≤ 9223372036854775807 := by have q := hSi.len; simp only [maxLen] at q; omega
  have CR : Hid (∀ w', Below w.heap.size w w' → Calls Tryz.prog 69 #[.agg #[.int .i64 i0, .int .i64 i1, .string (mkB tl), .slice p3 l3 g3, .slice p4 l4 g4]] w' fun e w'' => IffB (OK1 (i0, i1, tl, Sp, Si)) e ∧ Below w'.heap.size w' w'') := fun w' b => RG P w' _ (i0, i1, tl, Sp, Si) (by have e3 := hSN.out; have e4 := hTN.out; subst e3; subst e4; exact segM_mk i0 i1 tl (hS.out w' b) (hT.out w' b)) hy hyg
  obtain ⟨ts, htt⟩ : ∃ q, q = mkB tl := ⟨_, rfl⟩
  obtain ⟨mt, hmt⟩ : ∃ q, q = tl.length := ⟨_, rfl⟩
  have zt : ts.size = mt := by rw [htt, mkB_size, hmt]
  have HMT := Lib.hid hmt
  have hmtb : mt ≤ 9223372036854775807 := by have q : tl.length ≤ 3000 := hy.1; omega
  rw [← htt]
  rw [← htt] at CR
  clear htt hmt hSp hSi hy hyg
  obtain ⟨B0, P0, L0⟩ := box1 w #[.slice u0 n0 k0, .slice u1 n1 k1, .int .i64 q2, .int .i64 q3, .int .i64 q4, .int .i64 q5, .int .i64 q6, .int .i64 q7, .int .i64 q8] 25
  obtain ⟨W0, hW0⟩ : ∃ W0, W0 = w.alloc (.cells #[.slice u0 n0 k0, .slice u1 n1 k1, .int .i64 q2, .int .i64 q3, .int .i64 q4, .int .i64 q5, .int .i64 q6, .int .i64 q7, .int .i64 q8] 25) := ⟨_, rfl⟩
  rw [← hW0] at B0 P0 L0
  obtain ⟨B1, P1, L1⟩ := box1 W0 #[.int .i64 x0, .int .i64 x1, .int .i64 x2, .slice y3 m3 d3, .slice y4 m4 d4, .slice y5 m5 d5, .slice y6 m6 d6, .slice y7 m7 d7] 31
  obtain ⟨W1, hW1⟩ : ∃ W1, W1 = W0.alloc (.cells #[.int .i64 x0, .int .i64 x1, .int .i64 x2, .slice y3 m3 d3, .slice y4 m4 d4, .slice y5 m5 d5, .slice y6 m6 d6, .slice y7 m7 d7] 31) := ⟨_, rfl⟩
  rw [← hW1] at B1 P1 L1
  obtain ⟨B2, P2, L2⟩ := box1 W1 #[.int .i64 i0, .int .i64 i1, .string ts, .slice p3 l3 g3, .slice p4 l4 g4] 67
  obtain ⟨W2, hW2⟩ : ∃ W2, W2 = W1.alloc (.cells #[.int .i64 i0, .int .i64 i1, .string ts, .slice p3 l3 g3, .slice p4 l4 g4] 67) := ⟨_, rfl⟩
  rw [← hW2] at B2 P2 L2
  have r0 : W2.heap[w.heap.size]? = some (.cells #[.slice u0 n0 k0, .slice u1 n1 k1, .int .i64 q2, .int .i64 q3, .int .i64 q4, .int .i64 q5, .int .i64 q6, .int .i64 q7, .int .i64 q8] 25 (0, 0)) := (B2.block _ (by omega)).trans ((B1.block _ (by omega)).trans P0)
  have r1 : W2.heap[W0.heap.size]? = some (.cells #[.int .i64 x0, .int .i64 x1, .int .i64 x2, .slice y3 m3 d3, .slice y4 m4 d4, .slice y5 m5 d5, .slice y6 m6 d6, .slice y7 m7 d7] 31 (0, 0)) := (B2.block _ (by omega)).trans P1
  rw [L0] at r1 L1
  rw [L1] at P2 L2
  have HB : Hid (Below w.heap.size w W2) := below_on (below_on B0 B1) B2
  obtain ⟨R, hR⟩ : ∃ R, R = w.heap.size := ⟨_, rfl⟩
  rw [← hR] at r0 r1 P2 L2
  obtain ⟨a0, a1, a2, a3, a4, a5, a6, a7, a8⟩ := nine_cells' r0
  obtain ⟨b0, b1, b2, b3, b4, b5, b6, b7⟩ := eight_cells r1
  obtain ⟨e0, e1, e2, e3, e4⟩ := five_cells' P2
  have HW : Hid (W2 = ((w.alloc (.cells #[.slice u0 n0 k0, .slice u1 n1 k1, .int .i64 q2, .int .i64 q3, .int .i64 q4, .int .i64 q5, .int .i64 q6, .int .i64 q7, .int .i64 q8] 25)).alloc (.cells #[.int .i64 x0, .int .i64 x1, .int .i64 x2, .slice y3 m3 d3, .slice y4 m4 d4, .slice y5 m5 d5, .slice y6 m6 d6, .slice y7 m7 d7] 31)).alloc (.cells #[.int .i64 i0, .int .i64 i1, .string ts, .slice p3 l3 g3, .slice p4 l4 g4] 67)) := by show _ = _; rw [hW2, hW1, hW0]
  have HR : Hid (w.heap.size = R) := hR.symm
  have HGG := Lib.hid (And.intro r0 (And.intro r1 (And.intro P2 L2)))
  clear hR B0 P0 L0 B1 P1 L1 B2 P2 L2 hW0 hW1 hW2 r0 r1
  go_enter Tryz.func47, Tryz.ntmps47
  go_upto_region 1 with fail
  rw [← HW.out, HR.out]
  clear a0 a1 a2 a3 a4 a5 a6 a7 a8 b0 b1 b2 b3 b4 b5 b6 b7 e0 e1 e2 e3 e4
  have HGB : Hid (∀ w', Below W2.heap.size W2 w' → w'.heap[R]? = some (.cells #[.slice u0 n0 k0, .slice u1 n1 k1, .int .i64 q2, .int .i64 q3, .int .i64 q4, .int .i64 q5, .int .i64 q6, .int .i64 q7, .int .i64 q8] 25 (0, 0)) ∧ w'.heap[R + 1]? = some (.cells #[.int .i64 x0, .int .i64 x1, .int .i64 x2, .slice y3 m3 d3, .slice y4 m4 d4, .slice y5 m5 d5, .slice y6 m6 d6, .slice y7 m7 d7] 31 (0, 0)) ∧ w'.heap[R + 1 + 1]? = some (.cells #[.int .i64 i0, .int .i64 i1, .string ts, .slice p3 l3 g3, .slice p4 l4 g4] 67 (0, 0))) := fun w' b => by
    obtain ⟨r0, r1, r2, l2⟩ := HGG.out
    exact ⟨(b.block R (by omega)).trans r0, (b.block (R + 1) (by omega)).trans r1, (b.block (R + 1 + 1) (by omega)).trans r2⟩
  have HX : Hid (Below W2.heap.size W2 W2) := Below.refl _ _
  have hSS : Hid (∀ w', Below W2.heap.size W2 w' → RowP spnM P w' (.slice p3 l3 g3) Sp) := fun w' b => hS.out w' (HB.out.trans (b.mono HB.out.size))
  have hTT : Hid (∀ w', Below W2.heap.size W2 w' → RowP sitM P w' (.slice p4 l4 g4) Si) := fun w' b => hT.out w' (HB.out.trans (b.mono HB.out.size))
  clear hS hT
  have hS := hSS
  have hT := hTT
  clear hSS hTT
  have CR2 := Lib.hid (CR.out W2 HB.out)
  clear CR
  have s1 : IntKind.i64.wrap ((n1 : Int) - 1) = (n1 : Int) - 1 := IntWalk.i64_in _ (by omega)
  have sx : IntKind.i64.wrap (x1 - 1) = x1 - 1 := IntWalk.i64_in _ (by omega)
  have HI := Lib.hid (fun (n lo hi : Int) (w' : World) => in_any n lo hi w')
  obtain ⟨a0, a1, a2, a3, a4, a5, a6, a7, a8⟩ := nine_cells' (HGB.out _ HX.out).1
  obtain ⟨b0, b1, b2, b3, b4, b5, b6, b7⟩ := eight_cells (HGB.out _ HX.out).2.1
  obtain ⟨g0, g1, g2, g3_, g4_⟩ := five_cells' (HGB.out _ HX.out).2.2
  go_wp2_with fail
  refine CR2.out.mono ?_
  rintro e w7 ⟨hq, bb7⟩
  have HX7 : Hid (Below W2.heap.size W2 w7) := bb7
  clear bb7 CR2 a0 a1 a2 a3 a4 a5 a6 a7 a8 b0 b1 b2 b3 b4 b5 b6 b7 g0 g1 g2 g3_ g4_ HX
  have HX := HX7
  clear HX7
  rcases hq.det with ⟨ht, rfl⟩ | ⟨hf, rfl⟩
  · have HOK : Hid (OK1 (i0, i1, tl, Sp, Si)) := ht
    clear ht
    obtain ⟨a0, a1, a2, a3, a4, a5, a6, a7, a8⟩ := nine_cells' (HGB.out _ HX.out).1
    obtain ⟨b0, b1, b2, b3, b4, b5, b6, b7⟩ := eight_cells (HGB.out _ HX.out).2.1
    obtain ⟨g0, g1, g2, g3_, g4_⟩ := five_cells' (HGB.out _ HX.out).2.2
    by_cases k : q2 < (mt : Int)
    · have kd : decide (q2 < (mt : Int)) = true := decide_eq_true k
      have HXE := HX
      have HE : Hid (Below w.heap.size w w7) := HB.out.trans (HXE.out.mono HB.out.size)
      have HF : Hid (NoP (OK1 (i0, i1, tl, Sp, Si) ∧ segR q2 x1 x2 n1 (i0, i1, tl, Sp, Si))) := fun h => absurd h.2.1 (by show ¬ (tl.length : Int) ≤ q2; rw [← HMT.out]; omega)
      go_wp2_with fail
      go_ret
      exact ⟨iff_f HF.out, HE.out⟩
    · have kd : decide (q2 < (mt : Int)) = false := decide_eq_false k
      go_wp2_with fail
      refine (HI.out (i1) (0) ((n1 : Int) - 1) _).mono ?_
      rintro e wt ⟨rfl, hwt⟩
      rw [hwt]
      clear hwt wt
      by_cases jB : (0 : Int) ≤ i1 ∧ (i1 : Int) ≤ (n1 : Int) - 1
      · rw [decide_eq_true jB]
        go_wp2_with fail
        refine (HI.out (i0) (0) (x1 - 1) _).mono ?_
        rintro e wt ⟨rfl, hwt⟩
        rw [hwt]
        clear hwt wt
        by_cases jC : (0 : Int) ≤ i0 ∧ (i0 : Int) ≤ x1 - 1
        · rw [decide_eq_true jC]
          have HA : Hid (((tl.length : Int) ≤ q2) ∧ (0 ≤ i1 ∧ i1 ≤ (n1 : Int) - 1) ∧ (0 ≤ i0 ∧ i0 ≤ x1 - 1)) := ⟨by rw [← HMT.out]; omega, jB, jC⟩
          go_wp2_with fail
          clear a0 a1 a2 a3 a4 a5 a6 a7 a8 b0 b1 b2 b3 b4 b5 b6 b7 g0 g1 g2 g3_ g4_
          go_loopg [7] l3 (fun g i_ wr => ∃ (i : Nat), i ≤ l3 ∧ l3 - i ≤ g ∧ i_ = .int .i64 (i : Nat) ∧ Hid (∀ y ∈ Sp.take i, y.1 < x2) ∧ Hid (Below W2.heap.size W2 wr))
          case atStart => exact ⟨0, by omega, by omega, rfl, take_zero, HX⟩
          case round =>
            clear HX
            obtain ⟨i, hi, hg, rfl, HV, HX⟩ := hrel
            by_cases hin : i < l3
            · have iw : ((i : Nat) : Int) < (l3 : Int) := by omega
              have n0i : (0 : Int) ≤ ((i : Nat) : Int) := by omega
              have hixi : i < Sp.length := by rw [← hSN.out]; exact hin
              obtain ⟨b1_, f1, s1_, rfl, hlt1, _, hR1, hc1⟩ := (hS.out wr HX.out).get hixi
              obtain ⟨y, hy⟩ : ∃ z, z = Sp[i] := ⟨_, rfl⟩
              have hmy : y ∈ Sp := hy ▸ List.getElem_mem hixi
              rw [← hy] at hR1
              have HYI : Hid (Sp[i] = y) := hy.symm
              have HYM : Hid (y ∈ Sp) := hmy
              obtain rfl := spnM_cells hR1
              obtain ⟨z, hz⟩ : ∃ q, q = y.1 := ⟨_, rfl⟩
              have HZ := Lib.hid hz
              rw [← hz] at hc1
              have e0 : wr.cell? ⟨b1_, f1 + i * 3, none⟩ = some (.int .i64 z) := hc1 0 _ rfl
              clear hc1 hR1 hlt1 hy hmy hz
              obtain ⟨a0, a1, a2, a3, a4, a5, a6, a7, a8⟩ := nine_cells' (HGB.out _ HX.out).1
              obtain ⟨b0, b1, b2, b3, b4, b5, b6, b7⟩ := eight_cells (HGB.out _ HX.out).2.1
              obtain ⟨g0, g1, g2, g3_, g4_⟩ := five_cells' (HGB.out _ HX.out).2.2
              by_cases kz : x2 ≤ z
              · have kd : decide (x2 ≤ z) = true := decide_eq_true kz
                go_upto_region 6 with fail
                go_quiet (fail)
                have HXE : Hid (Below W2.heap.size W2 (wr.drewN nq)) := d_drews HX.out _
                have HE : Hid (Below w.heap.size w (wr.drewN nq)) := HB.out.trans (HXE.out.mono HB.out.size)
                have HF : Hid (NoP (OK1 (i0, i1, tl, Sp, Si) ∧ segR q2 x1 x2 n1 (i0, i1, tl, Sp, Si))) := fun h => h.2.2.2.2.1 ⟨_, HYM.out, by rw [← HZ.out]; exact kz⟩
                go_wp2_with fail
                go_ret
                exact ⟨iff_f HF.out, HE.out⟩
              · have kd : decide (x2 ≤ z) = false := decide_eq_false kz
                go_upto_region 6 with fail
                go_quiet (fail)
                have HX8 : Hid (Below W2.heap.size W2 (wr.drewN nq)) := d_drews HX.out _
                have HV2 : Hid (∀ y ∈ Sp.take (i + 1), y.1 < x2) := all_step hixi HV.out (by rw [HYI.out, ← HZ.out]; omega)
                clear HV HYI HYM HZ
                go_wp2_with fail
                go_roundg (l3 - (i + 1))
                case measure => omega
                case rel => exact ⟨i + 1, by omega, Nat.le_refl _, by go_num, HV2, HX8⟩
            · obtain rfl : l3 = i := by omega
              have iw : ¬ ((l3 : Nat) : Int) < ((l3 : Nat) : Int) := by omega
              obtain ⟨a0, a1, a2, a3, a4, a5, a6, a7, a8⟩ := nine_cells' (HGB.out _ HX.out).1
              obtain ⟨b0, b1, b2, b3, b4, b5, b6, b7⟩ := eight_cells (HGB.out _ HX.out).2.1
              obtain ⟨g0, g1, g2, g3_, g4_⟩ := five_cells' (HGB.out _ HX.out).2.2
              have HX9 := HX
              have HhS : Hid (∀ y ∈ Sp, y.1 < x2) := take_whole hSN.out HV.out
              clear HX HV
              go_wp2_with fail
              clear a0 a1 a2 a3 a4 a5 a6 a7 a8 b0 b1 b2 b3 b4 b5 b6 b7 g0 g1 g2 g3_ g4_
              go_loopg [8] l4 (fun g i_ wr => ∃ (i : Nat), i ≤ l4 ∧ l4 - i ≤ g ∧ i_ = .int .i64 (i : Nat) ∧ Hid (∀ y ∈ Si.take i, y.1 < x2) ∧ Hid (Below W2.heap.size W2 wr))
              case atStart => exact ⟨0, by omega, by omega, rfl, take_zero, HX9⟩
              case round =>
                clear HX9
                obtain ⟨i, hi, hg, rfl, HV, HX⟩ := hrel
                by_cases hin : i < l4
                · have iw : ((i : Nat) : Int) < (l4 : Int) := by omega
                  have n0i : (0 : Int) ≤ ((i : Nat) : Int) := by omega
                  have hixi : i < Si.length := by rw [← hTN.out]; exact hin
                  obtain ⟨b1_, f1, s1_, rfl, hlt1, _, hR1, hc1⟩ := (hT.out wr HX.out).get hixi
                  obtain ⟨y, hy⟩ : ∃ z, z = Si[i] := ⟨_, rfl⟩
                  have hmy : y ∈ Si := hy ▸ List.getElem_mem hixi
                  rw [← hy] at hR1
                  have HYI : Hid (Si[i] = y) := hy.symm
                  have HYM : Hid (y ∈ Si) := hmy
                  obtain rfl := sitM_cells hR1
                  obtain ⟨z, hz⟩ : ∃ q, q = y.1 := ⟨_, rfl⟩
                  have HZ := Lib.hid hz
                  rw [← hz] at hc1
                  have e0 : wr.cell? ⟨b1_, f1 + i * 2, none⟩ = some (.int .i64 z) := hc1 0 _ rfl
                  clear hc1 hR1 hlt1 hy hmy hz
                  obtain ⟨a0, a1, a2, a3, a4, a5, a6, a7, a8⟩ := nine_cells' (HGB.out _ HX.out).1
                  obtain ⟨b0, b1, b2, b3, b4, b5, b6, b7⟩ := eight_cells (HGB.out _ HX.out).2.1
                  obtain ⟨g0, g1, g2, g3_, g4_⟩ := five_cells' (HGB.out _ HX.out).2.2
                  by_cases kz : x2 ≤ z
                  · have kd : decide (x2 ≤ z) = true := decide_eq_true kz
                    go_upto_region 11 with fail
                    go_quiet (fail)
                    have HXE : Hid (Below W2.heap.size W2 (wr.drewN nq)) := d_drews HX.out _
                    have HE : Hid (Below w.heap.size w (wr.drewN nq)) := HB.out.trans (HXE.out.mono HB.out.size)
                    have HF : Hid (NoP (OK1 (i0, i1, tl, Sp, Si) ∧ segR q2 x1 x2 n1 (i0, i1, tl, Sp, Si))) := fun h => h.2.2.2.2.2 ⟨_, HYM.out, by rw [← HZ.out]; exact kz⟩
                    go_wp2_with fail
                    go_ret
                    exact ⟨iff_f HF.out, HE.out⟩
                  · have kd : decide (x2 ≤ z) = false := decide_eq_false kz
                    go_upto_region 11 with fail
                    go_quiet (fail)
                    have HX8 : Hid (Below W2.heap.size W2 (wr.drewN nq)) := d_drews HX.out _
                    have HV2 : Hid (∀ y ∈ Si.take (i + 1), y.1 < x2) := all_step hixi HV.out (by rw [HYI.out, ← HZ.out]; omega)
                    clear HV HYI HYM HZ
                    go_wp2_with fail
                    go_roundg (l4 - (i + 1))
                    case measure => omega
                    case rel => exact ⟨i + 1, by omega, Nat.le_refl _, by go_num, HV2, HX8⟩
                · obtain rfl : l4 = i := by omega
                  have iw : ¬ ((l4 : Nat) : Int) < ((l4 : Nat) : Int) := by omega
                  obtain ⟨a0, a1, a2, a3, a4, a5, a6, a7, a8⟩ := nine_cells' (HGB.out _ HX.out).1
                  obtain ⟨b0, b1, b2, b3, b4, b5, b6, b7⟩ := eight_cells (HGB.out _ HX.out).2.1
                  obtain ⟨g0, g1, g2, g3_, g4_⟩ := five_cells' (HGB.out _ HX.out).2.2
                  have HX9 := HX
                  have HhT : Hid (∀ y ∈ Si, y.1 < x2) := take_whole hTN.out HV.out
                  clear HX HV
                  go_wp2_with fail
                  have HE : Hid (Below w.heap.size w wr) := HB.out.trans (HX9.out.mono HB.out.size)
                  have HT : Hid (OK1 (i0, i1, tl, Sp, Si) ∧ segR q2 x1 x2 n1 (i0, i1, tl, Sp, Si)) := ⟨HOK.out, HA.out.1, HA.out.2.1, HA.out.2.2, fun ⟨y, hy, e⟩ => by have := HhS.out y hy; omega, fun ⟨y, hy, e⟩ => by have := HhT.out y hy; omega⟩
                  go_ret
                  exact ⟨iff_t HT.out, HE.out⟩
        · rw [decide_eq_false jC]
          have HXE := HX
          have HE : Hid (Below w.heap.size w w7) := HB.out.trans (HXE.out.mono HB.out.size)
          have HF : Hid (NoP (OK1 (i0, i1, tl, Sp, Si) ∧ segR q2 x1 x2 n1 (i0, i1, tl, Sp, Si))) := fun h => jC h.2.2.2.1
          go_wp2_with fail
          go_ret
          exact ⟨iff_f HF.out, HE.out⟩
      · rw [decide_eq_false jB]
        have HXE := HX
        have HE : Hid (Below w.heap.size w w7) := HB.out.trans (HXE.out.mono HB.out.size)
        have HF : Hid (NoP (OK1 (i0, i1, tl, Sp, Si) ∧ segR q2 x1 x2 n1 (i0, i1, tl, Sp, Si))) := fun h => jB h.2.2.1
        go_wp2_with fail
        go_ret
        exact ⟨iff_f HF.out, HE.out⟩
  · have HNO : Hid (NoP (OK1 (i0, i1, tl, Sp, Si))) := hf
    clear hf
    have HXE := HX
    obtain ⟨a0, a1, a2, a3, a4, a5, a6, a7, a8⟩ := nine_cells' (HGB.out _ HX.out).1
    obtain ⟨b0, b1, b2, b3, b4, b5, b6, b7⟩ := eight_cells (HGB.out _ HX.out).2.1
    obtain ⟨g0, g1, g2, g3_, g4_⟩ := five_cells' (HGB.out _ HX.out).2.2
    have HE : Hid (Below w.heap.size w w7) := HB.out.trans (HXE.out.mono HB.out.size)
    have HF : Hid (NoP (OK1 (i0, i1, tl, Sp, Si) ∧ segR q2 x1 x2 n1 (i0, i1, tl, Sp, Si))) := fun h => HNO.out h.1
    go_wp2_with fail
    go_ret
    exact ⟨iff_f HF.out, HE.out⟩
end Go.Proofs.YtccaiippoephbaaGreatDoor.Sta
/- State: the plain text's docs, given what 05.Right owes. -/
set_option linter.unusedVariables false
set_option linter.unusedSimpArgs false
set_option maxRecDepth 100000
namespace Go.Proofs.YtccaiippoephbaaGreatDoor.Sta
open Go.RowKit Go.Lib Go.Proofs.YtccaiippoephbaaGreatDoor.Bx Go.Proofs.YtccaiippoephbaaGreatDoor.Frm Go.Proofs.YtccaiippoephbaaGreatDoor.Wds

def allS (D : List Doc) : List Seg := D.flatMap fun d => d.2
theorem all_take {D : List Doc} {i : Nat} (h : i < D.length) : allS (D.take (i + 1)) = allS (D.take i) ++ D[i].2 := by
  unfold allS
  rw [List.take_succ_eq_append_getElem h, List.flatMap_append]
  simp
theorem all_len {D : List Doc} (h : ∀ d ∈ D, d.2.length ≤ 40) : (allS D).length ≤ D.length * 40 := by
  unfold allS
  induction D with
  | nil => simp
  | cons d D ih =>
    rw [List.flatMap_cons, List.length_append, List.length_cons]
    have h1 := h d (List.mem_cons_self ..)
    have h2 := ih fun x hx => h x (List.mem_cons_of_mem _ hx)
    omega
/-- A row of segments of the call's own; what is in them lies below it. -/
def OwnD (base : Nat) (w : World) (v : Value) (xs : List Seg) : Prop := ∃ p : List (List Value × Seg), p.map Prod.snd = xs ∧ Rk.OwnK 67 5 base w v (p.map Prod.fst) ∧ ∀ x ∈ p, segM.R (fun b => b < base) w x.1 x.2
theorem OwnD.nil_ (base : Nat) (w : World) : OwnD base w (.slice none 0 0) [] := ⟨[], rfl, Rk.OwnK.nil_ _ _ _ _, fun _ h => by simp at h⟩
theorem OwnD.below {base : Nat} {w w' : World} {v : Value} {xs : List Seg} (h : OwnD base w v xs) (hb : Below w.heap.size w w') : OwnD base w' v xs := by
  obtain ⟨p, h1, h2, h3⟩ := h
  exact ⟨p, h1, h2.below hb, fun x hx => segM_ok.keep (h3 x hx) (Keep.below hb)⟩
theorem OwnD.is_slice {base : Nat} {w : World} {v : Value} {xs : List Seg} (h : OwnD base w v xs) : ∃ ad cap, v = .slice ad xs.length cap := by
  obtain ⟨p, h1, h2, _⟩ := h
  obtain ⟨ad, cap, e⟩ := h2.is_slice
  exact ⟨ad, cap, by rw [e, ← h1, List.length_map, List.length_map]⟩
theorem OwnD.rowP {base : Nat} {w : World} {v : Value} {xs : List Seg} (h : OwnD base w v xs) : RowP segM (fun _ => True) w v xs := by
  obtain ⟨p, h1, h2, h3⟩ := h
  exact RowP.of_rows ⟨p, h1, h2.row, fun x hx => segM_ok.mono (h3 x hx) fun _ _ _ => trivial⟩
theorem OwnD.more {base : Nat} {w : World} {v u : Value} {xs ys : List Seg} {P : Nat → Prop} (h : OwnD base w v xs) (hu : RowP segM P w u ys) (hP : ∀ b, b < w.heap.size → P b → b < base) : ∃ ps qs : List (List Value), ps.length = xs.length ∧ qs.length = ys.length ∧ Rk.OwnK 67 5 base w v ps ∧ Rk.RowK 5 w u qs ∧ (∀ y ∈ qs, ∀ q ∈ y, q.oneCell' = true) ∧
    ∀ v' w', Rk.OwnK 67 5 base w' v' (ps ++ qs) → w.grownBy w' v.ownBlock → OwnD base w' v' (xs ++ ys) := by
  obtain ⟨p, h1, h2, h3⟩ := h
  obtain ⟨q, g1, g2, _, g4⟩ := hu
  refine ⟨p.map Prod.fst, q.map Prod.fst, by rw [← h1, List.length_map, List.length_map], by rw [← g1, List.length_map, List.length_map], h2, g2, fun y hy c hc => ?_, fun v' w' ho hg => ⟨p ++ q, by rw [List.map_append, h1, g1], by rw [List.map_append]; exact ho, fun x hx => ?_⟩⟩
  · obtain ⟨x, hx, rfl⟩ := List.mem_map.1 hy
    exact segM_ok.one (g4 x hx) c hc
  · have hR : segM.R (fun b => b < base) w x.1 x.2 := by
      rcases List.mem_append.1 hx with hx | hx
      · exact h3 x hx
      · exact segM_ok.mono (g4 x hx) hP
    exact segM_ok.keep hR ⟨hg.size, fun b hb hp => hg.block b hb (fun e => by
      have := (h2.block b e.symm).1
      omega)⟩
def docsP (q2 q3 q4 x1 x2 : Int) (n1 : Nat) (OK1 : Seg → Prop) (D : List Doc) : Prop := ((D.length : Int) ≤ q4 ∧ ((allS D).length : Int) ≤ q3 ∧ (∀ y ∈ allS D, OK1 y ∧ segR q2 x1 x2 n1 y) ∧ ((allS D).map fun y => y.1).Nodup)
def plN (G : List Seg) (id : Int) : Option Nat := G.findIdx? (fun g => g.1 == id)
def plI (G : List Seg) (id : Int) : Int := match plN G id with
  | some k => k
  | none => -1
theorem pl_yes {G : List Seg} {id : Int} {k : Nat} (hk : k < G.length) (h : ∀ j (hj : j < G.length), j < k → G[j].1 ≠ id) (he : G[k].1 = id) : plI G id = k := by
  unfold plI plN
  rw [List.findIdx?_eq_some_iff_getElem.2 ⟨hk, by simp [he], fun j hj => by simpa using h j (Nat.lt_trans hj hk) hj⟩]
theorem pl_no {G : List Seg} {id : Int} (h : ∀ j (hj : j < G.length), G[j].1 ≠ id) : plI G id = -1 := by
  unfold plI plN
  rw [List.findIdx?_eq_none_iff.2 (fun g hg => by
    obtain ⟨j, hj, rfl⟩ := List.getElem_of_mem hg
    simpa using h j hj)]
theorem pl_self {G : List Seg} {k : Nat} (hk : k < G.length) : plI G G[k].1 = k ↔ ∀ j (hj : j < G.length), j < k → G[j].1 ≠ G[k].1 := by
  constructor
  · intro h j hj hjk e
    have : ∃ m : Nat, m ≤ j ∧ plI G G[k].1 = m := by
      by_cases hm : ∃ m, ∃ hm : m < G.length, m ≤ j ∧ G[m].1 = G[k].1
      · clear h
        induction j using Nat.strongRecOn with
        | _ j ih =>
          by_cases hq : ∃ m, ∃ hm : m < G.length, m < j ∧ G[m].1 = G[k].1
          · obtain ⟨m, h1, h2, h3⟩ := hq
            obtain ⟨m', h4, h5⟩ := ih m h2 h1 (by omega) h3 ⟨m, h1, Nat.le_refl _, h3⟩
            exact ⟨m', by omega, h5⟩
          · exact ⟨j, Nat.le_refl _, pl_yes hj (fun i hi hij e2 => hq ⟨i, hi, hij, e2⟩) e⟩
      · exact absurd ⟨j, hj, Nat.le_refl _, e⟩ hm
    obtain ⟨m, h1, h2⟩ := this
    rw [h] at h2
    omega
  · intro h
    exact pl_yes hk h rfl
theorem pl_nodup {G : List Seg} : (G.map fun y => y.1).Nodup ↔ ∀ k (hk : k < G.length), plI G G[k].1 = k := by
  constructor
  · intro h k hk
    rw [pl_self hk]
    intro j hj hjk e
    have := (List.pairwise_iff_getElem.1 h) j k (by simpa using hj) (by simpa using hk) hjk
    simp only [List.getElem_map] at this
    exact this e
  · intro h
    refine List.pairwise_iff_getElem.2 fun j k hj hk hjk => ?_
    simp only [List.getElem_map]
    have hk' : k < G.length := by simpa using hk
    exact (pl_self hk').1 (h k hk') j (by simpa using hj) hjk
set_option maxHeartbeats 4000000 in
theorem rplace6_ok {P : Nat → Prop} {a : Option Addr} {n c : Nat} (G : List Seg) (id : Int) (w : World) (h : RowP segM P w (.slice a n c) G) : Calls Tryz.prog 48 #[.slice a n c, .int .i64 id] w fun e w' => e = .returned (.int .i64 (plI G id)) ∧ w' = w := by
  have HD := Lib.hid h
  have HN : Hid (n = G.length) := h.len.1
  have hmn : n ≤ 9223372036854775807 := by have q := h.len; simp only [maxLen] at q; omega
  clear h
  have HY : Hid (∀ k (hk : k < G.length), (∀ j (hj : j < G.length), j < k → G[j].1 ≠ id) → G[k].1 = id → plI G id = k) := fun k hk h e => pl_yes hk h e
  have HZ : Hid ((∀ j (hj : j < G.length), G[j].1 ≠ id) → plI G id = -1) := pl_no
  obtain ⟨r, hr⟩ : ∃ r, r = plI G id := ⟨_, rfl⟩
  rw [← hr] at HY HZ ⊢
  clear hr
  go_enter Tryz.func48, Tryz.ntmps48
  go_wp2_with fail
  go_loopg [5] n (fun g i_ wr => ∃ (i : Nat), i ≤ n ∧ n - i ≤ g ∧ i_ = .int .i64 (i : Nat) ∧ Hid (∀ j (h : j < G.length), j < i → G[j].1 ≠ id) ∧ wr = w)
  case atStart => exact ⟨0, by omega, by omega, rfl, fun j h hj => absurd hj (Nat.not_lt_zero _), rfl⟩
  case round =>
    obtain ⟨i, hi, hg, rfl, HV, rfl⟩ := hrel
    by_cases hin : i < n
    · have iw : ((i : Nat) : Int) < (n : Int) := by omega
      have n0i : (0 : Int) ≤ ((i : Nat) : Int) := by omega
      have hixi : i < G.length := by rw [← HN.out]; exact hin
      obtain ⟨b1, f1, s1, rfl, hlt1, _, hR1, hc1⟩ := HD.out.get hixi
      obtain ⟨u3, c3, u4, c4, rfl, _, _⟩ := segM_cells hR1
      obtain ⟨z, hz⟩ : ∃ q, q = G[i].1 := ⟨_, rfl⟩
      have e0 : wr.cell? ⟨b1, f1 + i * 5, none⟩ = some (.int .i64 z) := by rw [hz]; exact hc1 0 _ rfl
      have HZI := Lib.hid hz
      clear hc1 hR1 hlt1 hz
      by_cases k : z = id
      · have e1 : (z == id) = true := by simp [k]
        have HR : Hid (r = (i : Nat)) := HY.out i hixi HV.out (by rw [← HZI.out]; exact k)
        clear HY HZ HV k
        go_wp2_with fail
        go_ret
        exact ⟨by rw [HR.out]; rfl, rfl⟩
      · have e1 : (z == id) = false := by simp [k]
        have HV2 : Hid (∀ j (h : j < G.length), j < i + 1 → G[j].1 ≠ id) := fun j h hj => by
          by_cases e : j = i
          · subst e; rw [← HZI.out]; exact k
          · exact HV.out j h (by omega)
        clear HV k
        go_wp2_with fail
        go_roundg (n - (i + 1))
        case measure => omega
        case rel => exact ⟨i + 1, by omega, Nat.le_refl _, by go_num, HV2, rfl⟩
    · obtain rfl : n = i := by omega
      have iw : ¬ ((n : Nat) : Int) < ((n : Nat) : Int) := by omega
      have HR : Hid (r = -1) := HZ.out (fun j h => HV.out j h (by have := HN.out; omega))
      clear HY HZ HV
      go_wp2_with fail
      go_ret
      exact ⟨by rw [HR.out]; rfl, rfl⟩
theorem infoSeg14 : (Tryz.prog.info? 67).map (fun i => (i.zero, i.size, i.bytes)) = some (some (.agg #[.int .i64 0, .int .i64 0, .string (ByteArray.mk #[]), .slice none 0 0, .slice none 0 0]), 5, 80) := by kernel_rfl
set_option maxHeartbeats 16000000 in
theorem rdocs_any {OK1 : Seg → Prop} (RG : RightG OK1) {u0 u1 y3 y4 y5 y6 y7 : Option Addr} {n0 k0 n1 k1 m3 d3 m4 d4 m5 d5 m6 d6 m7 d7 : Nat} {q2 q3 q4 q5 q6 q7 q8 x0 x1 x2 : Int} {n : Nat} (D : List Doc) (w : World) (h : RowP docM (fun b => b < w.heap.size) w (.slice y4 n d4) D) (hD : D.length ≤ 20) (hdl : ∀ d ∈ D, d.2.length ≤ 40) (hsg : ∀ y ∈ allS D, segS y ∧ segG y) (hx1 : 0 ≤ x1 ∧ x1 ≤ 1099511627776) (h1 : n1 ≤ 9223372036854775807) : Calls Tryz.prog 25 #[.agg #[.slice u0 n0 k0, .slice u1 n1 k1, .int .i64 q2, .int .i64 q3, .int .i64 q4, .int .i64 q5, .int .i64 q6, .int .i64 q7, .int .i64 q8], .agg #[.int .i64 x0, .int .i64 x1, .int .i64 x2, .slice y3 m3 d3, .slice y4 n d4, .slice y5 m5 d5, .slice y6 m6 d6, .slice y7 m7 d7]] w fun e w' => IffB (docsP q2 q3 q4 x1 x2 n1 OK1 D) e ∧ Below w.heap.size w w' := by
  have HDD : Hid (∀ w', Below w.heap.size w w' → RowP docM (fun b => b < w.heap.size) w' (.slice y4 n d4) D) := fun w' b => h.keep docM_ok (Keep.below b)
  have HND : Hid (n = D.length) := h.len.1
  have hmn : n ≤ 9223372036854775807 := by have q := h.len; simp only [maxLen] at q; omega
  have HD20 := Lib.hid hD
  have HDL := Lib.hid hdl
  have HSG := Lib.hid hsg
  clear h hD hdl hsg
  obtain ⟨B0, P0, L0⟩ := box1 w #[.slice u0 n0 k0, .slice u1 n1 k1, .int .i64 q2, .int .i64 q3, .int .i64 q4, .int .i64 q5, .int .i64 q6, .int .i64 q7, .int .i64 q8] 25
  obtain ⟨W0, hW0⟩ : ∃ W0, W0 = w.alloc (.cells #[.slice u0 n0 k0, .slice u1 n1 k1, .int .i64 q2, .int .i64 q3, .int .i64 q4, .int .i64 q5, .int .i64 q6, .int .i64 q7, .int .i64 q8] 25) := ⟨_, rfl⟩
  rw [← hW0] at B0 P0 L0
  obtain ⟨B1, P1, L1⟩ := box1 W0 #[.int .i64 x0, .int .i64 x1, .int .i64 x2, .slice y3 m3 d3, .slice y4 n d4, .slice y5 m5 d5, .slice y6 m6 d6, .slice y7 m7 d7] 31
  obtain ⟨W1, hW1⟩ : ∃ W1, W1 = W0.alloc (.cells #[.int .i64 x0, .int .i64 x1, .int .i64 x2, .slice y3 m3 d3, .slice y4 n d4, .slice y5 m5 d5, .slice y6 m6 d6, .slice y7 m7 d7] 31) := ⟨_, rfl⟩
  rw [← hW1] at B1 P1 L1
  have q0 : W1.heap[w.heap.size]? = some (.cells #[.slice u0 n0 k0, .slice u1 n1 k1, .int .i64 q2, .int .i64 q3, .int .i64 q4, .int .i64 q5, .int .i64 q6, .int .i64 q7, .int .i64 q8] 25 (0, 0)) := (B1.block _ (by omega)).trans P0
  rw [L0] at P1 L1
  have HB : Hid (Below w.heap.size w W1) := below_on B0 B1
  obtain ⟨R, hR⟩ : ∃ R, R = w.heap.size := ⟨_, rfl⟩
  rw [← hR] at q0 P1 L1
  have HG : Hid (∀ w', Below W1.heap.size W1 w' → w'.heap[R]? = some (.cells #[.slice u0 n0 k0, .slice u1 n1 k1, .int .i64 q2, .int .i64 q3, .int .i64 q4, .int .i64 q5, .int .i64 q6, .int .i64 q7, .int .i64 q8] 25 (0, 0)) ∧ w'.heap[R + 1]? = some (.cells #[.int .i64 x0, .int .i64 x1, .int .i64 x2, .slice y3 m3 d3, .slice y4 n d4, .slice y5 m5 d5, .slice y6 m6 d6, .slice y7 m7 d7] 31 (0, 0))) := fun w' b => ⟨(b.block R (by omega)).trans q0, (b.block (R + 1) (by omega)).trans P1⟩
  have HX : Hid (Below W1.heap.size W1 W1) := Below.refl _ _
  have HW : Hid (W1 = (w.alloc (.cells #[.slice u0 n0 k0, .slice u1 n1 k1, .int .i64 q2, .int .i64 q3, .int .i64 q4, .int .i64 q5, .int .i64 q6, .int .i64 q7, .int .i64 q8] 25)).alloc (.cells #[.int .i64 x0, .int .i64 x1, .int .i64 x2, .slice y3 m3 d3, .slice y4 n d4, .slice y5 m5 d5, .slice y6 m6 d6, .slice y7 m7 d7] 31)) := by show _ = _; rw [hW1, hW0]
  have HR : Hid (w.heap.size = R) := hR.symm
  clear hR B0 P0 L0 B1 P1 L1 hW0 hW1 q0
  go_enter Tryz.func25, Tryz.ntmps25
  go_upto_region 1 with fail
  rw [← HW.out, HR.out]
  go_wp2_with fail
  go_loopg [5, 6] n (fun g v_ i_ wr => ∃ (i : Nat) (v : Value), i ≤ n ∧ n - i ≤ g ∧ i_ = .int .i64 (i : Nat) ∧ v_ = v ∧ Hid (OwnD W1.heap.size wr v (allS (D.take i))) ∧ Hid (Below W1.heap.size W1 wr))
  case atStart => exact ⟨0, _, by omega, by omega, rfl, rfl, (by rw [List.take_zero]; exact OwnD.nil_ _ _), HX⟩
  case round =>
    clear HX
    obtain ⟨i, v, hi, hg, rfl, rfl, HO, HX⟩ := hrel
    by_cases hin : i < n
    · have iw : ((i : Nat) : Int) < (n : Int) := by omega
      have n0i : (0 : Int) ≤ ((i : Nat) : Int) := by omega
      have hixi : i < D.length := by rw [← HND.out]; exact hin
      obtain ⟨a0, a1, a2, a3, a4, a5, a6, a7, a8⟩ := nine_cells' (HG.out _ HX.out).1
      obtain ⟨b0, b1, b2, b3, b4, b5, b6, b7⟩ := eight_cells (HG.out _ HX.out).2
      obtain ⟨b1_, f1, s1, rfl, hlt1, _, hR1, hc1⟩ := (HDD.out wr (HB.out.trans (HX.out.mono HB.out.size))).get hixi
      obtain ⟨x, hx⟩ : ∃ z, z = D[i] := ⟨_, rfl⟩
      rw [← hx] at hR1
      have HXI : Hid (D[i] = x) := hx.symm
      obtain ⟨r1, d1, rfl, qr⟩ := docM_cells hR1
      have HXL : Hid (x.2.length ≤ 40) := HDL.out x (hx ▸ List.getElem_mem hixi)
      obtain ⟨na, hna⟩ : ∃ q, q = x.2.length := ⟨_, rfl⟩
      rw [← hna] at hc1 qr
      have c1_ : wr.cell? ⟨b1_, f1 + i * 2 + 1, none⟩ = some (.slice r1 na d1) := hc1 1 _ rfl
      obtain ⟨ps, qs, la, lb, A1', A2', A3', A5'⟩ := HO.out.more qr (fun b _ hp => Nat.lt_of_lt_of_le hp HB.out.size)
      have A1 := Lib.hid A1'
      have A2 := Lib.hid A2'
      have HYO := Lib.hid A3'
      have A5 := Lib.hid A5'
      have A3 : Hid (ps.length + qs.length ≤ 100000) := by
        show _ ≤ _
        have e1 : (allS (D.take i)).length ≤ (D.take i).length * 40 := all_len fun d hd => HDL.out d (List.mem_of_mem_take hd)
        rw [List.length_take] at e1
        have := HXL.out
        have := HD20.out
        rw [la, lb]
        omega
      have A4 : Hid (W1.heap.size ≤ wr.heap.size) := HX.out.size
      clear hx hR1 hc1 hlt1 qr la lb A1' A2' A3' A5' hna
      go_wp2_with (at_builtin; refine Rk.wpList_append_rowk rfl _ _ 49 67 5 80 _ Tryz.underlying49 infoSeg14 rfl (by decide) (by decide) rfl W1.heap.size _ _ ps qs rfl rfl A1.out A2.out HYO.out A3.out A4.out ?_)
      intro v6 w9 h5 g5 k5
      have HO9 : Hid (OwnD W1.heap.size w9 v6 (allS (D.take (i + 1)))) := by
        show OwnD _ _ _ _
        rw [all_take hixi, HXI.out]
        exact A5.out _ _ h5 g5
      have HX9 : Hid (Below W1.heap.size W1 w9) := A1.out.belowOf HX.out (Nat.le_refl _) A4.out g5
      clear h5 g5 k5 A1 A2 A3 A4 A5 HYO c1_ a0 a1 a2 a3 a4 a5 a6 a7 a8 b0 b1 b2 b3 b4 b5 b6 b7 HX HO
      go_wp2_with fail
      go_roundg (n - (i + 1))
      case measure => omega
      case rel => exact ⟨i + 1, _, by omega, Nat.le_refl _, by go_num, rfl, HO9, HX9⟩
    · obtain rfl : n = i := by omega
      have iw : ¬ ((n : Nat) : Int) < ((n : Nat) : Int) := by omega
      obtain ⟨a0, a1, a2, a3, a4, a5, a6, a7, a8⟩ := nine_cells' (HG.out _ HX.out).1
      obtain ⟨b0, b1, b2, b3, b4, b5, b6, b7⟩ := eight_cells (HG.out _ HX.out).2
      obtain ⟨ad, cap, rfl⟩ := HO.out.is_slice
      have HO2 : Hid (OwnD W1.heap.size wr (.slice ad (allS D).length cap) (allS D)) := by
        have h := HO.out
        rw [List.take_of_length_le (by rw [← HND.out]; exact Nat.le_refl _)] at h
        exact h
      have hlen : (allS (D.take n)).length = (allS D).length := by rw [List.take_of_length_le (by rw [← HND.out]; exact Nat.le_refl _)]
      rw [hlen]
      clear HO hlen
      obtain ⟨N, hN⟩ : ∃ N, N = (allS D).length := ⟨_, rfl⟩
      rw [← hN] at HO2 ⊢
      have HNN := Lib.hid hN
      have hNm : N ≤ 9223372036854775807 := by have q := HO2.out.rowP.len; simp only [maxLen] at q; omega
      clear hN
      obtain ⟨W2, hW2⟩ : ∃ W2 : World, W2 = wr := ⟨_, rfl⟩
      subst hW2
      have HX2 := HX
      have HAL : Hid (∀ w', Below W2.heap.size W2 w' → RowP segM (fun _ => True) w' (.slice ad N cap) (allS D)) := fun w' b => (HO2.out.below b).rowP
      by_cases k4 : q4 < (n : Int)
      · have kd4 : decide (q4 < (n : Int)) = true := decide_eq_true k4
        have HXE := HX2
        have HE : Hid (Below w.heap.size w W2) := HB.out.trans (HXE.out.mono HB.out.size)
        have HF : Hid (NoP (docsP q2 q3 q4 x1 x2 n1 OK1 D)) := fun h => absurd h.1 (by rw [← HND.out]; omega)
        go_wp2_with fail
        go_ret
        exact ⟨iff_f HF.out, HE.out⟩
      · have kd4 : decide (q4 < (n : Int)) = false := decide_eq_false k4
        have HQ4 : Hid ((n : Int) ≤ q4) := by show _ ≤ _; omega
        by_cases k3 : q3 < (N : Int)
        · have kd3 : decide (q3 < (N : Int)) = true := decide_eq_true k3
          have HXE := HX2
          have HE : Hid (Below w.heap.size w W2) := HB.out.trans (HXE.out.mono HB.out.size)
          have HF : Hid (NoP (docsP q2 q3 q4 x1 x2 n1 OK1 D)) := fun h => absurd h.2.1 (by rw [← HNN.out]; omega)
          go_wp2_with fail
          go_ret
          exact ⟨iff_f HF.out, HE.out⟩
        · have kd3 : decide (q3 < (N : Int)) = false := decide_eq_false k3
          have HQ3 : Hid ((N : Int) ≤ q3) := by show _ ≤ _; omega
          go_wp2_with fail
          clear a0 a1 a2 a3 a4 a5 a6 a7 a8 b0 b1 b2 b3 b4 b5 b6 b7 HX kd3 kd4 k3 k4
          have HX : Hid (Below W2.heap.size W2 W2) := Below.refl _ _
          go_loopg [7] N (fun g i_ wr => ∃ (j : Nat), j ≤ N ∧ N - j ≤ g ∧ i_ = .int .i64 (j : Nat) ∧ Hid (∀ k (hk : k < (allS D).length), k < j → (OK1 (allS D)[k] ∧ segR q2 x1 x2 n1 (allS D)[k]) ∧ plI (allS D) (allS D)[k].1 = (k : Nat)) ∧ Hid (Below W2.heap.size W2 wr))
          case atStart => exact ⟨0, by omega, by omega, rfl, fun k hk h => absurd h (Nat.not_lt_zero _), HX⟩
          case round =>
            clear HX
            obtain ⟨j, hj, hgj, rfl, HV, HXX⟩ := hrel
            by_cases hjn : j < N
            · have jw : ((j : Nat) : Int) < (N : Int) := by omega
              have j0 : (0 : Int) ≤ ((j : Nat) : Int) := by omega
              have hixj : j < (allS D).length := by rw [← HNN.out]; exact hjn
              obtain ⟨b1_, f1, s1_, rfl, hlt1, _, hR1, hc1⟩ := (HAL.out wr HXX.out).get hixj
              obtain ⟨y, hy⟩ : ∃ z, z = (allS D)[j] := ⟨_, rfl⟩
              have hmy : y ∈ allS D := hy ▸ List.getElem_mem hixj
              rw [← hy] at hR1
              have HYI : Hid ((allS D)[j] = y) := hy.symm
              have HYM : Hid (y ∈ allS D) := hmy
              obtain ⟨p3, g3, p4, g4, rfl, q3_, q4_⟩ := segM_cells hR1
              have hsg := HSG.out y hmy
              obtain ⟨i0, i1, tl, Sp, Si⟩ := y
              simp only at hc1 q3_ q4_
              obtain ⟨l3, hl3⟩ : ∃ q, q = Sp.length := ⟨_, rfl⟩
              obtain ⟨l4, hl4⟩ : ∃ q, q = Si.length := ⟨_, rfl⟩
              rw [← hl3, ← hl4] at hc1
              rw [← hl3] at q3_
              rw [← hl4] at q4_
              have CS0 : Hid (∀ w', Below wr.heap.size wr w' → Calls Tryz.prog 47 #[.agg #[.slice u0 n0 k0, .slice u1 n1 k1, .int .i64 q2, .int .i64 q3, .int .i64 q4, .int .i64 q5, .int .i64 q6, .int .i64 q7, .int .i64 q8], .agg #[.int .i64 x0, .int .i64 x1, .int .i64 x2, .slice y3 m3 d3, .slice y4 n d4, .slice y5 m5 d5, .slice y6 m6 d6, .slice y7 m7 d7], .agg #[.int .i64 i0, .int .i64 i1, .string (mkB tl), .slice p3 l3 g3, .slice p4 l4 g4]] w' fun e w'' => IffB (OK1 (i0, i1, tl, Sp, Si) ∧ segR q2 x1 x2 n1 (i0, i1, tl, Sp, Si)) e ∧ Below w'.heap.size w' w'') := fun w' b => rseg_any RG i0 i1 tl Sp Si w' (q3_.keep spnM_ok (Keep.below b)) (q4_.keep sitM_ok (Keep.below b)) hsg.1 hsg.2 hx1 h1
              have CP : Hid (∀ w', Below wr.heap.size wr w' → Calls Tryz.prog 48 #[.slice (some ⟨b1_, f1, none⟩) N cap, .int .i64 i0] w' fun e w'' => e = .returned (.int .i64 (plI (allS D) i0)) ∧ w'' = w') := fun w' b => rplace6_ok (allS D) i0 w' (HAL.out w' (below_on HXX.out b))
              have HPJ : Hid (plI (allS D) i0 = (j : Nat) → plI (allS D) (allS D)[j].1 = (j : Nat)) := fun h => by rw [HYI.out]; exact h
              have HPJ2 : Hid (plI (allS D) (allS D)[j].1 = (j : Nat) → plI (allS D) i0 = (j : Nat)) := fun h => by rw [HYI.out] at h; exact h
              obtain ⟨ts, htt⟩ : ∃ q, q = mkB tl := ⟨_, rfl⟩
              rw [← htt] at hc1 CS0
              obtain ⟨kk, hkk⟩ : ∃ q, q = plI (allS D) i0 := ⟨_, rfl⟩
              rw [← hkk] at CP HPJ HPJ2
              have e0 : wr.cell? ⟨b1_, f1 + j * 5, none⟩ = some (.int .i64 i0) := hc1 0 _ rfl
              have e1 : wr.cell? ⟨b1_, f1 + j * 5 + 1, none⟩ = some (.int .i64 i1) := hc1 1 _ rfl
              have e2 : wr.cell? ⟨b1_, f1 + j * 5 + 2, none⟩ = some (.string ts) := hc1 2 _ rfl
              have e3 : wr.cell? ⟨b1_, f1 + j * 5 + 3, none⟩ = some (.slice p3 l3 g3) := hc1 3 _ rfl
              have e4 : wr.cell? ⟨b1_, f1 + j * 5 + 4, none⟩ = some (.slice p4 l4 g4) := hc1 4 _ rfl
              have HRc : Hid (∀ w', Below wr.heap.size wr w' → Below wr.heap.size wr w' ∧ w'.cell? ⟨R, 0, none⟩ = some (.slice u0 n0 k0) ∧ w'.cell? ⟨R, 1, none⟩ = some (.slice u1 n1 k1) ∧ w'.cell? ⟨R, 2, none⟩ = some (.int .i64 q2) ∧ w'.cell? ⟨R, 3, none⟩ = some (.int .i64 q3) ∧ w'.cell? ⟨R, 4, none⟩ = some (.int .i64 q4) ∧ w'.cell? ⟨R, 5, none⟩ = some (.int .i64 q5) ∧ w'.cell? ⟨R, 6, none⟩ = some (.int .i64 q6) ∧ w'.cell? ⟨R, 7, none⟩ = some (.int .i64 q7) ∧ w'.cell? ⟨R, 8, none⟩ = some (.int .i64 q8) ∧ w'.cell? ⟨R + 1, 0, none⟩ = some (.int .i64 x0) ∧ w'.cell? ⟨R + 1, 1, none⟩ = some (.int .i64 x1) ∧ w'.cell? ⟨R + 1, 2, none⟩ = some (.int .i64 x2) ∧ w'.cell? ⟨R + 1, 3, none⟩ = some (.slice y3 m3 d3) ∧ w'.cell? ⟨R + 1, 4, none⟩ = some (.slice y4 n d4) ∧ w'.cell? ⟨R + 1, 5, none⟩ = some (.slice y5 m5 d5) ∧ w'.cell? ⟨R + 1, 6, none⟩ = some (.slice y6 m6 d6) ∧ w'.cell? ⟨R + 1, 7, none⟩ = some (.slice y7 m7 d7) ∧ w'.cell? ⟨b1_, f1 + j * 5, none⟩ = some (.int .i64 i0) ∧ w'.cell? ⟨b1_, f1 + j * 5 + 1, none⟩ = some (.int .i64 i1) ∧ w'.cell? ⟨b1_, f1 + j * 5 + 2, none⟩ = some (.string ts) ∧ w'.cell? ⟨b1_, f1 + j * 5 + 3, none⟩ = some (.slice p3 l3 g3) ∧ w'.cell? ⟨b1_, f1 + j * 5 + 4, none⟩ = some (.slice p4 l4 g4)) := fun w' hb => by
                obtain ⟨a0, a1, a2, a3, a4, a5, a6, a7, a8⟩ := nine_cells' (HG.out _ (below_on (below_on HX2.out HXX.out) hb)).1
                obtain ⟨b0, b1, b2, b3, b4, b5, b6, b7⟩ := eight_cells (HG.out _ (below_on (below_on HX2.out HXX.out) hb)).2
                exact ⟨hb, a0, a1, a2, a3, a4, a5, a6, a7, a8, b0, b1, b2, b3, b4, b5, b6, b7, vcell hb hlt1 e0, vcell hb hlt1 e1, vcell hb hlt1 e2, vcell hb hlt1 e3, vcell hb hlt1 e4⟩
              obtain ⟨_, a0, a1, a2, a3, a4, a5, a6, a7, a8, b0, b1, b2, b3, b4, b5, b6, b7, _, _, _, _, _⟩ := HRc.out wr (Below.refl _ _)
              clear hc1 hR1 hlt1 hy hmy htt hkk hsg q3_ q4_ hl3 hl4
              by_cases kOK : OK1 (i0, i1, tl, Sp, Si) ∧ segR q2 x1 x2 n1 (i0, i1, tl, Sp, Si)
              · have CS : Hid (∀ w', Below wr.heap.size wr w' → Calls Tryz.prog 47 #[.agg #[.slice u0 n0 k0, .slice u1 n1 k1, .int .i64 q2, .int .i64 q3, .int .i64 q4, .int .i64 q5, .int .i64 q6, .int .i64 q7, .int .i64 q8], .agg #[.int .i64 x0, .int .i64 x1, .int .i64 x2, .slice y3 m3 d3, .slice y4 n d4, .slice y5 m5 d5, .slice y6 m6 d6, .slice y7 m7 d7], .agg #[.int .i64 i0, .int .i64 i1, .string ts, .slice p3 l3 g3, .slice p4 l4 g4]] w' fun e w'' => e = .returned (.bool true) ∧ Below w'.heap.size w' w'') := fun w' b => (CS0.out w' b).mono fun e w'' h => by
                  rcases h.1.det with ⟨_, e1⟩ | ⟨h2, _⟩
                  · exact ⟨e1, h.2⟩
                  · exact absurd kOK h2
                have HKO := Lib.hid kOK
                clear CS0 kOK
                by_cases kj : kk = (j : Nat)
                · have e9 : (kk != (j : Int)) = false := by simp [kj]
                  have HPK := Lib.hid (HPJ.out kj)
                  clear HPJ HPJ2
                  go_upto_region 11 with fail
                  go_cut [60] from 42 to 60 (fun z wx => z = .bool false ∧ Hid (Below wr.heap.size wr wx))
                  case first =>
                    go_region_held3 (fun w' => Below wr.heap.size wr w' ∧ w'.cell? ⟨R, 0, none⟩ = some (.slice u0 n0 k0) ∧ w'.cell? ⟨R, 1, none⟩ = some (.slice u1 n1 k1) ∧ w'.cell? ⟨R, 2, none⟩ = some (.int .i64 q2) ∧ w'.cell? ⟨R, 3, none⟩ = some (.int .i64 q3) ∧ w'.cell? ⟨R, 4, none⟩ = some (.int .i64 q4) ∧ w'.cell? ⟨R, 5, none⟩ = some (.int .i64 q5) ∧ w'.cell? ⟨R, 6, none⟩ = some (.int .i64 q6) ∧ w'.cell? ⟨R, 7, none⟩ = some (.int .i64 q7) ∧ w'.cell? ⟨R, 8, none⟩ = some (.int .i64 q8) ∧ w'.cell? ⟨R + 1, 0, none⟩ = some (.int .i64 x0) ∧ w'.cell? ⟨R + 1, 1, none⟩ = some (.int .i64 x1) ∧ w'.cell? ⟨R + 1, 2, none⟩ = some (.int .i64 x2) ∧ w'.cell? ⟨R + 1, 3, none⟩ = some (.slice y3 m3 d3) ∧ w'.cell? ⟨R + 1, 4, none⟩ = some (.slice y4 n d4) ∧ w'.cell? ⟨R + 1, 5, none⟩ = some (.slice y5 m5 d5) ∧ w'.cell? ⟨R + 1, 6, none⟩ = some (.slice y6 m6 d6) ∧ w'.cell? ⟨R + 1, 7, none⟩ = some (.slice y7 m7 d7) ∧ w'.cell? ⟨b1_, f1 + j * 5, none⟩ = some (.int .i64 i0) ∧ w'.cell? ⟨b1_, f1 + j * 5 + 1, none⟩ = some (.int .i64 i1) ∧ w'.cell? ⟨b1_, f1 + j * 5 + 2, none⟩ = some (.string ts) ∧ w'.cell? ⟨b1_, f1 + j * 5 + 3, none⟩ = some (.slice p3 l3 g3) ∧ w'.cell? ⟨b1_, f1 + j * 5 + 4, none⟩ = some (.slice p4 l4 g4))
                      ((refine HRc.out _ ?_; focus ((repeat first | with_reducible assumption | with_reducible exact Below.refl _ _ | with_reducible apply Below.drew | with_reducible apply below_drews); done)))
                      (first
                        | (go_at_call 47; (with_reducible refine (CS.out _ (by (repeat first | with_reducible assumption | with_reducible exact Below.refl _ _ | with_reducible apply Below.drew | with_reducible apply below_drews))).mono ?_); rintro e wa ⟨rfl, ba⟩; have ka : Below wr.heap.size wr wa := below_on (by (repeat first | with_reducible assumption | with_reducible exact Below.refl _ _ | with_reducible apply Below.drew | with_reducible apply below_drews)) ba)
                        | (go_at_call 48; (with_reducible refine (CP.out _ (by (repeat first | with_reducible assumption | with_reducible exact Below.refl _ _ | with_reducible apply Below.drew | with_reducible apply below_drews))).mono ?_); rintro e wb ⟨rfl, rfl⟩))
                    all_goals go_wp2_with fail
                    all_goals go_meet
                    all_goals exact ⟨rfl, (show Below wr.heap.size wr _ from by (repeat first | with_reducible assumption | with_reducible exact Below.refl _ _ | with_reducible apply Below.drew | with_reducible apply below_drews))⟩
                  case rest =>
                    obtain ⟨rfl, HZ9⟩ := hcut
                    have HX3 : Hid (Below W2.heap.size W2 wc) := below_on HXX.out HZ9.out
                    have HV2 : Hid (∀ k (hk : k < (allS D).length), k < j + 1 → (OK1 (allS D)[k] ∧ segR q2 x1 x2 n1 (allS D)[k]) ∧ plI (allS D) (allS D)[k].1 = (k : Nat)) := fun k hk hkj => by
                      by_cases e : k = j
                      · subst e
                        exact ⟨by rw [HYI.out]; exact HKO.out, HPK.out⟩
                      · exact HV.out k hk (by omega)
                    clear HV HYI HYM HKO HPK
                    go_wp2_with fail
                    go_roundg (N - (j + 1))
                    case measure => omega
                    case rel => exact ⟨j + 1, by omega, Nat.le_refl _, by go_num, HV2, HX3⟩
                · have e9 : (kk != (j : Int)) = true := by simp [kj]
                  have HNJ : Hid (NoP (plI (allS D) (allS D)[j].1 = (j : Nat))) := fun h => kj (HPJ2.out h)
                  clear HPJ HPJ2
                  go_upto_region 11 with fail
                  go_cut [60] from 42 to 60 (fun z wx => z = .bool true ∧ Hid (Below wr.heap.size wr wx))
                  case first =>
                    go_region_held3 (fun w' => Below wr.heap.size wr w' ∧ w'.cell? ⟨R, 0, none⟩ = some (.slice u0 n0 k0) ∧ w'.cell? ⟨R, 1, none⟩ = some (.slice u1 n1 k1) ∧ w'.cell? ⟨R, 2, none⟩ = some (.int .i64 q2) ∧ w'.cell? ⟨R, 3, none⟩ = some (.int .i64 q3) ∧ w'.cell? ⟨R, 4, none⟩ = some (.int .i64 q4) ∧ w'.cell? ⟨R, 5, none⟩ = some (.int .i64 q5) ∧ w'.cell? ⟨R, 6, none⟩ = some (.int .i64 q6) ∧ w'.cell? ⟨R, 7, none⟩ = some (.int .i64 q7) ∧ w'.cell? ⟨R, 8, none⟩ = some (.int .i64 q8) ∧ w'.cell? ⟨R + 1, 0, none⟩ = some (.int .i64 x0) ∧ w'.cell? ⟨R + 1, 1, none⟩ = some (.int .i64 x1) ∧ w'.cell? ⟨R + 1, 2, none⟩ = some (.int .i64 x2) ∧ w'.cell? ⟨R + 1, 3, none⟩ = some (.slice y3 m3 d3) ∧ w'.cell? ⟨R + 1, 4, none⟩ = some (.slice y4 n d4) ∧ w'.cell? ⟨R + 1, 5, none⟩ = some (.slice y5 m5 d5) ∧ w'.cell? ⟨R + 1, 6, none⟩ = some (.slice y6 m6 d6) ∧ w'.cell? ⟨R + 1, 7, none⟩ = some (.slice y7 m7 d7) ∧ w'.cell? ⟨b1_, f1 + j * 5, none⟩ = some (.int .i64 i0) ∧ w'.cell? ⟨b1_, f1 + j * 5 + 1, none⟩ = some (.int .i64 i1) ∧ w'.cell? ⟨b1_, f1 + j * 5 + 2, none⟩ = some (.string ts) ∧ w'.cell? ⟨b1_, f1 + j * 5 + 3, none⟩ = some (.slice p3 l3 g3) ∧ w'.cell? ⟨b1_, f1 + j * 5 + 4, none⟩ = some (.slice p4 l4 g4))
                      ((refine HRc.out _ ?_; focus ((repeat first | with_reducible assumption | with_reducible exact Below.refl _ _ | with_reducible apply Below.drew | with_reducible apply below_drews); done)))
                      (first
                        | (go_at_call 47; (with_reducible refine (CS.out _ (by (repeat first | with_reducible assumption | with_reducible exact Below.refl _ _ | with_reducible apply Below.drew | with_reducible apply below_drews))).mono ?_); rintro e wa ⟨rfl, ba⟩; have ka : Below wr.heap.size wr wa := below_on (by (repeat first | with_reducible assumption | with_reducible exact Below.refl _ _ | with_reducible apply Below.drew | with_reducible apply below_drews)) ba)
                        | (go_at_call 48; (with_reducible refine (CP.out _ (by (repeat first | with_reducible assumption | with_reducible exact Below.refl _ _ | with_reducible apply Below.drew | with_reducible apply below_drews))).mono ?_); rintro e wb ⟨rfl, rfl⟩))
                    all_goals go_wp2_with fail
                    all_goals go_meet
                    all_goals exact ⟨rfl, (show Below wr.heap.size wr _ from by (repeat first | with_reducible assumption | with_reducible exact Below.refl _ _ | with_reducible apply Below.drew | with_reducible apply below_drews))⟩
                  case rest =>
                    obtain ⟨rfl, HZ9⟩ := hcut
                    have HXE : Hid (Below W1.heap.size W1 wc) := below_on HX2.out (below_on HXX.out HZ9.out)
                    have HE : Hid (Below w.heap.size w wc) := HB.out.trans (HXE.out.mono HB.out.size)
                    have HF : Hid (NoP (docsP q2 q3 q4 x1 x2 n1 OK1 D)) := fun h => HNJ.out (pl_nodup.1 h.2.2.2 j hixj)
                    go_wp2_with fail
                    go_ret
                    exact ⟨iff_f HF.out, HE.out⟩
              · have CS : Hid (∀ w', Below wr.heap.size wr w' → Calls Tryz.prog 47 #[.agg #[.slice u0 n0 k0, .slice u1 n1 k1, .int .i64 q2, .int .i64 q3, .int .i64 q4, .int .i64 q5, .int .i64 q6, .int .i64 q7, .int .i64 q8], .agg #[.int .i64 x0, .int .i64 x1, .int .i64 x2, .slice y3 m3 d3, .slice y4 n d4, .slice y5 m5 d5, .slice y6 m6 d6, .slice y7 m7 d7], .agg #[.int .i64 i0, .int .i64 i1, .string ts, .slice p3 l3 g3, .slice p4 l4 g4]] w' fun e w'' => e = .returned (.bool false) ∧ Below w'.heap.size w' w'') := fun w' b => (CS0.out w' b).mono fun e w'' h => by
                  rcases h.1.det with ⟨h2, _⟩ | ⟨_, e1⟩
                  · exact absurd h2 kOK
                  · exact ⟨e1, h.2⟩
                have HNO : Hid (NoP (OK1 (i0, i1, tl, Sp, Si) ∧ segR q2 x1 x2 n1 (i0, i1, tl, Sp, Si))) := kOK
                clear CS0 kOK HPJ HPJ2
                go_upto_region 11 with fail
                go_cut [60] from 42 to 60 (fun z wx => z = .bool true ∧ Hid (Below wr.heap.size wr wx))
                case first =>
                  refine wp_region_held_drew (S := fun w' => Below wr.heap.size wr w' ∧ w'.cell? ⟨R, 0, none⟩ = some (.slice u0 n0 k0) ∧ w'.cell? ⟨R, 1, none⟩ = some (.slice u1 n1 k1) ∧ w'.cell? ⟨R, 2, none⟩ = some (.int .i64 q2) ∧ w'.cell? ⟨R, 3, none⟩ = some (.int .i64 q3) ∧ w'.cell? ⟨R, 4, none⟩ = some (.int .i64 q4) ∧ w'.cell? ⟨R, 5, none⟩ = some (.int .i64 q5) ∧ w'.cell? ⟨R, 6, none⟩ = some (.int .i64 q6) ∧ w'.cell? ⟨R, 7, none⟩ = some (.int .i64 q7) ∧ w'.cell? ⟨R, 8, none⟩ = some (.int .i64 q8) ∧ w'.cell? ⟨R + 1, 0, none⟩ = some (.int .i64 x0) ∧ w'.cell? ⟨R + 1, 1, none⟩ = some (.int .i64 x1) ∧ w'.cell? ⟨R + 1, 2, none⟩ = some (.int .i64 x2) ∧ w'.cell? ⟨R + 1, 3, none⟩ = some (.slice y3 m3 d3) ∧ w'.cell? ⟨R + 1, 4, none⟩ = some (.slice y4 n d4) ∧ w'.cell? ⟨R + 1, 5, none⟩ = some (.slice y5 m5 d5) ∧ w'.cell? ⟨R + 1, 6, none⟩ = some (.slice y6 m6 d6) ∧ w'.cell? ⟨R + 1, 7, none⟩ = some (.slice y7 m7 d7) ∧ w'.cell? ⟨b1_, f1 + j * 5, none⟩ = some (.int .i64 i0) ∧ w'.cell? ⟨b1_, f1 + j * 5 + 1, none⟩ = some (.int .i64 i1) ∧ w'.cell? ⟨b1_, f1 + j * 5 + 2, none⟩ = some (.string ts) ∧ w'.cell? ⟨b1_, f1 + j * 5 + 3, none⟩ = some (.slice p3 l3 g3) ∧ w'.cell? ⟨b1_, f1 + j * 5 + 4, none⟩ = some (.slice p4 l4 g4)) (by kernel_rfl) (HRc.out _ (by (repeat first | with_reducible assumption | with_reducible exact Below.refl _ _ | with_reducible apply Below.drew | with_reducible apply below_drews))) (fun hHeld => ?_)
                  refine wpAnyH_take (i := 0) (oi := { dst := some 42, op := Op.load 25 (Operand.tmp 2), type := 25, pos := "ref.go:72", after := #[], guard := none }) (v := ?_) rfl (by kernel_rfl) (by kernel_rfl) (by kernel_rfl) (fun _ _ _ h => h) (Or.inl ⟨by rfl, ?_⟩) (by assumption) ?_
                  rotate_left
                  · intro w hSw
                    (try dsimp only at hSw)
                    go_simp
                    try with_reducible rfl
                  try simp only [Act.put, List.setIfInBounds_toArray, List.set_cons_zero, List.set_cons_succ]
                  refine wpAnyH_take (i := 1) (oi := { dst := some 43, op := Op.load 31 (Operand.tmp 3), type := 31, pos := "ref.go:72", after := #[], guard := none }) (v := ?_) rfl (by kernel_rfl) (by kernel_rfl) (by kernel_rfl) (fun _ _ _ h => h) (Or.inl ⟨by rfl, ?_⟩) (by assumption) ?_
                  rotate_left
                  · intro w hSw
                    (try dsimp only at hSw)
                    go_simp
                    try with_reducible rfl
                  try simp only [Act.put, List.setIfInBounds_toArray, List.set_cons_zero, List.set_cons_succ]
                  refine wpAnyH_take (i := 2) (oi := { dst := some 44, op := Op.move (Operand.tmp 5), type := 49, pos := "ref.go:72", after := #[], guard := none }) (v := ?_) rfl (by kernel_rfl) (by kernel_rfl) (by kernel_rfl) (fun _ _ _ h => h) (Or.inl ⟨by rfl, ?_⟩) (by assumption) ?_
                  rotate_left
                  · intro w hSw
                    (try dsimp only at hSw)
                    go_simp
                    try with_reducible rfl
                  try simp only [Act.put, List.setIfInBounds_toArray, List.set_cons_zero, List.set_cons_succ]
                  refine wpAnyH_take (i := 3) (oi := { dst := some 45, op := Op.move (Operand.tmp 7), type := 3, pos := "ref.go:72", after := #[], guard := none }) (v := ?_) rfl (by kernel_rfl) (by kernel_rfl) (by kernel_rfl) (fun _ _ _ h => h) (Or.inl ⟨by rfl, ?_⟩) (by assumption) ?_
                  rotate_left
                  · intro w hSw
                    (try dsimp only at hSw)
                    go_simp
                    try with_reducible rfl
                  try simp only [Act.put, List.setIfInBounds_toArray, List.set_cons_zero, List.set_cons_succ]
                  refine wpAnyH_take (i := 4) (oi := { dst := some 46, op := Op.indexAddr 49 (Operand.tmp 44) (Operand.tmp 45), type := 0, pos := "ref.go:72", after := #[{ on := 2, ground := Ground.data }, { on := 3, ground := Ground.data }], guard := none }) (v := ?_) rfl (by kernel_rfl) (by kernel_rfl) (by kernel_rfl) (fun _ _ _ h => h) (Or.inl ⟨by rfl, ?_⟩) (by assumption) ?_
                  rotate_left
                  · intro w hSw
                    (try dsimp only at hSw)
                    go_simp
                    try with_reducible rfl
                  try simp only [Act.put, List.setIfInBounds_toArray, List.set_cons_zero, List.set_cons_succ]
                  refine wpAnyH_take (i := 5) (oi := { dst := some 47, op := Op.load 67 (Operand.tmp 46), type := 67, pos := "ref.go:72", after := #[{ on := 4, ground := Ground.data }], guard := none }) (v := ?_) rfl (by kernel_rfl) (by kernel_rfl) (by kernel_rfl) (fun _ _ _ h => h) (Or.inl ⟨by rfl, ?_⟩) (by assumption) ?_
                  rotate_left
                  · intro w hSw
                    (try dsimp only at hSw)
                    go_simp
                    try with_reducible rfl
                  try simp only [Act.put, List.setIfInBounds_toArray, List.set_cons_zero, List.set_cons_succ]
                  refine wpAnyH_ready (rs := [6]) (by kernel_rfl) (by simp) ?_
                  refine AllReadyH.cons (o := { dst := some 48, op := Op.call { callee := Callee.value (Operand.func 47), args := #[Operand.tmp 42, Operand.tmp 43, Operand.tmp 47], argTypes := #[25, 31, 67] }, type := 4, pos := "ref.go:72", after := #[{ on := 0, ground := Ground.data }, { on := 1, ground := Ground.data }, { on := 5, ground := Ground.data }], guard := none }) rfl (fun K hK => ?_) AllReadyH.nil
                  first
                    | (go_at_call 47; (with_reducible refine (CS.out _ (by (repeat first | with_reducible assumption | with_reducible exact Below.refl _ _ | with_reducible apply Below.drew | with_reducible apply below_drews))).mono ?_); rintro e wa ⟨rfl, ba⟩; have ka : Below wr.heap.size wr wa := below_on (by (repeat first | with_reducible assumption | with_reducible exact Below.refl _ _ | with_reducible apply Below.drew | with_reducible apply below_drews)) ba)
                    | (go_simp; (go_at_call 47; (with_reducible refine (CS.out _ (by (repeat first | with_reducible assumption | with_reducible exact Below.refl _ _ | with_reducible apply Below.drew | with_reducible apply below_drews))).mono ?_); rintro e wa ⟨rfl, ba⟩; have ka : Below wr.heap.size wr wa := below_on (by (repeat first | with_reducible assumption | with_reducible exact Below.refl _ _ | with_reducible apply Below.drew | with_reducible apply below_drews)) ba))
                  refine hK.out _ _ (HRc.out _ (by (repeat first | with_reducible assumption | with_reducible exact Below.refl _ _ | with_reducible apply Below.drew | with_reducible apply below_drews))) (fun hHeld2 => ?_)
                  clear hK
                  try simp only [Act.put, List.setIfInBounds_toArray, List.set_cons_zero, List.set_cons_succ]
                  refine wpAnyH_take (i := 7) (oi := { dst := some 49, op := Op.unOp UnOp.not 4 (Operand.tmp 48), type := 4, pos := "ref.go:72", after := #[{ on := 6, ground := Ground.data }], guard := none }) (v := ?_) rfl (by kernel_rfl) (by kernel_rfl) (by kernel_rfl) (fun _ _ _ h => h) (Or.inl ⟨by rfl, ?_⟩) (by assumption) ?_
                  rotate_left
                  · intro w hSw
                    (try dsimp only at hSw)
                    go_simp
                    try with_reducible rfl
                  try simp only [Act.put, List.setIfInBounds_toArray, List.set_cons_zero, List.set_cons_succ]
                  refine wpAnyH_take (i := 8) (oi := { dst := some 50, op := Op.move (Operand.tmp 49), type := 4, pos := "ref.go:72", after := #[{ on := 7, ground := Ground.data }, { on := 6, ground := Ground.chain }], guard := none }) (v := ?_) rfl (by kernel_rfl) (by kernel_rfl) (by kernel_rfl) (fun _ _ _ h => h) (Or.inl ⟨by rfl, ?_⟩) (by assumption) ?_
                  rotate_left
                  · intro w hSw
                    (try dsimp only at hSw)
                    go_simp
                    try with_reducible rfl
                  try simp only [Act.put, List.setIfInBounds_toArray, List.set_cons_zero, List.set_cons_succ]
                  refine wpAnyH_take (i := 9) (oi := { dst := some 51, op := Op.move (Operand.tmp 5), type := 49, pos := "ref.go:72", after := #[{ on := 8, ground := Ground.guard }], guard := some (8, false) }) (v := undef) rfl (by kernel_rfl) (by kernel_rfl) (by kernel_rfl) (fun _ _ _ h => h) (Or.inr ⟨by rfl, rfl⟩) (by assumption) ?_
                  try simp only [Act.put, List.setIfInBounds_toArray, List.set_cons_zero, List.set_cons_succ]
                  refine wpAnyH_take (i := 10) (oi := { dst := some 52, op := Op.move (Operand.tmp 5), type := 49, pos := "ref.go:72", after := #[{ on := 8, ground := Ground.guard }], guard := some (8, false) }) (v := undef) rfl (by kernel_rfl) (by kernel_rfl) (by kernel_rfl) (fun _ _ _ h => h) (Or.inr ⟨by rfl, rfl⟩) (by assumption) ?_
                  try simp only [Act.put, List.setIfInBounds_toArray, List.set_cons_zero, List.set_cons_succ]
                  refine wpAnyH_take (i := 11) (oi := { dst := some 53, op := Op.move (Operand.tmp 7), type := 3, pos := "ref.go:72", after := #[{ on := 8, ground := Ground.guard }], guard := some (8, false) }) (v := undef) rfl (by kernel_rfl) (by kernel_rfl) (by kernel_rfl) (fun _ _ _ h => h) (Or.inr ⟨by rfl, rfl⟩) (by assumption) ?_
                  try simp only [Act.put, List.setIfInBounds_toArray, List.set_cons_zero, List.set_cons_succ]
                  refine wpAnyH_take (i := 12) (oi := { dst := some 54, op := Op.indexAddr 49 (Operand.tmp 52) (Operand.tmp 53), type := 0, pos := "ref.go:72", after := #[{ on := 10, ground := Ground.data }, { on := 11, ground := Ground.data }, { on := 8, ground := Ground.guard }], guard := some (8, false) }) (v := undef) rfl (by kernel_rfl) (by kernel_rfl) (by kernel_rfl) (fun _ _ _ h => h) (Or.inr ⟨by rfl, rfl⟩) (by assumption) ?_
                  try simp only [Act.put, List.setIfInBounds_toArray, List.set_cons_zero, List.set_cons_succ]
                  refine wpAnyH_take (i := 13) (oi := { dst := some 55, op := Op.fieldAddr 67 (Operand.tmp 54) 0, type := 0, pos := "ref.go:72", after := #[{ on := 12, ground := Ground.data }, { on := 8, ground := Ground.guard }], guard := some (8, false) }) (v := undef) rfl (by kernel_rfl) (by kernel_rfl) (by kernel_rfl) (fun _ _ _ h => h) (Or.inr ⟨by rfl, rfl⟩) (by assumption) ?_
                  try simp only [Act.put, List.setIfInBounds_toArray, List.set_cons_zero, List.set_cons_succ]
                  refine wpAnyH_take (i := 14) (oi := { dst := some 56, op := Op.load 3 (Operand.tmp 55), type := 3, pos := "ref.go:72", after := #[{ on := 13, ground := Ground.data }, { on := 8, ground := Ground.guard }], guard := some (8, false) }) (v := undef) rfl (by kernel_rfl) (by kernel_rfl) (by kernel_rfl) (fun _ _ _ h => h) (Or.inr ⟨by rfl, rfl⟩) (by assumption) ?_
                  try simp only [Act.put, List.setIfInBounds_toArray, List.set_cons_zero, List.set_cons_succ]
                  refine wpAnyH_take (i := 15) (oi := { dst := some 57, op := Op.call { callee := Callee.value (Operand.func 48), args := #[Operand.tmp 51, Operand.tmp 56], argTypes := #[49, 3] }, type := 3, pos := "ref.go:72", after := #[{ on := 9, ground := Ground.data }, { on := 14, ground := Ground.data }, { on := 8, ground := Ground.chain }, { on := 8, ground := Ground.guard }], guard := some (8, false) }) (v := undef) rfl (by kernel_rfl) (by kernel_rfl) (by kernel_rfl) (fun _ _ _ h => h) (Or.inr ⟨by rfl, rfl⟩) (by assumption) ?_
                  try simp only [Act.put, List.setIfInBounds_toArray, List.set_cons_zero, List.set_cons_succ]
                  refine wpAnyH_take (i := 16) (oi := { dst := some 58, op := Op.move (Operand.tmp 7), type := 3, pos := "ref.go:72", after := #[{ on := 8, ground := Ground.guard }], guard := some (8, false) }) (v := undef) rfl (by kernel_rfl) (by kernel_rfl) (by kernel_rfl) (fun _ _ _ h => h) (Or.inr ⟨by rfl, rfl⟩) (by assumption) ?_
                  try simp only [Act.put, List.setIfInBounds_toArray, List.set_cons_zero, List.set_cons_succ]
                  refine wpAnyH_take (i := 17) (oi := { dst := some 59, op := Op.binOp BinOp.neq 3 (Operand.tmp 57) (Operand.tmp 58) 3, type := 4, pos := "ref.go:72", after := #[{ on := 15, ground := Ground.data }, { on := 16, ground := Ground.data }, { on := 8, ground := Ground.guard }], guard := some (8, false) }) (v := undef) rfl (by kernel_rfl) (by kernel_rfl) (by kernel_rfl) (fun _ _ _ h => h) (Or.inr ⟨by rfl, rfl⟩) (by assumption) ?_
                  try simp only [Act.put, List.setIfInBounds_toArray, List.set_cons_zero, List.set_cons_succ]
                  refine wpAnyH_take (i := 18) (oi := { dst := some 60, op := Op.pick (Operand.tmp 50) (Operand.const (Value.bool true)) (Operand.tmp 59), type := 4, pos := "ref.go:72", after := #[{ on := 8, ground := Ground.data }, { on := 17, ground := Ground.data }], guard := none }) (v := ?_) rfl (by kernel_rfl) (by kernel_rfl) (by kernel_rfl) (fun _ _ _ h => h) (Or.inl ⟨by rfl, ?_⟩) (by assumption) ?_
                  rotate_left
                  · intro w hSw
                    (try dsimp only at hSw)
                    go_simp
                    try with_reducible rfl
                  try simp only [Act.put, List.setIfInBounds_toArray, List.set_cons_zero, List.set_cons_succ]
                  refine wpAnyH_done (by kernel_rfl) ?_ _
                  go_wp2_with fail
                  go_meet
                  exact ⟨rfl, (show Below wr.heap.size wr _ from by (repeat first | with_reducible assumption | with_reducible exact Below.refl _ _ | with_reducible apply Below.drew | with_reducible apply below_drews))⟩
                case rest =>
                  obtain ⟨rfl, HZ9⟩ := hcut
                  have HXE : Hid (Below W1.heap.size W1 wc) := below_on HX2.out (below_on HXX.out HZ9.out)
                  have HE : Hid (Below w.heap.size w wc) := HB.out.trans (HXE.out.mono HB.out.size)
                  have HF : Hid (NoP (docsP q2 q3 q4 x1 x2 n1 OK1 D)) := fun h => HNO.out (h.2.2.1 _ HYM.out)
                  go_wp2_with fail
                  go_ret
                  exact ⟨iff_f HF.out, HE.out⟩
            · obtain rfl : N = j := by omega
              have jw : ¬ ((N : Nat) : Int) < ((N : Nat) : Int) := by omega
              have HE : Hid (Below w.heap.size w wr) := HB.out.trans ((below_on HX2.out HXX.out).mono HB.out.size)
              have HT : Hid (docsP q2 q3 q4 x1 x2 n1 OK1 D) := ⟨by rw [← HND.out]; exact HQ4.out, by rw [← HNN.out]; exact HQ3.out, fun y hy => by
                obtain ⟨k, hk, rfl⟩ := List.getElem_of_mem hy
                exact (HV.out k hk (by rw [HNN.out]; exact hk)).1, pl_nodup.2 fun k hk => (HV.out k hk (by rw [HNN.out]; exact hk)).2⟩
              clear HV
              go_wp2_with fail
              go_ret
              exact ⟨iff_t HT.out, HE.out⟩
theorem rdocs_ok {OK1 : Seg → Prop} (RG : RightG OK1) : RDocs (fun X => (∀ y ∈ X, OK1 y) ∧ (X.map fun y => y.1).Nodup) := by
  intro P P' cs cs' C S w h h' hg hg' hs hm hl hx1 hx2
  obtain ⟨u0, k0, u1, k1, rfl, p0, p1⟩ := cfgM_cells h
  obtain ⟨y3, d3, y4, d4, y5, d5, y6, d6, y7, d7, rfl, r3, r4, r5, r6, r7⟩ := staM_cells h'
  have v1 : C.2.1.length ≤ 9223372036854775807 := by have q := p1.len; simp only [maxLen] at q; omega
  have hids : idsOf S.2.2.2.2.1 = (allS S.2.2.2.2.1).map fun y => y.1 := by
    unfold idsOf allS
    rw [List.map_flatMap]
  refine (rdocs_any RG (u0 := u0) (k0 := k0) (u1 := u1) (k1 := k1) (y3 := y3) (d3 := d3) (y4 := y4) (d4 := d4) (y5 := y5) (d5 := d5) (y6 := y6) (d6 := d6) (y7 := y7) (d7 := d7) (m4 := 0) S.2.2.2.2.1 w (r4.mono docM_ok fun b hb _ => hb) hs.2.1.1 (fun d hd => (hs.2.1.2 d hd).1) (fun y hy => by
    obtain ⟨d, hd, hyd⟩ := List.mem_flatMap.1 hy
    exact ⟨(hs.2.1.2 d hd).2 y hyd, (hg'.2.2.2.2.1.2 d hd).2.2 y hyd⟩) hx1 v1).mono ?_
  rintro e w' ⟨hq, hb⟩
  obtain ⟨b9, e9, h9⟩ := hq
  refine ⟨⟨b9, e9, h9.trans ?_⟩, hb⟩
  rw [hl]
  unfold docsR docsP
  rw [hids, List.length_map]
  constructor
  · rintro ⟨h1, h2, h3, h4⟩
    refine ⟨h1, h2, fun d hd => ⟨fun y hy => (h3 y (List.mem_flatMap.2 ⟨d, hd, hy⟩)).2, fun y hy => (h3 y (List.mem_flatMap.2 ⟨d, hd, hy⟩)).1, ?_⟩, h4⟩
    obtain ⟨i, hi, rfl⟩ := List.getElem_of_mem hd
    rw [← hids] at h4
    have := ids_nodup hi S.2.2.2.2.1[i].2.length h4
    rw [List.take_length] at this
    exact (List.nodup_append.1 this).2.1
  · rintro ⟨h1, h2, h3, h4⟩
    refine ⟨h1, h2, fun y hy => ?_, h4⟩
    obtain ⟨d, hd, hyd⟩ := List.mem_flatMap.1 hy
    exact ⟨(h3 d hd).2.1 y hyd, (h3 d hd).1 y hyd⟩
end Go.Proofs.YtccaiippoephbaaGreatDoor.Sta
