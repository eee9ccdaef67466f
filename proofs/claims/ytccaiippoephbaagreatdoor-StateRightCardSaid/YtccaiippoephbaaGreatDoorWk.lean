/- State: entries right for a config. -/
import Derived.Test.YtccaiippoephbaaGreatDoorZs
import Derived.Test.YtccaiippoephbaaGreatDoorOz
set_option linter.unusedVariables false
set_option linter.unusedSimpArgs false
set_option maxRecDepth 100000
namespace Go.Proofs.YtccaiippoephbaaGreatDoor.Sta
open Go.RowKit Go.Lib Go.Proofs.YtccaiippoephbaaGreatDoor.Bx Go.Proofs.YtccaiippoephbaaGreatDoor.Frm Go.Proofs.YtccaiippoephbaaGreatDoor.Wds

def entR (nu : Nat) (x : Ent) : Prop := (-1 ≤ x.1 ∧ x.1 ≤ (nu : Int) - 1) ∧ (0 ≤ x.2.1 ∧ x.2.1 ≤ 15) ∧ (0 ≤ x.2.2.1 ∧ x.2.2.1 ≤ 255) ∧ x.2.2.2.1.length ≤ 255 ∧ x.2.2.2.2.length ≤ 255
def auditR (nu : Nat) (q : Int) (A : List Ent) : Prop := (A.length : Int) ≤ q ∧ ∀ x ∈ A, entR nu x
theorem all_step {α : Type} {F : α → Prop} {xs : List α} {i : Nat} (hi : i < xs.length) (h : ∀ x ∈ xs.take i, F x) (hx : F xs[i]) : ∀ x ∈ xs.take (i + 1), F x := take_step hi h hx
set_option maxHeartbeats 8000000 in
theorem audit_ok {P P' : Nat → Prop} {cs : List Value} {v : Value} (C : Cfg) (A : List Ent) (w : World) (h : cfgM.R P w cs C) (h' : RowP entM P' w v A) : Calls Tryz.prog 16 #[.agg cs.toArray, v] w fun e w' => IffB (auditR C.1.length C.2.2.2.2.2.2.2.1 A) e ∧ Below w.heap.size w w' := by
  obtain ⟨av, ac, rfl⟩ := h'.is_slice
  obtain ⟨n, hn⟩ : ∃ n, n = A.length := ⟨_, rfl⟩
  rw [← hn] at h' ⊢
  have hmn : n ≤ 9223372036854775807 := by have q := h'.len; simp only [maxLen] at q; omega
  have HNA := Lib.hid hn
  have HDA : Hid (∀ w', Below w.heap.size w w' → RowP entM P' w' (.slice av n ac) A) := fun w' b => h'.keep entM_ok (Keep.below b)
  clear h' hn
  obtain ⟨u0, k0, u1, k1, rfl, p0, p1⟩ := cfgM_cells h
  clear h
  obtain ⟨U, L, q2, q3, q4, q5, q6, q7, q8⟩ := C
  simp only at p0 p1 ⊢
  obtain ⟨n0, hn0⟩ : ∃ n, n = U.length := ⟨_, rfl⟩
  have HN0 := Lib.hid hn0
  obtain ⟨n1, hn1⟩ : ∃ n, n = L.length := ⟨_, rfl⟩
  have HN1 := Lib.hid hn1
  rw [← hn0, ← hn1]
  rw [← hn0] at p0
  rw [← hn1] at p1
  have hm0 : n0 ≤ 9223372036854775807 := by have q := p0.len; simp only [maxLen] at q; omega
  have hm1 : n1 ≤ 9223372036854775807 := by have q := p1.len; simp only [maxLen] at q; omega
  clear hn0 hn1
  show Calls _ _ #[.agg #[.slice u0 n0 k0, .slice u1 n1 k1, .int .i64 q2, .int .i64 q3, .int .i64 q4, .int .i64 q5, .int .i64 q6, .int .i64 q7, .int .i64 q8], .slice av n ac] _ _
  obtain ⟨B0, P0, L0⟩ := box1 w #[.slice u0 n0 k0, .slice u1 n1 k1, .int .i64 q2, .int .i64 q3, .int .i64 q4, .int .i64 q5, .int .i64 q6, .int .i64 q7, .int .i64 q8] 25
  obtain ⟨W0, hW0⟩ : ∃ W0, W0 = w.alloc (.cells #[.slice u0 n0 k0, .slice u1 n1 k1, .int .i64 q2, .int .i64 q3, .int .i64 q4, .int .i64 q5, .int .i64 q6, .int .i64 q7, .int .i64 q8] 25) := ⟨_, rfl⟩
  rw [← hW0] at B0 P0 L0
  obtain ⟨R, hR⟩ : ∃ R, R = w.heap.size := ⟨_, rfl⟩
  rw [← hR] at P0 L0
  have HB : Hid (Below w.heap.size w W0) := B0
  have HP := Lib.hid P0
  have HL : Hid (W0.heap.size = R + 1) := L0
  have HW := Lib.hid hW0
  have HR : Hid (w.heap.size = R) := hR.symm
  have HX : Hid (Below W0.heap.size W0 W0) := Below.refl _ _
  have HD0 : Hid (∀ w', Below W0.heap.size W0 w' → RowP usrM P w' (.slice u0 n0 k0) U) := fun w' b => p0.keep usrM_ok (Keep.below (HB.out.trans (b.mono HB.out.size)))
  have HD1 : Hid (∀ w', Below W0.heap.size W0 w' → RowP labM P w' (.slice u1 n1 k1) L) := fun w' b => p1.keep labM_ok (Keep.below (HB.out.trans (b.mono HB.out.size)))
  clear hR B0 P0 L0 hW0 p0 p1
  go_enter Tryz.func16, Tryz.ntmps16
  have HI := Lib.hid (fun (n lo hi : Int) (w' : World) => within_any n lo hi w')
  go_upto_region 1 with fail
  rw [← HW.out, HR.out]
  obtain ⟨a0, a1, a2, a3, a4, a5, a6, a7, a8⟩ := nine_cells' ((HX.out.block R (by have := HL.out; omega)).trans HP.out)
  by_cases g : q7 < (n : Int)
  · have gd : decide (q7 < (n : Int)) = true := decide_eq_true g
    have HXE := HX
    have HE : Hid (Below w.heap.size w W0) := HB.out.trans (HXE.out.mono HB.out.size)
    have HF : Hid (NoP (auditR n0 q7 A)) := fun h => by have := h.1; rw [← HNA.out] at this; omega
    go_wp2_with fail
    go_ret
    exact ⟨iff_f HF.out, HE.out⟩
  · have gd : decide (q7 < (n : Int)) = false := decide_eq_false g
    have HQ : Hid ((n : Int) ≤ q7) := by show _ ≤ _; omega
    clear g
    go_wp2_with fail
    clear a0 a1 a2 a3 a4 a5 a6 a7 a8 gd
    go_loopg [14] n (fun g i_ wr => ∃ (i : Nat), i ≤ n ∧ n - i ≤ g ∧ i_ = .int .i64 (i : Nat) ∧ Hid (∀ x ∈ A.take i, entR n0 x) ∧ Hid (Below W0.heap.size W0 wr))
    case atStart => exact ⟨0, by omega, by omega, rfl, take_zero, HX⟩
    case round =>
      clear HX
      obtain ⟨i, hi, hg, rfl, HV, HX⟩ := hrel
      by_cases hin : i < n
      · have iw : ((i : Nat) : Int) < (n : Int) := by omega
        have n0i : (0 : Int) ≤ ((i : Nat) : Int) := by omega
        have hixi : i < A.length := by rw [← HNA.out]; exact hin
        obtain ⟨b1, f1, s1_, rfl, hlt1, _, hR1, hc1⟩ := (HDA.out wr (HB.out.trans (HX.out.mono HB.out.size))).get hixi
        obtain ⟨x, hx⟩ : ∃ z, z = A[i] := ⟨_, rfl⟩
        rw [← hx] at hR1
        have HXI : Hid (A[i] = x) := hx.symm
        obtain ⟨r3, d3, r4, d4, rfl, _, _⟩ := entM_cells hR1
        obtain ⟨z0, hz0⟩ : ∃ q, q = x.1 := ⟨_, rfl⟩
        obtain ⟨z1, hz1⟩ : ∃ q, q = x.2.1 := ⟨_, rfl⟩
        obtain ⟨z2, hz2⟩ : ∃ q, q = x.2.2.1 := ⟨_, rfl⟩
        obtain ⟨m3, hm3⟩ : ∃ q, q = x.2.2.2.1.length := ⟨_, rfl⟩
        obtain ⟨m4, hm4⟩ : ∃ q, q = x.2.2.2.2.length := ⟨_, rfl⟩
        rw [← hz0, ← hz1, ← hz2, ← hm3, ← hm4] at hc1
        have HMM := Lib.hid (And.intro hz0 (And.intro hz1 (And.intro hz2 (And.intro hm3 hm4))))
        have e0 : wr.cell? ⟨b1, f1 + i * 5, none⟩ = some (.int .i64 z0) := hc1 0 _ rfl
        have e1 : wr.cell? ⟨b1, f1 + i * 5 + 1, none⟩ = some (.int .i64 z1) := hc1 1 _ rfl
        have e2 : wr.cell? ⟨b1, f1 + i * 5 + 2, none⟩ = some (.int .i64 z2) := hc1 2 _ rfl
        have e3 : wr.cell? ⟨b1, f1 + i * 5 + 3, none⟩ = some (.slice r3 m3 d3) := hc1 3 _ rfl
        have e4 : wr.cell? ⟨b1, f1 + i * 5 + 4, none⟩ = some (.slice r4 m4 d4) := hc1 4 _ rfl
        obtain ⟨bX, pX, lX⟩ := box1 wr #[.int .i64 z0, .int .i64 z1, .int .i64 z2, .slice r3 m3 d3, .slice r4 m4 d4] 59
        obtain ⟨W5, hW5⟩ : ∃ W5, W5 = wr.alloc (.cells #[.int .i64 z0, .int .i64 z1, .int .i64 z2, .slice r3 m3 d3, .slice r4 m4 d4] 59) := ⟨_, rfl⟩
        rw [← hW5] at bX pX lX
        obtain ⟨X, hX⟩ : ∃ X, X = wr.heap.size := ⟨_, rfl⟩
        rw [← hX] at pX lX
        have HW5 := Lib.hid hW5
        have HXX : Hid (wr.heap.size = X) := hX.symm
        have HX5 : Hid (Below W0.heap.size W0 W5) := below_on HX.out bX
        obtain ⟨g0, g1, g2, g3, g4⟩ := five_cells' pX
        clear hc1 hR1 hx hz0 hz1 hz2 hm3 hm4 hlt1 hX hW5 bX pX lX
        have HX' := HX
        clear HX
        have HX := HX5
        obtain ⟨a0, a1, a2, a3, a4, a5, a6, a7, a8⟩ := nine_cells' ((HX.out.block R (by have := HL.out; omega)).trans HP.out)
        clear HX HX'
        go_upto_region 6 with fail
        rw [← HW5.out, HXX.out]
        clear e0 e1 e2 e3 e4
        go_wp2_with fail
        refine (HI.out (z0) (-1) ((n0 : Int) - 1) _).mono ?_
        rintro e wt ⟨rfl, hwt⟩
        rw [hwt]
        clear hwt wt
        by_cases jA : (-1 : Int) ≤ z0 ∧ (z0 : Int) ≤ (n0 : Int) - 1
        · rw [decide_eq_true jA]
          go_wp2_with fail
          refine (HI.out (z1) (0) (15) _).mono ?_
          rintro e wt ⟨rfl, hwt⟩
          rw [hwt]
          clear hwt wt
          by_cases jB : (0 : Int) ≤ z1 ∧ (z1 : Int) ≤ 15
          · rw [decide_eq_true jB]
            go_wp2_with fail
            refine (HI.out (z2) (0) (255) _).mono ?_
            rintro e wt ⟨rfl, hwt⟩
            rw [hwt]
            clear hwt wt
            by_cases jC : (0 : Int) ≤ z2 ∧ (z2 : Int) ≤ 255
            · rw [decide_eq_true jC]
              go_upto_region 8 with fail
              by_cases k0 : 255 < m3
              · have kw0 : (255 : Int) < (m3 : Nat) := by omega
                have kd0 : decide ((255 : Int) < (m3 : Nat)) = true := decide_eq_true kw0
                have HXE := HX5
                have HE : Hid (Below w.heap.size w W5) := HB.out.trans (HXE.out.mono HB.out.size)
                have HF : Hid (NoP (auditR n0 q7 A)) := fun h => (by have hx := h.2 _ (List.getElem_mem hixi); rw [HXI.out] at hx; obtain ⟨hx1, hx2, hx3, hx4, hx5⟩ := hx; rw [← HMM.out.1] at hx1; rw [← HMM.out.2.1] at hx2; rw [← HMM.out.2.2.1] at hx3; rw [← HMM.out.2.2.2.1] at hx4; rw [← HMM.out.2.2.2.2] at hx5; omega)
                go_wp2_with fail
                go_ret
                exact ⟨iff_f HF.out, HE.out⟩
              · have kw0 : ¬ (255 : Int) < (m3 : Nat) := by omega
                have kd0 : decide ((255 : Int) < (m3 : Nat)) = false := decide_eq_false kw0
                by_cases k1 : 255 < m4
                · have kw1 : (255 : Int) < (m4 : Nat) := by omega
                  have kd1 : decide ((255 : Int) < (m4 : Nat)) = true := decide_eq_true kw1
                  have HXE := HX5
                  have HE : Hid (Below w.heap.size w W5) := HB.out.trans (HXE.out.mono HB.out.size)
                  have HF : Hid (NoP (auditR n0 q7 A)) := fun h => (by have hx := h.2 _ (List.getElem_mem hixi); rw [HXI.out] at hx; obtain ⟨hx1, hx2, hx3, hx4, hx5⟩ := hx; rw [← HMM.out.1] at hx1; rw [← HMM.out.2.1] at hx2; rw [← HMM.out.2.2.1] at hx3; rw [← HMM.out.2.2.2.1] at hx4; rw [← HMM.out.2.2.2.2] at hx5; omega)
                  go_wp2_with fail
                  go_ret
                  exact ⟨iff_f HF.out, HE.out⟩
                · have kw1 : ¬ (255 : Int) < (m4 : Nat) := by omega
                  have kd1 : decide ((255 : Int) < (m4 : Nat)) = false := decide_eq_false kw1
                  have HV2 : Hid (∀ x ∈ A.take (i + 1), entR n0 x) := all_step hixi HV.out (by rw [HXI.out]; refine ⟨?_, ?_, ?_, ?_, ?_⟩; rw [← HMM.out.1]; exact jA; rw [← HMM.out.2.1]; exact jB; rw [← HMM.out.2.2.1]; exact jC; rw [← HMM.out.2.2.2.1]; omega; rw [← HMM.out.2.2.2.2]; omega)
                  clear HV HXI HMM
                  go_wp2_with fail
                  go_roundg (n - (i + 1))
                  case measure => omega
                  case rel => exact ⟨i + 1, by omega, Nat.le_refl _, by go_num, HV2, HX5⟩
            · rw [decide_eq_false jC]
              have HXE := HX5
              have HE : Hid (Below w.heap.size w W5) := HB.out.trans (HXE.out.mono HB.out.size)
              have HF : Hid (NoP (auditR n0 q7 A)) := fun h => (by have hx := h.2 _ (List.getElem_mem hixi); rw [HXI.out] at hx; obtain ⟨hx1, hx2, hx3, hx4, hx5⟩ := hx; rw [← HMM.out.1] at hx1; rw [← HMM.out.2.1] at hx2; rw [← HMM.out.2.2.1] at hx3; rw [← HMM.out.2.2.2.1] at hx4; rw [← HMM.out.2.2.2.2] at hx5; exact jC hx3)
              go_wp2_with fail
              go_ret
              exact ⟨iff_f HF.out, HE.out⟩
          · rw [decide_eq_false jB]
            have HXE := HX5
            have HE : Hid (Below w.heap.size w W5) := HB.out.trans (HXE.out.mono HB.out.size)
            have HF : Hid (NoP (auditR n0 q7 A)) := fun h => (by have hx := h.2 _ (List.getElem_mem hixi); rw [HXI.out] at hx; obtain ⟨hx1, hx2, hx3, hx4, hx5⟩ := hx; rw [← HMM.out.1] at hx1; rw [← HMM.out.2.1] at hx2; rw [← HMM.out.2.2.1] at hx3; rw [← HMM.out.2.2.2.1] at hx4; rw [← HMM.out.2.2.2.2] at hx5; exact jB hx2)
            go_wp2_with fail
            go_ret
            exact ⟨iff_f HF.out, HE.out⟩
        · rw [decide_eq_false jA]
          have HXE := HX5
          have HE : Hid (Below w.heap.size w W5) := HB.out.trans (HXE.out.mono HB.out.size)
          have HF : Hid (NoP (auditR n0 q7 A)) := fun h => (by have hx := h.2 _ (List.getElem_mem hixi); rw [HXI.out] at hx; obtain ⟨hx1, hx2, hx3, hx4, hx5⟩ := hx; rw [← HMM.out.1] at hx1; rw [← HMM.out.2.1] at hx2; rw [← HMM.out.2.2.1] at hx3; rw [← HMM.out.2.2.2.1] at hx4; rw [← HMM.out.2.2.2.2] at hx5; exact jA hx1)
          go_wp2_with fail
          go_ret
          exact ⟨iff_f HF.out, HE.out⟩
      · obtain rfl : n = i := by omega
        have iw : ¬ ((n : Nat) : Int) < ((n : Nat) : Int) := by omega
        have HE : Hid (Below w.heap.size w wr) := HB.out.trans (HX.out.mono HB.out.size)
        have HT : Hid (auditR n0 q7 A) := ⟨by rw [← HNA.out]; exact HQ.out, take_whole HNA.out HV.out⟩
        clear HV
        go_wp2_with fail
        go_ret
        exact ⟨iff_t HT.out, HE.out⟩
end Go.Proofs.YtccaiippoephbaaGreatDoor.Sta
/- State: stacks right for a config. -/
set_option linter.unusedVariables false
set_option linter.unusedSimpArgs false
set_option maxRecDepth 100000
namespace Go.Proofs.YtccaiippoephbaaGreatDoor.Sta
open Go.RowKit Go.Lib Go.Proofs.YtccaiippoephbaaGreatDoor.Bx Go.Proofs.YtccaiippoephbaaGreatDoor.Frm Go.Proofs.YtccaiippoephbaaGreatDoor.Wds

def thgR (q2 x2 : Int) (m3 m4 : Nat) (x : Thg) : Prop := (0 ≤ x.2.1 ∧ x.2.1 ≤ (m4 : Int) - 1) ∧ (0 ≤ x.2.2.2.1 ∧ x.2.2.2.1 ≤ (m3 : Int) - 1) ∧ (1 ≤ x.2.2.1 ∧ x.2.2.1 ≤ x2 - 1) ∧ (x.2.2.2.2.length : Int) ≤ q2
set_option maxHeartbeats 8000000 in
theorem thing_any {u0 u1 y3 y4 y5 y6 y7 : Option Addr} {n0 k0 n1 k1 m3 d3 m4 d4 m5 d5 m6 d6 m7 d7 : Nat} {q2 q3 q4 q5 q6 q7 q8 x0 x1 x2 : Int} (z0 z1 z2 z3 : Int) (tl : List UInt8) (w : World) (hx : 1 ≤ x2 ∧ x2 ≤ 1099511627776) (h3 : m3 ≤ 9223372036854775807) (h4 : m4 ≤ 9223372036854775807) (ht : tl.length ≤ 9223372036854775807) : Calls Tryz.prog 35 #[.agg #[.slice u0 n0 k0, .slice u1 n1 k1, .int .i64 q2, .int .i64 q3, .int .i64 q4, .int .i64 q5, .int .i64 q6, .int .i64 q7, .int .i64 q8], .agg #[.int .i64 x0, .int .i64 x1, .int .i64 x2, .slice y3 m3 d3, .slice y4 m4 d4, .slice y5 m5 d5, .slice y6 m6 d6, .slice y7 m7 d7], .agg #[.int .i64 z0, .int .i64 z1, .int .i64 z2, .int .i64 z3, .string (mkB tl)]] w fun e w' => IffB (thgR q2 x2 m3 m4 (z0, z1, z2, z3, tl)) e ∧ Below w.heap.size w w' := by
  obtain ⟨t, htt⟩ : ∃ q, q = mkB tl := ⟨_, rfl⟩
  obtain ⟨mt, hmt⟩ : ∃ q, q = tl.length := ⟨_, rfl⟩
  have zt : t.size = mt := by rw [htt, mkB_size, hmt]
  have HMT := Lib.hid hmt
  rw [← htt]
  rw [← hmt] at ht
  clear htt hmt
  obtain ⟨B0, P0, L0⟩ := box1 w #[.slice u0 n0 k0, .slice u1 n1 k1, .int .i64 q2, .int .i64 q3, .int .i64 q4, .int .i64 q5, .int .i64 q6, .int .i64 q7, .int .i64 q8] 25
  obtain ⟨W0, hW0⟩ : ∃ W0, W0 = w.alloc (.cells #[.slice u0 n0 k0, .slice u1 n1 k1, .int .i64 q2, .int .i64 q3, .int .i64 q4, .int .i64 q5, .int .i64 q6, .int .i64 q7, .int .i64 q8] 25) := ⟨_, rfl⟩
  rw [← hW0] at B0 P0 L0
  obtain ⟨B1, P1, L1⟩ := box1 W0 #[.int .i64 x0, .int .i64 x1, .int .i64 x2, .slice y3 m3 d3, .slice y4 m4 d4, .slice y5 m5 d5, .slice y6 m6 d6, .slice y7 m7 d7] 31
  obtain ⟨W1, hW1⟩ : ∃ W1, W1 = W0.alloc (.cells #[.int .i64 x0, .int .i64 x1, .int .i64 x2, .slice y3 m3 d3, .slice y4 m4 d4, .slice y5 m5 d5, .slice y6 m6 d6, .slice y7 m7 d7] 31) := ⟨_, rfl⟩
  rw [← hW1] at B1 P1 L1
  obtain ⟨B2, P2, L2⟩ := box1 W1 #[.int .i64 z0, .int .i64 z1, .int .i64 z2, .int .i64 z3, .string t] 55
  obtain ⟨W2, hW2⟩ : ∃ W2, W2 = W1.alloc (.cells #[.int .i64 z0, .int .i64 z1, .int .i64 z2, .int .i64 z3, .string t] 55) := ⟨_, rfl⟩
  rw [← hW2] at B2 P2 L2
  have r0 : W2.heap[w.heap.size]? = some (.cells #[.slice u0 n0 k0, .slice u1 n1 k1, .int .i64 q2, .int .i64 q3, .int .i64 q4, .int .i64 q5, .int .i64 q6, .int .i64 q7, .int .i64 q8] 25 (0, 0)) := (B2.block _ (by omega)).trans ((B1.block _ (by omega)).trans P0)
  have r1 : W2.heap[W0.heap.size]? = some (.cells #[.int .i64 x0, .int .i64 x1, .int .i64 x2, .slice y3 m3 d3, .slice y4 m4 d4, .slice y5 m5 d5, .slice y6 m6 d6, .slice y7 m7 d7] 31 (0, 0)) := (B2.block _ (by omega)).trans P1
  rw [L0] at r1 L1
  rw [L1] at P2 L2
  have HB : Hid (Below w.heap.size w W2) := below_on (below_on B0 B1) B2
  obtain ⟨R, hR⟩ : ∃ R, R = w.heap.size := ⟨_, rfl⟩
  rw [← hR] at r0 r1 P2 L2
  obtain ⟨a0, a1, a2, a3, a4, a5, a6, a7, a8⟩ := nine_cells' r0
  obtain ⟨b0, b1, b2, b3, b4, b5, b6, b7⟩ := eight_cells r1
  obtain ⟨e0, e1, e2, e3, e4⟩ := five_cells' P2
  have HW : Hid (W2 = ((w.alloc (.cells #[.slice u0 n0 k0, .slice u1 n1 k1, .int .i64 q2, .int .i64 q3, .int .i64 q4, .int .i64 q5, .int .i64 q6, .int .i64 q7, .int .i64 q8] 25)).alloc (.cells #[.int .i64 x0, .int .i64 x1, .int .i64 x2, .slice y3 m3 d3, .slice y4 m4 d4, .slice y5 m5 d5, .slice y6 m6 d6, .slice y7 m7 d7] 31)).alloc (.cells #[.int .i64 z0, .int .i64 z1, .int .i64 z2, .int .i64 z3, .string t] 55)) := by show _ = _; rw [hW2, hW1, hW0]
  have HR : Hid (w.heap.size = R) := hR.symm
  have HGG := Lib.hid (And.intro r0 (And.intro r1 (And.intro P2 L2)))
  clear hR B0 P0 L0 B1 P1 L1 B2 P2 L2 hW0 hW1 hW2 r0 r1
  go_enter Tryz.func35, Tryz.ntmps35
  go_upto_region 1 with fail
  rw [← HW.out, HR.out]
  have HI := Lib.hid (fun (n lo hi : Int) (w' : World) => within_any n lo hi w')
  go_wp2_with fail
  refine (HI.out (z1) (0) ((m4 : Int) - 1) _).mono ?_
  rintro e wt ⟨rfl, hwt⟩
  rw [hwt]
  clear hwt wt
  by_cases jA : (0 : Int) ≤ z1 ∧ (z1 : Int) ≤ (m4 : Int) - 1
  · rw [decide_eq_true jA]
    go_wp2_with fail
    refine (HI.out (z3) (0) ((m3 : Int) - 1) _).mono ?_
    rintro e wt ⟨rfl, hwt⟩
    rw [hwt]
    clear hwt wt
    by_cases jB : (0 : Int) ≤ z3 ∧ (z3 : Int) ≤ (m3 : Int) - 1
    · rw [decide_eq_true jB]
      go_wp2_with fail
      refine (HI.out (z2) (1) (x2 - 1) _).mono ?_
      rintro e wt ⟨rfl, hwt⟩
      rw [hwt]
      clear hwt wt
      by_cases jC : (1 : Int) ≤ z2 ∧ (z2 : Int) ≤ x2 - 1
      · rw [decide_eq_true jC]
        by_cases k : (mt : Int) ≤ q2
        · have kd : decide ((mt : Int) ≤ q2) = true := decide_eq_true k
          have HF : Hid (thgR q2 x2 m3 m4 (z0, z1, z2, z3, tl)) := ⟨jA, jB, jC, by show (tl.length : Int) ≤ q2; rw [← HMT.out]; exact k⟩
          go_wp2_with fail
          go_ret
          exact ⟨iff_t HF.out, HB.out⟩
        · have kd : decide ((mt : Int) ≤ q2) = false := decide_eq_false k
          have HF : Hid (NoP (thgR q2 x2 m3 m4 (z0, z1, z2, z3, tl))) := fun h => k (by have h2 : (tl.length : Int) ≤ q2 := h.2.2.2; rw [← HMT.out] at h2; exact h2)
          go_wp2_with fail
          go_ret
          exact ⟨iff_f HF.out, HB.out⟩
      · rw [decide_eq_false jC]
        have HF : Hid (NoP (thgR q2 x2 m3 m4 (z0, z1, z2, z3, tl))) := fun h => jC h.2.2.1
        go_wp2_with fail
        go_ret
        exact ⟨iff_f HF.out, HB.out⟩
    · rw [decide_eq_false jB]
      have HF : Hid (NoP (thgR q2 x2 m3 m4 (z0, z1, z2, z3, tl))) := fun h => jB h.2.1
      go_wp2_with fail
      go_ret
      exact ⟨iff_f HF.out, HB.out⟩
  · rw [decide_eq_false jA]
    have HF : Hid (NoP (thgR q2 x2 m3 m4 (z0, z1, z2, z3, tl))) := fun h => jA h.1
    go_wp2_with fail
    go_ret
    exact ⟨iff_f HF.out, HB.out⟩
def stkR (q2 q5 x2 : Int) (m3 m4 : Nat) (OK : List Thg → Prop) (l : List Thg) : Prop := (l.length : Int) ≤ q5 ∧ (∀ u ∈ l, thgR q2 x2 m3 m4 u) ∧ OK l
def stacksR (q2 q5 x2 : Int) (m3 m4 nu : Nat) (OK : List Thg → Prop) (K : List (List Thg)) : Prop := K.length = nu ∧ ∀ l ∈ K, stkR q2 q5 x2 m3 m4 OK l
/-- What undo.Load owes. -/
def LoadU (W0 : World) (OK : List Thg → Prop) : Prop := ∀ (P : Nat → Prop) (w : World) (v : Value) (X : List Thg), Below W0.heap.size W0 w → RowP thgM P w v X → X.length ≤ 4 → (∀ u ∈ X, u.2.2.2.2.length ≤ 1000) → (∀ u ∈ X, thgG u) → Calls Tryz.prog 36 #[v] w fun e w' => ∃ (sa : Option Addr) (sn sc : Nat) (b : Bool), e = .returned (.tuple #[.agg #[.slice sa sn sc], .bool b]) ∧ (b = true ↔ OK X) ∧ Below w.heap.size w w'
set_option maxHeartbeats 16000000 in
theorem stacks_ok {P : Nat → Prop} {OK : List Thg → Prop} {W0 : World} (LU : LoadU W0 OK) {u0 u1 y3 y4 y5 y6 y7 : Option Addr} {n0 k0 n1 k1 m3 d3 m4 d4 m5 d5 m6 d6 m7 d7 : Nat} {q2 q3 q4 q5 q6 q7 q8 x0 x1 x2 : Int} {n : Nat} (K : List (List Thg)) (w : World) (hW : Below W0.heap.size W0 w) (hgK : ∀ l ∈ K, ∀ y ∈ l, thgG y) (h : RowP stkM P w (.slice y5 n d5) K) (hx2 : 1 ≤ x2 ∧ x2 ≤ 1099511627776) (h3 : m3 ≤ 9223372036854775807) (h4 : m4 ≤ 9223372036854775807) (hq2 : q2 ≤ 1000) (hq5 : q5 ≤ 4) (ht : ∀ l ∈ K, ∀ y ∈ l, y.2.2.2.2.length ≤ 9223372036854775807) (hn0 : n0 ≤ 9223372036854775807) : Calls Tryz.prog 14 #[.agg #[.slice u0 n0 k0, .slice u1 n1 k1, .int .i64 q2, .int .i64 q3, .int .i64 q4, .int .i64 q5, .int .i64 q6, .int .i64 q7, .int .i64 q8], .agg #[.int .i64 x0, .int .i64 x1, .int .i64 x2, .slice y3 m3 d3, .slice y4 m4 d4, .slice y5 n d5, .slice y6 m6 d6, .slice y7 m7 d7]] w fun e w' => IffB (stacksR q2 q5 x2 m3 m4 n0 OK K) e ∧ Below w.heap.size w w' := by
  have HDK : Hid (∀ w', Below w.heap.size w w' → RowP stkM P w' (.slice y5 n d5) K) := fun w' b => h.keep stkM_ok (Keep.below b)
  have HNK : Hid (n = K.length) := h.len.1
  have hmn : n ≤ 9223372036854775807 := by have q := h.len; simp only [maxLen] at q; omega
  have HTT0 := Lib.hid ht
  have HW0 := Lib.hid hW
  have HGK := Lib.hid hgK
  clear hW hgK
  clear h ht
  obtain ⟨B0, P0, L0⟩ := box1 w #[.slice u0 n0 k0, .slice u1 n1 k1, .int .i64 q2, .int .i64 q3, .int .i64 q4, .int .i64 q5, .int .i64 q6, .int .i64 q7, .int .i64 q8] 25
  obtain ⟨W0, hW0⟩ : ∃ W0, W0 = w.alloc (.cells #[.slice u0 n0 k0, .slice u1 n1 k1, .int .i64 q2, .int .i64 q3, .int .i64 q4, .int .i64 q5, .int .i64 q6, .int .i64 q7, .int .i64 q8] 25) := ⟨_, rfl⟩
  rw [← hW0] at B0 P0 L0
  obtain ⟨B1, P1, L1⟩ := box1 W0 #[.int .i64 x0, .int .i64 x1, .int .i64 x2, .slice y3 m3 d3, .slice y4 m4 d4, .slice y5 n d5, .slice y6 m6 d6, .slice y7 m7 d7] 31
  obtain ⟨W1, hW1⟩ : ∃ W1, W1 = W0.alloc (.cells #[.int .i64 x0, .int .i64 x1, .int .i64 x2, .slice y3 m3 d3, .slice y4 m4 d4, .slice y5 n d5, .slice y6 m6 d6, .slice y7 m7 d7] 31) := ⟨_, rfl⟩
  rw [← hW1] at B1 P1 L1
  have q0 : W1.heap[w.heap.size]? = some (.cells #[.slice u0 n0 k0, .slice u1 n1 k1, .int .i64 q2, .int .i64 q3, .int .i64 q4, .int .i64 q5, .int .i64 q6, .int .i64 q7, .int .i64 q8] 25 (0, 0)) := (B1.block _ (by omega)).trans P0
  rw [L0] at P1 L1
  have HB : Hid (Below w.heap.size w W1) := below_on B0 B1
  obtain ⟨R, hR⟩ : ∃ R, R = w.heap.size := ⟨_, rfl⟩
  rw [← hR] at q0 P1 L1
  have HG : Hid (∀ w', Below W1.heap.size W1 w' → w'.heap[R]? = some (.cells #[.slice u0 n0 k0, .slice u1 n1 k1, .int .i64 q2, .int .i64 q3, .int .i64 q4, .int .i64 q5, .int .i64 q6, .int .i64 q7, .int .i64 q8] 25 (0, 0)) ∧ w'.heap[R + 1]? = some (.cells #[.int .i64 x0, .int .i64 x1, .int .i64 x2, .slice y3 m3 d3, .slice y4 m4 d4, .slice y5 n d5, .slice y6 m6 d6, .slice y7 m7 d7] 31 (0, 0))) := fun w' b => ⟨(b.block R (by omega)).trans q0, (b.block (R + 1) (by omega)).trans P1⟩
  have HX : Hid (Below W1.heap.size W1 W1) := Below.refl _ _
  have HW : Hid (W1 = (w.alloc (.cells #[.slice u0 n0 k0, .slice u1 n1 k1, .int .i64 q2, .int .i64 q3, .int .i64 q4, .int .i64 q5, .int .i64 q6, .int .i64 q7, .int .i64 q8] 25)).alloc (.cells #[.int .i64 x0, .int .i64 x1, .int .i64 x2, .slice y3 m3 d3, .slice y4 m4 d4, .slice y5 n d5, .slice y6 m6 d6, .slice y7 m7 d7] 31)) := by show _ = _; rw [hW1, hW0]
  have HR : Hid (w.heap.size = R) := hR.symm
  clear hR B0 P0 L0 B1 P1 L1 hW0 hW1 q0
  go_enter Tryz.func14, Tryz.ntmps14
  go_upto_region 1 with fail
  rw [← HW.out, HR.out]
  obtain ⟨a0, a1, a2, a3, a4, a5, a6, a7, a8⟩ := nine_cells' (HG.out _ HX.out).1
  obtain ⟨b0, b1, b2, b3, b4, b5, b6, b7⟩ := eight_cells (HG.out _ HX.out).2
  by_cases hnn : n = n0
  · subst hnn
    go_wp2_with fail
    clear a0 a1 a2 a3 a4 a5 a6 a7 a8 b0 b1 b2 b3 b4 b5 b6 b7
    go_loopg [21] n (fun g i_ wr => ∃ (i : Nat), i ≤ n ∧ n - i ≤ g ∧ i_ = .int .i64 (i : Nat) ∧ Hid (∀ l ∈ K.take i, stkR q2 q5 x2 m3 m4 OK l) ∧ Hid (Below W1.heap.size W1 wr))
    case atStart => exact ⟨0, by omega, by omega, rfl, take_zero, HX⟩
    case round =>
      clear HX
      obtain ⟨i, hi, hg, rfl, HV, HX⟩ := hrel
      by_cases hin : i < n
      · have iw : ((i : Nat) : Int) < (n : Int) := by omega
        have n0i : (0 : Int) ≤ ((i : Nat) : Int) := by omega
        have hixi : i < K.length := by rw [← HNK.out]; exact hin
        obtain ⟨b1, f1, s1, rfl, hlt1, _, hR1, hc1⟩ := (HDK.out wr (HB.out.trans (HX.out.mono HB.out.size))).get hixi
        obtain ⟨xk, hx⟩ : ∃ z, z = K[i] := ⟨_, rfl⟩
        have hmem : xk ∈ K := hx ▸ List.getElem_mem hixi
        rw [← hx] at hR1
        have HXI : Hid (K[i] = xk) := hx.symm
        obtain ⟨r1, d1, rfl, qr⟩ := stkM_cells hR1
        obtain ⟨na, hna⟩ : ∃ q, q = xk.length := ⟨_, rfl⟩
        rw [← hna] at hc1 qr
        have hmna : na ≤ 9223372036854775807 := by have q := qr.len; simp only [maxLen] at q; omega
        have HNA := Lib.hid hna
        have m0 : wr.cell? ⟨b1, f1 + i, none⟩ = some (.slice r1 na d1) := by have q := hc1 0 _ rfl; rw [show f1 + i * stkM.k + 0 = f1 + i from by show f1 + i * 1 + 0 = _; omega] at q; exact q
        have HTX : Hid (∀ y ∈ xk, y.2.2.2.2.length ≤ 9223372036854775807) := HTT0.out xk hmem
        obtain ⟨a0, a1, a2, a3, a4, a5, a6, a7, a8⟩ := nine_cells' (HG.out _ HX.out).1
        obtain ⟨b0, b1, b2, b3, b4, b5, b6, b7⟩ := eight_cells (HG.out _ HX.out).2
        obtain ⟨WI, hWI⟩ : ∃ WI : World, WI = wr := ⟨_, rfl⟩
        subst hWI
        have HQ1 : Hid (∀ w', Below WI.heap.size WI w' → RowP thgM P w' (.slice r1 na d1) xk) := fun w' b => qr.keep thgM_ok (Keep.below b)
        have HXO := HX
        have HXO5 : Hid (∀ w', Below WI.heap.size WI w' → Hid (Below W1.heap.size W1 w')) := fun w' b => below_on HXO.out b
        have HVO := HV
        clear hR1 hc1 hlt1 hx hna hmem qr HV HX
        by_cases kq : q5 < (na : Int)
        · have kd : decide (q5 < (na : Int)) = true := decide_eq_true kq
          have HXE := HXO
          have HE : Hid (Below w.heap.size w WI) := HB.out.trans (HXE.out.mono HB.out.size)
          have HF : Hid (NoP (stacksR q2 q5 x2 m3 m4 n OK K)) := fun h => (by have hx := h.2 _ (List.getElem_mem hixi); rw [HXI.out] at hx; have := hx.1; rw [← HNA.out] at this; omega)
          go_wp2_with fail
          go_ret
          exact ⟨iff_f HF.out, HE.out⟩
        · have kd : decide (q5 < (na : Int)) = false := decide_eq_false kq
          have HLE : Hid ((na : Int) ≤ q5) := by show _ ≤ _; omega
          go_wp2_with fail
          clear m0 a0 a1 a2 a3 a4 a5 a6 a7 a8 b0 b1 b2 b3 b4 b5 b6 b7 kd
          have HX : Hid (Below WI.heap.size WI WI) := Below.refl _ _
          go_loopg [32] na (fun g i_ wr => ∃ (j : Nat), j ≤ na ∧ na - j ≤ g ∧ i_ = .int .i64 (j : Nat) ∧ Hid (∀ u ∈ xk.take j, thgR q2 x2 m3 m4 u) ∧ Hid (Below WI.heap.size WI wr))
          case atStart => exact ⟨0, by omega, by omega, rfl, take_zero, HX⟩
          case round =>
            clear HX
            obtain ⟨j, hj, hgj, rfl, HVI, HX⟩ := hrel
            by_cases hjn : j < na
            · have jw : ((j : Nat) : Int) < (na : Int) := by omega
              have j0 : (0 : Int) ≤ ((j : Nat) : Int) := by omega
              have hixj : j < xk.length := by rw [← HNA.out]; exact hjn
              obtain ⟨b1_, f1_, s2_, rfl, hlt2, _, hR2, hc2⟩ := (HQ1.out wr HX.out).get hixj
              obtain ⟨y, hy⟩ : ∃ z, z = xk[j] := ⟨_, rfl⟩
              have hmy : y ∈ xk := hy ▸ List.getElem_mem hixj
              rw [← hy] at hR2
              have HYI : Hid (xk[j] = y) := hy.symm
              have HYM : Hid (y ∈ xk) := hmy
              obtain rfl := thgM_cells hR2
              have hty := HTX.out y hmy
              obtain ⟨z0, z1, z2, z3, tl⟩ := y
              simp only at hc2 hty
              obtain ⟨t, htt⟩ : ∃ q, q = mkB tl := ⟨_, rfl⟩
              have HTT := Lib.hid htt
              rw [← htt] at hc2
              have e0 : wr.cell? ⟨b1_, f1_ + j * 5, none⟩ = some (.int .i64 z0) := hc2 0 _ rfl
              have e1 : wr.cell? ⟨b1_, f1_ + j * 5 + 1, none⟩ = some (.int .i64 z1) := hc2 1 _ rfl
              have e2 : wr.cell? ⟨b1_, f1_ + j * 5 + 2, none⟩ = some (.int .i64 z2) := hc2 2 _ rfl
              have e3 : wr.cell? ⟨b1_, f1_ + j * 5 + 3, none⟩ = some (.int .i64 z3) := hc2 3 _ rfl
              have e4 : wr.cell? ⟨b1_, f1_ + j * 5 + 4, none⟩ = some (.string t) := hc2 4 _ rfl
              obtain ⟨bX, pX, lX⟩ := box1 wr #[.int .i64 z0, .int .i64 z1, .int .i64 z2, .int .i64 z3, .string t] 55
              obtain ⟨W5, hW5⟩ : ∃ W5, W5 = wr.alloc (.cells #[.int .i64 z0, .int .i64 z1, .int .i64 z2, .int .i64 z3, .string t] 55) := ⟨_, rfl⟩
              rw [← hW5] at bX pX lX
              obtain ⟨X, hX⟩ : ∃ X, X = wr.heap.size := ⟨_, rfl⟩
              rw [← hX] at pX lX
              have HW5 := Lib.hid hW5
              have HXX : Hid (wr.heap.size = X) := hX.symm
              have HX5 : Hid (Below WI.heap.size WI W5) := below_on HX.out bX
              obtain ⟨g0, g1, g2, g3, g4⟩ := five_cells' pX
              have CT := Lib.hid (thing_any (u0 := u0) (u1 := u1) (y3 := y3) (y4 := y4) (y5 := some ⟨b1, f1, none⟩) (y6 := y6) (y7 := y7) (n0 := n) (k0 := k0) (n1 := n1) (k1 := k1) (m3 := m3) (d3 := d3) (m4 := m4) (d4 := d4) (m5 := n) (d5 := d5) (m6 := m6) (d6 := d6) (m7 := m7) (d7 := d7) (q2 := q2) (q3 := q3) (q4 := q4) (q5 := q5) (q6 := q6) (q7 := q7) (q8 := q8) (x0 := x0) (x1 := x1) (x2 := x2) z0 z1 z2 z3 tl W5 hx2 h3 h4 hty)
              rw [← HTT.out] at CT
              clear hc2 hR2 hy hmy hlt2 hX hW5 bX pX lX htt hty
              have HXS := HX
              clear HX
              have HX := HXO5.out W5 HX5.out
              obtain ⟨a0, a1, a2, a3, a4, a5, a6, a7, a8⟩ := nine_cells' (HG.out _ HX.out).1
              obtain ⟨b0, b1, b2, b3, b4, b5, b6, b7⟩ := eight_cells (HG.out _ HX.out).2
              clear HX
              go_upto_region 11 with fail
              rw [← HW5.out, HXX.out]
              clear e0 e1 e2 e3 e4
              go_wp2_with fail
              refine CT.out.mono ?_
              rintro e w6 ⟨hq, bb6⟩
              have HX6 : Hid (Below WI.heap.size WI w6) := below_on HX5.out bb6
              clear bb6 CT g0 g1 g2 g3 g4 a0 a1 a2 a3 a4 a5 a6 a7 a8 b0 b1 b2 b3 b4 b5 b6 b7 HXS
              rcases hq.det with ⟨ht, rfl⟩ | ⟨hf, rfl⟩
              · have HV2 : Hid (∀ u ∈ xk.take (j + 1), thgR q2 x2 m3 m4 u) := all_step hixj HVI.out (by rw [HYI.out]; exact ht)
                clear HVI HYI
                go_wp2_with fail
                go_roundg (na - (j + 1))
                case measure => omega
                case rel => exact ⟨j + 1, by omega, Nat.le_refl _, by go_num, HV2, HX6⟩
              · have HFT : Hid (NoP (thgR q2 x2 m3 m4 (z0, z1, z2, z3, tl))) := hf
                skip
                have HXE := HXO5.out w6 HX6.out
                have HE : Hid (Below w.heap.size w w6) := HB.out.trans (HXE.out.mono HB.out.size)
                have HF : Hid (NoP (stacksR q2 q5 x2 m3 m4 n OK K)) := fun h => (by have hx := h.2 _ (List.getElem_mem hixi); rw [HXI.out] at hx; exact HFT.out (hx.2.1 _ HYM.out))
                go_wp2_with fail
                go_ret
                exact ⟨iff_f HF.out, HE.out⟩
            · obtain rfl : na = j := by omega
              have jw : ¬ ((na : Nat) : Int) < ((na : Nat) : Int) := by omega
              have HVK : Hid (∀ u ∈ xk, thgR q2 x2 m3 m4 u) := take_whole HNA.out HVI.out
              clear HVI
              have CL := Lib.hid (LU _ wr (.slice r1 na d1) xk (HW0.out.trans ((HB.out.trans ((HXO5.out wr HX.out).out.mono HB.out.size)).mono HW0.out.size)) (HQ1.out wr HX.out) (by rw [← HNA.out]; omega) (fun u hu => by have h9 := (HVK.out u hu).2.2.2; omega) (fun u hu => HGK.out _ (List.getElem_mem hixi) u (by rw [HXI.out]; exact hu)))
              go_wp2_with fail
              refine CL.out.mono ?_
              rintro e w7 ⟨sa, sn, sc, b, rfl, hb, bb7⟩
              have HX8 : Hid (Below WI.heap.size WI (w7.alloc (.cells #[Value.slice sa sn sc] 78))) := below_on (below_on HX.out bb7) (box1 w7 #[Value.slice sa sn sc] 78).1
              have HX9 := HXO5.out _ HX8.out
              clear bb7 CL HX
              cases b with
              | true =>
                have HV2 : Hid (∀ l ∈ K.take (i + 1), stkR q2 q5 x2 m3 m4 OK l) := all_step hixi HVO.out (by rw [HXI.out]; exact ⟨by rw [← HNA.out]; exact HLE.out, HVK.out, hb.1 rfl⟩)
                clear HVO HXI hb
                go_wp2_with fail
                go_roundg (n - (i + 1))
                case measure => omega
                case rel => exact ⟨i + 1, by omega, Nat.le_refl _, by go_num, HV2, HX9⟩
              | false =>
                have HFO : Hid (NoP (OK xk)) := fun h => by have := hb.2 h; cases this
                clear hb
                have HXE := HX9
                have HE : Hid (Below w.heap.size w (w7.alloc (.cells #[Value.slice sa sn sc] 78))) := HB.out.trans (HXE.out.mono HB.out.size)
                have HF : Hid (NoP (stacksR q2 q5 x2 m3 m4 n OK K)) := fun h => (by have hx := h.2 _ (List.getElem_mem hixi); rw [HXI.out] at hx; exact HFO.out hx.2.2)
                go_wp2_with fail
                go_ret
                exact ⟨iff_f HF.out, HE.out⟩
      · obtain rfl : n = i := by omega
        have iw : ¬ ((n : Nat) : Int) < ((n : Nat) : Int) := by omega
        have HE : Hid (Below w.heap.size w wr) := HB.out.trans (HX.out.mono HB.out.size)
        have HT : Hid (stacksR q2 q5 x2 m3 m4 n OK K) := ⟨HNK.out.symm, take_whole HNK.out HV.out⟩
        clear HV
        go_wp2_with fail
        go_ret
        exact ⟨iff_t HT.out, HE.out⟩
  · have k1 : ((n : Int) != (n0 : Int)) = true := by simp; omega
    have k2 : ¬ ((n : Nat) : Int) = (n0 : Nat) := by omega
    have HXE := HX
    have HE : Hid (Below w.heap.size w W1) := HB.out.trans (HXE.out.mono HB.out.size)
    have HF : Hid (NoP (stacksR q2 q5 x2 m3 m4 n0 OK K)) := fun h => hnn (by rw [HNK.out]; exact h.1)
    go_wp2_with fail
    go_ret
    exact ⟨iff_f HF.out, HE.out⟩
end Go.Proofs.YtccaiippoephbaaGreatDoor.Sta
/- State: seats right for a config. -/
set_option linter.unusedVariables false
set_option linter.unusedSimpArgs false
set_option maxRecDepth 100000
namespace Go.Proofs.YtccaiippoephbaaGreatDoor.Sta
open Go.RowKit Go.Lib Go.Proofs.YtccaiippoephbaaGreatDoor.Bx Go.Proofs.YtccaiippoephbaaGreatDoor.Frm Go.Proofs.YtccaiippoephbaaGreatDoor.Wds

theorem e_yes : (mkB []).toList.isEmpty = true := by rw [Lib.toList_data]; rfl
theorem e_no {l : List UInt8} (h : l ≠ []) : (mkB l).toList.isEmpty = false := by
  rw [Lib.toList_data]
  cases l with
  | nil => exact absurd rfl h
  | cons x xs => rfl
theorem mkB_inj {a b : List UInt8} (h : mkB a = mkB b) : a = b := congrArg (fun z : ByteArray => z.data.toList) h
theorem tok_eq (a b : List UInt8) : ((mkB a).toList == (mkB b).toList) = decide (a = b) := by
  rw [Slt.str_eq]
  by_cases h : a = b
  · rw [decide_eq_true h, decide_eq_true (congrArg mkB h)]
  · rw [decide_eq_false h, decide_eq_false (fun h2 => h (mkB_inj h2))]
/-- What words.Told owes. -/
def ToldK (OK : List UInt8 → Prop) : Prop := ∀ (w : World) (s : List UInt8), s.length ≤ 140737488355328 → Calls Tryz.prog 90 #[.string (mkB s)] w fun e w' => ∃ (a0 a2 a3 : Int) (t1 : ByteArray) (ra ea : Option Addr) (rn rc en ec : Nat) (b : Bool), e = .returned (.tuple #[.agg #[.int .i64 a0, .string t1, .int .i64 a2, .int .i64 a3, .slice ra rn rc, .slice ea en ec], .bool b]) ∧ (b = true ↔ OK s) ∧ Below w.heap.size w w'
set_option maxHeartbeats 4000000 in
theorem answer_ok {OK : List UInt8 → Prop} (TK : ToldK OK) (l : List UInt8) (w : World) (hl : l.length ≤ 140737488355328) : Calls Tryz.prog 64 #[.string (mkB l)] w fun e w' => IffB (l = [] ∨ OK l) e ∧ Below w.heap.size w w' := by
  have C := Lib.hid (TK w l hl)
  have HB : Hid (Below w.heap.size w w) := Below.refl _ _
  by_cases h : l = []
  · have g2 : (mkB l).toList.isEmpty = true := by rw [h]; exact e_yes
    have HT : Hid (l = [] ∨ OK l) := .inl h
    clear h C
    generalize mkB l = st at *
    go_enter Tryz.func64, Tryz.ntmps64
    go_wp2_with fail
    go_ret
    exact ⟨iff_t HT.out, HB.out⟩
  · have g2 := e_no h
    have HN : Hid (NoP (l = [])) := h
    clear h
    generalize mkB l = st at *
    go_enter Tryz.func64, Tryz.ntmps64
    go_wp2_with fail
    refine C.out.mono ?_
    rintro e w1 ⟨a0, a2, a3, t1, ra, ea, rn, rc, en, ec, b, rfl, hb, b1⟩
    have HB2 : Hid (Below w.heap.size w (w1.alloc (.cells #[.int .i64 a0, .string t1, .int .i64 a2, .int .i64 a3, .slice ra rn rc, .slice ea en ec] 100))) := below_on b1 (box1 w1 #[.int .i64 a0, .string t1, .int .i64 a2, .int .i64 a3, .slice ra rn rc, .slice ea en ec] 100).1
    clear b1 C
    cases b with
    | true =>
      have HT : Hid (l = [] ∨ OK l) := .inr (hb.1 rfl)
      clear hb
      go_wp2_with fail
      go_ret
      exact ⟨iff_t HT.out, HB2.out⟩
    | false =>
      have HF : Hid (NoP (l = [] ∨ OK l)) := fun h => by
        rcases h with h | h
        · exact HN.out h
        · have := hb.2 h
          cases this
      clear hb
      go_wp2_with fail
      go_ret
      exact ⟨iff_f HF.out, HB2.out⟩
def seaR (nu : Nat) (now : Int) (OK : List UInt8 → Prop) (x : Sea) : Prop := (1 ≤ (x.1.length : Int) ∧ (x.1.length : Int) ≤ 20) ∧ (0 ≤ x.2.1 ∧ x.2.1 ≤ (nu : Int) - 1) ∧ (0 ≤ x.2.2.1 ∧ x.2.2.1 ≤ now) ∧ 0 ≤ x.2.2.2.1 ∧ (x.2.2.2.2 = [] ∨ OK x.2.2.2.2)
set_option maxHeartbeats 8000000 in
theorem seat_any {OK : List UInt8 → Prop} (TK : ToldK OK) {u0 u1 y3 y4 y5 y6 y7 : Option Addr} {n0 k0 n1 k1 m3 d3 m4 d4 m5 d5 m6 d6 m7 d7 : Nat} {q2 q3 q4 q5 q6 q7 q8 x0 x1 x2 : Int} (now z1 z2 z3 : Int) (l0 l4 : List UInt8) (w : World) (h0 : l0.length ≤ 140737488355328) (h4 : l4.length ≤ 140737488355328) (hn0 : n0 ≤ 9223372036854775807) : Calls Tryz.prog 38 #[.agg #[.slice u0 n0 k0, .slice u1 n1 k1, .int .i64 q2, .int .i64 q3, .int .i64 q4, .int .i64 q5, .int .i64 q6, .int .i64 q7, .int .i64 q8], .int .i64 now, .agg #[.string (mkB l0), .int .i64 z1, .int .i64 z2, .int .i64 z3, .string (mkB l4)]] w fun e w' => IffB (seaR n0 now OK (l0, z1, z2, z3, l4)) e ∧ Below w.heap.size w w' := by
  obtain ⟨t0, ht0⟩ : ∃ q, q = mkB l0 := ⟨_, rfl⟩
  obtain ⟨t4, ht4⟩ : ∃ q, q = mkB l4 := ⟨_, rfl⟩
  obtain ⟨m0, hm0⟩ : ∃ q, q = l0.length := ⟨_, rfl⟩
  have zt : t0.size = m0 := by rw [ht0, mkB_size, hm0]
  have CA0 := Lib.hid (fun w' => answer_ok TK l4 w' h4)
  have HMT := Lib.hid hm0
  rw [← ht0, ← ht4]
  rw [← ht4] at CA0
  rw [← hm0] at h0
  clear ht0 ht4 hm0
  obtain ⟨B0, P0, L0⟩ := box1 w #[.slice u0 n0 k0, .slice u1 n1 k1, .int .i64 q2, .int .i64 q3, .int .i64 q4, .int .i64 q5, .int .i64 q6, .int .i64 q7, .int .i64 q8] 25
  obtain ⟨W0, hW0⟩ : ∃ W0, W0 = w.alloc (.cells #[.slice u0 n0 k0, .slice u1 n1 k1, .int .i64 q2, .int .i64 q3, .int .i64 q4, .int .i64 q5, .int .i64 q6, .int .i64 q7, .int .i64 q8] 25) := ⟨_, rfl⟩
  rw [← hW0] at B0 P0 L0
  obtain ⟨B1, P1, L1⟩ := box1 W0 #[.string t0, .int .i64 z1, .int .i64 z2, .int .i64 z3, .string t4] 57
  obtain ⟨W1, hW1⟩ : ∃ W1, W1 = W0.alloc (.cells #[.string t0, .int .i64 z1, .int .i64 z2, .int .i64 z3, .string t4] 57) := ⟨_, rfl⟩
  rw [← hW1] at B1 P1 L1
  have r0 : W1.heap[w.heap.size]? = some (.cells #[.slice u0 n0 k0, .slice u1 n1 k1, .int .i64 q2, .int .i64 q3, .int .i64 q4, .int .i64 q5, .int .i64 q6, .int .i64 q7, .int .i64 q8] 25 (0, 0)) := (B1.block _ (by omega)).trans P0
  rw [L0] at P1
  have HBX : Hid (Below w.heap.size w W1) := below_on B0 B1
  obtain ⟨R, hR⟩ : ∃ R, R = w.heap.size := ⟨_, rfl⟩
  rw [← hR] at r0 P1
  obtain ⟨a0, a1, a2, a3, a4, a5, a6, a7, a8⟩ := nine_cells' r0
  obtain ⟨e0, e1, e2, e3, e4⟩ := five_cells' P1
  have HW : Hid (W1 = (w.alloc (.cells #[.slice u0 n0 k0, .slice u1 n1 k1, .int .i64 q2, .int .i64 q3, .int .i64 q4, .int .i64 q5, .int .i64 q6, .int .i64 q7, .int .i64 q8] 25)).alloc (.cells #[.string t0, .int .i64 z1, .int .i64 z2, .int .i64 z3, .string t4] 57)) := by show _ = _; rw [hW1, hW0]
  have HR : Hid (w.heap.size = R) := hR.symm
  have CA := Lib.hid (CA0.out W1)
  clear hR B0 P0 L0 B1 P1 L1 hW0 hW1 r0 CA0
  have HI := Lib.hid (fun (n lo hi : Int) (w' : World) => within_any n lo hi w')
  go_enter Tryz.func38, Tryz.ntmps38
  go_upto_region 1 with fail
  rw [← HW.out, HR.out]
  go_wp2_with fail
  refine (HI.out (m0) (1) (20) _).mono ?_
  rintro e wt ⟨rfl, hwt⟩
  rw [hwt]
  clear hwt wt
  by_cases jA : (1 : Int) ≤ m0 ∧ (m0 : Int) ≤ 20
  · rw [decide_eq_true jA]
    go_wp2_with fail
    refine (HI.out (z1) (0) ((n0 : Int) - 1) _).mono ?_
    rintro e wt ⟨rfl, hwt⟩
    rw [hwt]
    clear hwt wt
    by_cases jB : (0 : Int) ≤ z1 ∧ (z1 : Int) ≤ (n0 : Int) - 1
    · rw [decide_eq_true jB]
      go_wp2_with fail
      refine (HI.out (z2) (0) (now) _).mono ?_
      rintro e wt ⟨rfl, hwt⟩
      rw [hwt]
      clear hwt wt
      by_cases jC : (0 : Int) ≤ z2 ∧ (z2 : Int) ≤ now
      · rw [decide_eq_true jC]
        by_cases jD : (0 : Int) ≤ z3
        · have kd : decide ((0 : Int) ≤ z3) = true := decide_eq_true jD
          go_wp2_with fail
          refine CA.out.mono ?_
          rintro e w5 ⟨hq, bq⟩
          have HBY : Hid (Below w.heap.size w w5) := below_on HBX.out bq
          clear bq CA HBX
          have HBX := HBY
          rcases hq.det with ⟨ht, rfl⟩ | ⟨hf, rfl⟩
          · have HE9 : Hid (Below w.heap.size w w5) := HBX.out
            have HF : Hid (seaR n0 now OK (l0, z1, z2, z3, l4)) := ⟨by rw [← HMT.out]; exact jA, jB, jC, jD, ht⟩
            go_wp2_with fail
            go_ret
            exact ⟨iff_t HF.out, HE9.out⟩
          · have HF : Hid (NoP (seaR n0 now OK (l0, z1, z2, z3, l4))) := fun h => hf h.2.2.2.2
            go_wp2_with fail
            go_ret
            exact ⟨iff_f HF.out, HBX.out⟩
        · have kd : decide ((0 : Int) ≤ z3) = false := decide_eq_false jD
          have HF : Hid (NoP (seaR n0 now OK (l0, z1, z2, z3, l4))) := fun h => jD h.2.2.2.1
          go_wp2_with fail
          go_ret
          exact ⟨iff_f HF.out, HBX.out⟩
      · rw [decide_eq_false jC]
        have HF : Hid (NoP (seaR n0 now OK (l0, z1, z2, z3, l4))) := fun h => jC h.2.2.1
        go_wp2_with fail
        go_ret
        exact ⟨iff_f HF.out, HBX.out⟩
    · rw [decide_eq_false jB]
      have HF : Hid (NoP (seaR n0 now OK (l0, z1, z2, z3, l4))) := fun h => jB h.2.1
      go_wp2_with fail
      go_ret
      exact ⟨iff_f HF.out, HBX.out⟩
  · rw [decide_eq_false jA]
    have HF : Hid (NoP (seaR n0 now OK (l0, z1, z2, z3, l4))) := fun h => jA (by rw [HMT.out]; exact h.1)
    go_wp2_with fail
    go_ret
    exact ⟨iff_f HF.out, HBX.out⟩
end Go.Proofs.YtccaiippoephbaaGreatDoor.Sta
/- State: is a token another seat's? -/
set_option linter.unusedVariables false
set_option linter.unusedSimpArgs false
set_option maxRecDepth 100000
namespace Go.Proofs.YtccaiippoephbaaGreatDoor.Sta
open Go.RowKit Go.Lib Go.Proofs.YtccaiippoephbaaGreatDoor.Bx Go.Proofs.YtccaiippoephbaaGreatDoor.Frm Go.Proofs.YtccaiippoephbaaGreatDoor.Wds

theorem RowP.take {α : Type} {a : Rep α} {P : Nat → Prop} {w : World} {ad : Option Addr} {n c : Nat} {xs : List α} (h : RowP a P w (.slice ad n c) xs) {i : Nat} (hi : i ≤ n) : RowP a P w (.slice ad i c) (xs.take i) := by
  obtain ⟨p, h1, ⟨h0, ad', cap', e, h5, h6, h7⟩, h3, h4⟩ := h
  injection e with e1 e2 e3
  subst e1 e3
  rw [List.length_map] at e2 h5
  have hl : (p.take i).length = i := by rw [List.length_take]; omega
  refine ⟨p.take i, by rw [← h1, List.map_take], ⟨fun x hx => h0 x (by rw [List.map_take] at hx; exact List.mem_of_mem_take hx), ad, c, by rw [List.length_map, hl], by rw [List.length_map, hl]; omega, h6, ?_⟩, ?_, fun x hx => h4 x (List.mem_of_mem_take hx)⟩
  · rcases h7 with h7 | ⟨b, off, rfl, hlt, hc⟩
    · exact .inl (by rw [List.map_take, h7, List.take_nil])
    · refine .inr ⟨b, off, rfl, hlt, fun j hj q u hu => ?_⟩
      have hj2 : j < p.length := by rw [List.length_map, hl] at hj; omega
      refine hc j (by rw [List.length_map]; exact hj2) q u ?_
      rw [List.getElem_map] at hu ⊢
      rw [List.getElem_take] at hu
      exact hu
  · rcases h3 with h3 | ⟨b, off, n', cap', e, hlt, hp⟩
    · exact .inl (by rw [h3, List.take_nil])
    · injection e with e1 e2 e3
      subst e1
      exact .inr ⟨b, off, i, c, rfl, hlt, hp⟩
set_option maxHeartbeats 4000000 in
theorem sclo_any (a b : List UInt8) (z1 z2 z3 : Int) (s4 : ByteArray) (NB : Nat) (w : World) (h : w.cell? ⟨NB, 0, none⟩ = some (.string (mkB b))) (hlt : NB < w.heap.size) : Calls Tryz.prog 37 #[.agg #[.string (mkB a), .int .i64 z1, .int .i64 z2, .int .i64 z3, .string s4], .pointer (some ⟨NB, 0, none⟩)] w fun e w' => e = .returned (.bool (decide (a = b))) ∧ Below w.heap.size w w' := by
  have SE := tok_eq a b
  obtain ⟨B0, P0, L0⟩ := box1 w #[.string (mkB a), .int .i64 z1, .int .i64 z2, .int .i64 z3, .string s4] 57
  have HBA := Lib.hid B0
  have c0 := vcell B0 hlt h
  clear B0 P0 L0
  generalize mkB a = sa at *
  generalize mkB b = sb at *
  go_enter Tryz.func37, Tryz.ntmps37
  go_wp2_with fail
  go_ret
  exact ⟨by first | rfl | (rw [SE]; done), HBA.out⟩
def HasTok (T : List Sea) (tk : List UInt8) : Prop := ∃ y ∈ T, y.1 = tk
def IdxR (p : Prop) (e : Ending) : Prop := ∃ r : Int, e = .returned (.int .i64 r) ∧ (0 ≤ r ↔ p)
set_option maxHeartbeats 8000000 in
theorem sidx_any {P : Nat → Prop} {v : Value} (T : List Sea) (tk : List UInt8) (NB : Nat) (w : World) (h : RowP seaM P w v T) (hc : w.cell? ⟨NB, 0, none⟩ = some (.string (mkB tk))) (hlt : NB < w.heap.size) : Calls Tryz.prog 65 #[v, .func (.func 37) #[] #[.pointer (some ⟨NB, 0, none⟩)]] w fun e w' => IdxR (HasTok T tk) e ∧ Below w.heap.size w w' := by
  obtain ⟨u, c, rfl⟩ := h.is_slice
  obtain ⟨n, hn⟩ : ∃ n, n = T.length := ⟨_, rfl⟩
  rw [← hn] at h ⊢
  have hmn : n ≤ 9223372036854775807 := by have q := h.len; simp only [maxLen] at q; omega
  have HN := Lib.hid hn
  have HD : Hid (∀ w', Below w.heap.size w w' → RowP seaM P w' (.slice u n c) T) := fun w' b => h.keep seaM_ok (Keep.below b)
  have HCL := Lib.hid (fun w' (b : Below w.heap.size w w') (a : List UInt8) (z1 z2 z3 : Int) (s4 : ByteArray) => sclo_any a tk z1 z2 z3 s4 NB w' (vcell b hlt hc) (Nat.lt_of_lt_of_le hlt b.size))
  have HX : Hid (Below w.heap.size w w) := Below.refl _ _
  clear h hn hc hlt
  go_enter Tryz.func65, Tryz.ntmps65
  go_wp2_with fail
  go_loopg [8] n (fun g i_ wr => ∃ (i : Nat), i ≤ n ∧ n - i ≤ g ∧ i_ = .int .i64 (i : Nat) ∧ Hid (∀ x ∈ T.take i, NoP (x.1 = tk)) ∧ Hid (Below w.heap.size w wr))
  case atStart => exact ⟨0, by omega, by omega, rfl, take_zero, HX⟩
  case round =>
    clear HX
    obtain ⟨i, hi, hg, rfl, HV, HX⟩ := hrel
    by_cases hin : i < n
    · have iw : ((i : Nat) : Int) < (n : Int) := by omega
      have n0i : (0 : Int) ≤ ((i : Nat) : Int) := by omega
      have hixi : i < T.length := by rw [← HN.out]; exact hin
      obtain ⟨b1, f1, s1_, rfl, hlt1, _, hR1, hc1⟩ := (HD.out wr HX.out).get hixi
      obtain ⟨x, hx⟩ : ∃ z, z = T[i] := ⟨_, rfl⟩
      have HMX : Hid (x ∈ T) := hx ▸ List.getElem_mem hixi
      rw [← hx] at hR1
      have HXI : Hid (T[i] = x) := hx.symm
      obtain rfl := seaM_cells hR1
      have CC := Lib.hid (HCL.out wr HX.out x.1 x.2.1 x.2.2.1 x.2.2.2.1 (mkB x.2.2.2.2))
      obtain ⟨t0, ht0⟩ : ∃ q, q = mkB x.1 := ⟨_, rfl⟩
      obtain ⟨z1, hz1⟩ : ∃ q, q = x.2.1 := ⟨_, rfl⟩
      obtain ⟨z2, hz2⟩ : ∃ q, q = x.2.2.1 := ⟨_, rfl⟩
      obtain ⟨z3, hz3⟩ : ∃ q, q = x.2.2.2.1 := ⟨_, rfl⟩
      obtain ⟨t4, ht4⟩ : ∃ q, q = mkB x.2.2.2.2 := ⟨_, rfl⟩
      rw [← ht0, ← hz1, ← hz2, ← hz3, ← ht4] at hc1 CC
      have e0 : wr.cell? ⟨b1, f1 + i * 5, none⟩ = some (.string t0) := hc1 0 _ rfl
      have e1 : wr.cell? ⟨b1, f1 + i * 5 + 1, none⟩ = some (.int .i64 z1) := hc1 1 _ rfl
      have e2 : wr.cell? ⟨b1, f1 + i * 5 + 2, none⟩ = some (.int .i64 z2) := hc1 2 _ rfl
      have e3 : wr.cell? ⟨b1, f1 + i * 5 + 3, none⟩ = some (.int .i64 z3) := hc1 3 _ rfl
      have e4 : wr.cell? ⟨b1, f1 + i * 5 + 4, none⟩ = some (.string t4) := hc1 4 _ rfl
      clear hc1 hR1 hx hlt1 ht0 hz1 hz2 hz3 ht4
      go_wp2_with fail
      refine CC.out.mono ?_
      rintro e w1 ⟨rfl, bb⟩
      have HX1 : Hid (Below w.heap.size w w1) := below_on HX.out bb
      clear bb CC e0 e1 e2 e3 e4
      by_cases hq : x.1 = tk
      · rw [decide_eq_true hq]
        have HT : Hid (IdxR (HasTok T tk) (.returned (.int .i64 (i : Nat)))) := ⟨_, rfl, fun _ => ⟨x, HMX.out, hq⟩, fun _ => by omega⟩
        clear hq
        go_wp2_with fail
        go_ret
        exact ⟨HT.out, HX1.out⟩
      · rw [decide_eq_false hq]
        have HV2 : Hid (∀ x ∈ T.take (i + 1), NoP (x.1 = tk)) := all_step hixi HV.out (by rw [HXI.out]; exact hq)
        clear hq HV HXI HMX
        go_wp2_with fail
        go_roundg (n - (i + 1))
        case measure => omega
        case rel => exact ⟨i + 1, by omega, Nat.le_refl _, by go_num, HV2, HX1⟩
    · obtain rfl : n = i := by omega
      have iw : ¬ ((n : Nat) : Int) < ((n : Nat) : Int) := by omega
      have HT : Hid (IdxR (HasTok T tk) (.returned (.int .i64 (-1)))) := ⟨_, rfl, fun h => absurd h (by decide), fun ⟨y, hy, e⟩ => absurd e (take_whole HN.out HV.out y hy)⟩
      clear HV
      go_wp2_with fail
      go_ret
      exact ⟨HT.out, HX.out⟩
set_option maxHeartbeats 4000000 in
theorem scont_any {P : Nat → Prop} {v : Value} (T : List Sea) (tk : List UInt8) (NB : Nat) (w : World) (h : RowP seaM P w v T) (hc : w.cell? ⟨NB, 0, none⟩ = some (.string (mkB tk))) (hlt : NB < w.heap.size) : Calls Tryz.prog 39 #[v, .func (.func 37) #[] #[.pointer (some ⟨NB, 0, none⟩)]] w fun e w' => IffB (HasTok T tk) e ∧ Below w.heap.size w w' := by
  have C := Lib.hid (sidx_any T tk NB w h hc hlt)
  clear h hc hlt
  go_enter Tryz.func39, Tryz.ntmps39
  go_wp2_with fail
  refine C.out.mono ?_
  rintro e w1 ⟨⟨r, rfl, hr⟩, b1⟩
  have HB := Lib.hid b1
  clear b1 C
  by_cases k : (0 : Int) ≤ r
  · have kd : decide ((0 : Int) ≤ r) = true := decide_eq_true k
    have HT := Lib.hid (hr.1 k)
    clear hr
    go_wp2_with fail
    go_ret
    exact ⟨iff_t HT.out, HB.out⟩
  · have kd : decide ((0 : Int) ≤ r) = false := decide_eq_false k
    have HF : Hid (NoP (HasTok T tk)) := fun h => k (hr.2 h)
    clear hr
    go_wp2_with fail
    go_ret
    exact ⟨iff_f HF.out, HB.out⟩
end Go.Proofs.YtccaiippoephbaaGreatDoor.Sta
/- State: seats right for a config, all of them. -/
set_option linter.unusedVariables false
set_option linter.unusedSimpArgs false
set_option maxRecDepth 100000
namespace Go.Proofs.YtccaiippoephbaaGreatDoor.Sta
open Go.RowKit Go.Lib Go.Proofs.YtccaiippoephbaaGreatDoor.Bx Go.Proofs.YtccaiippoephbaaGreatDoor.Frm Go.Proofs.YtccaiippoephbaaGreatDoor.Wds

def seatsR (nu : Nat) (q6 now : Int) (OK : List UInt8 → Prop) (E : List Sea) : Prop := (E.length : Int) ≤ q6 ∧ ∀ i (h : i < E.length), seaR nu now OK E[i] ∧ NoP (HasTok (E.take i) E[i].1)
set_option maxHeartbeats 16000000 in
theorem seats_ok {P : Nat → Prop} {OK : List UInt8 → Prop} (TK : ToldK OK) {u0 u1 y3 y4 y5 y6 y7 : Option Addr} {n0 k0 n1 k1 m3 d3 m4 d4 m5 d5 m6 d6 m7 d7 : Nat} {q2 q3 q4 q5 q6 q7 q8 x0 x1 x2 : Int} {n : Nat} (E : List Sea) (w : World) (h : RowP seaM P w (.slice y6 n d6) E) (ht : ∀ x ∈ E, x.1.length ≤ 140737488355328 ∧ x.2.2.2.2.length ≤ 140737488355328) (hn0 : n0 ≤ 9223372036854775807) : Calls Tryz.prog 15 #[.agg #[.slice u0 n0 k0, .slice u1 n1 k1, .int .i64 q2, .int .i64 q3, .int .i64 q4, .int .i64 q5, .int .i64 q6, .int .i64 q7, .int .i64 q8], .agg #[.int .i64 x0, .int .i64 x1, .int .i64 x2, .slice y3 m3 d3, .slice y4 m4 d4, .slice y5 m5 d5, .slice y6 n d6, .slice y7 m7 d7]] w fun e w' => IffB (seatsR n0 q6 x0 OK E) e ∧ Below w.heap.size w w' := by
  have HDE : Hid (∀ w', Below w.heap.size w w' → RowP seaM P w' (.slice y6 n d6) E) := fun w' b => h.keep seaM_ok (Keep.below b)
  have HNE : Hid (n = E.length) := h.len.1
  have hmn : n ≤ 9223372036854775807 := by have q := h.len; simp only [maxLen] at q; omega
  have hcap : n ≤ d6 := by have q := h.len; omega
  have HTE := Lib.hid ht
  clear h ht
  obtain ⟨B0, P0, L0⟩ := box1 w #[.slice u0 n0 k0, .slice u1 n1 k1, .int .i64 q2, .int .i64 q3, .int .i64 q4, .int .i64 q5, .int .i64 q6, .int .i64 q7, .int .i64 q8] 25
  obtain ⟨W0, hW0⟩ : ∃ W0, W0 = w.alloc (.cells #[.slice u0 n0 k0, .slice u1 n1 k1, .int .i64 q2, .int .i64 q3, .int .i64 q4, .int .i64 q5, .int .i64 q6, .int .i64 q7, .int .i64 q8] 25) := ⟨_, rfl⟩
  rw [← hW0] at B0 P0 L0
  obtain ⟨B1, P1, L1⟩ := box1 W0 #[.int .i64 x0, .int .i64 x1, .int .i64 x2, .slice y3 m3 d3, .slice y4 m4 d4, .slice y5 m5 d5, .slice y6 n d6, .slice y7 m7 d7] 31
  obtain ⟨W1, hW1⟩ : ∃ W1, W1 = W0.alloc (.cells #[.int .i64 x0, .int .i64 x1, .int .i64 x2, .slice y3 m3 d3, .slice y4 m4 d4, .slice y5 m5 d5, .slice y6 n d6, .slice y7 m7 d7] 31) := ⟨_, rfl⟩
  rw [← hW1] at B1 P1 L1
  have q0 : W1.heap[w.heap.size]? = some (.cells #[.slice u0 n0 k0, .slice u1 n1 k1, .int .i64 q2, .int .i64 q3, .int .i64 q4, .int .i64 q5, .int .i64 q6, .int .i64 q7, .int .i64 q8] 25 (0, 0)) := (B1.block _ (by omega)).trans P0
  rw [L0] at P1 L1
  have HB : Hid (Below w.heap.size w W1) := below_on B0 B1
  obtain ⟨R, hR⟩ : ∃ R, R = w.heap.size := ⟨_, rfl⟩
  rw [← hR] at q0 P1 L1
  have HG : Hid (∀ w', Below W1.heap.size W1 w' → w'.heap[R]? = some (.cells #[.slice u0 n0 k0, .slice u1 n1 k1, .int .i64 q2, .int .i64 q3, .int .i64 q4, .int .i64 q5, .int .i64 q6, .int .i64 q7, .int .i64 q8] 25 (0, 0)) ∧ w'.heap[R + 1]? = some (.cells #[.int .i64 x0, .int .i64 x1, .int .i64 x2, .slice y3 m3 d3, .slice y4 m4 d4, .slice y5 m5 d5, .slice y6 n d6, .slice y7 m7 d7] 31 (0, 0))) := fun w' b => ⟨(b.block R (by omega)).trans q0, (b.block (R + 1) (by omega)).trans P1⟩
  have HX : Hid (Below W1.heap.size W1 W1) := Below.refl _ _
  have HW : Hid (W1 = (w.alloc (.cells #[.slice u0 n0 k0, .slice u1 n1 k1, .int .i64 q2, .int .i64 q3, .int .i64 q4, .int .i64 q5, .int .i64 q6, .int .i64 q7, .int .i64 q8] 25)).alloc (.cells #[.int .i64 x0, .int .i64 x1, .int .i64 x2, .slice y3 m3 d3, .slice y4 m4 d4, .slice y5 m5 d5, .slice y6 n d6, .slice y7 m7 d7] 31)) := by show _ = _; rw [hW1, hW0]
  have HR : Hid (w.heap.size = R) := hR.symm
  clear hR B0 P0 L0 B1 P1 L1 hW0 hW1 q0
  go_enter Tryz.func15, Tryz.ntmps15
  go_upto_region 1 with fail
  rw [← HW.out, HR.out]
  obtain ⟨a0, a1, a2, a3, a4, a5, a6, a7, a8⟩ := nine_cells' (HG.out _ HX.out).1
  obtain ⟨b0, b1, b2, b3, b4, b5, b6, b7⟩ := eight_cells (HG.out _ HX.out).2
  by_cases g : q6 < (n : Int)
  · have gd : decide (q6 < (n : Int)) = true := decide_eq_true g
    have HXE := HX
    have HE9 : Hid (Below w.heap.size w W1) := HB.out.trans (HXE.out.mono HB.out.size)
    have HF : Hid (NoP (seatsR n0 q6 x0 OK E)) := fun h => by have := h.1; rw [← HNE.out] at this; omega
    go_wp2_with fail
    go_ret
    exact ⟨iff_f HF.out, HE9.out⟩
  · have gd : decide (q6 < (n : Int)) = false := decide_eq_false g
    have HQ : Hid ((n : Int) ≤ q6) := by show _ ≤ _; omega
    clear g
    go_wp2_with fail
    clear a0 a1 a2 a3 a4 a5 a6 a7 a8 b0 b1 b2 b3 b4 b5 b6 b7 gd
    go_loopg [17] n (fun g i_ wr => ∃ (i : Nat), i ≤ n ∧ n - i ≤ g ∧ i_ = .int .i64 (i : Nat) ∧ Hid (∀ j (h : j < E.length), j < i → seaR n0 x0 OK E[j] ∧ NoP (HasTok (E.take j) E[j].1)) ∧ Hid (Below W1.heap.size W1 wr))
    case atStart => exact ⟨0, by omega, by omega, rfl, fun j h hj => absurd hj (Nat.not_lt_zero _), HX⟩
    case round =>
      clear HX
      obtain ⟨i, hi, hg, rfl, HV, HX⟩ := hrel
      by_cases hin : i < n
      · have iw : ((i : Nat) : Int) < (n : Int) := by omega
        have n0i : (0 : Int) ≤ ((i : Nat) : Int) := by omega
        have hixi : i < E.length := by rw [← HNE.out]; exact hin
        obtain ⟨b1_, f1, s1_, rfl, hlt1, _, hR1, hc1⟩ := (HDE.out wr (HB.out.trans (HX.out.mono HB.out.size))).get hixi
        obtain ⟨x, hx⟩ : ∃ z, z = E[i] := ⟨_, rfl⟩
        have hmem : x ∈ E := hx ▸ List.getElem_mem hixi
        have htx := HTE.out x hmem
        rw [← hx] at hR1
        have HXI0 : Hid (E[i] = x) := hx.symm
        obtain rfl := seaM_cells hR1
        clear hmem hx
        obtain ⟨l0, z1, z2, z3, l4⟩ := x
        have HXI := HXI0
        clear HXI0
        simp only at hc1 htx
        obtain ⟨t0, ht0⟩ : ∃ q, q = mkB l0 := ⟨_, rfl⟩
        obtain ⟨t4, ht4⟩ : ∃ q, q = mkB l4 := ⟨_, rfl⟩
        have HT0 := Lib.hid ht0
        rw [← ht0, ← ht4] at hc1
        have e0 : wr.cell? ⟨b1_, f1 + i * 5, none⟩ = some (.string t0) := hc1 0 _ rfl
        have e1 : wr.cell? ⟨b1_, f1 + i * 5 + 1, none⟩ = some (.int .i64 z1) := hc1 1 _ rfl
        have e2 : wr.cell? ⟨b1_, f1 + i * 5 + 2, none⟩ = some (.int .i64 z2) := hc1 2 _ rfl
        have e3 : wr.cell? ⟨b1_, f1 + i * 5 + 3, none⟩ = some (.int .i64 z3) := hc1 3 _ rfl
        have e4 : wr.cell? ⟨b1_, f1 + i * 5 + 4, none⟩ = some (.string t4) := hc1 4 _ rfl
        obtain ⟨bX, pX, lX⟩ := box1 wr #[.string t0, .int .i64 z1, .int .i64 z2, .int .i64 z3, .string t4] 57
        obtain ⟨W5, hW5⟩ : ∃ W5, W5 = wr.alloc (.cells #[.string t0, .int .i64 z1, .int .i64 z2, .int .i64 z3, .string t4] 57) := ⟨_, rfl⟩
        rw [← hW5] at bX pX lX
        obtain ⟨X, hX⟩ : ∃ X, X = wr.heap.size := ⟨_, rfl⟩
        rw [← hX] at pX lX
        have HW5 := Lib.hid hW5
        have HXX : Hid (wr.heap.size = X) := hX.symm
        have HLX : Hid (W5.heap.size = X + 1) := lX
        have HX5 : Hid (Below W1.heap.size W1 W5) := below_on HX.out bX
        obtain ⟨g0, g1, g2, g3, g4⟩ := five_cells' pX
        have HG0 : Hid (W5.cell? ⟨X, 0, none⟩ = some (.string t0)) := g0
        have CT := Lib.hid (seat_any TK (u0 := u0) (u1 := u1) (y3 := y3) (y4 := y4) (y5 := y5) (y6 := none) (y7 := y7) (n0 := n0) (k0 := k0) (n1 := n1) (k1 := k1) (m3 := 0) (d3 := 0) (m4 := 0) (d4 := 0) (m5 := 0) (d5 := 0) (m6 := 0) (d6 := 0) (m7 := 0) (d7 := 0) (q2 := q2) (q3 := q3) (q4 := q4) (q5 := q5) (q6 := q6) (q7 := q7) (q8 := q8) (x0 := 0) (x1 := 0) (x2 := 0) x0 z1 z2 z3 l0 l4 W5 htx.1 htx.2 hn0)
        rw [← ht0, ← ht4] at CT
        clear hc1 hR1 hlt1 hX hW5 bX pX lX ht0 ht4 htx HX
        have HX := HX5
        clear HX5
        obtain ⟨a0, a1, a2, a3, a4, a5, a6, a7, a8⟩ := nine_cells' (HG.out _ HX.out).1
        obtain ⟨b0, b1, b2, b3, b4, b5, b6, b7⟩ := eight_cells (HG.out _ HX.out).2
        go_upto_region 7 with fail
        rw [← HW5.out, HXX.out]
        clear e0 e1 e2 e3 e4
        go_wp2_with fail
        refine CT.out.mono ?_
        rintro e w6 ⟨hq, bb6⟩
        have HX6 : Hid (Below W1.heap.size W1 w6) := below_on HX.out bb6
        have HT6 : Hid (w6.cell? ⟨X, 0, none⟩ = some (.string (mkB l0))) := by show _ = _; rw [← HT0.out]; exact vcell bb6 (by have := HLX.out; omega) HG0.out
        have HL6 : Hid (X < w6.heap.size) := by show _ < _; have := HLX.out; have := bb6.size; omega
        clear bb6 CT g0 g1 g2 g3 g4 a0 a1 a2 a3 a4 a5 a6 a7 a8 b0 b1 b2 b3 b4 b5 b6 b7 HX HG0
        have HX := HX6
        clear HX6
        rcases hq.det with ⟨ht, rfl⟩ | ⟨hf, rfl⟩
        · have HTT := Lib.hid ht
          clear ht
          have CC := Lib.hid (scont_any (E.take i) l0 X w6 ((HDE.out w6 (HB.out.trans (HX.out.mono HB.out.size))).take (Nat.le_of_lt hin)) HT6.out HL6.out)
          obtain ⟨a0, a1, a2, a3, a4, a5, a6, a7, a8⟩ := nine_cells' (HG.out _ HX.out).1
          obtain ⟨b0, b1, b2, b3, b4, b5, b6, b7⟩ := eight_cells (HG.out _ HX.out).2
          go_wp2_with fail
          refine CC.out.mono ?_
          rintro e w7 ⟨hr, bb7⟩
          have HX7 : Hid (Below W1.heap.size W1 w7) := below_on HX.out bb7
          clear bb7 CC a0 a1 a2 a3 a4 a5 a6 a7 a8 b0 b1 b2 b3 b4 b5 b6 b7 HX
          rcases hr.det with ⟨ht, rfl⟩ | ⟨hf, rfl⟩
          · have HXE := HX7
            have HHT := Lib.hid ht
            have HE9 : Hid (Below w.heap.size w w7) := HB.out.trans (HXE.out.mono HB.out.size)
            have HF : Hid (NoP (seatsR n0 q6 x0 OK E)) := fun h => (by have hx := h.2 i hixi; rw [HXI.out] at hx; exact hx.2 HHT.out)
            go_wp2_with fail
            go_ret
            exact ⟨iff_f HF.out, HE9.out⟩
          · have HV2 : Hid (∀ j (h : j < E.length), j < i + 1 → seaR n0 x0 OK E[j] ∧ NoP (HasTok (E.take j) E[j].1)) := fun j h hj => by
              by_cases e : j = i
              · subst e
                rw [HXI.out]
                exact ⟨HTT.out, hf⟩
              · exact HV.out j h (by omega)
            clear HV HXI HTT
            go_wp2_with fail
            go_roundg (n - (i + 1))
            case measure => omega
            case rel => exact ⟨i + 1, by omega, Nat.le_refl _, by go_num, HV2, HX7⟩
        · have HXE := HX
          have HFF := Lib.hid (show NoP _ from hf)
          have HE9 : Hid (Below w.heap.size w w6) := HB.out.trans (HXE.out.mono HB.out.size)
          have HF : Hid (NoP (seatsR n0 q6 x0 OK E)) := fun h => (by have hx := h.2 i hixi; rw [HXI.out] at hx; exact HFF.out hx.1)
          go_wp2_with fail
          go_ret
          exact ⟨iff_f HF.out, HE9.out⟩
      · obtain rfl : n = i := by omega
        have iw : ¬ ((n : Nat) : Int) < ((n : Nat) : Int) := by omega
        have HE9 : Hid (Below w.heap.size w wr) := HB.out.trans (HX.out.mono HB.out.size)
        have HT : Hid (seatsR n0 q6 x0 OK E) := ⟨by rw [← HNE.out]; exact HQ.out, fun j h => HV.out j h (by rw [HNE.out]; exact h)⟩
        clear HV
        go_wp2_with fail
        go_ret
        exact ⟨iff_t HT.out, HE9.out⟩
end Go.Proofs.YtccaiippoephbaaGreatDoor.Sta
