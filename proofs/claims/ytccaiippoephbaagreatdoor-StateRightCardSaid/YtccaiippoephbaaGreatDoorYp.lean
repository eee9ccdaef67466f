/- State: the program's Right, given what its callees of other layers owe. -/
import Derived.Test.YtccaiippoephbaaGreatDoorYo
set_option linter.unusedVariables false
set_option linter.unusedSimpArgs false
set_option maxRecDepth 100000
namespace Go.Proofs.YtccaiippoephbaaGreatDoor.Sta
open Go.RowKit Go.Lib Go.Proofs.YtccaiippoephbaaGreatDoor.Bx Go.Proofs.YtccaiippoephbaaGreatDoor.Frm Go.Proofs.YtccaiippoephbaaGreatDoor.Wds

def rightR (OKs : List Seg → Prop) (OKu : List Thg → Prop) (OKa : List UInt8 → Prop) (C : Cfg) (S : Sta) : Prop := mayB C ∧ (0 ≤ S.1 ∧ S.1 ≤ 1099511627776) ∧ (0 ≤ S.2.1 ∧ S.2.1 ≤ 1099511627776) ∧ (1 ≤ S.2.2.1 ∧ S.2.2.1 ≤ 1099511627776) ∧ (alikeP S.2.2.2.1 C.2.1 ∧ Rt.rightB (S.2.2.2.1.map lbL) C.1.length = true) ∧ docsR C.2.2.1 C.2.2.2.1 C.2.2.2.2.1 S.2.1 S.2.2.1 S.2.2.2.1.length OKs S.2.2.2.2.1 ∧ stacksR C.2.2.1 C.2.2.2.2.2.1 S.2.2.1 S.2.2.2.1.length S.2.2.2.2.1.length C.1.length OKu S.2.2.2.2.2.1 ∧ seatsR C.1.length C.2.2.2.2.2.2.1 S.1 OKa S.2.2.2.2.2.2.1 ∧ auditR C.1.length C.2.2.2.2.2.2.2.1 S.2.2.2.2.2.2.2
set_option maxHeartbeats 16000000 in
theorem right_ok {P P' : Nat → Prop} {OKs : List Seg → Prop} {OKu : List Thg → Prop} {OKa : List UInt8 → Prop} {W0 : World} (LS : LoadS W0 OKs) (LU : LoadU W0 OKu) (TK : ToldK OKa) {cs cs' : List Value} (C : Cfg) (S : Sta) (w : World) (hW : Below W0.heap.size W0 w) (h : cfgM.R P w cs C) (h' : staM.R P' w cs' S) (hg : cfgG C) (hg' : staG S) (hs : staS S) : Calls Tryz.prog 4 #[.agg cs.toArray, .agg cs'.toArray] w fun e w' => IffB (rightR OKs OKu OKa C S) e ∧ Below w.heap.size w w' := by
  have HW0 := Lib.hid hW
  clear hW
  have HCM := Lib.hid (fun w' (b : Below w.heap.size w w') => cfgM_ok.keep h (Keep.below b))
  obtain ⟨u0, k0, u1, k1, rfl, p0, p1⟩ := cfgM_cells h
  obtain ⟨y3, d3, y4, d4, y5, d5, y6, d6, y7, d7, rfl, r3, r4, r5, r6, r7⟩ := staM_cells h'
  clear h h'
  obtain ⟨U, L, q2, q3, q4, q5, q6, q7, q8⟩ := C
  obtain ⟨x0, x1, x2, M, D, K, E, A⟩ := S
  simp only at HCM p0 p1 r3 r4 r5 r6 r7 hg hg' hs ⊢
  have HBU : Hid (∀ x ∈ U, x.1.length ≤ 140737488355328 ∧ x.2.1.length ≤ 140737488355328 ∧ x.2.2.length ≤ 140737488355328) := fun x hx => ⟨(hg.1.2 x hx).1, (hg.1.2 x hx).2.1, (hg.1.2 x hx).2.2⟩
  have HBL : Hid (∀ x ∈ L, labG x) := hg.2.1.2
  have HGM : Hid (∀ x ∈ M, labG x) := hg'.2.2.2.1.2
  have HGD : Hid (∀ d ∈ D, ∀ y ∈ d.2, segG y) := fun d hd y hy => (hg'.2.2.2.2.1.2 d hd).2.2 y hy
  have HSD : Hid (∀ d ∈ D, ∀ y ∈ d.2, segS y) := fun d hd y hy => (hs.2.1.2 d hd).2 y hy
  have HGK2 : Hid (∀ l ∈ K, ∀ y ∈ l, thgG y) := fun l hl y hy => (hg'.2.2.2.2.2.1.2 l hl).2 y hy
  have HTK : Hid (∀ l ∈ K, ∀ y ∈ l, y.2.2.2.2.length ≤ 9223372036854775807) := fun l hl y hy => Nat.le_trans ((hg'.2.2.2.2.2.1.2 l hl).2 y hy).2.2.2.2 (by decide)
  have HTE : Hid (∀ x ∈ E, x.1.length ≤ 140737488355328 ∧ x.2.2.2.2.length ≤ 140737488355328) := fun x hx => ⟨(hg'.2.2.2.2.2.2.1.2 x hx).1, (hg'.2.2.2.2.2.2.1.2 x hx).2.2.2.2⟩
  obtain ⟨n0, hn0⟩ : ∃ n, n = U.length := ⟨_, rfl⟩
  obtain ⟨n1, hn1⟩ : ∃ n, n = L.length := ⟨_, rfl⟩
  obtain ⟨m3, hm3⟩ : ∃ n, n = M.length := ⟨_, rfl⟩
  obtain ⟨m4, hm4⟩ : ∃ n, n = D.length := ⟨_, rfl⟩
  obtain ⟨m5, hm5⟩ : ∃ n, n = K.length := ⟨_, rfl⟩
  obtain ⟨m6, hm6⟩ : ∃ n, n = E.length := ⟨_, rfl⟩
  obtain ⟨m7, hm7⟩ : ∃ n, n = A.length := ⟨_, rfl⟩
  have HG2 : Hid (rightR OKs OKu OKa (U, L, q2, q3, q4, q5, q6, q7, q8) (x0, x1, x2, M, D, K, E, A) → mayB (U, L, q2, q3, q4, q5, q6, q7, q8) ∧ (0 ≤ x0 ∧ x0 ≤ 1099511627776) ∧ (0 ≤ x1 ∧ x1 ≤ 1099511627776) ∧ (1 ≤ x2 ∧ x2 ≤ 1099511627776) ∧ (alikeP M L ∧ Rt.rightB (M.map lbL) n0 = true) ∧ docsR q2 q3 q4 x1 x2 m3 OKs D ∧ stacksR q2 q5 x2 m3 m4 n0 OKu K ∧ seatsR n0 q6 x0 OKa E ∧ auditR n0 q7 A) := fun h => by
    unfold rightR at h
    simp only at h
    rw [hn0, hm3, hm4]
    exact h
  have HG3 : Hid (mayB (U, L, q2, q3, q4, q5, q6, q7, q8) ∧ (0 ≤ x0 ∧ x0 ≤ 1099511627776) ∧ (0 ≤ x1 ∧ x1 ≤ 1099511627776) ∧ (1 ≤ x2 ∧ x2 ≤ 1099511627776) ∧ (alikeP M L ∧ Rt.rightB (M.map lbL) n0 = true) ∧ docsR q2 q3 q4 x1 x2 m3 OKs D ∧ stacksR q2 q5 x2 m3 m4 n0 OKu K ∧ seatsR n0 q6 x0 OKa E ∧ auditR n0 q7 A → rightR OKs OKu OKa (U, L, q2, q3, q4, q5, q6, q7, q8) (x0, x1, x2, M, D, K, E, A)) := fun h => by
    unfold rightR
    simp only
    rw [hn0, hm3, hm4] at h
    exact h
  simp only [← hn0, ← hn1, ← hm3, ← hm4, ← hm5, ← hm6, ← hm7] at HCM p0 p1 r3 r4 r5 r6 r7 ⊢
  have hv0 : n0 ≤ 9223372036854775807 := by have q := p0.len; simp only [maxLen] at q; omega
  have hv3 : m3 ≤ 9223372036854775807 := by have q := r3.len; simp only [maxLen] at q; omega
  have hv4 : m4 ≤ 9223372036854775807 := by have q := r4.len; simp only [maxLen] at q; omega
  have HM := Lib.hid (fun w' (b : Below w.heap.size w w') => r3.keep labM_ok (Keep.below b))
  have HDD := Lib.hid (fun w' (b : Below w.heap.size w w') => r4.keep docM_ok (Keep.below b))
  have HK := Lib.hid (fun w' (b : Below w.heap.size w w') => r5.keep stkM_ok (Keep.below b))
  have HE := Lib.hid (fun w' (b : Below w.heap.size w w') => r6.keep seaM_ok (Keep.below b))
  have HA := Lib.hid (fun w' (b : Below w.heap.size w w') => r7.keep entM_ok (Keep.below b))
  have HU0 : Hid (n0 = U.length) := hn0
  clear p0 p1 r3 r4 r5 r6 r7 hg hg' hs hn0 hn1 hm3 hm4 hm5 hm6 hm7
  show Calls _ _ #[.agg #[.slice u0 n0 k0, .slice u1 n1 k1, .int .i64 q2, .int .i64 q3, .int .i64 q4, .int .i64 q5, .int .i64 q6, .int .i64 q7, .int .i64 q8], .agg #[.int .i64 x0, .int .i64 x1, .int .i64 x2, .slice y3 m3 d3, .slice y4 m4 d4, .slice y5 m5 d5, .slice y6 m6 d6, .slice y7 m7 d7]] _ _
  obtain ⟨B0, P0, L0⟩ := box1 w #[.slice u0 n0 k0, .slice u1 n1 k1, .int .i64 q2, .int .i64 q3, .int .i64 q4, .int .i64 q5, .int .i64 q6, .int .i64 q7, .int .i64 q8] 25
  obtain ⟨W0, hW0⟩ : ∃ W0, W0 = w.alloc (.cells #[.slice u0 n0 k0, .slice u1 n1 k1, .int .i64 q2, .int .i64 q3, .int .i64 q4, .int .i64 q5, .int .i64 q6, .int .i64 q7, .int .i64 q8] 25) := ⟨_, rfl⟩
  rw [← hW0] at B0 P0 L0
  obtain ⟨B1, P1, L1⟩ := box1 W0 #[.int .i64 x0, .int .i64 x1, .int .i64 x2, .slice y3 m3 d3, .slice y4 m4 d4, .slice y5 m5 d5, .slice y6 m6 d6, .slice y7 m7 d7] 31
  obtain ⟨W1, hW1⟩ : ∃ W1, W1 = W0.alloc (.cells #[.int .i64 x0, .int .i64 x1, .int .i64 x2, .slice y3 m3 d3, .slice y4 m4 d4, .slice y5 m5 d5, .slice y6 m6 d6, .slice y7 m7 d7] 31) := ⟨_, rfl⟩
  rw [← hW1] at B1 P1 L1
  have q0 : W1.heap[w.heap.size]? = some (.cells #[.slice u0 n0 k0, .slice u1 n1 k1, .int .i64 q2, .int .i64 q3, .int .i64 q4, .int .i64 q5, .int .i64 q6, .int .i64 q7, .int .i64 q8] 25 (0, 0)) := (B1.block _ (by omega)).trans P0
  rw [L0] at P1 L1
  have HB : Hid (Below w.heap.size w W1) := below_on B0 B1
  obtain ⟨R, hR⟩ : ∃ R, R = w.heap.size := ⟨_, rfl⟩
  rw [← hR] at q0 P1 L1
  have HG : Hid (∀ w', Below W1.heap.size W1 w' → w'.heap[R]? = some (.cells #[.slice u0 n0 k0, .slice u1 n1 k1, .int .i64 q2, .int .i64 q3, .int .i64 q4, .int .i64 q5, .int .i64 q6, .int .i64 q7, .int .i64 q8] 25 (0, 0)) ∧ w'.heap[R + 1]? = some (.cells #[.int .i64 x0, .int .i64 x1, .int .i64 x2, .slice y3 m3 d3, .slice y4 m4 d4, .slice y5 m5 d5, .slice y6 m6 d6, .slice y7 m7 d7] 31 (0, 0))) := fun w' b => ⟨(b.block R (by omega)).trans q0, (b.block (R + 1) (by omega)).trans P1⟩
  have HX : Hid (Below W1.heap.size W1 W1) := Below.refl _ _
  have HW : Hid (W1 = (w.alloc (.cells #[.slice u0 n0 k0, .slice u1 n1 k1, .int .i64 q2, .int .i64 q3, .int .i64 q4, .int .i64 q5, .int .i64 q6, .int .i64 q7, .int .i64 q8] 25)).alloc (.cells #[.int .i64 x0, .int .i64 x1, .int .i64 x2, .slice y3 m3 d3, .slice y4 m4 d4, .slice y5 m5 d5, .slice y6 m6 d6, .slice y7 m7 d7] 31)) := by show _ = _; rw [hW1, hW0]
  have HR : Hid (w.heap.size = R) := hR.symm
  clear hR B0 P0 L0 B1 P1 L1 hW0 hW1 q0
  go_enter Tryz.func4, Tryz.ntmps4
  have HI := Lib.hid (fun (n lo hi : Int) (w' : World) => within_any n lo hi w')
  go_upto_region 1 with fail
  rw [← HW.out, HR.out]
  obtain ⟨a0, a1, a2, a3, a4, a5, a6, a7, a8⟩ := nine_cells' (HG.out _ HX.out).1
  obtain ⟨b0, b1, b2, b3, b4, b5, b6, b7⟩ := eight_cells (HG.out _ HX.out).2
  have C0 := Lib.hid (may_ok (U, L, q2, q3, q4, q5, q6, q7, q8) W1 (HCM.out W1 HB.out) HBU.out HBL.out)
  go_wp2_with fail
  refine C0.out.mono ?_
  rintro e w1 ⟨hq, bb_⟩
  have HX2 : Hid (Below W1.heap.size W1 w1) := below_on HX.out bb_
  clear bb_ HX a0 a1 a2 a3 a4 a5 a6 a7 a8 b0 b1 b2 b3 b4 b5 b6 b7
  have HX := HX2
  clear HX2
  clear C0
  rcases hq.det with ⟨ht, rfl⟩ | ⟨hf, rfl⟩
  · have H0 : Hid (mayB (U, L, q2, q3, q4, q5, q6, q7, q8)) := ht
    clear ht
    have HRG : Hid (rngB q2 q3 q4 q5 q6 q7 q8) := H0.out.2.2
    obtain ⟨a0, a1, a2, a3, a4, a5, a6, a7, a8⟩ := nine_cells' (HG.out _ HX.out).1
    obtain ⟨b0, b1, b2, b3, b4, b5, b6, b7⟩ := eight_cells (HG.out _ HX.out).2
    go_wp2_with fail
    refine (HI.out x0 0 1099511627776 _).mono ?_
    rintro e wt ⟨rfl, hwt⟩
    rw [hwt]
    clear hwt wt
    by_cases j1 : (0 : Int) ≤ x0 ∧ x0 ≤ 1099511627776
    · rw [decide_eq_true j1]
      clear a0 a1 a2 a3 a4 a5 a6 a7 a8 b0 b1 b2 b3 b4 b5 b6 b7
      obtain ⟨a0, a1, a2, a3, a4, a5, a6, a7, a8⟩ := nine_cells' (HG.out _ HX.out).1
      obtain ⟨b0, b1, b2, b3, b4, b5, b6, b7⟩ := eight_cells (HG.out _ HX.out).2
      go_wp2_with fail
      refine (HI.out x1 0 1099511627776 _).mono ?_
      rintro e wt ⟨rfl, hwt⟩
      rw [hwt]
      clear hwt wt
      by_cases j2 : (0 : Int) ≤ x1 ∧ x1 ≤ 1099511627776
      · rw [decide_eq_true j2]
        clear a0 a1 a2 a3 a4 a5 a6 a7 a8 b0 b1 b2 b3 b4 b5 b6 b7
        obtain ⟨a0, a1, a2, a3, a4, a5, a6, a7, a8⟩ := nine_cells' (HG.out _ HX.out).1
        obtain ⟨b0, b1, b2, b3, b4, b5, b6, b7⟩ := eight_cells (HG.out _ HX.out).2
        go_wp2_with fail
        refine (HI.out x2 1 1099511627776 _).mono ?_
        rintro e wt ⟨rfl, hwt⟩
        rw [hwt]
        clear hwt wt
        by_cases j3 : (1 : Int) ≤ x2 ∧ x2 ≤ 1099511627776
        · rw [decide_eq_true j3]
          clear a0 a1 a2 a3 a4 a5 a6 a7 a8 b0 b1 b2 b3 b4 b5 b6 b7
          obtain ⟨a0, a1, a2, a3, a4, a5, a6, a7, a8⟩ := nine_cells' (HG.out _ HX.out).1
          obtain ⟨b0, b1, b2, b3, b4, b5, b6, b7⟩ := eight_cells (HG.out _ HX.out).2
          have C4 := Lib.hid (labels_ok (U, L, q2, q3, q4, q5, q6, q7, q8) M w1 (HCM.out w1 (HB.out.trans (HX.out.mono HB.out.size) : Below w.heap.size w w1)) (HM.out w1 (HB.out.trans (HX.out.mono HB.out.size) : Below w.heap.size w w1)) HGM.out)
          go_wp2_with fail
          refine C4.out.mono ?_
          rintro e w2 ⟨hq, bb_⟩
          have HX2 : Hid (Below W1.heap.size W1 w2) := below_on HX.out bb_
          clear bb_ HX a0 a1 a2 a3 a4 a5 a6 a7 a8 b0 b1 b2 b3 b4 b5 b6 b7
          have HX := HX2
          clear HX2
          clear C4
          rcases hq.det with ⟨ht, rfl⟩ | ⟨hf, rfl⟩
          · have H4 : Hid (alikeP M L ∧ Rt.rightB (M.map lbL) n0 = true) := (by rw [show n0 = U.length from HU0.out]; exact ht)
            clear ht
            obtain ⟨a0, a1, a2, a3, a4, a5, a6, a7, a8⟩ := nine_cells' (HG.out _ HX.out).1
            obtain ⟨b0, b1, b2, b3, b4, b5, b6, b7⟩ := eight_cells (HG.out _ HX.out).2
            have C5 := Lib.hid (docs_ok (u0 := u0) (k0 := k0) (u1 := u1) (n1 := n1) (k1 := k1) (n0 := n0) (y3 := y3) (m3 := m3) (d3 := d3) (y4 := y4) (m4 := m4) (d4 := d4) (y5 := y5) (m5 := m5) (d5 := d5) (y6 := y6) (m6 := m6) (d6 := d6) (y7 := y7) (m7 := m7) (d7 := d7) (q2 := q2) (q3 := q3) (q4 := q4) (q5 := q5) (q6 := q6) (q7 := q7) (q8 := q8) (x0 := x0) (x1 := x1) (x2 := x2) LS D w2 (HW0.out.trans ((HB.out.trans (HX.out.mono HB.out.size) : Below w.heap.size w w2).mono HW0.out.size)) (HDD.out w2 (HB.out.trans (HX.out.mono HB.out.size) : Below w.heap.size w w2)) j2 hv3 (by have := HRG.out.2.1; exact this) HGD.out HSD.out)
            go_wp2_with fail
            refine C5.out.mono ?_
            rintro e w3 ⟨hq, bb_⟩
            have HX2 : Hid (Below W1.heap.size W1 w3) := below_on HX.out bb_
            clear bb_ HX a0 a1 a2 a3 a4 a5 a6 a7 a8 b0 b1 b2 b3 b4 b5 b6 b7
            have HX := HX2
            clear HX2
            clear C5
            rcases hq.det with ⟨ht, rfl⟩ | ⟨hf, rfl⟩
            · have H5 : Hid (docsR q2 q3 q4 x1 x2 m3 OKs D) := ht
              clear ht
              obtain ⟨a0, a1, a2, a3, a4, a5, a6, a7, a8⟩ := nine_cells' (HG.out _ HX.out).1
              obtain ⟨b0, b1, b2, b3, b4, b5, b6, b7⟩ := eight_cells (HG.out _ HX.out).2
              have C6 := Lib.hid (stacks_ok (u0 := u0) (k0 := k0) (u1 := u1) (n1 := n1) (k1 := k1) (n0 := n0) (y3 := y3) (m3 := m3) (d3 := d3) (y4 := y4) (m4 := m4) (d4 := d4) (y5 := y5) (m5 := m5) (d5 := d5) (y6 := y6) (m6 := m6) (d6 := d6) (y7 := y7) (m7 := m7) (d7 := d7) (q2 := q2) (q3 := q3) (q4 := q4) (q5 := q5) (q6 := q6) (q7 := q7) (q8 := q8) (x0 := x0) (x1 := x1) (x2 := x2) LU K w3 (HW0.out.trans ((HB.out.trans (HX.out.mono HB.out.size) : Below w.heap.size w w3).mono HW0.out.size)) HGK2.out (HK.out w3 (HB.out.trans (HX.out.mono HB.out.size) : Below w.heap.size w w3)) j3 hv3 hv4 (by have := HRG.out.1; omega) (by have := HRG.out.2.2.2.1; omega) HTK.out hv0)
              go_wp2_with fail
              refine C6.out.mono ?_
              rintro e w4 ⟨hq, bb_⟩
              have HX2 : Hid (Below W1.heap.size W1 w4) := below_on HX.out bb_
              clear bb_ HX a0 a1 a2 a3 a4 a5 a6 a7 a8 b0 b1 b2 b3 b4 b5 b6 b7
              have HX := HX2
              clear HX2
              clear C6
              rcases hq.det with ⟨ht, rfl⟩ | ⟨hf, rfl⟩
              · have H6 : Hid (stacksR q2 q5 x2 m3 m4 n0 OKu K) := ht
                clear ht
                obtain ⟨a0, a1, a2, a3, a4, a5, a6, a7, a8⟩ := nine_cells' (HG.out _ HX.out).1
                obtain ⟨b0, b1, b2, b3, b4, b5, b6, b7⟩ := eight_cells (HG.out _ HX.out).2
                have C7 := Lib.hid (seats_ok (u0 := u0) (k0 := k0) (u1 := u1) (n1 := n1) (k1 := k1) (n0 := n0) (y3 := y3) (m3 := m3) (d3 := d3) (y4 := y4) (m4 := m4) (d4 := d4) (y5 := y5) (m5 := m5) (d5 := d5) (y6 := y6) (m6 := m6) (d6 := d6) (y7 := y7) (m7 := m7) (d7 := d7) (q2 := q2) (q3 := q3) (q4 := q4) (q5 := q5) (q6 := q6) (q7 := q7) (q8 := q8) (x0 := x0) (x1 := x1) (x2 := x2) TK E w4 (HE.out w4 (HB.out.trans (HX.out.mono HB.out.size) : Below w.heap.size w w4)) HTE.out hv0)
                go_wp2_with fail
                refine C7.out.mono ?_
                rintro e w5 ⟨hq, bb_⟩
                have HX2 : Hid (Below W1.heap.size W1 w5) := below_on HX.out bb_
                clear bb_ HX a0 a1 a2 a3 a4 a5 a6 a7 a8 b0 b1 b2 b3 b4 b5 b6 b7
                have HX := HX2
                clear HX2
                clear C7
                rcases hq.det with ⟨ht, rfl⟩ | ⟨hf, rfl⟩
                · have H7 : Hid (seatsR n0 q6 x0 OKa E) := ht
                  clear ht
                  obtain ⟨a0, a1, a2, a3, a4, a5, a6, a7, a8⟩ := nine_cells' (HG.out _ HX.out).1
                  obtain ⟨b0, b1, b2, b3, b4, b5, b6, b7⟩ := eight_cells (HG.out _ HX.out).2
                  have C8 := Lib.hid (audit_ok (U, L, q2, q3, q4, q5, q6, q7, q8) A w5 (HCM.out w5 (HB.out.trans (HX.out.mono HB.out.size) : Below w.heap.size w w5)) (HA.out w5 (HB.out.trans (HX.out.mono HB.out.size) : Below w.heap.size w w5)))
                  go_wp2_with fail
                  refine C8.out.mono ?_
                  rintro e w6 ⟨hq, bb_⟩
                  have HX2 : Hid (Below W1.heap.size W1 w6) := below_on HX.out bb_
                  clear bb_ HX a0 a1 a2 a3 a4 a5 a6 a7 a8 b0 b1 b2 b3 b4 b5 b6 b7
                  have HX := HX2
                  clear HX2
                  clear C8
                  rcases hq.det with ⟨ht, rfl⟩ | ⟨hf, rfl⟩
                  · have H8 : Hid (auditR n0 q7 A) := (by rw [show n0 = U.length from HU0.out]; exact ht)
                    clear ht
                    have HE9 : Hid (Below w.heap.size w w6) := HB.out.trans (HX.out.mono HB.out.size)
                    have HT : Hid (rightR OKs OKu OKa (U, L, q2, q3, q4, q5, q6, q7, q8) (x0, x1, x2, M, D, K, E, A)) := HG3.out ⟨H0.out, j1, j2, j3, H4.out, H5.out, H6.out, H7.out, H8.out⟩
                    go_wp2_with fail
                    go_ret
                    exact ⟨iff_t HT.out, HE9.out⟩
                  · have HN8_ : Hid (NoP (auditR n0 q7 A)) := (by rw [show n0 = U.length from HU0.out]; exact hf)
                    clear hf
                    have HE9 : Hid (Below w.heap.size w w6) := HB.out.trans (HX.out.mono HB.out.size)
                    have HF : Hid (NoP (rightR OKs OKu OKa (U, L, q2, q3, q4, q5, q6, q7, q8) (x0, x1, x2, M, D, K, E, A))) := fun h => HN8_.out (HG2.out h).2.2.2.2.2.2.2.2
                    go_wp2_with fail
                    go_ret
                    exact ⟨iff_f HF.out, HE9.out⟩
                · have HN7_ : Hid (NoP (seatsR n0 q6 x0 OKa E)) := hf
                  clear hf
                  have HE9 : Hid (Below w.heap.size w w5) := HB.out.trans (HX.out.mono HB.out.size)
                  have HF : Hid (NoP (rightR OKs OKu OKa (U, L, q2, q3, q4, q5, q6, q7, q8) (x0, x1, x2, M, D, K, E, A))) := fun h => HN7_.out (HG2.out h).2.2.2.2.2.2.2.1
                  go_wp2_with fail
                  go_ret
                  exact ⟨iff_f HF.out, HE9.out⟩
              · have HN6_ : Hid (NoP (stacksR q2 q5 x2 m3 m4 n0 OKu K)) := hf
                clear hf
                have HE9 : Hid (Below w.heap.size w w4) := HB.out.trans (HX.out.mono HB.out.size)
                have HF : Hid (NoP (rightR OKs OKu OKa (U, L, q2, q3, q4, q5, q6, q7, q8) (x0, x1, x2, M, D, K, E, A))) := fun h => HN6_.out (HG2.out h).2.2.2.2.2.2.1
                go_wp2_with fail
                go_ret
                exact ⟨iff_f HF.out, HE9.out⟩
            · have HN5_ : Hid (NoP (docsR q2 q3 q4 x1 x2 m3 OKs D)) := hf
              clear hf
              have HE9 : Hid (Below w.heap.size w w3) := HB.out.trans (HX.out.mono HB.out.size)
              have HF : Hid (NoP (rightR OKs OKu OKa (U, L, q2, q3, q4, q5, q6, q7, q8) (x0, x1, x2, M, D, K, E, A))) := fun h => HN5_.out (HG2.out h).2.2.2.2.2.1
              go_wp2_with fail
              go_ret
              exact ⟨iff_f HF.out, HE9.out⟩
          · have HN4_ : Hid (NoP (alikeP M L ∧ Rt.rightB (M.map lbL) n0 = true)) := (by rw [show n0 = U.length from HU0.out]; exact hf)
            clear hf
            have HE9 : Hid (Below w.heap.size w w2) := HB.out.trans (HX.out.mono HB.out.size)
            have HF : Hid (NoP (rightR OKs OKu OKa (U, L, q2, q3, q4, q5, q6, q7, q8) (x0, x1, x2, M, D, K, E, A))) := fun h => HN4_.out (HG2.out h).2.2.2.2.1
            go_wp2_with fail
            go_ret
            exact ⟨iff_f HF.out, HE9.out⟩
        · rw [decide_eq_false j3]
          have HN3_ : Hid (NoP ((1 : Int) ≤ x2 ∧ x2 ≤ 1099511627776)) := j3
          clear j3
          have HE9 : Hid (Below w.heap.size w w1) := HB.out.trans (HX.out.mono HB.out.size)
          have HF : Hid (NoP (rightR OKs OKu OKa (U, L, q2, q3, q4, q5, q6, q7, q8) (x0, x1, x2, M, D, K, E, A))) := fun h => HN3_.out (HG2.out h).2.2.2.1
          go_wp2_with fail
          go_ret
          exact ⟨iff_f HF.out, HE9.out⟩
      · rw [decide_eq_false j2]
        have HN2_ : Hid (NoP ((0 : Int) ≤ x1 ∧ x1 ≤ 1099511627776)) := j2
        clear j2
        have HE9 : Hid (Below w.heap.size w w1) := HB.out.trans (HX.out.mono HB.out.size)
        have HF : Hid (NoP (rightR OKs OKu OKa (U, L, q2, q3, q4, q5, q6, q7, q8) (x0, x1, x2, M, D, K, E, A))) := fun h => HN2_.out (HG2.out h).2.2.1
        go_wp2_with fail
        go_ret
        exact ⟨iff_f HF.out, HE9.out⟩
    · rw [decide_eq_false j1]
      have HN1_ : Hid (NoP ((0 : Int) ≤ x0 ∧ x0 ≤ 1099511627776)) := j1
      clear j1
      have HE9 : Hid (Below w.heap.size w w1) := HB.out.trans (HX.out.mono HB.out.size)
      have HF : Hid (NoP (rightR OKs OKu OKa (U, L, q2, q3, q4, q5, q6, q7, q8) (x0, x1, x2, M, D, K, E, A))) := fun h => HN1_.out (HG2.out h).2.1
      go_wp2_with fail
      go_ret
      exact ⟨iff_f HF.out, HE9.out⟩
  · have HN0_ : Hid (NoP (mayB (U, L, q2, q3, q4, q5, q6, q7, q8))) := hf
    clear hf
    have HE9 : Hid (Below w.heap.size w w1) := HB.out.trans (HX.out.mono HB.out.size)
    have HF : Hid (NoP (rightR OKs OKu OKa (U, L, q2, q3, q4, q5, q6, q7, q8) (x0, x1, x2, M, D, K, E, A))) := fun h => HN0_.out (HG2.out h).1
    go_wp2_with fail
    go_ret
    exact ⟨iff_f HF.out, HE9.out⟩
end Go.Proofs.YtccaiippoephbaaGreatDoor.Sta
