/- State: the plain text's Right, given what its docs, stacks and rest owe. -/
import Derived.Test.YtccaiippoephbaaGreatDoorYp
import Derived.Deep.QuietTactic
import Derived.BigQuiet
set_option linter.unusedVariables false
set_option linter.unusedSimpArgs false
set_option maxRecDepth 100000
namespace Go.Proofs.YtccaiippoephbaaGreatDoor.Sta
open Go.RowKit Go.Lib Go.Proofs.YtccaiippoephbaaGreatDoor.Bx Go.Proofs.YtccaiippoephbaaGreatDoor.Frm Go.Proofs.YtccaiippoephbaaGreatDoor.Wds

/-- What docs owes. -/
def RDocs (OKs : List Seg → Prop) : Prop := ∀ (P P' : Nat → Prop) (cs cs' : List Value) (C : Cfg) (S : Sta) (w : World), cfgM.R P w cs C → staM.R P' w cs' S → cfgG C → staG S → staS S → mayB C → S.2.2.2.1.length = C.2.1.length → (0 ≤ S.2.1 ∧ S.2.1 ≤ 1099511627776) → (1 ≤ S.2.2.1 ∧ S.2.2.1 ≤ 1099511627776) → Calls Tryz.prog 25 #[.agg cs.toArray, .agg cs'.toArray] w fun e w' => IffB (docsR C.2.2.1 C.2.2.2.1 C.2.2.2.2.1 S.2.1 S.2.2.1 S.2.2.2.1.length OKs S.2.2.2.2.1) e ∧ Below w.heap.size w w'
/-- What stacks owes. -/
def RStacks (OKu : List Thg → Prop) : Prop := ∀ (P P' : Nat → Prop) (cs cs' : List Value) (C : Cfg) (S : Sta) (w : World), cfgM.R P w cs C → staM.R P' w cs' S → cfgG C → staG S → staS S → mayB C → S.2.2.2.1.length = C.2.1.length → (0 ≤ S.2.1 ∧ S.2.1 ≤ 1099511627776) → (1 ≤ S.2.2.1 ∧ S.2.2.1 ≤ 1099511627776) → Calls Tryz.prog 26 #[.agg cs.toArray, .agg cs'.toArray] w fun e w' => IffB (stacksR C.2.2.1 C.2.2.2.2.2.1 S.2.2.1 S.2.2.2.1.length S.2.2.2.2.1.length C.1.length OKu S.2.2.2.2.2.1) e ∧ Below w.heap.size w w'
/-- What rest owes. -/
def RRest (OKa : List UInt8 → Prop) : Prop := ∀ (P P' : Nat → Prop) (cs cs' : List Value) (C : Cfg) (S : Sta) (w : World), cfgM.R P w cs C → staM.R P' w cs' S → cfgG C → staG S → staS S → mayB C → S.2.2.2.1.length = C.2.1.length → (0 ≤ S.2.1 ∧ S.2.1 ≤ 1099511627776) → (1 ≤ S.2.2.1 ∧ S.2.2.1 ≤ 1099511627776) → Calls Tryz.prog 27 #[.agg cs.toArray, .agg cs'.toArray] w fun e w' => IffB (seatsR C.1.length C.2.2.2.2.2.2.1 S.1 OKa S.2.2.2.2.2.2.1 ∧ auditR C.1.length C.2.2.2.2.2.2.2.1 S.2.2.2.2.2.2.2) e ∧ Below w.heap.size w w'
set_option maxHeartbeats 16000000 in
theorem rright_of {P P' : Nat → Prop} {OKs : List Seg → Prop} {OKu : List Thg → Prop} {OKa : List UInt8 → Prop} (RD : RDocs OKs) (RS : RStacks OKu) (RR : RRest OKa) {cs cs' : List Value} (C : Cfg) (S : Sta) (w : World) (h : cfgM.R P w cs C) (h' : staM.R P' w cs' S) (hg : cfgG C) (hg' : staG S) (hs : staS S) (hcs : ∀ x ∈ C.1, x.2.2.length ≤ 100000) : Calls Tryz.prog 9 #[.agg cs.toArray, .agg cs'.toArray] w fun e w' => IffB (rightR OKs OKu OKa C S) e ∧ Below w.heap.size w w' := by
  have HCM := Lib.hid (fun w' (b : Below w.heap.size w w') => cfgM_ok.keep h (Keep.below b))
  have HSM := Lib.hid (fun w' (b : Below w.heap.size w w') => staM_ok.keep h' (Keep.below b))
  have HCG := Lib.hid hg
  have HSG := Lib.hid hg'
  have HSS := Lib.hid hs
  have HCS := Lib.hid hcs
  clear hcs
  obtain ⟨u0, k0, u1, k1, rfl, p0, p1⟩ := cfgM_cells h
  obtain ⟨y3, d3, y4, d4, y5, d5, y6, d6, y7, d7, rfl, r3, r4, r5, r6, r7⟩ := staM_cells h'
  clear h h'
  obtain ⟨U, L, q2, q3, q4, q5, q6, q7, q8⟩ := C
  obtain ⟨x0, x1, x2, M, D, K, E, A⟩ := S
  simp only at HCM HSM HCS p0 p1 r3 r4 r5 r6 r7 hg hg' hs ⊢
  have HBU : Hid (∀ x ∈ U, x.1.length ≤ 140737488355328 ∧ x.2.1.length ≤ 140737488355328 ∧ x.2.2.length ≤ 140737488355328) := fun x hx => ⟨(hg.1.2 x hx).1, (hg.1.2 x hx).2.1, (hg.1.2 x hx).2.2⟩
  have HBL : Hid (∀ x ∈ L, labG x) := hg.2.1.2
  have HGM : Hid (∀ x ∈ M, labG x) := hg'.2.2.2.1.2
  obtain ⟨n0, hn0⟩ : ∃ n, n = U.length := ⟨_, rfl⟩
  obtain ⟨n1, hn1⟩ : ∃ n, n = L.length := ⟨_, rfl⟩
  obtain ⟨m3, hm3⟩ : ∃ n, n = M.length := ⟨_, rfl⟩
  obtain ⟨m4, hm4⟩ : ∃ n, n = D.length := ⟨_, rfl⟩
  obtain ⟨m5, hm5⟩ : ∃ n, n = K.length := ⟨_, rfl⟩
  obtain ⟨m6, hm6⟩ : ∃ n, n = E.length := ⟨_, rfl⟩
  obtain ⟨m7, hm7⟩ : ∃ n, n = A.length := ⟨_, rfl⟩
  have HG2 : Hid (rightR OKs OKu OKa (U, L, q2, q3, q4, q5, q6, q7, q8) (x0, x1, x2, M, D, K, E, A) → mayB (U, L, q2, q3, q4, q5, q6, q7, q8) ∧ (0 ≤ x0 ∧ x0 ≤ 1099511627776) ∧ (0 ≤ x1 ∧ x1 ≤ 1099511627776) ∧ (1 ≤ x2 ∧ x2 ≤ 1099511627776) ∧ (alikeP M L ∧ Rt.rightB (M.map lbL) n0 = true) ∧ docsR q2 q3 q4 x1 x2 m3 OKs D ∧ stacksR q2 q5 x2 m3 m4 n0 OKu K ∧ seatsR n0 q6 x0 OKa E ∧ auditR n0 q7 A) := fun h => by
    unfold rightR at h
    simp only at h
    rw [hn0, hm3, hm4]
    exact h
  have HG3 : Hid (mayB (U, L, q2, q3, q4, q5, q6, q7, q8) ∧ (0 ≤ x0 ∧ x0 ≤ 1099511627776) ∧ (0 ≤ x1 ∧ x1 ≤ 1099511627776) ∧ (1 ≤ x2 ∧ x2 ≤ 1099511627776) ∧ (alikeP M L ∧ Rt.rightB (M.map lbL) n0 = true) ∧ docsR q2 q3 q4 x1 x2 m3 OKs D ∧ stacksR q2 q5 x2 m3 m4 n0 OKu K ∧ seatsR n0 q6 x0 OKa E ∧ auditR n0 q7 A → rightR OKs OKu OKa (U, L, q2, q3, q4, q5, q6, q7, q8) (x0, x1, x2, M, D, K, E, A)) := fun h => by
    unfold rightR
    simp only
    rw [hn0, hm3, hm4] at h
    exact h
  simp only [← hn0, ← hn1, ← hm3, ← hm4, ← hm5, ← hm6, ← hm7] at HCM HSM p0 p1 r3 r4 r5 r6 r7 ⊢
  have HM := Lib.hid (fun w' (b : Below w.heap.size w w') => r3.keep labM_ok (Keep.below b))
  have HU0 : Hid (n0 = U.length) := hn0
  have HU3 : Hid (m3 = M.length) := hm3
  have HU4 : Hid (m4 = D.length) := hm4
  clear p0 p1 r3 r4 r5 r6 r7 hg hg' hs hn0 hn1 hm3 hm4 hm5 hm6 hm7
  show Calls _ _ #[.agg #[.slice u0 n0 k0, .slice u1 n1 k1, .int .i64 q2, .int .i64 q3, .int .i64 q4, .int .i64 q5, .int .i64 q6, .int .i64 q7, .int .i64 q8], .agg #[.int .i64 x0, .int .i64 x1, .int .i64 x2, .slice y3 m3 d3, .slice y4 m4 d4, .slice y5 m5 d5, .slice y6 m6 d6, .slice y7 m7 d7]] _ _
  obtain ⟨B0, P0, L0⟩ := box1 w #[.slice u0 n0 k0, .slice u1 n1 k1, .int .i64 q2, .int .i64 q3, .int .i64 q4, .int .i64 q5, .int .i64 q6, .int .i64 q7, .int .i64 q8] 25
  obtain ⟨W0, hW0⟩ : ∃ W0, W0 = w.alloc (.cells #[.slice u0 n0 k0, .slice u1 n1 k1, .int .i64 q2, .int .i64 q3, .int .i64 q4, .int .i64 q5, .int .i64 q6, .int .i64 q7, .int .i64 q8] 25) := ⟨_, rfl⟩
  rw [← hW0] at B0 P0 L0
  obtain ⟨B1, P1, L1⟩ := box1 W0 #[.int .i64 x0, .int .i64 x1, .int .i64 x2, .slice y3 m3 d3, .slice y4 m4 d4, .slice y5 m5 d5, .slice y6 m6 d6, .slice y7 m7 d7] 31
  obtain ⟨W1, hW1⟩ : ∃ W1, W1 = W0.alloc (.cells #[.int .i64 x0, .int .i64 x1, .int .i64 x2, .slice y3 m3 d3, .slice y4 m4 d4, .slice y5 m5 d5, .slice y6 m6 d6, .slice y7 m7 d7] 31) := ⟨_, rfl⟩
  rw [← hW1] at B1 P1 L1
  have q0 : W1.heap[w.heap.size]? = some (.cells #[.slice u0 n0 k0, .slice u1 n1 k1, .int .i64 q2, .int .i64 q3, .int .i64 q4, .int .i64 q5, .int .i64 q6, .int .i64 q7, .int .i64 q8] 25 (0, 0)) := (B1.block _ (by omega)).trans P0
  rw [L0] at P1 L1
  have HB : Hid (Below w.heap.size w W1) := below_on B0 B1
  obtain ⟨R, hR⟩ : ∃ R, R = w.heap.size := ⟨_, rfl⟩
  rw [← hR] at q0 P1 L1
  have HG : Hid (∀ w', Below W1.heap.size W1 w' → w'.heap[R]? = some (.cells #[.slice u0 n0 k0, .slice u1 n1 k1, .int .i64 q2, .int .i64 q3, .int .i64 q4, .int .i64 q5, .int .i64 q6, .int .i64 q7, .int .i64 q8] 25 (0, 0)) ∧ w'.heap[R + 1]? = some (.cells #[.int .i64 x0, .int .i64 x1, .int .i64 x2, .slice y3 m3 d3, .slice y4 m4 d4, .slice y5 m5 d5, .slice y6 m6 d6, .slice y7 m7 d7] 31 (0, 0))) := fun w' b => ⟨(b.block R (by omega)).trans q0, (b.block (R + 1) (by omega)).trans P1⟩
  have HX : Hid (Below W1.heap.size W1 W1) := Below.refl _ _
  have HW : Hid (W1 = (w.alloc (.cells #[.slice u0 n0 k0, .slice u1 n1 k1, .int .i64 q2, .int .i64 q3, .int .i64 q4, .int .i64 q5, .int .i64 q6, .int .i64 q7, .int .i64 q8] 25)).alloc (.cells #[.int .i64 x0, .int .i64 x1, .int .i64 x2, .slice y3 m3 d3, .slice y4 m4 d4, .slice y5 m5 d5, .slice y6 m6 d6, .slice y7 m7 d7] 31)) := by show _ = _; rw [hW1, hW0]
  have HR : Hid (w.heap.size = R) := hR.symm
  clear hR B0 P0 L0 B1 P1 L1 hW0 hW1 q0
  go_enter Tryz.func9, Tryz.ntmps9
  have HI := Lib.hid (fun (n lo hi : Int) (w' : World) => in_any n lo hi w')
  go_upto_region 1 with fail
  rw [← HW.out, HR.out]
  obtain ⟨a0, a1, a2, a3, a4, a5, a6, a7, a8⟩ := nine_cells' (HG.out _ HX.out).1
  obtain ⟨b0, b1, b2, b3, b4, b5, b6, b7⟩ := eight_cells (HG.out _ HX.out).2
  have C0 := Lib.hid (rmay_ok (U, L, q2, q3, q4, q5, q6, q7, q8) W1 (HCM.out W1 HB.out) HBU.out HBL.out HCS.out)
  go_wp2_with fail
  refine C0.out.mono ?_
  rintro e w1 ⟨hq, bb_⟩
  have HX2 : Hid (Below W1.heap.size W1 w1) := below_on HX.out bb_
  clear bb_ HX a0 a1 a2 a3 a4 a5 a6 a7 a8 b0 b1 b2 b3 b4 b5 b6 b7
  have HX := HX2
  clear HX2
  clear C0
  rcases hq.det with ⟨ht, rfl⟩ | ⟨hf, rfl⟩
  · have H0 : Hid (mayB (U, L, q2, q3, q4, q5, q6, q7, q8)) := ht
    clear ht
    obtain ⟨a0, a1, a2, a3, a4, a5, a6, a7, a8⟩ := nine_cells' (HG.out _ HX.out).1
    obtain ⟨b0, b1, b2, b3, b4, b5, b6, b7⟩ := eight_cells (HG.out _ HX.out).2
    go_wp2_with fail
    refine (HI.out x0 0 1099511627776 _).mono ?_
    rintro e wt ⟨rfl, hwt⟩
    rw [hwt]
    clear hwt wt
    by_cases j1 : (0 : Int) ≤ x0 ∧ x0 ≤ 1099511627776
    · rw [decide_eq_true j1]
      clear a0 a1 a2 a3 a4 a5 a6 a7 a8 b0 b1 b2 b3 b4 b5 b6 b7
      obtain ⟨a0, a1, a2, a3, a4, a5, a6, a7, a8⟩ := nine_cells' (HG.out _ HX.out).1
      obtain ⟨b0, b1, b2, b3, b4, b5, b6, b7⟩ := eight_cells (HG.out _ HX.out).2
      go_wp2_with fail
      refine (HI.out x1 0 1099511627776 _).mono ?_
      rintro e wt ⟨rfl, hwt⟩
      rw [hwt]
      clear hwt wt
      by_cases j2 : (0 : Int) ≤ x1 ∧ x1 ≤ 1099511627776
      · rw [decide_eq_true j2]
        clear a0 a1 a2 a3 a4 a5 a6 a7 a8 b0 b1 b2 b3 b4 b5 b6 b7
        obtain ⟨a0, a1, a2, a3, a4, a5, a6, a7, a8⟩ := nine_cells' (HG.out _ HX.out).1
        obtain ⟨b0, b1, b2, b3, b4, b5, b6, b7⟩ := eight_cells (HG.out _ HX.out).2
        go_wp2_with fail
        refine (HI.out x2 1 1099511627776 _).mono ?_
        rintro e wt ⟨rfl, hwt⟩
        rw [hwt]
        clear hwt wt
        by_cases j3 : (1 : Int) ≤ x2 ∧ x2 ≤ 1099511627776
        · rw [decide_eq_true j3]
          clear a0 a1 a2 a3 a4 a5 a6 a7 a8 b0 b1 b2 b3 b4 b5 b6 b7
          obtain ⟨a0, a1, a2, a3, a4, a5, a6, a7, a8⟩ := nine_cells' (HG.out _ HX.out).1
          obtain ⟨b0, b1, b2, b3, b4, b5, b6, b7⟩ := eight_cells (HG.out _ HX.out).2
          have C4 := Lib.hid (rlabels_ok (U, L, q2, q3, q4, q5, q6, q7, q8) M w1 (HCM.out w1 (HB.out.trans (HX.out.mono HB.out.size) : Below w.heap.size w w1)) (HM.out w1 (HB.out.trans (HX.out.mono HB.out.size) : Below w.heap.size w w1)) HGM.out)
          go_wp2_with fail
          refine C4.out.mono ?_
          rintro e w2 ⟨hq, bb_⟩
          have HX2 : Hid (Below W1.heap.size W1 w2) := below_on HX.out bb_
          clear bb_ HX a0 a1 a2 a3 a4 a5 a6 a7 a8 b0 b1 b2 b3 b4 b5 b6 b7
          have HX := HX2
          clear HX2
          clear C4
          rcases hq.det with ⟨ht, rfl⟩ | ⟨hf, rfl⟩
          · have H4 : Hid (alikeP M L ∧ Rt.rightB (M.map lbL) n0 = true) := (by rw [show n0 = U.length from HU0.out]; exact ht)
            clear ht
            obtain ⟨a0, a1, a2, a3, a4, a5, a6, a7, a8⟩ := nine_cells' (HG.out _ HX.out).1
            obtain ⟨b0, b1, b2, b3, b4, b5, b6, b7⟩ := eight_cells (HG.out _ HX.out).2
            have C5 := Lib.hid (RD _ _ _ _ _ _ w2 (HCM.out w2 (HB.out.trans (HX.out.mono HB.out.size) : Below w.heap.size w w2)) (HSM.out w2 (HB.out.trans (HX.out.mono HB.out.size) : Below w.heap.size w w2)) HCG.out HSG.out HSS.out H0.out (by simp only; exact H4.out.1.1) j2 j3)
            go_wp2_with fail
            refine C5.out.mono ?_
            rintro e w3 ⟨hq, bb_⟩
            have HX2 : Hid (Below W1.heap.size W1 w3) := below_on HX.out bb_
            clear bb_ HX a0 a1 a2 a3 a4 a5 a6 a7 a8 b0 b1 b2 b3 b4 b5 b6 b7
            have HX := HX2
            clear HX2
            clear C5
            rcases hq.det with ⟨ht, rfl⟩ | ⟨hf, rfl⟩
            · have H5 : Hid (docsR q2 q3 q4 x1 x2 m3 OKs D) := (by rw [show m3 = M.length from HU3.out]; exact ht)
              clear ht
              obtain ⟨a0, a1, a2, a3, a4, a5, a6, a7, a8⟩ := nine_cells' (HG.out _ HX.out).1
              obtain ⟨b0, b1, b2, b3, b4, b5, b6, b7⟩ := eight_cells (HG.out _ HX.out).2
              have C6 := Lib.hid (RS _ _ _ _ _ _ w3 (HCM.out w3 (HB.out.trans (HX.out.mono HB.out.size) : Below w.heap.size w w3)) (HSM.out w3 (HB.out.trans (HX.out.mono HB.out.size) : Below w.heap.size w w3)) HCG.out HSG.out HSS.out H0.out (by simp only; exact H4.out.1.1) j2 j3)
              go_wp2_with fail
              refine C6.out.mono ?_
              rintro e w4 ⟨hq, bb_⟩
              have HX2 : Hid (Below W1.heap.size W1 w4) := below_on HX.out bb_
              clear bb_ HX a0 a1 a2 a3 a4 a5 a6 a7 a8 b0 b1 b2 b3 b4 b5 b6 b7
              have HX := HX2
              clear HX2
              clear C6
              rcases hq.det with ⟨ht, rfl⟩ | ⟨hf, rfl⟩
              · have H6 : Hid (stacksR q2 q5 x2 m3 m4 n0 OKu K) := (by rw [show m3 = M.length from HU3.out, show m4 = D.length from HU4.out, show n0 = U.length from HU0.out]; exact ht)
                clear ht
                obtain ⟨a0, a1, a2, a3, a4, a5, a6, a7, a8⟩ := nine_cells' (HG.out _ HX.out).1
                obtain ⟨b0, b1, b2, b3, b4, b5, b6, b7⟩ := eight_cells (HG.out _ HX.out).2
                have C7 := Lib.hid (RR _ _ _ _ _ _ w4 (HCM.out w4 (HB.out.trans (HX.out.mono HB.out.size) : Below w.heap.size w w4)) (HSM.out w4 (HB.out.trans (HX.out.mono HB.out.size) : Below w.heap.size w w4)) HCG.out HSG.out HSS.out H0.out (by simp only; exact H4.out.1.1) j2 j3)
                go_wp2_with fail
                refine C7.out.mono ?_
                rintro e w5 ⟨hq, bb_⟩
                have HX2 : Hid (Below W1.heap.size W1 w5) := below_on HX.out bb_
                clear bb_ HX a0 a1 a2 a3 a4 a5 a6 a7 a8 b0 b1 b2 b3 b4 b5 b6 b7
                have HX := HX2
                clear HX2
                clear C7
                rcases hq.det with ⟨ht, rfl⟩ | ⟨hf, rfl⟩
                · have H7 : Hid ((seatsR n0 q6 x0 OKa E) ∧ (auditR n0 q7 A)) := (by rw [show n0 = U.length from HU0.out]; exact ht)
                  clear ht
                  have HE9 : Hid (Below w.heap.size w w5) := HB.out.trans (HX.out.mono HB.out.size)
                  have HT : Hid (rightR OKs OKu OKa (U, L, q2, q3, q4, q5, q6, q7, q8) (x0, x1, x2, M, D, K, E, A)) := HG3.out ⟨H0.out, j1, j2, j3, H4.out, H5.out, H6.out, H7.out.1, H7.out.2⟩
                  go_wp2_with fail
                  go_ret
                  exact ⟨iff_t HT.out, HE9.out⟩
                · have HN7_ : Hid (NoP ((seatsR n0 q6 x0 OKa E) ∧ (auditR n0 q7 A))) := (by rw [show n0 = U.length from HU0.out]; exact hf)
                  clear hf
                  have HE9 : Hid (Below w.heap.size w w5) := HB.out.trans (HX.out.mono HB.out.size)
                  have HF : Hid (NoP (rightR OKs OKu OKa (U, L, q2, q3, q4, q5, q6, q7, q8) (x0, x1, x2, M, D, K, E, A))) := fun h => HN7_.out (HG2.out h).2.2.2.2.2.2.2
                  go_wp2_with fail
                  go_ret
                  exact ⟨iff_f HF.out, HE9.out⟩
              · have HN6_ : Hid (NoP (stacksR q2 q5 x2 m3 m4 n0 OKu K)) := (by rw [show m3 = M.length from HU3.out, show m4 = D.length from HU4.out, show n0 = U.length from HU0.out]; exact hf)
                clear hf
                have HE9 : Hid (Below w.heap.size w w4) := HB.out.trans (HX.out.mono HB.out.size)
                have HF : Hid (NoP (rightR OKs OKu OKa (U, L, q2, q3, q4, q5, q6, q7, q8) (x0, x1, x2, M, D, K, E, A))) := fun h => HN6_.out (HG2.out h).2.2.2.2.2.2.1
                go_wp2_with fail
                go_ret
                exact ⟨iff_f HF.out, HE9.out⟩
            · have HN5_ : Hid (NoP (docsR q2 q3 q4 x1 x2 m3 OKs D)) := (by rw [show m3 = M.length from HU3.out]; exact hf)
              clear hf
              have HE9 : Hid (Below w.heap.size w w3) := HB.out.trans (HX.out.mono HB.out.size)
              have HF : Hid (NoP (rightR OKs OKu OKa (U, L, q2, q3, q4, q5, q6, q7, q8) (x0, x1, x2, M, D, K, E, A))) := fun h => HN5_.out (HG2.out h).2.2.2.2.2.1
              go_wp2_with fail
              go_ret
              exact ⟨iff_f HF.out, HE9.out⟩
          · have HN4_ : Hid (NoP (alikeP M L ∧ Rt.rightB (M.map lbL) n0 = true)) := (by rw [show n0 = U.length from HU0.out]; exact hf)
            clear hf
            have HE9 : Hid (Below w.heap.size w w2) := HB.out.trans (HX.out.mono HB.out.size)
            have HF : Hid (NoP (rightR OKs OKu OKa (U, L, q2, q3, q4, q5, q6, q7, q8) (x0, x1, x2, M, D, K, E, A))) := fun h => HN4_.out (HG2.out h).2.2.2.2.1
            go_wp2_with fail
            go_ret
            exact ⟨iff_f HF.out, HE9.out⟩
        · rw [decide_eq_false j3]
          have HN3_ : Hid (NoP ((1 : Int) ≤ x2 ∧ x2 ≤ 1099511627776)) := j3
          clear j3
          have HE9 : Hid (Below w.heap.size w w1) := HB.out.trans (HX.out.mono HB.out.size)
          have HF : Hid (NoP (rightR OKs OKu OKa (U, L, q2, q3, q4, q5, q6, q7, q8) (x0, x1, x2, M, D, K, E, A))) := fun h => HN3_.out (HG2.out h).2.2.2.1
          go_wp2_with fail
          go_ret
          exact ⟨iff_f HF.out, HE9.out⟩
      · rw [decide_eq_false j2]
        have HN2_ : Hid (NoP ((0 : Int) ≤ x1 ∧ x1 ≤ 1099511627776)) := j2
        clear j2
        have HE9 : Hid (Below w.heap.size w w1) := HB.out.trans (HX.out.mono HB.out.size)
        have HF : Hid (NoP (rightR OKs OKu OKa (U, L, q2, q3, q4, q5, q6, q7, q8) (x0, x1, x2, M, D, K, E, A))) := fun h => HN2_.out (HG2.out h).2.2.1
        go_wp2_with fail
        go_ret
        exact ⟨iff_f HF.out, HE9.out⟩
    · rw [decide_eq_false j1]
      have HN1_ : Hid (NoP ((0 : Int) ≤ x0 ∧ x0 ≤ 1099511627776)) := j1
      clear j1
      have HE9 : Hid (Below w.heap.size w w1) := HB.out.trans (HX.out.mono HB.out.size)
      have HF : Hid (NoP (rightR OKs OKu OKa (U, L, q2, q3, q4, q5, q6, q7, q8) (x0, x1, x2, M, D, K, E, A))) := fun h => HN1_.out (HG2.out h).2.1
      go_wp2_with fail
      go_ret
      exact ⟨iff_f HF.out, HE9.out⟩
  · have HN0_ : Hid (NoP (mayB (U, L, q2, q3, q4, q5, q6, q7, q8))) := hf
    clear hf
    have HE9 : Hid (Below w.heap.size w w1) := HB.out.trans (HX.out.mono HB.out.size)
    have HF : Hid (NoP (rightR OKs OKu OKa (U, L, q2, q3, q4, q5, q6, q7, q8) (x0, x1, x2, M, D, K, E, A))) := fun h => HN0_.out (HG2.out h).1
    go_wp2_with fail
    go_ret
    exact ⟨iff_f HF.out, HE9.out⟩
end Go.Proofs.YtccaiippoephbaaGreatDoor.Sta
/- State: the plain text's stacks, given what 07.Right owes. -/
set_option linter.unusedVariables false
set_option linter.unusedSimpArgs false
set_option maxRecDepth 100000
namespace Go.Proofs.YtccaiippoephbaaGreatDoor.Sta
open Go.RowKit Go.Lib Go.Proofs.YtccaiippoephbaaGreatDoor.Bx Go.Proofs.YtccaiippoephbaaGreatDoor.Frm Go.Proofs.YtccaiippoephbaaGreatDoor.Wds

/-- What 07.Right owes. -/
def RightU (OK : List Thg → Prop) : Prop := ∀ (P : Nat → Prop) (w : World) (v : Value) (X : List Thg), RowP thgM P w v X → X.length ≤ 4 → (∀ u ∈ X, u.2.2.2.2.length ≤ 140737488355328) → (∀ u ∈ X, thgG u) → Calls Tryz.prog 49 #[v] w fun e w' => IffB (OK X) e ∧ Below w.heap.size w w'
set_option maxHeartbeats 16000000 in
theorem rstacks_any {P : Nat → Prop} {OK : List Thg → Prop} (RU : RightU OK) {u0 u1 y3 y4 y5 y6 y7 : Option Addr} {n0 k0 n1 k1 m3 d3 m4 d4 m5 d5 m6 d6 m7 d7 : Nat} {q2 q3 q4 q5 q6 q7 q8 x0 x1 x2 : Int} {n : Nat} (K : List (List Thg)) (w : World) (hgK : ∀ l ∈ K, ∀ y ∈ l, thgG y) (h : RowP stkM P w (.slice y5 n d5) K) (hx2 : 1 ≤ x2 ∧ x2 ≤ 1099511627776) (h1 : n1 ≤ 9223372036854775807) (h4 : m4 ≤ 9223372036854775807) (hq5 : q5 ≤ 4) (ht : ∀ l ∈ K, ∀ y ∈ l, y.2.2.2.2.length ≤ 140737488355328) (hn0 : n0 ≤ 9223372036854775807) : Calls Tryz.prog 26 #[.agg #[.slice u0 n0 k0, .slice u1 n1 k1, .int .i64 q2, .int .i64 q3, .int .i64 q4, .int .i64 q5, .int .i64 q6, .int .i64 q7, .int .i64 q8], .agg #[.int .i64 x0, .int .i64 x1, .int .i64 x2, .slice y3 m3 d3, .slice y4 m4 d4, .slice y5 n d5, .slice y6 m6 d6, .slice y7 m7 d7]] w fun e w' => IffB (stacksR q2 q5 x2 n1 m4 n0 OK K) e ∧ Below w.heap.size w w' := by
  have HDK : Hid (∀ w', Below w.heap.size w w' → RowP stkM P w' (.slice y5 n d5) K) := fun w' b => h.keep stkM_ok (Keep.below b)
  have HNK : Hid (n = K.length) := h.len.1
  have hmn : n ≤ 9223372036854775807 := by have q := h.len; simp only [maxLen] at q; omega
  have HTT0 := Lib.hid ht
  have HGK := Lib.hid hgK
  clear hgK
  clear h ht
  obtain ⟨B0, P0, L0⟩ := box1 w #[.slice u0 n0 k0, .slice u1 n1 k1, .int .i64 q2, .int .i64 q3, .int .i64 q4, .int .i64 q5, .int .i64 q6, .int .i64 q7, .int .i64 q8] 25
  obtain ⟨W0, hW0⟩ : ∃ W0, W0 = w.alloc (.cells #[.slice u0 n0 k0, .slice u1 n1 k1, .int .i64 q2, .int .i64 q3, .int .i64 q4, .int .i64 q5, .int .i64 q6, .int .i64 q7, .int .i64 q8] 25) := ⟨_, rfl⟩
  rw [← hW0] at B0 P0 L0
  obtain ⟨B1, P1, L1⟩ := box1 W0 #[.int .i64 x0, .int .i64 x1, .int .i64 x2, .slice y3 m3 d3, .slice y4 m4 d4, .slice y5 n d5, .slice y6 m6 d6, .slice y7 m7 d7] 31
  obtain ⟨W1, hW1⟩ : ∃ W1, W1 = W0.alloc (.cells #[.int .i64 x0, .int .i64 x1, .int .i64 x2, .slice y3 m3 d3, .slice y4 m4 d4, .slice y5 n d5, .slice y6 m6 d6, .slice y7 m7 d7] 31) := ⟨_, rfl⟩
  rw [← hW1] at B1 P1 L1
  have q0 : W1.heap[w.heap.size]? = some (.cells #[.slice u0 n0 k0, .slice u1 n1 k1, .int .i64 q2, .int .i64 q3, .int .i64 q4, .int .i64 q5, .int .i64 q6, .int .i64 q7, .int .i64 q8] 25 (0, 0)) := (B1.block _ (by omega)).trans P0
  rw [L0] at P1 L1
  have HB : Hid (Below w.heap.size w W1) := below_on B0 B1
  obtain ⟨R, hR⟩ : ∃ R, R = w.heap.size := ⟨_, rfl⟩
  rw [← hR] at q0 P1 L1
  have HG : Hid (∀ w', Below W1.heap.size W1 w' → w'.heap[R]? = some (.cells #[.slice u0 n0 k0, .slice u1 n1 k1, .int .i64 q2, .int .i64 q3, .int .i64 q4, .int .i64 q5, .int .i64 q6, .int .i64 q7, .int .i64 q8] 25 (0, 0)) ∧ w'.heap[R + 1]? = some (.cells #[.int .i64 x0, .int .i64 x1, .int .i64 x2, .slice y3 m3 d3, .slice y4 m4 d4, .slice y5 n d5, .slice y6 m6 d6, .slice y7 m7 d7] 31 (0, 0))) := fun w' b => ⟨(b.block R (by omega)).trans q0, (b.block (R + 1) (by omega)).trans P1⟩
  have HX : Hid (Below W1.heap.size W1 W1) := Below.refl _ _
  have HW : Hid (W1 = (w.alloc (.cells #[.slice u0 n0 k0, .slice u1 n1 k1, .int .i64 q2, .int .i64 q3, .int .i64 q4, .int .i64 q5, .int .i64 q6, .int .i64 q7, .int .i64 q8] 25)).alloc (.cells #[.int .i64 x0, .int .i64 x1, .int .i64 x2, .slice y3 m3 d3, .slice y4 m4 d4, .slice y5 n d5, .slice y6 m6 d6, .slice y7 m7 d7] 31)) := by show _ = _; rw [hW1, hW0]
  have HR : Hid (w.heap.size = R) := hR.symm
  clear hR B0 P0 L0 B1 P1 L1 hW0 hW1 q0
  go_enter Tryz.func26, Tryz.ntmps26
  go_upto_region 1 with fail
  rw [← HW.out, HR.out]
  obtain ⟨a0, a1, a2, a3, a4, a5, a6, a7, a8⟩ := nine_cells' (HG.out _ HX.out).1
  obtain ⟨b0, b1, b2, b3, b4, b5, b6, b7⟩ := eight_cells (HG.out _ HX.out).2
  by_cases hnn : n = n0
  · subst hnn
    go_wp2_with fail
    clear a0 a1 a2 a3 a4 a5 a6 a7 a8 b0 b1 b2 b3 b4 b5 b6 b7
    go_loopg [5] n (fun g i_ wr => ∃ (i : Nat), i ≤ n ∧ n - i ≤ g ∧ i_ = .int .i64 (i : Nat) ∧ Hid (∀ l ∈ K.take i, stkR q2 q5 x2 n1 m4 OK l) ∧ Hid (Below W1.heap.size W1 wr))
    case atStart => exact ⟨0, by omega, by omega, rfl, take_zero, HX⟩
    case round =>
      clear HX
      obtain ⟨i, hi, hg, rfl, HV, HX⟩ := hrel
      by_cases hin : i < n
      · have iw : ((i : Nat) : Int) < (n : Int) := by omega
        have n0i : (0 : Int) ≤ ((i : Nat) : Int) := by omega
        have hixi : i < K.length := by rw [← HNK.out]; exact hin
        obtain ⟨b1, f1, s1, rfl, hlt1, _, hR1, hc1⟩ := (HDK.out wr (HB.out.trans (HX.out.mono HB.out.size))).get hixi
        obtain ⟨xk, hx⟩ : ∃ z, z = K[i] := ⟨_, rfl⟩
        have hmem : xk ∈ K := hx ▸ List.getElem_mem hixi
        rw [← hx] at hR1
        have HXI : Hid (K[i] = xk) := hx.symm
        obtain ⟨r1, d1, rfl, qr⟩ := stkM_cells hR1
        obtain ⟨na, hna⟩ : ∃ q, q = xk.length := ⟨_, rfl⟩
        rw [← hna] at hc1 qr
        have hmna : na ≤ 9223372036854775807 := by have q := qr.len; simp only [maxLen] at q; omega
        have HNA := Lib.hid hna
        have m0 : wr.cell? ⟨b1, f1 + i, none⟩ = some (.slice r1 na d1) := by have q := hc1 0 _ rfl; rw [show f1 + i * stkM.k + 0 = f1 + i from by show f1 + i * 1 + 0 = _; omega] at q; exact q
        have HTX : Hid (∀ y ∈ xk, y.2.2.2.2.length ≤ 140737488355328) := HTT0.out xk hmem
        obtain ⟨a0, a1, a2, a3, a4, a5, a6, a7, a8⟩ := nine_cells' (HG.out _ HX.out).1
        obtain ⟨b0, b1, b2, b3, b4, b5, b6, b7⟩ := eight_cells (HG.out _ HX.out).2
        obtain ⟨WI, hWI⟩ : ∃ WI : World, WI = wr := ⟨_, rfl⟩
        subst hWI
        have HQ1 : Hid (∀ w', Below WI.heap.size WI w' → RowP thgM P w' (.slice r1 na d1) xk) := fun w' b => qr.keep thgM_ok (Keep.below b)
        have HXO := HX
        have HXO5 : Hid (∀ w', Below WI.heap.size WI w' → Hid (Below W1.heap.size W1 w')) := fun w' b => below_on HXO.out b
        have HVO := HV
        clear hR1 hc1 hlt1 hx hna hmem qr HV HX
        by_cases kq : q5 < (na : Int)
        · have kd : decide (q5 < (na : Int)) = true := decide_eq_true kq
          have HXE := HXO
          have HE : Hid (Below w.heap.size w WI) := HB.out.trans (HXE.out.mono HB.out.size)
          have HF : Hid (NoP (stacksR q2 q5 x2 n1 m4 n OK K)) := fun h => (by have hx := h.2 _ (List.getElem_mem hixi); rw [HXI.out] at hx; have := hx.1; rw [← HNA.out] at this; omega)
          go_wp2_with fail
          go_ret
          exact ⟨iff_f HF.out, HE.out⟩
        · have kd : decide (q5 < (na : Int)) = false := decide_eq_false kq
          have HLE : Hid ((na : Int) ≤ q5) := by show _ ≤ _; omega
          have CU := Lib.hid (RU _ WI (.slice r1 na d1) xk (HQ1.out WI (Below.refl _ _)) (by rw [← HNA.out]; omega) HTX.out (fun u hu => HGK.out _ (List.getElem_mem hixi) u (by rw [HXI.out]; exact hu)))
          go_wp2_with fail
          refine CU.out.mono ?_
          rintro e w7 ⟨hq, bb7⟩
          have HX7 : Hid (Below WI.heap.size WI w7) := bb7
          clear bb7 CU m0 a0 a1 a2 a3 a4 a5 a6 a7 a8 b0 b1 b2 b3 b4 b5 b6 b7 kd
          rcases hq.det with ⟨ht, rfl⟩ | ⟨hf, rfl⟩
          · have HOK : Hid (OK xk) := ht
            clear ht
            go_wp2_with fail
            go_loopg [7] na (fun g i_ wr => ∃ (j : Nat), j ≤ na ∧ na - j ≤ g ∧ i_ = .int .i64 (j : Nat) ∧ Hid (∀ u ∈ xk.take j, thgR q2 x2 n1 m4 u) ∧ Hid (Below WI.heap.size WI wr))
            case atStart => exact ⟨0, by omega, by omega, rfl, take_zero, HX7⟩
            case round =>
              clear HX7
              obtain ⟨j, hj, hgj, rfl, HVI, HX⟩ := hrel
              by_cases hjn : j < na
              · have jw : ((j : Nat) : Int) < (na : Int) := by omega
                have j0 : (0 : Int) ≤ ((j : Nat) : Int) := by omega
                have hixj : j < xk.length := by rw [← HNA.out]; exact hjn
                obtain ⟨b1_, f1_, s2_, rfl, hlt2, _, hR2, hc2⟩ := (HQ1.out wr HX.out).get hixj
                obtain ⟨y, hy⟩ : ∃ z, z = xk[j] := ⟨_, rfl⟩
                have hmy : y ∈ xk := hy ▸ List.getElem_mem hixj
                rw [← hy] at hR2
                have HYI : Hid (xk[j] = y) := hy.symm
                have HYM : Hid (y ∈ xk) := hmy
                obtain rfl := thgM_cells hR2
                have hty := HTX.out y hmy
                obtain ⟨z0, z1, z2, z3, tl⟩ := y
                simp only at hc2 hty
                obtain ⟨t, htt⟩ : ∃ q, q = mkB tl := ⟨_, rfl⟩
                obtain ⟨mt, hmt⟩ : ∃ q, q = tl.length := ⟨_, rfl⟩
                have zt : t.size = mt := by rw [htt, mkB_size, hmt]
                have HMT := Lib.hid hmt
                rw [← htt] at hc2
                rw [← hmt] at hty
                have e1 : wr.cell? ⟨b1_, f1_ + j * 5 + 1, none⟩ = some (.int .i64 z1) := hc2 1 _ rfl
                have e2 : wr.cell? ⟨b1_, f1_ + j * 5 + 2, none⟩ = some (.int .i64 z2) := hc2 2 _ rfl
                have e3 : wr.cell? ⟨b1_, f1_ + j * 5 + 3, none⟩ = some (.int .i64 z3) := hc2 3 _ rfl
                have e4 : wr.cell? ⟨b1_, f1_ + j * 5 + 4, none⟩ = some (.string t) := hc2 4 _ rfl
                clear hc2 hR2 hy hmy hlt2 htt hmt
                have HXS := HX
                have HX := HXO5.out wr HXS.out
                obtain ⟨a0, a1, a2, a3, a4, a5, a6, a7, a8⟩ := nine_cells' (HG.out _ HX.out).1
                obtain ⟨b0, b1, b2, b3, b4, b5, b6, b7⟩ := eight_cells (HG.out _ HX.out).2
                clear HX
                have HX := HXS
                clear HXS
                have s4 : IntKind.i64.wrap ((m4 : Int) - 1) = (m4 : Int) - 1 := IntWalk.i64_in _ (by omega)
                have s1 : IntKind.i64.wrap ((n1 : Int) - 1) = (n1 : Int) - 1 := IntWalk.i64_in _ (by omega)
                have sx : IntKind.i64.wrap (x2 - 1) = x2 - 1 := IntWalk.i64_in _ (by omega)
                by_cases jA : (0 : Int) ≤ z1 ∧ (z1 : Int) ≤ (m4 : Int) - 1
                · have CA : Hid (∀ w' : World, Calls Tryz.prog 23 #[.int .i64 z1, .int .i64 0, .int .i64 ((m4 : Int) - 1)] w' fun e w9 => e = .returned (.bool true) ∧ w9 = w') := fun w' => by have h9 := in_any (z1) (0) ((m4 : Int) - 1) w'; rw [decide_eq_true jA] at h9; exact h9
                  by_cases jC : (1 : Int) ≤ z2 ∧ (z2 : Int) ≤ x2 - 1
                  · have CC : Hid (∀ w' : World, Calls Tryz.prog 23 #[.int .i64 z2, .int .i64 1, .int .i64 (x2 - 1)] w' fun e w9 => e = .returned (.bool true) ∧ w9 = w') := fun w' => by have h9 := in_any (z2) (1) (x2 - 1) w'; rw [decide_eq_true jC] at h9; exact h9
                    by_cases jB : (0 : Int) ≤ z3 ∧ (z3 : Int) ≤ (n1 : Int) - 1
                    · have CB : Hid (∀ w' : World, Calls Tryz.prog 23 #[.int .i64 z3, .int .i64 0, .int .i64 ((n1 : Int) - 1)] w' fun e w9 => e = .returned (.bool true) ∧ w9 = w') := fun w' => by have h9 := in_any (z3) (0) ((n1 : Int) - 1) w'; rw [decide_eq_true jB] at h9; exact h9
                      by_cases k : (mt : Int) ≤ q2
                      · have kd : decide (q2 < (mt : Int)) = false := decide_eq_false (by omega)
                        go_upto_region 12 with fail
                        go_quiet (first | (go_at_call 23; with_reducible exact Calls.quiet_of_same (CA.out _)) | (go_at_call 23; with_reducible exact Calls.quiet_of_same (CB.out _)) | (go_at_call 23; with_reducible exact Calls.quiet_of_same (CC.out _)))
                        have HX5 : Hid (Below WI.heap.size WI (wr.drewN nq)) := d_drews HX.out _
                        have HV2 : Hid (∀ u ∈ xk.take (j + 1), thgR q2 x2 n1 m4 u) := all_step hixj HVI.out (by rw [HYI.out]; exact ⟨jA, jB, jC, by show (tl.length : Int) ≤ q2; rw [← HMT.out]; exact k⟩)
                        clear HVI HYI
                        clear a0 a1 a2 a3 a4 a5 a6 a7 a8 b0 b1 b2 b3 b4 b5 b6 b7 e1 e2 e3 e4
                        go_wp2_with fail
                        go_roundg (na - (j + 1))
                        case measure => omega
                        case rel => exact ⟨j + 1, by omega, Nat.le_refl _, by go_num, HV2, HX5⟩
                      · have kd : decide (q2 < (mt : Int)) = true := decide_eq_true (by omega)
                        have HFT : Hid (NoP (thgR q2 x2 n1 m4 (z0, z1, z2, z3, tl))) := fun h => k (by have h2 : (tl.length : Int) ≤ q2 := h.2.2.2; rw [← HMT.out] at h2; exact h2)
                        go_upto_region 12 with fail
                        go_quiet (first | (go_at_call 23; with_reducible exact Calls.quiet_of_same (CA.out _)) | (go_at_call 23; with_reducible exact Calls.quiet_of_same (CB.out _)) | (go_at_call 23; with_reducible exact Calls.quiet_of_same (CC.out _)))
                        have HX5 : Hid (Below WI.heap.size WI (wr.drewN nq)) := d_drews HX.out _
                        clear a0 a1 a2 a3 a4 a5 a6 a7 a8 b0 b1 b2 b3 b4 b5 b6 b7 e1 e2 e3 e4
                        have HXE := HXO5.out _ HX5.out
                        have HE : Hid (Below w.heap.size w (wr.drewN nq)) := HB.out.trans (HXE.out.mono HB.out.size)
                        have HF : Hid (NoP (stacksR q2 q5 x2 n1 m4 n OK K)) := fun h => (by have hx := h.2 _ (List.getElem_mem hixi); rw [HXI.out] at hx; exact HFT.out (hx.2.1 _ HYM.out))
                        go_wp2_with fail
                        go_ret
                        exact ⟨iff_f HF.out, HE.out⟩
                    · have CB : Hid (∀ w' : World, Calls Tryz.prog 23 #[.int .i64 z3, .int .i64 0, .int .i64 ((n1 : Int) - 1)] w' fun e w9 => e = .returned (.bool false) ∧ w9 = w') := fun w' => by have h9 := in_any (z3) (0) ((n1 : Int) - 1) w'; rw [decide_eq_false jB] at h9; exact h9
                      have HFT : Hid (NoP (thgR q2 x2 n1 m4 (z0, z1, z2, z3, tl))) := fun h => jB h.2.1
                      go_upto_region 12 with fail
                      go_quiet (first | (go_at_call 23; with_reducible exact Calls.quiet_of_same (CA.out _)) | (go_at_call 23; with_reducible exact Calls.quiet_of_same (CB.out _)) | (go_at_call 23; with_reducible exact Calls.quiet_of_same (CC.out _)))
                      have HX5 : Hid (Below WI.heap.size WI (wr.drewN nq)) := d_drews HX.out _
                      clear a0 a1 a2 a3 a4 a5 a6 a7 a8 b0 b1 b2 b3 b4 b5 b6 b7 e1 e2 e3 e4
                      have HXE := HXO5.out _ HX5.out
                      have HE : Hid (Below w.heap.size w (wr.drewN nq)) := HB.out.trans (HXE.out.mono HB.out.size)
                      have HF : Hid (NoP (stacksR q2 q5 x2 n1 m4 n OK K)) := fun h => (by have hx := h.2 _ (List.getElem_mem hixi); rw [HXI.out] at hx; exact HFT.out (hx.2.1 _ HYM.out))
                      go_wp2_with fail
                      go_ret
                      exact ⟨iff_f HF.out, HE.out⟩
                  · have CC : Hid (∀ w' : World, Calls Tryz.prog 23 #[.int .i64 z2, .int .i64 1, .int .i64 (x2 - 1)] w' fun e w9 => e = .returned (.bool false) ∧ w9 = w') := fun w' => by have h9 := in_any (z2) (1) (x2 - 1) w'; rw [decide_eq_false jC] at h9; exact h9
                    have HFT : Hid (NoP (thgR q2 x2 n1 m4 (z0, z1, z2, z3, tl))) := fun h => jC h.2.2.1
                    go_upto_region 12 with fail
                    go_quiet (first | (go_at_call 23; with_reducible exact Calls.quiet_of_same (CA.out _)) | (go_at_call 23; with_reducible exact Calls.quiet_of_same (CB.out _)) | (go_at_call 23; with_reducible exact Calls.quiet_of_same (CC.out _)))
                    have HX5 : Hid (Below WI.heap.size WI (wr.drewN nq)) := d_drews HX.out _
                    clear a0 a1 a2 a3 a4 a5 a6 a7 a8 b0 b1 b2 b3 b4 b5 b6 b7 e1 e2 e3 e4
                    have HXE := HXO5.out _ HX5.out
                    have HE : Hid (Below w.heap.size w (wr.drewN nq)) := HB.out.trans (HXE.out.mono HB.out.size)
                    have HF : Hid (NoP (stacksR q2 q5 x2 n1 m4 n OK K)) := fun h => (by have hx := h.2 _ (List.getElem_mem hixi); rw [HXI.out] at hx; exact HFT.out (hx.2.1 _ HYM.out))
                    go_wp2_with fail
                    go_ret
                    exact ⟨iff_f HF.out, HE.out⟩
                · have CA : Hid (∀ w' : World, Calls Tryz.prog 23 #[.int .i64 z1, .int .i64 0, .int .i64 ((m4 : Int) - 1)] w' fun e w9 => e = .returned (.bool false) ∧ w9 = w') := fun w' => by have h9 := in_any (z1) (0) ((m4 : Int) - 1) w'; rw [decide_eq_false jA] at h9; exact h9
                  have HFT : Hid (NoP (thgR q2 x2 n1 m4 (z0, z1, z2, z3, tl))) := fun h => jA h.1
                  go_upto_region 12 with fail
                  go_quiet (first | (go_at_call 23; with_reducible exact Calls.quiet_of_same (CA.out _)) | (go_at_call 23; with_reducible exact Calls.quiet_of_same (CB.out _)) | (go_at_call 23; with_reducible exact Calls.quiet_of_same (CC.out _)))
                  have HX5 : Hid (Below WI.heap.size WI (wr.drewN nq)) := d_drews HX.out _
                  clear a0 a1 a2 a3 a4 a5 a6 a7 a8 b0 b1 b2 b3 b4 b5 b6 b7 e1 e2 e3 e4
                  have HXE := HXO5.out _ HX5.out
                  have HE : Hid (Below w.heap.size w (wr.drewN nq)) := HB.out.trans (HXE.out.mono HB.out.size)
                  have HF : Hid (NoP (stacksR q2 q5 x2 n1 m4 n OK K)) := fun h => (by have hx := h.2 _ (List.getElem_mem hixi); rw [HXI.out] at hx; exact HFT.out (hx.2.1 _ HYM.out))
                  go_wp2_with fail
                  go_ret
                  exact ⟨iff_f HF.out, HE.out⟩
              · obtain rfl : na = j := by omega
                have jw : ¬ ((na : Nat) : Int) < ((na : Nat) : Int) := by omega
                have HVK : Hid (∀ u ∈ xk, thgR q2 x2 n1 m4 u) := take_whole HNA.out HVI.out
                have HX9 := HXO5.out _ HX.out
                have HV2 : Hid (∀ l ∈ K.take (i + 1), stkR q2 q5 x2 n1 m4 OK l) := all_step hixi HVO.out (by rw [HXI.out]; exact ⟨by rw [← HNA.out]; exact HLE.out, HVK.out, HOK.out⟩)
                clear HVI HVO HXI HX
                go_wp2_with fail
                go_roundg (n - (i + 1))
                case measure => omega
                case rel => exact ⟨i + 1, by omega, Nat.le_refl _, by go_num, HV2, HX9⟩
          · have HFO : Hid (NoP (OK xk)) := hf
            clear hf
            have HXE := HXO5.out _ HX7.out
            have HE : Hid (Below w.heap.size w w7) := HB.out.trans (HXE.out.mono HB.out.size)
            have HF : Hid (NoP (stacksR q2 q5 x2 n1 m4 n OK K)) := fun h => (by have hx := h.2 _ (List.getElem_mem hixi); rw [HXI.out] at hx; exact HFO.out hx.2.2)
            go_wp2_with fail
            go_ret
            exact ⟨iff_f HF.out, HE.out⟩
      · obtain rfl : n = i := by omega
        have iw : ¬ ((n : Nat) : Int) < ((n : Nat) : Int) := by omega
        obtain ⟨a0, a1, a2, a3, a4, a5, a6, a7, a8⟩ := nine_cells' (HG.out _ HX.out).1
        obtain ⟨b0, b1, b2, b3, b4, b5, b6, b7⟩ := eight_cells (HG.out _ HX.out).2
        have HE : Hid (Below w.heap.size w wr) := HB.out.trans (HX.out.mono HB.out.size)
        have HT : Hid (stacksR q2 q5 x2 n1 m4 n OK K) := ⟨HNK.out.symm, take_whole HNK.out HV.out⟩
        clear HV
        go_wp2_with fail
        go_ret
        exact ⟨iff_t HT.out, HE.out⟩
  · have k1 : ((n : Int) != (n0 : Int)) = true := by simp; omega
    have k2 : ¬ ((n : Nat) : Int) = (n0 : Nat) := by omega
    have HXE := HX
    have HE : Hid (Below w.heap.size w W1) := HB.out.trans (HXE.out.mono HB.out.size)
    have HF : Hid (NoP (stacksR q2 q5 x2 n1 m4 n0 OK K)) := fun h => hnn (by rw [HNK.out]; exact h.1)
    go_wp2_with fail
    go_ret
    exact ⟨iff_f HF.out, HE.out⟩
theorem rstacks_ok {OKu : List Thg → Prop} (RU : RightU OKu) : RStacks OKu := by
  intro P P' cs cs' C S w h h' hg hg' hs hm hl hx1 hx2
  obtain ⟨u0, k0, u1, k1, rfl, p0, p1⟩ := cfgM_cells h
  obtain ⟨y3, d3, y4, d4, y5, d5, y6, d6, y7, d7, rfl, r3, r4, r5, r6, r7⟩ := staM_cells h'
  have v0 : C.1.length ≤ 9223372036854775807 := by have q := p0.len; simp only [maxLen] at q; omega
  have v1 : C.2.1.length ≤ 9223372036854775807 := by have q := p1.len; simp only [maxLen] at q; omega
  have v4 : S.2.2.2.2.1.length ≤ 9223372036854775807 := by have q := r4.len; simp only [maxLen] at q; omega
  have hr : rngB C.2.2.1 C.2.2.2.1 C.2.2.2.2.1 C.2.2.2.2.2.1 C.2.2.2.2.2.2.1 C.2.2.2.2.2.2.2.1 C.2.2.2.2.2.2.2.2 := hm.2.2
  refine (rstacks_any RU (u0 := u0) (k0 := k0) (u1 := u1) (k1 := k1) (y3 := y3) (d3 := d3) (y4 := y4) (d4 := d4) (y5 := y5) (d5 := d5) (y6 := y6) (d6 := d6) (y7 := y7) (d7 := d7) (m5 := 0) S.2.2.2.2.2.1 w (fun l hl y hy => (hg'.2.2.2.2.2.1.2 l hl).2 y hy) r5 hx2 v1 v4 (by have := hr.2.2.2.1; omega) (fun l hl y hy => ((hg'.2.2.2.2.2.1.2 l hl).2 y hy).2.2.2.2) v0).mono ?_
  rintro e w' ⟨hq, hb⟩
  exact ⟨by rw [hl]; exact hq, hb⟩
end Go.Proofs.YtccaiippoephbaaGreatDoor.Sta
/- State: the plain text's place of a token, and no token twice. -/
set_option linter.unusedVariables false
set_option linter.unusedSimpArgs false
set_option maxRecDepth 100000
namespace Go.Proofs.YtccaiippoephbaaGreatDoor.Sta
open Go.RowKit Go.Lib Go.Proofs.YtccaiippoephbaaGreatDoor.Bx Go.Proofs.YtccaiippoephbaaGreatDoor.Frm Go.Proofs.YtccaiippoephbaaGreatDoor.Wds

/-- A number that is the place of a token just where no seat ahead has it. -/
def PlcK (E : List Sea) (tk : List UInt8) (k : Int) : Prop := ∀ i (h : i < E.length), E[i].1 = tk → (k = (i : Nat) ↔ ¬ HasTok (E.take i) tk)
theorem take_mem {α : Type} {E : List α} {i j : Nat} (h : j < E.length) (hj : j < i) : E[j] ∈ E.take i := by
  rw [List.mem_take_iff_getElem]
  exact ⟨j, by omega, rfl⟩
theorem plc_at {E : List Sea} {tk : List UInt8} {j : Nat} (hj : j < E.length) (he : E[j].1 = tk) (hn : ¬ HasTok (E.take j) tk) : PlcK E tk (j : Nat) := fun i hi hei => by
  constructor
  · intro e
    obtain rfl : j = i := by omega
    exact hn
  · intro h
    by_cases h1 : j < i
    · exact absurd ⟨_, take_mem hj h1, he⟩ h
    · by_cases h2 : i < j
      · exact absurd ⟨_, take_mem hi h2, hei⟩ hn
      · omega
theorem plc_no {E : List Sea} {tk : List UInt8} (hn : ∀ j (h : j < E.length), E[j].1 ≠ tk) : PlcK E tk (-1) := fun i hi hei => absurd hei (hn i hi)
set_option maxHeartbeats 4000000 in
theorem rplace_ok {P : Nat → Prop} {a : Option Addr} {n c : Nat} (E : List Sea) (tk : List UInt8) (w : World) (h : RowP seaM P w (.slice a n c) E) : Calls Tryz.prog 71 #[.slice a n c, .string (mkB tk)] w fun e w' => ∃ k : Int, e = .returned (.int .i64 k) ∧ PlcK E tk k ∧ w' = w := by
  have HD := Lib.hid h
  have HN : Hid (n = E.length) := h.len.1
  have hmn : n ≤ 9223372036854775807 := by have q := h.len; simp only [maxLen] at q; omega
  clear h
  obtain ⟨tok, htok⟩ : ∃ q, q = mkB tk := ⟨_, rfl⟩
  have HTK := Lib.hid htok
  rw [← htok]
  clear htok
  go_enter Tryz.func71, Tryz.ntmps71
  go_wp2_with fail
  go_loopg [5] n (fun g i_ wr => ∃ (i : Nat), i ≤ n ∧ n - i ≤ g ∧ i_ = .int .i64 (i : Nat) ∧ Hid (∀ j (h : j < E.length), j < i → E[j].1 ≠ tk) ∧ wr = w)
  case atStart => exact ⟨0, by omega, by omega, rfl, fun j h hj => absurd hj (Nat.not_lt_zero _), rfl⟩
  case round =>
    obtain ⟨i, hi, hg, rfl, HV, rfl⟩ := hrel
    by_cases hin : i < n
    · have iw : ((i : Nat) : Int) < (n : Int) := by omega
      have n0i : (0 : Int) ≤ ((i : Nat) : Int) := by omega
      have hixi : i < E.length := by rw [← HN.out]; exact hin
      obtain ⟨b1, f1, s1, rfl, hlt1, _, hR1, hc1⟩ := HD.out.get hixi
      obtain rfl := seaM_cells hR1
      obtain ⟨t, ht⟩ : ∃ q, q = mkB E[i].1 := ⟨_, rfl⟩
      have SE := tok_eq E[i].1 tk
      rw [← HTK.out, ← ht] at SE
      have e0 : wr.cell? ⟨b1, f1 + i * 5, none⟩ = some (.string t) := by rw [ht]; exact hc1 0 _ rfl
      clear hc1 hR1 hlt1 ht
      by_cases hz : E[i].1 = tk
      · rw [decide_eq_true hz] at SE
        have HF : Hid (PlcK E tk (i : Nat)) := plc_at hixi hz (fun ⟨y, hy, e⟩ => by
          obtain ⟨j, hj, rfl⟩ := List.mem_take_iff_getElem.1 hy
          exact HV.out j (by omega) (by omega) e)
        clear hz
        go_wp2_with fail
        go_ret
        exact ⟨_, rfl, HF.out, rfl⟩
      · rw [decide_eq_false hz] at SE
        have HV2 : Hid (∀ j (h : j < E.length), j < i + 1 → E[j].1 ≠ tk) := fun j h hj => by
          by_cases e : j = i
          · subst e; exact hz
          · exact HV.out j h (by omega)
        clear hz
        go_wp2_with fail
        go_roundg (n - (i + 1))
        case measure => omega
        case rel => exact ⟨i + 1, by omega, Nat.le_refl _, by go_num, HV2, rfl⟩
    · obtain rfl : n = i := by omega
      have iw : ¬ ((n : Nat) : Int) < ((n : Nat) : Int) := by omega
      have HF : Hid (PlcK E tk (-1)) := plc_no (fun j h => HV.out j h (by have := HN.out; omega))
      go_wp2_with fail
      go_ret
      exact ⟨_, rfl, HF.out, rfl⟩
def onceR (E : List Sea) : Prop := ∀ i (h : i < E.length), NoP (HasTok (E.take i) E[i].1)
set_option maxHeartbeats 4000000 in
theorem ronce_ok {P : Nat → Prop} {a : Option Addr} {n c : Nat} (E : List Sea) (w : World) (h : RowP seaM P w (.slice a n c) E) : Calls Tryz.prog 50 #[.slice a n c] w fun e w' => IffB (onceR E) e ∧ w' = w := by
  have CP := Lib.hid (fun tk => rplace_ok E tk w h)
  have HD := Lib.hid h
  have HN : Hid (n = E.length) := h.len.1
  have hmn : n ≤ 9223372036854775807 := by have q := h.len; simp only [maxLen] at q; omega
  clear h
  go_enter Tryz.func50, Tryz.ntmps50
  go_wp2_with fail
  go_loopg [3] n (fun g i_ wr => ∃ (i : Nat), i ≤ n ∧ n - i ≤ g ∧ i_ = .int .i64 (i : Nat) ∧ Hid (∀ j (h : j < E.length), j < i → NoP (HasTok (E.take j) E[j].1)) ∧ wr = w)
  case atStart => exact ⟨0, by omega, by omega, rfl, fun j h hj => absurd hj (Nat.not_lt_zero _), rfl⟩
  case round =>
    obtain ⟨i, hi, hg, rfl, HV, rfl⟩ := hrel
    by_cases hin : i < n
    · have iw : ((i : Nat) : Int) < (n : Int) := by omega
      have n0i : (0 : Int) ≤ ((i : Nat) : Int) := by omega
      have hixi : i < E.length := by rw [← HN.out]; exact hin
      obtain ⟨b1, f1, s1, rfl, hlt1, _, hR1, hc1⟩ := HD.out.get hixi
      obtain rfl := seaM_cells hR1
      have CP1 := Lib.hid (CP.out E[i].1)
      obtain ⟨t, ht⟩ : ∃ q, q = mkB E[i].1 := ⟨_, rfl⟩
      have e0 : wr.cell? ⟨b1, f1 + i * 5, none⟩ = some (.string t) := by rw [ht]; exact hc1 0 _ rfl
      rw [← ht] at CP1
      clear hc1 hR1 hlt1 ht
      go_wp2_with fail
      refine CP1.out.mono ?_
      rintro e w1 ⟨k, rfl, hk, rfl⟩
      clear CP1
      by_cases hz : k = (i : Nat)
      · have HV2 : Hid (∀ j (h : j < E.length), j < i + 1 → NoP (HasTok (E.take j) E[j].1)) := fun j h hj => by
          by_cases e : j = i
          · subst e; exact (hk _ h rfl).1 hz
          · exact HV.out j h (by omega)
        clear hk
        go_wp2_with fail
        go_roundg (n - (i + 1))
        case measure => omega
        case rel => exact ⟨i + 1, by omega, Nat.le_refl _, by go_num, HV2, rfl⟩
      · have HF : Hid (NoP (onceR E)) := fun h => hz ((hk _ hixi rfl).2 (h i hixi))
        clear hk
        go_wp2_with fail
        go_ret
        exact ⟨iff_f HF.out, rfl⟩
    · obtain rfl : n = i := by omega
      have iw : ¬ ((n : Nat) : Int) < ((n : Nat) : Int) := by omega
      have HT : Hid (onceR E) := fun j h => HV.out j h (by have := HN.out; omega)
      clear HV
      go_wp2_with fail
      go_ret
      exact ⟨iff_t HT.out, rfl⟩
end Go.Proofs.YtccaiippoephbaaGreatDoor.Sta
/- State: the plain text's rest, given what 13.Told owes. -/
set_option linter.unusedVariables false
set_option linter.unusedSimpArgs false
set_option maxRecDepth 100000
namespace Go.Proofs.YtccaiippoephbaaGreatDoor.Sta
open Go.RowKit Go.Lib Go.Proofs.YtccaiippoephbaaGreatDoor.Bx Go.Proofs.YtccaiippoephbaaGreatDoor.Frm Go.Proofs.YtccaiippoephbaaGreatDoor.Wds

/-- What 13.Told owes. -/
def RToldK (OK : List UInt8 → Prop) : Prop := ∀ (w : World) (s : List UInt8), s.length ≤ 140737488355328 → Calls Tryz.prog 51 #[.string (mkB s)] w fun e w' => ∃ (a0 a2 a3 : Int) (t1 : ByteArray) (ra ea : Option Addr) (rn rc en ec : Nat) (b : Bool), e = .returned (.tuple #[.agg #[.int .i64 a0, .string t1, .int .i64 a2, .int .i64 a3, .slice ra rn rc, .slice ea en ec], .bool b]) ∧ (b = true ↔ OK s) ∧ Below w.heap.size w w'
set_option maxHeartbeats 16000000 in
theorem rrest_any {P : Nat → Prop} {OK : List UInt8 → Prop} (TK : RToldK OK) {u0 u1 y3 y4 y5 y6 y7 : Option Addr} {n0 k0 n1 k1 m3 d3 m4 d4 m5 d5 m6 d6 m7 d7 : Nat} {q2 q3 q4 q5 q6 q7 q8 x0 x1 x2 : Int} {n m : Nat} (E : List Sea) (A : List Ent) (w : World) (h6 : RowP seaM P w (.slice y6 n d6) E) (h7 : RowP entM P w (.slice y7 m d7) A) (ht : ∀ x ∈ E, x.1.length ≤ 140737488355328 ∧ x.2.2.2.2.length ≤ 140737488355328) (hn0 : n0 ≤ 9223372036854775807) : Calls Tryz.prog 27 #[.agg #[.slice u0 n0 k0, .slice u1 n1 k1, .int .i64 q2, .int .i64 q3, .int .i64 q4, .int .i64 q5, .int .i64 q6, .int .i64 q7, .int .i64 q8], .agg #[.int .i64 x0, .int .i64 x1, .int .i64 x2, .slice y3 m3 d3, .slice y4 m4 d4, .slice y5 m5 d5, .slice y6 n d6, .slice y7 m d7]] w fun e w' => IffB (seatsR n0 q6 x0 OK E ∧ auditR n0 q7 A) e ∧ Below w.heap.size w w' := by
  have HDE : Hid (∀ w', Below w.heap.size w w' → RowP seaM P w' (.slice y6 n d6) E) := fun w' b => h6.keep seaM_ok (Keep.below b)
  have HDA : Hid (∀ w', Below w.heap.size w w' → RowP entM P w' (.slice y7 m d7) A) := fun w' b => h7.keep entM_ok (Keep.below b)
  have HNE : Hid (n = E.length) := h6.len.1
  have HNA : Hid (m = A.length) := h7.len.1
  have hmn : n ≤ 9223372036854775807 := by have q := h6.len; simp only [maxLen] at q; omega
  have hmm : m ≤ 9223372036854775807 := by have q := h7.len; simp only [maxLen] at q; omega
  have HTE := Lib.hid ht
  clear h6 h7 ht
  obtain ⟨B0, P0, L0⟩ := box1 w #[.slice u0 n0 k0, .slice u1 n1 k1, .int .i64 q2, .int .i64 q3, .int .i64 q4, .int .i64 q5, .int .i64 q6, .int .i64 q7, .int .i64 q8] 25
  obtain ⟨W0, hW0⟩ : ∃ W0, W0 = w.alloc (.cells #[.slice u0 n0 k0, .slice u1 n1 k1, .int .i64 q2, .int .i64 q3, .int .i64 q4, .int .i64 q5, .int .i64 q6, .int .i64 q7, .int .i64 q8] 25) := ⟨_, rfl⟩
  rw [← hW0] at B0 P0 L0
  obtain ⟨B1, P1, L1⟩ := box1 W0 #[.int .i64 x0, .int .i64 x1, .int .i64 x2, .slice y3 m3 d3, .slice y4 m4 d4, .slice y5 m5 d5, .slice y6 n d6, .slice y7 m d7] 31
  obtain ⟨W1, hW1⟩ : ∃ W1, W1 = W0.alloc (.cells #[.int .i64 x0, .int .i64 x1, .int .i64 x2, .slice y3 m3 d3, .slice y4 m4 d4, .slice y5 m5 d5, .slice y6 n d6, .slice y7 m d7] 31) := ⟨_, rfl⟩
  rw [← hW1] at B1 P1 L1
  have q0 : W1.heap[w.heap.size]? = some (.cells #[.slice u0 n0 k0, .slice u1 n1 k1, .int .i64 q2, .int .i64 q3, .int .i64 q4, .int .i64 q5, .int .i64 q6, .int .i64 q7, .int .i64 q8] 25 (0, 0)) := (B1.block _ (by omega)).trans P0
  rw [L0] at P1 L1
  have HB : Hid (Below w.heap.size w W1) := below_on B0 B1
  obtain ⟨R, hR⟩ : ∃ R, R = w.heap.size := ⟨_, rfl⟩
  rw [← hR] at q0 P1 L1
  have HG : Hid (∀ w', Below W1.heap.size W1 w' → w'.heap[R]? = some (.cells #[.slice u0 n0 k0, .slice u1 n1 k1, .int .i64 q2, .int .i64 q3, .int .i64 q4, .int .i64 q5, .int .i64 q6, .int .i64 q7, .int .i64 q8] 25 (0, 0)) ∧ w'.heap[R + 1]? = some (.cells #[.int .i64 x0, .int .i64 x1, .int .i64 x2, .slice y3 m3 d3, .slice y4 m4 d4, .slice y5 m5 d5, .slice y6 n d6, .slice y7 m d7] 31 (0, 0))) := fun w' b => ⟨(b.block R (by omega)).trans q0, (b.block (R + 1) (by omega)).trans P1⟩
  have HX : Hid (Below W1.heap.size W1 W1) := Below.refl _ _
  have HW : Hid (W1 = (w.alloc (.cells #[.slice u0 n0 k0, .slice u1 n1 k1, .int .i64 q2, .int .i64 q3, .int .i64 q4, .int .i64 q5, .int .i64 q6, .int .i64 q7, .int .i64 q8] 25)).alloc (.cells #[.int .i64 x0, .int .i64 x1, .int .i64 x2, .slice y3 m3 d3, .slice y4 m4 d4, .slice y5 m5 d5, .slice y6 n d6, .slice y7 m d7] 31)) := by show _ = _; rw [hW1, hW0]
  have HR : Hid (w.heap.size = R) := hR.symm
  clear hR B0 P0 L0 B1 P1 L1 hW0 hW1 q0
  go_enter Tryz.func27, Tryz.ntmps27
  go_upto_region 1 with fail
  rw [← HW.out, HR.out]
  obtain ⟨a0, a1, a2, a3, a4, a5, a6, a7, a8⟩ := nine_cells' (HG.out _ HX.out).1
  obtain ⟨b0, b1, b2, b3, b4, b5, b6, b7⟩ := eight_cells (HG.out _ HX.out).2
  by_cases k6 : q6 < (n : Int)
  · have kd6 : decide (q6 < (n : Int)) = true := decide_eq_true k6
    have HXE := HX
    have HE : Hid (Below w.heap.size w W1) := HB.out.trans (HXE.out.mono HB.out.size)
    have HF : Hid (NoP (seatsR n0 q6 x0 OK E ∧ auditR n0 q7 A)) := fun h => absurd h.1.1 (by rw [← HNE.out]; omega)
    go_wp2_with fail
    go_ret
    exact ⟨iff_f HF.out, HE.out⟩
  · have kd6 : decide (q6 < (n : Int)) = false := decide_eq_false k6
    have HQ6 : Hid ((n : Int) ≤ q6) := by show _ ≤ _; omega
    by_cases k7 : q7 < (m : Int)
    · have kd7 : decide (q7 < (m : Int)) = true := decide_eq_true k7
      have HXE := HX
      have HE : Hid (Below w.heap.size w W1) := HB.out.trans (HXE.out.mono HB.out.size)
      have HF : Hid (NoP (seatsR n0 q6 x0 OK E ∧ auditR n0 q7 A)) := fun h => absurd h.2.1 (by rw [← HNA.out]; omega)
      go_wp2_with fail
      go_ret
      exact ⟨iff_f HF.out, HE.out⟩
    · have kd7 : decide (q7 < (m : Int)) = false := decide_eq_false k7
      have HQ7 : Hid ((m : Int) ≤ q7) := by show _ ≤ _; omega
      have CO := Lib.hid (ronce_ok E W1 (HDE.out W1 HB.out))
      go_wp2_with fail
      refine CO.out.mono ?_
      rintro e w7 ⟨hq, hw7⟩
      rw [hw7]
      clear hw7 CO kd6 kd7 k6 k7
      rcases hq.det with ⟨ht, rfl⟩ | ⟨hf, rfl⟩
      · have HON : Hid (onceR E) := ht
        clear ht
        go_wp2_with fail
        clear a0 a1 a2 a3 a4 a5 a6 a7 a8 b0 b1 b2 b3 b4 b5 b6 b7
        go_loopg [5] n (fun g i_ wr => ∃ (i : Nat), i ≤ n ∧ n - i ≤ g ∧ i_ = .int .i64 (i : Nat) ∧ Hid (∀ x ∈ E.take i, seaR n0 x0 OK x) ∧ Hid (Below W1.heap.size W1 wr))
        case atStart => exact ⟨0, by omega, by omega, rfl, take_zero, HX⟩
        case round =>
          clear HX
          obtain ⟨i, hi, hg, rfl, HV, HX⟩ := hrel
          by_cases hin : i < n
          · have iw : ((i : Nat) : Int) < (n : Int) := by omega
            have n0i : (0 : Int) ≤ ((i : Nat) : Int) := by omega
            have hixi : i < E.length := by rw [← HNE.out]; exact hin
            obtain ⟨a0, a1, a2, a3, a4, a5, a6, a7, a8⟩ := nine_cells' (HG.out _ HX.out).1
            obtain ⟨b0, b1, b2, b3, b4, b5, b6, b7⟩ := eight_cells (HG.out _ HX.out).2
            obtain ⟨b1_, f1, s1_, rfl, hlt1, _, hR1, hc1⟩ := (HDE.out wr (HB.out.trans (HX.out.mono HB.out.size))).get hixi
            obtain ⟨x, hx⟩ : ∃ z, z = E[i] := ⟨_, rfl⟩
            have hmem : x ∈ E := hx ▸ List.getElem_mem hixi
            have htx := HTE.out x hmem
            rw [← hx] at hR1
            have HXI0 : Hid (E[i] = x) := hx.symm
            obtain rfl := seaM_cells hR1
            clear hmem hx
            obtain ⟨l0, z1, z2, z3, l4⟩ := x
            have HXI := HXI0
            clear HXI0
            simp only at hc1 htx
            obtain ⟨t0, ht0⟩ : ∃ q, q = mkB l0 := ⟨_, rfl⟩
            obtain ⟨t4, ht4⟩ : ∃ q, q = mkB l4 := ⟨_, rfl⟩
            obtain ⟨m0, hm0⟩ : ∃ q, q = l0.length := ⟨_, rfl⟩
            have zt : t0.size = m0 := by rw [ht0, mkB_size, hm0]
            have HMT := Lib.hid hm0
            have HT4 := Lib.hid ht4
            rw [← ht0, ← ht4] at hc1
            have e0 : wr.cell? ⟨b1_, f1 + i * 5, none⟩ = some (.string t0) := hc1 0 _ rfl
            have e1 : wr.cell? ⟨b1_, f1 + i * 5 + 1, none⟩ = some (.int .i64 z1) := hc1 1 _ rfl
            have e2 : wr.cell? ⟨b1_, f1 + i * 5 + 2, none⟩ = some (.int .i64 z2) := hc1 2 _ rfl
            have e3 : wr.cell? ⟨b1_, f1 + i * 5 + 3, none⟩ = some (.int .i64 z3) := hc1 3 _ rfl
            have e4 : wr.cell? ⟨b1_, f1 + i * 5 + 4, none⟩ = some (.string t4) := hc1 4 _ rfl
            obtain ⟨bX, pX, lX⟩ := box1 wr #[.string t0, .int .i64 z1, .int .i64 z2, .int .i64 z3, .string t4] 57
            obtain ⟨W5, hW5⟩ : ∃ W5, W5 = wr.alloc (.cells #[.string t0, .int .i64 z1, .int .i64 z2, .int .i64 z3, .string t4] 57) := ⟨_, rfl⟩
            rw [← hW5] at bX pX lX
            obtain ⟨X, hX⟩ : ∃ X, X = wr.heap.size := ⟨_, rfl⟩
            rw [← hX] at pX lX
            have HW5 := Lib.hid hW5
            have HXX : Hid (wr.heap.size = X) := hX.symm
            have HLX : Hid (W5.heap.size = X + 1) := lX
            have HX5 : Hid (Below W1.heap.size W1 W5) := below_on HX.out bX
            have HPX := Lib.hid pX
            obtain ⟨g0, g1, g2, g3, g4⟩ := five_cells' pX
            have CT := Lib.hid (TK W5 l4 htx.2)
            rw [← ht4] at CT
            have hm0b : m0 ≤ 140737488355328 := by rw [hm0]; exact htx.1
            clear hc1 hR1 hlt1 hX hW5 bX pX lX ht0 ht4 htx hm0 HX
            have HX := HX5
            clear HX5
            go_upto_region 7 with fail
            rw [← HW5.out, HXX.out]
            clear e0 e1 e2 e3 e4
            go_wp2_with fail
            refine CT.out.mono ?_
            rintro e w6 ⟨a0_, a2_, a3_, a1_, ra, ea, rn, rc, en, ec, bb, rfl, hbk, bb6⟩
            clear g0 g1 g2 g3 g4 CT
            obtain ⟨bY, pY, lY⟩ := box1 w6 #[.int .i64 a0_, .string a1_, .int .i64 a2_, .int .i64 a3_, .slice ra rn rc, .slice ea en ec] 100
            obtain ⟨W7, hW7⟩ : ∃ W7, W7 = w6.alloc (.cells #[.int .i64 a0_, .string a1_, .int .i64 a2_, .int .i64 a3_, .slice ra rn rc, .slice ea en ec] 100) := ⟨_, rfl⟩
            rw [← hW7] at bY pY lY
            have HW7 := Lib.hid hW7
            have HX7 : Hid (Below W1.heap.size W1 W7) := below_on (below_on HX.out bb6) bY
            have HP7 : Hid (W7.heap[X]? = some (.cells #[.string t0, .int .i64 z1, .int .i64 z2, .int .i64 z3, .string t4] 57 (0, 0))) := (bY.block X (by have := HLX.out; have := bb6.size; omega)).trans ((bb6.block X (by have := HLX.out; omega)).trans HPX.out)
            obtain ⟨g0, g1, g2, g3, g4⟩ := five_cells' HP7.out
            clear hW7 bY pY lY bb6 HP7 HPX HX HLX
            have HX := HX7
            obtain ⟨a0, a1, a2, a3, a4, a5, a6, a7, a8⟩ := nine_cells' (HG.out _ HX.out).1
            obtain ⟨b0, b1, b2, b3, b4, b5, b6, b7⟩ := eight_cells (HG.out _ HX.out).2
            clear HX
            go_upto_region 8 with fail
            rw [← HW7.out]
            have s1 : IntKind.i64.wrap ((n0 : Int) - 1) = (n0 : Int) - 1 := IntWalk.i64_in _ (by omega)
            have HI := Lib.hid (fun (n lo hi : Int) (w' : World) => in_any n lo hi w')
            go_wp2_with fail
            refine (HI.out ((m0 : Int)) (1) (20) _).mono ?_
            rintro e wt ⟨rfl, hwt⟩
            rw [hwt]
            clear hwt wt
            by_cases jA : (1 : Int) ≤ (m0 : Int) ∧ ((m0 : Int) : Int) ≤ 20
            · rw [decide_eq_true jA]
              go_wp2_with fail
              refine (HI.out (z1) (0) ((n0 : Int) - 1) _).mono ?_
              rintro e wt ⟨rfl, hwt⟩
              rw [hwt]
              clear hwt wt
              by_cases jB : (0 : Int) ≤ z1 ∧ (z1 : Int) ≤ (n0 : Int) - 1
              · rw [decide_eq_true jB]
                go_wp2_with fail
                refine (HI.out (z2) (0) (x0) _).mono ?_
                rintro e wt ⟨rfl, hwt⟩
                rw [hwt]
                clear hwt wt
                by_cases jC : (0 : Int) ≤ z2 ∧ (z2 : Int) ≤ x0
                · rw [decide_eq_true jC]
                  by_cases kz : z3 < 0
                  · have kd : decide (z3 < 0) = true := decide_eq_true kz
                    have HXE : Hid (Below W1.heap.size W1 W7) := HX7
                    have HE : Hid (Below w.heap.size w W7) := HB.out.trans (HXE.out.mono HB.out.size)
                    have HF : Hid (NoP (seatsR n0 q6 x0 OK E ∧ auditR n0 q7 A)) := fun h => (by have hx := h.1.2 i hixi; rw [HXI.out] at hx; obtain ⟨⟨h1, h2, h3, h4, h5⟩, _⟩ := hx; exact absurd h4 (by show ¬ (0 : Int) ≤ z3; omega))
                    go_wp2_with fail
                    go_ret
                    exact ⟨iff_f HF.out, HE.out⟩
                  · have kd : decide (z3 < 0) = false := decide_eq_false kz
                    by_cases hl : l4 = []
                    · have g9 : t4.toList.isEmpty = true := by rw [HT4.out, hl]; exact e_yes
                      have HAN : Hid (l4 = [] ∨ OK l4) := .inl hl
                      clear hl hbk
                      have HX8 : Hid (Below W1.heap.size W1 W7) := HX7
                      have HV2 : Hid (∀ x ∈ E.take (i + 1), seaR n0 x0 OK x) := all_step hixi HV.out (by rw [HXI.out]; exact ⟨by rw [← HMT.out]; exact jA, jB, jC, by show (0 : Int) ≤ z3; omega, HAN.out⟩)
                      clear HV HXI
                      go_wp2_with fail
                      go_roundg (n - (i + 1))
                      case measure => omega
                      case rel => exact ⟨i + 1, by omega, Nat.le_refl _, by go_num, HV2, HX8⟩
                    · have g9 : t4.toList.isEmpty = false := by rw [HT4.out]; exact e_no hl
                      cases bb with
                      | true =>
                        have HAN : Hid (l4 = [] ∨ OK l4) := .inr (hbk.1 rfl)
                        clear hl hbk
                        have HX8 : Hid (Below W1.heap.size W1 W7) := HX7
                        have HV2 : Hid (∀ x ∈ E.take (i + 1), seaR n0 x0 OK x) := all_step hixi HV.out (by rw [HXI.out]; exact ⟨by rw [← HMT.out]; exact jA, jB, jC, by show (0 : Int) ≤ z3; omega, HAN.out⟩)
                        clear HV HXI
                        go_wp2_with fail
                        go_roundg (n - (i + 1))
                        case measure => omega
                        case rel => exact ⟨i + 1, by omega, Nat.le_refl _, by go_num, HV2, HX8⟩
                      | false =>
                        have HNA : Hid (NoP (l4 = [] ∨ OK l4)) := fun h => by
                          rcases h with h | h
                          · exact hl h
                          · exact absurd (hbk.2 h) (by decide)
                        clear hl hbk
                        have HXE : Hid (Below W1.heap.size W1 W7) := HX7
                        have HE : Hid (Below w.heap.size w W7) := HB.out.trans (HXE.out.mono HB.out.size)
                        have HF : Hid (NoP (seatsR n0 q6 x0 OK E ∧ auditR n0 q7 A)) := fun h => (by have hx := h.1.2 i hixi; rw [HXI.out] at hx; obtain ⟨⟨h1, h2, h3, h4, h5⟩, _⟩ := hx; exact HNA.out h5)
                        go_wp2_with fail
                        go_ret
                        exact ⟨iff_f HF.out, HE.out⟩
                · rw [decide_eq_false jC]
                  have HXE : Hid (Below W1.heap.size W1 W7) := HX7
                  have HE : Hid (Below w.heap.size w W7) := HB.out.trans (HXE.out.mono HB.out.size)
                  have HF : Hid (NoP (seatsR n0 q6 x0 OK E ∧ auditR n0 q7 A)) := fun h => (by have hx := h.1.2 i hixi; rw [HXI.out] at hx; obtain ⟨⟨h1, h2, h3, h4, h5⟩, _⟩ := hx; exact jC h3)
                  go_wp2_with fail
                  go_ret
                  exact ⟨iff_f HF.out, HE.out⟩
              · rw [decide_eq_false jB]
                have HXE : Hid (Below W1.heap.size W1 W7) := HX7
                have HE : Hid (Below w.heap.size w W7) := HB.out.trans (HXE.out.mono HB.out.size)
                have HF : Hid (NoP (seatsR n0 q6 x0 OK E ∧ auditR n0 q7 A)) := fun h => (by have hx := h.1.2 i hixi; rw [HXI.out] at hx; obtain ⟨⟨h1, h2, h3, h4, h5⟩, _⟩ := hx; exact jB h2)
                go_wp2_with fail
                go_ret
                exact ⟨iff_f HF.out, HE.out⟩
            · rw [decide_eq_false jA]
              have HXE : Hid (Below W1.heap.size W1 W7) := HX7
              have HE : Hid (Below w.heap.size w W7) := HB.out.trans (HXE.out.mono HB.out.size)
              have HF : Hid (NoP (seatsR n0 q6 x0 OK E ∧ auditR n0 q7 A)) := fun h => (by have hx := h.1.2 i hixi; rw [HXI.out] at hx; obtain ⟨⟨h1, h2, h3, h4, h5⟩, _⟩ := hx; exact jA (by rw [HMT.out]; exact h1))
              go_wp2_with fail
              go_ret
              exact ⟨iff_f HF.out, HE.out⟩
          · obtain rfl : n = i := by omega
            have iw : ¬ ((n : Nat) : Int) < ((n : Nat) : Int) := by omega
            obtain ⟨a0, a1, a2, a3, a4, a5, a6, a7, a8⟩ := nine_cells' (HG.out _ HX.out).1
            obtain ⟨b0, b1, b2, b3, b4, b5, b6, b7⟩ := eight_cells (HG.out _ HX.out).2
            have HX9 := HX
            have HSE : Hid (seatsR n0 q6 x0 OK E) := ⟨by rw [← HNE.out]; exact HQ6.out, fun j hj => ⟨take_whole HNE.out HV.out _ (List.getElem_mem hj), HON.out j hj⟩⟩
            clear HX HV
            go_wp2_with fail
            clear a0 a1 a2 a3 a4 a5 a6 a7 a8 b0 b1 b2 b3 b4 b5 b6 b7
            go_loopg [9] m (fun g i_ wr => ∃ (i : Nat), i ≤ m ∧ m - i ≤ g ∧ i_ = .int .i64 (i : Nat) ∧ Hid (∀ x ∈ A.take i, entR n0 x) ∧ Hid (Below W1.heap.size W1 wr))
            case atStart => exact ⟨0, by omega, by omega, rfl, take_zero, HX9⟩
            case round =>
              clear HX9
              obtain ⟨i, hi, hg, rfl, HV, HX⟩ := hrel
              by_cases hin : i < m
              · have iw : ((i : Nat) : Int) < (m : Int) := by omega
                have n0i : (0 : Int) ≤ ((i : Nat) : Int) := by omega
                have hixi : i < A.length := by rw [← HNA.out]; exact hin
                obtain ⟨a0, a1, a2, a3, a4, a5, a6, a7, a8⟩ := nine_cells' (HG.out _ HX.out).1
                obtain ⟨b0, b1, b2, b3, b4, b5, b6, b7⟩ := eight_cells (HG.out _ HX.out).2
                obtain ⟨b1_, f1, s1_, rfl, hlt1, _, hR1, hc1⟩ := (HDA.out wr (HB.out.trans (HX.out.mono HB.out.size))).get hixi
                obtain ⟨x, hx⟩ : ∃ z, z = A[i] := ⟨_, rfl⟩
                rw [← hx] at hR1
                have HXI : Hid (A[i] = x) := hx.symm
                obtain ⟨r3, d3, r4, d4, rfl, _, _⟩ := entM_cells hR1
                obtain ⟨z0, hz0⟩ : ∃ q, q = x.1 := ⟨_, rfl⟩
                obtain ⟨z1, hz1⟩ : ∃ q, q = x.2.1 := ⟨_, rfl⟩
                obtain ⟨z2, hz2⟩ : ∃ q, q = x.2.2.1 := ⟨_, rfl⟩
                obtain ⟨m3, hm3⟩ : ∃ q, q = x.2.2.2.1.length := ⟨_, rfl⟩
                obtain ⟨m4, hm4⟩ : ∃ q, q = x.2.2.2.2.length := ⟨_, rfl⟩
                rw [← hz0, ← hz1, ← hz2, ← hm3, ← hm4] at hc1
                have HMM := Lib.hid (And.intro hz0 (And.intro hz1 (And.intro hz2 (And.intro hm3 hm4))))
                have e0 : wr.cell? ⟨b1_, f1 + i * 5, none⟩ = some (.int .i64 z0) := hc1 0 _ rfl
                have e1 : wr.cell? ⟨b1_, f1 + i * 5 + 1, none⟩ = some (.int .i64 z1) := hc1 1 _ rfl
                have e2 : wr.cell? ⟨b1_, f1 + i * 5 + 2, none⟩ = some (.int .i64 z2) := hc1 2 _ rfl
                have e3 : wr.cell? ⟨b1_, f1 + i * 5 + 3, none⟩ = some (.slice r3 m3 d3) := hc1 3 _ rfl
                have e4 : wr.cell? ⟨b1_, f1 + i * 5 + 4, none⟩ = some (.slice r4 m4 d4) := hc1 4 _ rfl
                obtain ⟨bX, pX, lX⟩ := box1 wr #[.int .i64 z0, .int .i64 z1, .int .i64 z2, .slice r3 m3 d3, .slice r4 m4 d4] 59
                obtain ⟨W5, hW5⟩ : ∃ W5, W5 = wr.alloc (.cells #[.int .i64 z0, .int .i64 z1, .int .i64 z2, .slice r3 m3 d3, .slice r4 m4 d4] 59) := ⟨_, rfl⟩
                rw [← hW5] at bX pX lX
                obtain ⟨X, hX⟩ : ∃ X, X = wr.heap.size := ⟨_, rfl⟩
                rw [← hX] at pX lX
                have HW5 := Lib.hid hW5
                have HXX : Hid (wr.heap.size = X) := hX.symm
                have HX5 : Hid (Below W1.heap.size W1 W5) := below_on HX.out bX
                obtain ⟨g0, g1, g2, g3, g4⟩ := five_cells' pX
                clear hc1 hR1 hx hz0 hz1 hz2 hm3 hm4 hlt1 hX hW5 bX pX lX HX
                have HX := HX5
                go_upto_region 14 with fail
                rw [← HW5.out, HXX.out]
                clear e0 e1 e2 e3 e4
                obtain ⟨a0, a1, a2, a3, a4, a5, a6, a7, a8⟩ := nine_cells' (HG.out _ HX.out).1
                obtain ⟨b0, b1, b2, b3, b4, b5, b6, b7⟩ := eight_cells (HG.out _ HX.out).2
                clear HX
                have s1 : IntKind.i64.wrap ((n0 : Int) - 1) = (n0 : Int) - 1 := IntWalk.i64_in _ (by omega)
                have HI := Lib.hid (fun (n lo hi : Int) (w' : World) => in_any n lo hi w')
                go_wp2_with fail
                refine (HI.out (z0) (-1) ((n0 : Int) - 1) _).mono ?_
                rintro e wt ⟨rfl, hwt⟩
                rw [hwt]
                clear hwt wt
                by_cases jA : (-1 : Int) ≤ z0 ∧ (z0 : Int) ≤ (n0 : Int) - 1
                · rw [decide_eq_true jA]
                  go_wp2_with fail
                  refine (HI.out (z1) (0) (15) _).mono ?_
                  rintro e wt ⟨rfl, hwt⟩
                  rw [hwt]
                  clear hwt wt
                  by_cases jB : (0 : Int) ≤ z1 ∧ (z1 : Int) ≤ 15
                  · rw [decide_eq_true jB]
                    go_wp2_with fail
                    refine (HI.out (z2) (0) (255) _).mono ?_
                    rintro e wt ⟨rfl, hwt⟩
                    rw [hwt]
                    clear hwt wt
                    by_cases jC : (0 : Int) ≤ z2 ∧ (z2 : Int) ≤ 255
                    · rw [decide_eq_true jC]
                      by_cases k0 : 255 < m3
                      · have kw0 : (255 : Int) < (m3 : Nat) := by omega
                        have kd0 : decide ((255 : Int) < (m3 : Nat)) = true := decide_eq_true kw0
                        have HXE : Hid (Below W1.heap.size W1 W5) := HX5
                        have HE : Hid (Below w.heap.size w W5) := HB.out.trans (HXE.out.mono HB.out.size)
                        have HF : Hid (NoP (seatsR n0 q6 x0 OK E ∧ auditR n0 q7 A)) := fun h => (by have hx := h.2.2 _ (List.getElem_mem hixi); rw [HXI.out] at hx; obtain ⟨hx1, hx2, hx3, hx4, hx5⟩ := hx; rw [← HMM.out.1] at hx1; rw [← HMM.out.2.1] at hx2; rw [← HMM.out.2.2.1] at hx3; rw [← HMM.out.2.2.2.1] at hx4; rw [← HMM.out.2.2.2.2] at hx5; omega)
                        go_wp2_with fail
                        go_ret
                        exact ⟨iff_f HF.out, HE.out⟩
                      · have kw0 : ¬ (255 : Int) < (m3 : Nat) := by omega
                        have kd0 : decide ((255 : Int) < (m3 : Nat)) = false := decide_eq_false kw0
                        by_cases k1 : 255 < m4
                        · have kw1 : (255 : Int) < (m4 : Nat) := by omega
                          have kd1 : decide ((255 : Int) < (m4 : Nat)) = true := decide_eq_true kw1
                          have HXE : Hid (Below W1.heap.size W1 W5) := HX5
                          have HE : Hid (Below w.heap.size w W5) := HB.out.trans (HXE.out.mono HB.out.size)
                          have HF : Hid (NoP (seatsR n0 q6 x0 OK E ∧ auditR n0 q7 A)) := fun h => (by have hx := h.2.2 _ (List.getElem_mem hixi); rw [HXI.out] at hx; obtain ⟨hx1, hx2, hx3, hx4, hx5⟩ := hx; rw [← HMM.out.1] at hx1; rw [← HMM.out.2.1] at hx2; rw [← HMM.out.2.2.1] at hx3; rw [← HMM.out.2.2.2.1] at hx4; rw [← HMM.out.2.2.2.2] at hx5; omega)
                          go_wp2_with fail
                          go_ret
                          exact ⟨iff_f HF.out, HE.out⟩
                        · have kw1 : ¬ (255 : Int) < (m4 : Nat) := by omega
                          have kd1 : decide ((255 : Int) < (m4 : Nat)) = false := decide_eq_false kw1
                          have HX8 : Hid (Below W1.heap.size W1 W5) := HX5
                          have HV2 : Hid (∀ x ∈ A.take (i + 1), entR n0 x) := all_step hixi HV.out (by rw [HXI.out]; refine ⟨?_, ?_, ?_, ?_, ?_⟩; rw [← HMM.out.1]; exact jA; rw [← HMM.out.2.1]; exact jB; rw [← HMM.out.2.2.1]; exact jC; rw [← HMM.out.2.2.2.1]; omega; rw [← HMM.out.2.2.2.2]; omega)
                          clear HV HXI HMM
                          go_wp2_with fail
                          go_roundg (m - (i + 1))
                          case measure => omega
                          case rel => exact ⟨i + 1, by omega, Nat.le_refl _, by go_num, HV2, HX8⟩
                    · rw [decide_eq_false jC]
                      have HXE : Hid (Below W1.heap.size W1 W5) := HX5
                      have HE : Hid (Below w.heap.size w W5) := HB.out.trans (HXE.out.mono HB.out.size)
                      have HF : Hid (NoP (seatsR n0 q6 x0 OK E ∧ auditR n0 q7 A)) := fun h => (by have hx := h.2.2 _ (List.getElem_mem hixi); rw [HXI.out] at hx; obtain ⟨hx1, hx2, hx3, hx4, hx5⟩ := hx; rw [← HMM.out.1] at hx1; rw [← HMM.out.2.1] at hx2; rw [← HMM.out.2.2.1] at hx3; rw [← HMM.out.2.2.2.1] at hx4; rw [← HMM.out.2.2.2.2] at hx5; exact jC hx3)
                      go_wp2_with fail
                      go_ret
                      exact ⟨iff_f HF.out, HE.out⟩
                  · rw [decide_eq_false jB]
                    have HXE : Hid (Below W1.heap.size W1 W5) := HX5
                    have HE : Hid (Below w.heap.size w W5) := HB.out.trans (HXE.out.mono HB.out.size)
                    have HF : Hid (NoP (seatsR n0 q6 x0 OK E ∧ auditR n0 q7 A)) := fun h => (by have hx := h.2.2 _ (List.getElem_mem hixi); rw [HXI.out] at hx; obtain ⟨hx1, hx2, hx3, hx4, hx5⟩ := hx; rw [← HMM.out.1] at hx1; rw [← HMM.out.2.1] at hx2; rw [← HMM.out.2.2.1] at hx3; rw [← HMM.out.2.2.2.1] at hx4; rw [← HMM.out.2.2.2.2] at hx5; exact jB hx2)
                    go_wp2_with fail
                    go_ret
                    exact ⟨iff_f HF.out, HE.out⟩
                · rw [decide_eq_false jA]
                  have HXE : Hid (Below W1.heap.size W1 W5) := HX5
                  have HE : Hid (Below w.heap.size w W5) := HB.out.trans (HXE.out.mono HB.out.size)
                  have HF : Hid (NoP (seatsR n0 q6 x0 OK E ∧ auditR n0 q7 A)) := fun h => (by have hx := h.2.2 _ (List.getElem_mem hixi); rw [HXI.out] at hx; obtain ⟨hx1, hx2, hx3, hx4, hx5⟩ := hx; rw [← HMM.out.1] at hx1; rw [← HMM.out.2.1] at hx2; rw [← HMM.out.2.2.1] at hx3; rw [← HMM.out.2.2.2.1] at hx4; rw [← HMM.out.2.2.2.2] at hx5; exact jA hx1)
                  go_wp2_with fail
                  go_ret
                  exact ⟨iff_f HF.out, HE.out⟩
              · obtain rfl : m = i := by omega
                have iw : ¬ ((m : Nat) : Int) < ((m : Nat) : Int) := by omega
                obtain ⟨a0, a1, a2, a3, a4, a5, a6, a7, a8⟩ := nine_cells' (HG.out _ HX.out).1
                obtain ⟨b0, b1, b2, b3, b4, b5, b6, b7⟩ := eight_cells (HG.out _ HX.out).2
                have HE : Hid (Below w.heap.size w wr) := HB.out.trans (HX.out.mono HB.out.size)
                have HT : Hid (seatsR n0 q6 x0 OK E ∧ auditR n0 q7 A) := ⟨HSE.out, by rw [← HNA.out]; exact HQ7.out, take_whole HNA.out HV.out⟩
                clear HV
                go_wp2_with fail
                go_ret
                exact ⟨iff_t HT.out, HE.out⟩
      · have HNO : Hid (NoP (onceR E)) := hf
        clear hf
        have HXE := HX
        have HE : Hid (Below w.heap.size w W1) := HB.out.trans (HXE.out.mono HB.out.size)
        have HF : Hid (NoP (seatsR n0 q6 x0 OK E ∧ auditR n0 q7 A)) := fun h => HNO.out (fun j hj => (h.1.2 j hj).2)
        go_wp2_with fail
        go_ret
        exact ⟨iff_f HF.out, HE.out⟩
theorem rrest_ok {OKa : List UInt8 → Prop} (TK : RToldK OKa) : RRest OKa := by
  intro P P' cs cs' C S w h h' hg hg' hs hm hl hx1 hx2
  obtain ⟨u0, k0, u1, k1, rfl, p0, p1⟩ := cfgM_cells h
  obtain ⟨y3, d3, y4, d4, y5, d5, y6, d6, y7, d7, rfl, r3, r4, r5, r6, r7⟩ := staM_cells h'
  have v0 : C.1.length ≤ 9223372036854775807 := by have q := p0.len; simp only [maxLen] at q; omega
  exact rrest_any TK (u0 := u0) (k0 := k0) (u1 := u1) (k1 := k1) (y3 := y3) (d3 := d3) (y4 := y4) (d4 := d4) (y5 := y5) (d5 := d5) (y6 := y6) (d6 := d6) (y7 := y7) (d7 := d7) (m6 := 0) (m7 := 0) S.2.2.2.2.2.2.1 S.2.2.2.2.2.2.2 w r6 r7 (fun x hx => ⟨(hg'.2.2.2.2.2.2.1.2 x hx).1, (hg'.2.2.2.2.2.2.1.2 x hx).2.2.2.2⟩) v0
end Go.Proofs.YtccaiippoephbaaGreatDoor.Sta
