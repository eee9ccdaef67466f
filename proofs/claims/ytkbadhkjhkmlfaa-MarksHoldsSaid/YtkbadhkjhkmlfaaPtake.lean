/- Contract: Take of the program. -/
import Derived.Test.YtkbadhkjhkmlfaaPts
set_option linter.unusedVariables false
namespace Go.Proofs.Ytkbadhkjhkmlfaa.Rig
open Go.RowKit Go.Lib Go.Proofs.Ytkbadhkjhkmlfaa.Rt

theorem Aprt.new {T T' : TypeId} {b b' n k n' k' : Nat} {w w' : World} {v v' : Value} {zs zs' : List Int} (h1 : OwnF T b w v n k zs) (h2 : OwnF T' b' w' v' n' k' zs') (hlt : w.heap.size ≤ b') : Aprt v v' := fun g e1 e2 => by
  have a := (OwnF.block h1 g e1).2
  have c := (OwnF.block h2 g e2).1
  omega
set_option maxRecDepth 100000 in
set_option maxHeartbeats 16000000 in
theorem take_any {sv tv : Value} {S : List Sp} {T : List St} (n a b mk : Int) (w : World) (hS : Spans w sv S) (hT : Sites w tv T) (hRS : RS 0 0 n S) (hRT : RT n T) (ha : 0 ≤ a) (hab : a ≤ b) (hbn : b ≤ n) (hn : n ≤ 10000) (hmk : i64 mk) (hls : S.length ≤ 10000) (hlt : T.length ≤ 10000) :
    Calls Try.prog 16 #[.agg #[sv, tv], .int .i64 a, .int .i64 b, .int .i64 mk] w (GivesM w (pTake S a b) (pTakeT T a b mk)) := by
  have hat : ∀ j, j < S.length → 0 ≤ (sp S j).f ∧ (sp S j).f ≤ (sp S j).t ∧ (sp S j).t ≤ 100000 := fun j hj => by
    obtain ⟨_, b, c, d⟩ := hRS.ord.mem (sp S j) (by rw [sp_get hj]; exact List.getElem_mem hj)
    exact ⟨b, by omega, by omega⟩
  have htt : ∀ j, j < T.length → 0 ≤ (st T j).a ∧ (st T j).a ≤ 100000 := fun j hj => by
    obtain ⟨_, b, c⟩ := hRT.2 (st T j) (mem_st.2 ⟨j, hj, rfl⟩)
    exact ⟨b, by omega⟩
  obtain ⟨W0, hW0⟩ : ∃ W0, W0 = (w.alloc (.cells #[sv, tv] 28)).alloc (.cells #[.slice none 0 0, .slice none 0 0] 28) := ⟨_, rfl⟩
  have b0 : Below w.heap.size w W0 := by rw [hW0]; exact ((Below.refl _ _).alloc (Nat.le_refl _) _).alloc (by simp) _
  have r0 : W0.heap[w.heap.size]? = some (.cells #[sv, tv] 28 (0, 0)) := by rw [hW0]; simp only [alloc_at, World.size_alloc]; repeat (first | rw [if_pos (by first | trivial | omega)] | rw [if_neg (by omega)])
  have r1 : W0.heap[w.heap.size + 1]? = some (.cells #[.slice none 0 0, .slice none 0 0] 28 (0, 0)) := by rw [hW0]; simp only [alloc_at, World.size_alloc]; repeat (first | rw [if_pos (by first | trivial | omega)] | rw [if_neg (by omega)])
  have l0 : W0.heap.size = w.heap.size + 1 + 1 := by rw [hW0]; simp
  have CP := Lib.hid (part_any a W0 (hS.below b0 (Nat.le_refl _)) (hT.below b0 (Nat.le_refl _)) ha (by omega) hls hlt hat htt)
  have CQ : Hid (∀ w', Below W0.heap.size W0 w' → Calls Try.prog 18 #[.agg #[sv, tv], .int .i64 b] w' (GivesPt w' (pA b S) (sA b T) (pB b S) (sB b T))) := fun w' hb => part_any b w' ((hS.below b0 (Nat.le_refl _)).below hb (Nat.le_refl _)) ((hT.below b0 (Nat.le_refl _)).below hb (Nat.le_refl _)) (by omega) (by omega) hls hlt hat htt
  have CT : Hid (∀ w', Below W0.heap.size W0 w' → Calls Try.prog 34 #[tv, .int .i64 a, .int .i64 b, .int .i64 mk] w' (GivesSt w' (pTakeT T a b mk))) := fun w' hb => takeSites_any a b mk w' ((hT.below b0 (Nat.le_refl _)).below hb (Nat.le_refl _)) ⟨ha, by omega⟩ ⟨by omega, by omega⟩ hab hmk hlt htt
  have lA : (pA a S).length ≤ 10000 := Nat.le_trans (pA_len a S) hls
  have lB : (pB b S).length ≤ 10000 := Nat.le_trans (pB_len b S) hls
  have oB : ∀ j, j < (pB b S).length → 0 ≤ (sp (pB b S) j).f ∧ (sp (pB b S) j).f ≤ (sp (pB b S) j).t ∧ (sp (pB b S) j).t ≤ 10000 := fun j hj => by
    obtain ⟨_, b, c, d⟩ := (RS_pB (p := b) hRS).ord.mem (sp (pB b S) j) (by rw [sp_get hj]; exact List.getElem_mem hj)
    exact ⟨b, by omega, by omega⟩
  have EP : Hid (pTake S a b = joins (pA a S) (mvS a (pB b S))) := rfl
  generalize pTake S a b = RP at *
  generalize pTakeT T a b mk = RQ at *
  generalize pA a S = SA at *
  generalize pB b S = SB at *
  generalize pA b S = SX at *
  generalize pB a S = SY at *
  generalize sA a T = TA at *
  generalize sB a T = TY at *
  generalize sA b T = TX at *
  generalize sB b T = TB at *
  obtain ⟨sa, sc, rfl⟩ := hS.is_slice
  obtain ⟨ta, tc, rfl⟩ := hT.is_slice
  generalize S.length = ls at *
  generalize T.length = lt at *
  have HOB := Lib.hid oB
  obtain ⟨m1, m2⟩ := hmk
  have BX : Hid (∀ w', Below W0.heap.size W0 w' → (w'.cell? ⟨w.heap.size, 0, none⟩ = some (.slice sa ls sc) ∧ w'.cell? ⟨w.heap.size, 1, none⟩ = some (.slice ta lt tc)) ∧ w.heap.size + 1 < w'.heap.size ∧ Hid (w'.heap[w.heap.size + 1]? = some (.cells #[.slice none 0 0, .slice none 0 0] 28 (0, 0)))) := fun w' hb => by
    have q0 : w'.heap[w.heap.size]? = _ := (hb.block _ (by omega)).trans r0
    exact ⟨⟨by rw [cell_of_row _ _ _ _ _ _ q0]; rfl, by rw [cell_of_row _ _ _ _ _ _ q0]; rfl⟩, by have := hb.size; omega, (hb.block _ (by omega)).trans r1⟩
  have HW0 := Lib.hid hW0
  have B0 := Lib.hid b0
  clear hS hT hRS hRT hat htt oB b0 r0 r1 hW0 l0
  obtain ⟨⟨c0, c1⟩, _, _⟩ := BX.out W0 (Below.refl _ _)
  go_enter Try.func16, Try.ntmps16
  go_wp2_with fail
  rw [← HW0.out]
  go_wp2_with fail
  refine CP.out.mono ?_
  rintro e w1 ⟨v1, v2, v3, v4, rfl, o1, o2, o3, o4, p1, p2, b1⟩
  obtain ⟨WA, hWA⟩ : ∃ WA, WA = (w1.alloc (.cells #[v1, v2] 28)).alloc (.cells #[v3, v4] 28) := ⟨_, rfl⟩
  have bA : Below w1.heap.size w1 WA := by rw [hWA]; exact ((Below.refl _ _).alloc (Nat.le_refl _) _).alloc (by simp) _
  have z0 : WA.heap[w1.heap.size]? = some (.cells #[v1, v2] 28 (0, 0)) := by rw [hWA]; simp only [alloc_at, World.size_alloc]; repeat (first | rw [if_pos (by first | trivial | omega)] | rw [if_neg (by omega)])
  have lA2 : w1.heap.size + 1 < WA.heap.size := by rw [hWA]; simp
  have O1 : Hid (OwnSp W0.heap.size WA v1 SA) := OwnF.below o1 bA
  have BA : Hid (Below W0.heap.size W0 WA) := below_more b1 bA
  obtain ⟨a1, d1, rfl⟩ := o1.is_slice
  obtain ⟨a2, d2, rfl⟩ := o2.is_slice
  obtain ⟨a3, d3, rfl⟩ := o3.is_slice
  obtain ⟨a4, d4, rfl⟩ := o4.is_slice
  generalize TA.length = k2 at *
  generalize SY.length = k3 at *
  generalize TY.length = k4 at *
  have HWA := Lib.hid hWA
  clear o1 o2 o3 o4 p1 p2 b1 bA CP c0 c1 hWA
  obtain ⟨⟨c0, c1⟩, l1, _⟩ := BX.out WA BA.out
  go_upto_region 2 with fail
  rw [← HWA.out]
  go_wp2_with fail
  refine (CQ.out WA BA.out).mono ?_
  rintro e w2 ⟨x1, x2, x3, x4, rfl, o1, o2, o3, o4, p1, p2, b2⟩
  obtain ⟨WC, hWC⟩ : ∃ WC, WC = (w2.alloc (.cells #[x1, x2] 28)).alloc (.cells #[x3, x4] 28) := ⟨_, rfl⟩
  have bC : Below w2.heap.size w2 WC := by rw [hWC]; exact ((Below.refl _ _).alloc (Nat.le_refl _) _).alloc (by simp) _
  have z1 : WC.heap[w2.heap.size + 1]? = some (.cells #[x3, x4] 28 (0, 0)) := by rw [hWC]; simp only [alloc_at, World.size_alloc]; repeat (first | rw [if_pos (by first | trivial | omega)] | rw [if_neg (by omega)])
  have b2C := below_more b2 bC
  have z0' : WC.heap[w1.heap.size]? = some (.cells #[.slice a1 SA.length d1, .slice a2 k2 d2] 28 (0, 0)) := by rw [b2C.block _ (by omega)]; exact z0
  have J0 : Hid (PJ W0 w1.heap.size (w2.heap.size + 1) (.slice a1 SA.length d1) (.slice a2 k2 d2) x3 x4 SB TB WC (.slice a1 SA.length d1) SA (.slice none 0 0) []) :=
    ⟨z0', z1, OwnF.below O1.out b2C, OwnF.nil_ _ _ _ _, (OwnF.below o3 bC).mono BA.out.size, (OwnF.below o4 bC).mono BA.out.size, Aprt.new O1.out o3 (Nat.le_refl _), Aprt.nil_ _, below_more BA.out b2C⟩
  obtain ⟨y1, f1, rfl⟩ := o1.is_slice
  obtain ⟨y2, f2, rfl⟩ := o2.is_slice
  obtain ⟨y3, f3, rfl⟩ := o3.is_slice
  obtain ⟨y4, f4, rfl⟩ := o4.is_slice
  generalize SX.length = k5 at *
  generalize TX.length = k6 at *
  have HWC := Lib.hid hWC
  have j0 : WC.cell? ⟨w1.heap.size, 0, none⟩ = some (.slice a1 SA.length d1) := by rw [cell_of_row _ _ _ _ _ _ z0']; rfl
  have j1 : WC.cell? ⟨w2.heap.size + 1, 0, none⟩ = some (.slice y3 SB.length f3) := by rw [cell_of_row _ _ _ _ _ _ z1]; rfl
  have j2 : WC.cell? ⟨w1.heap.size, 1, none⟩ = some (.slice a2 k2 d2) := by rw [cell_of_row _ _ _ _ _ _ z0']; rfl
  have j3 : WC.cell? ⟨w2.heap.size + 1, 1, none⟩ = some (.slice y4 TB.length f4) := by rw [cell_of_row _ _ _ _ _ _ z1]; rfl
  clear o1 o2 o3 o4 p1 p2 b2 bC z0 z0' z1 b2C CQ c0 c1 hWC lA2 O1
  go_upto_region 3 with fail
  rw [← HWC.out]
  obtain ⟨_, _, hv3, hl3, hc3, _⟩ := J0.out.fst.spans.open_
  injection hv3 with e1 e2 e3
  subst e1 e3
  try clear e2
  obtain ⟨nb, hnb⟩ : ∃ nb, nb = SB.length := ⟨_, rfl⟩
  have HNB := Lib.hid hnb
  rw [← hnb] at J0 j1 hl3 lB
  have EB : Hid (joins SA (mvS a (SB.take nb)) = joins SA (mvS a SB)) := by show _ = _; rw [hnb, List.take_length]
  clear hnb
  go_wp2_with fail
  go_loopg [13, 33] nb (fun g x i wr => ∃ (j : Nat) (u : Value), u = x ∧ j ≤ nb ∧ nb - j ≤ g ∧ i = .int .i64 j ∧ Hid (PJ W0 w1.heap.size (w2.heap.size + 1) (.slice a1 SA.length d1) (.slice a2 k2 d2) (.slice y3 nb f3) (.slice y4 TB.length f4) SB TB wr u (joins SA (mvS a (SB.take j))) (.slice none 0 0) []))
  case atStart => exact ⟨0, _, rfl, Nat.zero_le _, by omega, rfl, J0.out⟩
  case round =>
    clear J0 j0 j1 j2 j3
    obtain ⟨j, u, rfl, hj, hg, rfl, HJ⟩ := hrel
    have HJL : Hid ((joins SA (mvS a (SB.take j))).length ≤ 90000) := by
      show _ ≤ _
      have h1 := joins_len (mvS a (SB.take j)) SA
      rw [mvS_len] at h1
      have h2 := List.length_take_le j SB
      omega
    obtain ⟨RJ, hRJ⟩ : ∃ RJ, RJ = joins SA (mvS a (SB.take j)) := ⟨_, rfl⟩
    by_cases hltk : j < nb
    · have hkl : j < SB.length := by rw [← HNB.out]; exact hltk
      obtain ⟨_, _, hv3, _, _, hq3⟩ := HJ.out.fst.spans.open_
      obtain ⟨bb, off, hah, hb, ⟨⟨m3, m4⟩, ⟨f5, f6⟩, ⟨t1, t2⟩⟩, e0, e1, e2⟩ := hq3 j hkl
      injection hv3 with e3 e5 e4
      obtain rfl := e3.trans hah
      obtain ⟨g1, g2, g3⟩ := HOB.out j hkl
      have EJ := Lib.hid ((congrArg (joins SA) (mvS_take a hkl)).trans (joins_snoc _ _ _))
      rw [← hRJ] at EJ HJ HJL
      obtain ⟨e, he⟩ : ∃ e, e = sp SB j := ⟨_, rfl⟩
      rw [← he] at m3 m4 f5 f6 t1 t2 e0 e1 e2 g1 g2 g3 EJ
      obtain ⟨m, f, t⟩ := e
      simp only at m3 m4 f5 f6 t1 t2 e0 e1 e2 g1 g2 g3
      have HX := Lib.hid (HJ.out.alloc (.cells #[.int .i64 m, .int .i64 f, .int .i64 t] 26))
      have CM := Lib.hid (moved_any m f t a (wr.alloc (.cells #[.int .i64 m, .int .i64 f, .int .i64 t] 26)) ⟨m3, m4⟩ ⟨g1, by omega⟩ ⟨by omega, by omega⟩ ⟨by omega, by omega⟩)
      have CJ : Hid (∀ w', Below (wr.alloc (.cells #[.int .i64 m, .int .i64 f, .int .i64 t] 26)).heap.size (wr.alloc (.cells #[.int .i64 m, .int .i64 f, .int .i64 t] 26)) w' → Calls Try.prog 29 #[u, .agg #[.int .i64 m, .int .i64 (f + a), .int .i64 (t + a)]] w' (Joined W0.heap.size w' u (joinL RJ ⟨m, f + a, t + a⟩))) := fun w' hb => join_any m (f + a) (t + a) w' (HX.out.below hb).row (HX.out.below hb).old.size HJL.out ⟨m3, m4⟩ ⟨by omega, by omega⟩ ⟨by omega, by omega⟩
      clear hq3 he HJL hRJ
      try clear e4
      try clear e5
      try clear e3
      try clear hah
      go_wp2_with fail
      refine CM.out.mono ?_
      rintro e w3 ⟨rfl, b3⟩
      have J2 := Lib.hid (HX.out.below b3)
      have CJ2 := Lib.hid (CJ.out w3 b3)
      clear b3 CJ CM HX
      go_wp2_with fail
      refine CJ2.out.mono ?_
      rintro e w4 ⟨u3, rfl, K, g, hat⟩
      have J3 := Lib.hid (J2.out.join K g hat)
      clear K g hat CJ2 J2
      go_wp2_with fail
      go_roundg (nb - (j + 1))
      case measure => omega
      case rel => exact ⟨j + 1, u3, rfl, by omega, Nat.le_refl _, by go_num, by rw [EJ.out]; exact J3.out⟩
    · obtain rfl : j = nb := by omega
      have HRW : Hid (OwnSp W0.heap.size wr u RP ∧ Below W0.heap.size W0 wr) := by
        refine ⟨?_, HJ.out.old⟩
        rw [EP.out, ← EB.out]
        exact HJ.out.row
      obtain ⟨⟨c0, c1⟩, l2, _⟩ := BX.out wr HRW.out.2
      have CT2 := Lib.hid (CT.out wr HRW.out.2)
      clear HJ HJL hRJ EB CT
      go_wp2_with fail
      refine CT2.out.mono ?_
      rintro e w5 ⟨q5, rfl, hs5, b5⟩
      have HS5 := Lib.hid hs5
      have H5 : Hid (Below W0.heap.size W0 w5) := below_more HRW.out.2 b5
      have HR5 : Hid (Spans w5 u RP) := OwnSp.spans (OwnF.below HRW.out.1 b5)
      obtain ⟨_, l3, Q0⟩ := BX.out w5 H5.out
      have u0 : w5.cell? ⟨w.heap.size + 1, 0, none⟩ = some (.slice none 0 0) := by rw [cell_of_row _ _ _ _ _ _ Q0.out]; rfl
      have u1 : w5.cell? ⟨w.heap.size + 1, 1, none⟩ = some (.slice none 0 0) := by rw [cell_of_row _ _ _ _ _ _ Q0.out]; rfl
      have h0 : w5.frozen? ⟨w.heap.size + 1, 0, none⟩ = false := block_frozen Q0.out
      have h1 : w5.frozen? ⟨w.heap.size + 1, 1, none⟩ = false := block_frozen Q0.out
      obtain ⟨x1, x2, rfl⟩ := HR5.out.is_slice
      obtain ⟨x3, x4, rfl⟩ := HS5.out.is_slice
      have FIN := Lib.hid (give_end (w := w) (B := w.heap.size + 1) (Nat.le_add_right _ 1) Q0.out HR5.out HS5.out (below_more B0.out H5.out))
      obtain ⟨z0, z1⟩ := res_cells (a1 := x1) (n1 := RP.length) (c1 := x2) (a2 := x3) (n2 := RQ.length) (c2 := x4) Q0.out
      clear hs5 b5 HS5 HR5 HRW CT2 BX c0 c1
      generalize RP.length = lp at *
      generalize RQ.length = lq at *
      go_wp2_with fail
      exact bodyPost_ret (v := .agg #[.slice x1 lp x2, .slice x3 lq x4]) (by simp [results, Try.results16, go_sem, z0, z1]) rfl FIN.out
end Go.Proofs.Ytkbadhkjhkmlfaa.Rig
