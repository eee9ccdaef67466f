/- Segments, the plain text: Unput. -/
import Derived.Test.YtkgdfclpogiemaaGreatDoorFo
import Derived.Test.YtkgdfclpogiemaaGreatDoorSu
import Derived.Test.YtkgdfclpogiemaaGreatDoorUn
import Derived.Deep.RegionWith
import Derived.Deep.LoopGhost
set_option linter.unusedVariables false
set_option maxRecDepth 100000
namespace Go.Proofs.YtkgdfclpogiemaaGreatDoor.Seg
open Go.RowKit Go.Lib Go.Proofs.YtkgdfclpogiemaaGreatDoor.Rt Go.Proofs.YtkgdfclpogiemaaGreatDoor.Rig

/-- Between two rounds of Unput: what is left to be undone comes to the same. -/
structure UJ (B : Nat) (w : World) (i l : Int) (mk : Int) (FL : Bytes) (FS : List Sp) (FT : List St) (L1 : Bytes) (S1 : List Sp) (T1 : List St) (a3 : Option Addr) (n3 d3 : Nat) (a4 : Option Addr) (n4 d4 : Nat) (W : World) : Prop where
  r : W.heap[B]? = some (.cells #[.int .i64 i, .int .i64 l, .string (Let.mk L1), .slice a3 n3 d3, .slice a4 n4 d4] 25 (0, 0))
  p : Pl W (.agg #[.int .i64 i, .int .i64 l, .string (Let.mk L1), .slice a3 n3 d3, .slice a4 n4 d4]) i l L1 S1 T1
  hS : RS 0 0 (Let.cnt L1) S1
  hT : RT (Let.cnt L1) T1
  hr : Let.right L1 = true
  bl : L1.length ≤ 3000
  bt : T1.length ≤ 3000
  eL : unL L1 (ofS S1 mk) = FL
  eS : unS S1 (ofS S1 mk) = FS
  eT : unT T1 (ofS S1 mk) = FT
  z : W.heap[B + 1]? = some (.cells #[.int .i64 0, .int .i64 0, .string (ByteArray.mk #[]), .slice none 0 0, .slice none 0 0] 25 (0, 0))
  hb : Below B w W

theorem UJ.next {B : Nat} {w : World} {i l mk : Int} {FL L1 : Bytes} {FS S1 X : List Sp} {FT T1 : List St} {a3 a4 : Option Addr} {n3 d3 n4 d4 : Nat} {W : World} {x : Sp} {p q : Nat} (h : UJ B w i l mk FL FS FT L1 S1 T1 a3 n3 d3 a4 n4 d4 W) (e : ofS S1 mk = x :: X) (hp : x.f = p) (hq : x.t = q) :
    (p < q ∧ q ≤ Let.cnt L1) ∧ (ofS (pTake S1 p q) mk).length = X.length ∧ RS 0 0 (Let.cnt (Con.dropL L1 p q)) (pTake S1 p q) ∧ RT (Let.cnt (Con.dropL L1 p q)) (pTakeT T1 p q 0) ∧ Let.right (Con.dropL L1 p q) = true ∧ (Con.dropL L1 p q).length ≤ 3000 ∧ (pTakeT T1 p q 0).length ≤ 3000 ∧
      unL (Con.dropL L1 p q) (ofS (pTake S1 p q) mk) = FL ∧ unS (pTake S1 p q) (ofS (pTake S1 p q) mk) = FS ∧ unT (pTakeT T1 p q 0) (ofS (pTake S1 p q) mk) = FT := by
  obtain ⟨h1, h2, h3, h4, h5⟩ := take_first h.hS e
  rw [hp, hq] at h1
  rw [hq] at h2 h5
  have hpq : p < q := by omega
  have hqc : q ≤ Let.cnt L1 := by omega
  have hc := dropL_cnt (Nat.le_of_lt hpq) hqc h.hr
  have s1 := (pTake_ok (a := (p : Int)) (b := (q : Int)) h.hS (by omega) (by omega) (by omega)).1
  have s2 := pTakeT_right (mk := 0) h.hT (show (0 : Int) ≤ p by omega) (show (p : Int) ≤ q by omega) (by omega)
  have hn : ((Let.cnt (Con.dropL L1 p q) : Nat) : Int) = (Let.cnt L1 : Int) - ((q : Int) - p) := by rw [hc]; omega
  rw [hn]
  refine ⟨⟨hpq, hqc⟩, ?_, s1, s2, dropL_right (Nat.le_of_lt hpq) h.hr, Nat.le_trans (Con.dropL_len _ _ _) h.bl, Nat.le_trans (pTakeT_len0 _ _ _) h.bt, ?_, ?_, ?_⟩
  · rw [h1]; simp [mvS]
  · rw [h1, unL_comm h2 (Nat.le_of_lt hpq) hqc h.hr, ← h.eL, e, unL, hp, hq]
  · rw [h1, unS_comm h2 h.hS (by omega) (by omega) (by omega), ← h.eS, e, unS, hp, hq]
  · rw [h1, unT_comm h2 (by omega), ← h.eT, e, unT, hp, hq]

theorem UJ.put {B : Nat} {w w5 : World} {i l mk : Int} {FL L1 L2 : Bytes} {FS S2 X : List Sp} {FT T2 : List St} {a3 a4 a7 a8 : Option Addr} {n3 d3 n4 d4 d7 d8 : Nat} (nx : (ofS S2 mk).length = X.length ∧ RS 0 0 (Let.cnt L2) S2 ∧ RT (Let.cnt L2) T2 ∧ Let.right L2 = true ∧ L2.length ≤ 3000 ∧ T2.length ≤ 3000 ∧ unL L2 (ofS S2 mk) = FL ∧ unS S2 (ofS S2 mk) = FS ∧ unT T2 (ofS S2 mk) = FT) (r : w5.heap[B]? = some (.cells #[.int .i64 i, .int .i64 l, .string (Let.mk L1), .slice a3 n3 d3, .slice a4 n4 d4] 25 (0, 0))) (g5 : Spans w5 (.slice a7 S2.length d7) S2) (g6 : Sites w5 (.slice a8 T2.length d8) T2)
    (z : w5.heap[B + 1]? = some (.cells #[.int .i64 0, .int .i64 0, .string (ByteArray.mk #[]), .slice none 0 0, .slice none 0 0] 25 (0, 0))) (hb : Below B w w5) : UJ B w i l mk FL FS FT L2 S2 T2 a7 S2.length d7 a8 T2.length d8 (set5 w5 B (.int .i64 i) (.int .i64 l) (.string (Let.mk L2)) (.slice a7 S2.length d7) (.slice a8 T2.length d8)) := by
  obtain ⟨n1, n2, n3, n4, n5, n6, n7, n8, n9⟩ := nx
  exact ⟨set5_block r, ⟨_, _, rfl, Fl.set5same g5 r (str_ni _) (sl_ni _ _ _) (sl_ni _ _ _), Fl.set5same g6 r (str_ni _) (sl_ni _ _ _) (sl_ni _ _ _)⟩, n2, n3, n4, n5, n6, n7, n8, n9, (set5_other w5 _ _ _ _ _ (Nat.succ_ne_self _)).trans z, set5_below _ _ _ _ _ hb (Nat.le_refl _)⟩

set_option maxHeartbeats 24000000 in
theorem unput5_any {v : Value} {i l : Int} {L : Bytes} {S : List Sp} {T : List St} (mk : Int) (w : World) (h : Pl w v i l L S T) (hRS : RS 0 0 (Let.cnt L) S) (hRT : RT (Let.cnt L) T) (hr : Let.right L = true) (hmk : i64 mk) (b1 : L.length ≤ 3000) (hlt : T.length ≤ 3000) :
    Calls Tryz.prog 19 #[v, .int .i64 mk] w (GivePl w i l (unL L (ofS S mk)) (dropS (unS S (ofS S mk)) mk) (dropT (unT T (ofS S mk)) mk)) := by
  obtain ⟨sa, sc, ta, tc, rfl, hS, hT⟩ := h.open_
  have GM := Lib.hid hmk
  have HRS := Lib.hid hRS
  have HRT := Lib.hid hRT
  have HRR := Lib.hid hr
  have HB1 := Lib.hid b1
  have HLT := Lib.hid hlt
  obtain ⟨nX, hnX⟩ : ∃ n, n = (ofS S mk).length := ⟨_, rfl⟩
  have HNX := Lib.hid hnX
  have HPL : Hid (∀ w', Below w.heap.size w w' → Pl w' (.agg #[.int .i64 i, .int .i64 l, .string (Let.mk L), .slice sa S.length sc, .slice ta T.length tc]) i l L S T) := fun w' hb => h.below hb (Nat.le_refl _)
  obtain ⟨mk1, mk2⟩ := hmk
  obtain ⟨ls, hls⟩ : ∃ n, n = S.length := ⟨_, rfl⟩
  obtain ⟨lt, hlt'⟩ : ∃ n, n = T.length := ⟨_, rfl⟩
  rw [← hls, ← hlt'] at HPL ⊢
  obtain ⟨FL, hFL⟩ : ∃ F, F = unL L (ofS S mk) := ⟨_, rfl⟩
  obtain ⟨FS, hFS⟩ : ∃ F, F = unS S (ofS S mk) := ⟨_, rfl⟩
  obtain ⟨FT, hFT⟩ : ∃ F, F = unT T (ofS S mk) := ⟨_, rfl⟩
  have HEQ := Lib.hid (And.intro hFL (And.intro hFS hFT))
  rw [← hFL, ← hFS, ← hFT]
  clear hFL hFS hFT hnX hls hlt'
  have BB : Hid (Below w.heap.size w w) := Below.refl _ _
  obtain ⟨W1, hW1⟩ : ∃ W1, W1 = w.alloc (.cells #[.int .i64 i, .int .i64 l, .string (Let.mk L), .slice sa ls sc, .slice ta lt tc] 25) := ⟨_, rfl⟩
  obtain ⟨hb1, hr1, hl1⟩ := box_at hW1 (rfl : w.heap.size = w.heap.size)
  replace BB : Hid (Below w.heap.size w W1) := below_more BB.out hb1
  have RX : Hid (W1.heap[w.heap.size]? = some (.cells #[.int .i64 i, .int .i64 l, .string (Let.mk L), .slice sa ls sc, .slice ta lt tc] 25 (0, 0))) := hr1
  have HW1 := Lib.hid hW1
  clear hW1 hb1 hr1
  obtain ⟨W2, hW2⟩ : ∃ W2, W2 = W1.alloc (.cells #[.int .i64 0, .int .i64 0, .string (ByteArray.mk #[]), .slice none 0 0, .slice none 0 0] 25) := ⟨_, rfl⟩
  obtain ⟨hb2, hr2, hl2⟩ := box_at hW2 (hl1 : W1.heap.size = w.heap.size + 1)
  replace RX : Hid (W2.heap[w.heap.size]? = some (.cells #[.int .i64 i, .int .i64 l, .string (Let.mk L), .slice sa ls sc, .slice ta lt tc] 25 (0, 0))) := (hb2.block _ (row_lt RX.out)).trans RX.out
  replace BB : Hid (Below w.heap.size w W2) := below_more BB.out hb2
  have RZ : Hid (W2.heap[w.heap.size + 1]? = some (.cells #[.int .i64 0, .int .i64 0, .string (ByteArray.mk #[]), .slice none 0 0, .slice none 0 0] 25 (0, 0))) := hr2
  have HW2 := Lib.hid hW2
  clear hW2 hb2 hr2
  clear h hS hT hRS hRT hr b1 hlt
  go_enter Tryz.func19, Tryz.ntmps19
  go_upto_region 1 with fail
  rw [← HW1.out, ← HW2.out]
  clear HW1 HW2
  clear hl1 hl2
  have UJ0 : Hid (UJ w.heap.size w i l mk FL FS FT L S T sa ls sc ta lt tc W2) := ⟨RX.out, HPL.out _ BB.out, HRS.out, HRT.out, HRR.out, HB1.out, HLT.out, HEQ.out.1.symm, HEQ.out.2.1.symm, HEQ.out.2.2.symm, RZ.out, BB.out⟩
  clear RX RZ BB HPL HRS HRT HRR HB1 HLT HEQ
  go_loopg [5, 6] nX (fun g u5 u6 wr => ∃ (v5 v6 : Value) (L1 : Bytes) (S1 : List Sp) (T1 : List St) (a3 : Option Addr) (n3 d3 : Nat) (a4 : Option Addr) (n4 d4 : Nat), v5 = u5 ∧ v6 = u6 ∧ Hid (UJ w.heap.size w i l mk FL FS FT L1 S1 T1 a3 n3 d3 a4 n4 d4 wr) ∧ Hid ((ofS S1 mk).length ≤ g))
  case atStart => exact ⟨_, _, L, S, T, sa, ls, sc, ta, lt, tc, rfl, rfl, UJ0, Nat.le_of_eq HNX.out.symm⟩
  case round =>
    obtain ⟨v5, v6, L1, S1, T1, a3, n3, d3, a4, n4, d4, rfl, rfl, HU, HG⟩ := hrel
    clear UJ0 HNX
    have RB : Hid (wr.heap[w.heap.size]? = _) := HU.out.r
    have CK : Hid (∀ w', Below wr.heap.size wr w' → Calls Tryz.prog 40 #[.agg #[.int .i64 i, .int .i64 l, .string (Let.mk L1), .slice a3 n3 d3, .slice a4 n4 d4]] w' fun e w'' => e = .returned (.agg #[.slice a3 n3 d3, .slice a4 n4 d4]) ∧ Below w'.heap.size w' w'') := fun w' hb => marks5_any w' (Fl.below (pl_parts HU.out.p).1 hb (Nat.le_refl _)) (Fl.below (pl_parts HU.out.p).2 hb (Nat.le_refl _))
    have hlS := RS_len HU.out.hS (by omega)
    have hcl := Let.cnt_len L1
    have hbl := HU.out.bl
    have CO : Hid (∀ w', Below wr.heap.size wr w' → Calls Tryz.prog 48 #[.agg #[.slice a3 n3 d3, .slice a4 n4 d4], .int .i64 mk] w' (GivesOf w' (ofS S1 mk) (ofT T1 mk))) := fun w' hb => rof_any mk w' (Fl.below (pl_parts HU.out.p).1 hb (Nat.le_refl _)) (Fl.below (pl_parts HU.out.p).2 hb (Nat.le_refl _)) GM.out (by omega) (by have := HU.out.bt; omega)
    clear hlS hcl hbl
    obtain ⟨c0, c1, c2, c3, c4⟩ := five_cells RB.out
    go_wp2_with fail
    refine (CK.out _ (Below.refl _ _)).mono ?_
    rintro e w1 ⟨rfl, b1⟩
    have J1 := Lib.hid b1
    clear c0 c1 c2 c3 c4 b1 CK
    go_wp2_with fail
    refine (CO.out _ J1.out).mono ?_
    rintro e w2 ⟨v1, v2, rfl, g1, g2, b2⟩
    have J2 := Lib.hid (below_more J1.out b2)
    obtain ⟨s1, t1, rfl⟩ := g1.is_slice
    obtain ⟨pa, pc, rfl, _, _, _⟩ := g2.open_
    have G1 := Lib.hid g1
    clear g1 g2 b2 J1 CO
    generalize (ofT T1 mk).length = nT at *
    cases hX : ofS S1 mk with
    | nil =>
      have HX := Lib.hid hX
      clear hX
      have CF : Hid (∀ w', Below wr.heap.size wr w' → Calls Tryz.prog 21 #[.agg #[.int .i64 i, .int .i64 l, .string (Let.mk L1), .slice a3 n3 d3, .slice a4 n4 d4], .int .i64 mk] w' (GivePl w' i l L1 (dropS S1 mk) (dropT T1 mk))) := fun w' hb => forget5_any mk w' (HU.out.p.below hb (Nat.le_refl _)) (RT_pos HU.out.hT) GM.out (by have := RS_len HU.out.hS (by omega); have := Let.cnt_len L1; have := HU.out.bl; omega) (by have := HU.out.bt; omega)
      have POS : Hid (∀ s ∈ dropT T1 mk, 0 < s.m) := dropT_pos2 mk (RT_pos HU.out.hT)
      have E1 : Hid (L1 = FL ∧ S1 = FS ∧ T1 = FT) := ⟨by have := HU.out.eL; rwa [HX.out] at this, by have := HU.out.eS; rwa [HX.out] at this, by have := HU.out.eT; rwa [HX.out] at this⟩
      obtain ⟨x0, x1, x2, x3, x4⟩ := five_cells ((J2.out.block _ (row_lt RB.out)).trans RB.out)
      simp only [List.length_nil]
      go_wp2_with fail
      refine (CF.out _ J2.out).mono ?_
      rintro e w3 ⟨v3, rfl, o3, b3⟩
      obtain ⟨a5, d5, a6, d6, rfl, g3, g4⟩ := o3.open_
      have J3 := Lib.hid (below_more J2.out b3)
      have Z3 := Lib.hid ((J3.out.block _ (row_lt HU.out.z)).trans HU.out.z)
      have G3 := Lib.hid g3
      have G4 := Lib.hid g4
      clear x0 x1 x2 x3 x4 g3 g4 b3 o3
      have FIN0 := give_pl (w := w) (i := i) (l := l) (L := L1) (Nat.le_add_right _ 1) Z3.out G3.out G4.out POS.out (HU.out.hb.trans (J3.out.mono HU.out.hb.size))
      rw [E1.out.1, E1.out.2.1, E1.out.2.2] at FIN0
      have FIN := Lib.hid FIN0
      have E2 : Hid (L1 = FL) := E1.out.1
      have E3 : Hid ((dropS S1 mk).length = (dropS FS mk).length ∧ (dropT T1 mk).length = (dropT FT mk).length) := ⟨by rw [E1.out.2.1], by rw [E1.out.2.2]⟩
      rw [E2.out, E3.out.1, E3.out.2]
      obtain ⟨k0, k1, k2, k3, k4⟩ := five_cells Z3.out
      obtain ⟨f0, f1, f2, f3, f4⟩ := five_free Z3.out
      obtain ⟨y0, y1, y2, y3, y4⟩ := set5_cells (a0 := .int .i64 i) (a1 := .int .i64 l) (a2 := .string (Let.mk FL)) (a3 := .slice a5 (dropS FS mk).length d5) (a4 := .slice a6 (dropT FT mk).length d6) Z3.out
      clear FIN0
      go_wp2_with fail
      exact bodyPost_ret (v := .agg #[.int .i64 i, .int .i64 l, .string (Let.mk FL), .slice a5 (dropS FS mk).length d5, .slice a6 (dropT FT mk).length d6]) (by simp only [set5] at y0 y1 y2 y3 y4; simp [results, Tryz.results19, go_sem, y0, y1, y2, y3, y4]) rfl ⟨_, rfl, FIN.out.1, FIN.out.2⟩
    | cons x X =>
      obtain ⟨_, _, hf0, hft, _⟩ := take_first HU.out.hS hX
      obtain ⟨p, hp⟩ := Int.eq_ofNat_of_zero_le hf0
      obtain ⟨q, hq⟩ := Int.eq_ofNat_of_zero_le (Int.le_trans hf0 (Int.le_of_lt hft))
      obtain ⟨⟨n1, n2⟩, n3', n4', n5, n6, n7, n8, n9, n10, n11⟩ := HU.out.next hX hp hq
      have HG2 := HG.out
      rw [hX, List.length_cons] at HG2
      replace HG2 := Lib.hid HG2
      obtain ⟨ga, gc, ge, _, _, gcs⟩ := G1.out.open_
      injection ge with e1 e2 e3
      subst e1
      subst e3
      clear e2
      rw [hX] at gcs
      obtain ⟨bb, oo, rfl, hbb, _, q0, q1, q2⟩ := gcs 0 (by simp)
      simp only [Nat.zero_mul, Nat.add_zero] at q0 q1 q2
      have hsp : sp (x :: X) 0 = x := rfl
      rw [hsp] at q0 q1 q2
      rw [hp] at q1
      rw [hq] at q2
      have HQ : Hid (∀ w', Below w2.heap.size w2 w' → w'.cell? ⟨bb, oo + 1, none⟩ = some (.int .i64 p) ∧ w'.cell? ⟨bb, oo + 2, none⟩ = some (.int .i64 q)) := fun w' hb => ⟨(hb.cell (p := ⟨bb, oo + 1, none⟩) hbb).trans q1, (hb.cell (p := ⟨bb, oo + 2, none⟩) hbb).trans q2⟩
      have NX : Hid ((ofS (pTake S1 p q) mk).length = X.length ∧ RS 0 0 (Let.cnt (Con.dropL L1 p q)) (pTake S1 p q) ∧ RT (Let.cnt (Con.dropL L1 p q)) (pTakeT T1 p q 0) ∧ Let.right (Con.dropL L1 p q) = true ∧ (Con.dropL L1 p q).length ≤ 3000 ∧ (pTakeT T1 p q 0).length ≤ 3000 ∧ unL (Con.dropL L1 p q) (ofS (pTake S1 p q) mk) = FL ∧ unS (pTake S1 p q) (ofS (pTake S1 p q) mk) = FS ∧ unT (pTakeT T1 p q 0) (ofS (pTake S1 p q) mk) = FT) := ⟨n3', n4', n5, n6, n7, n8, n9, n10, n11⟩
      have CD : Hid (∀ w', Below wr.heap.size wr w' → Calls Tryz.prog 11 #[.agg #[.int .i64 i, .int .i64 l, .string (Let.mk L1), .slice a3 n3 d3, .slice a4 n4 d4], .int .i64 p, .int .i64 ((q : Int) - p), .int .i64 0] w' (GiveDelP w' i l (Con.dropL L1 p q) (pTake S1 p q) (pTakeT T1 p q 0) (Let.cut L1 p q))) := fun w' hb => by
        have hcl := Let.cnt_len L1
        have hbl := HU.out.bl
        exact delete5_any p q p ((q : Int) - p) 0 w' (HU.out.p.below hb (Nat.le_refl _)) HU.out.hS HU.out.hT (by unfold placeI; omega) (by unfold strTo placeI; omega) (by omega) n2 (by omega) (by omega) (by omega) (by omega) ⟨by omega, by omega⟩ HU.out.bl HU.out.bt
      have hq3 : q ≤ 3000 := by have := Let.cnt_len L1; have := HU.out.bl; omega
      have hpq : (p : Int) ≤ q := by omega
      have hq4 : (q : Int) ≤ 3000 := by omega
      have POS : Hid (∀ s ∈ pTakeT T1 p q 0, 0 < s.m) := RT_pos n5
      obtain ⟨nl, hnl⟩ : ∃ n, n = (x :: X).length := ⟨_, rfl⟩
      have hnl1 : 1 ≤ nl := by rw [hnl]; simp
      rw [← hnl]
      have g0 : ((nl : Int) == 0) = false := by rw [beq_eq_false_iff_ne]; omega
      have g00 : ¬ ((nl : Int) = 0) := by omega
      have gp : 0 < nl := by omega
      have zz : IntKind.i64.wrap ((q : Int) - p) = (q : Int) - p := IntWalk.i64_in _ (by omega)
      clear hX hp hq hf0 hft n1 n2 n3' n4' n5 n6 n7 n8 n9 n10 n11 gcs q0 q1 q2 hsp hnl hbb G1 hq3
      generalize pTake S1 p q = S2 at *
      generalize pTakeT T1 p q 0 = T2 at *
      generalize Con.dropL L1 p q = L2 at *
      generalize Let.cut L1 p q = M2 at *
      obtain ⟨x0, x1, x2, x3, x4⟩ := five_cells ((J2.out.block _ (row_lt RB.out)).trans RB.out)
      obtain ⟨h1, h2⟩ := HQ.out w2 (Below.refl _ _)
      have KR := J2
      go_upto_region 4 with fail
      go_region_with (go_at_call 11; (with_reducible refine (CD.out _ ?_).mono ?_); (focus ((repeat first | with_reducible exact KR.out | with_reducible apply Below.drew | with_reducible apply below_drews); done)); rintro e w5 ⟨v5, rfl, o5, b5⟩; obtain ⟨a7, d7, a8, d8, rfl, g5, g6⟩ := o5.open_; have jj := below_more (B := wr.heap.size) (w := wr) (by (repeat first | with_reducible exact KR.out | with_reducible apply Below.drew | with_reducible apply below_drews)) b5; have R5 := Lib.hid ((jj.block _ (row_lt RB.out)).trans RB.out); obtain ⟨m0, m1, m2, m3, m4⟩ := five_cells R5.out; obtain ⟨f0, f1, f2, f3, f4⟩ := five_free R5.out; have UF := Lib.hid (UJ.put NX.out R5.out g5 g6 ((jj.block _ (row_lt HU.out.z)).trans HU.out.z) (HU.out.hb.trans (jj.mono HU.out.hb.size))); clear g5 g6 jj b5 o5)
      all_goals go_wp2_with fail
      all_goals go_roundg X.length
      all_goals first
        | exact HG2.out
        | exact ⟨_, _, L2, S2, T2, a7, _, d7, a8, _, d8, rfl, rfl, UF, Nat.le_of_eq NX.out.1⟩
end Go.Proofs.YtkgdfclpogiemaaGreatDoor.Seg
