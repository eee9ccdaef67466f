/- For every plain segment and everything that is asked (two numbers, a mark, a quota, a text): SegmentDelete answers true, and its arguments read behind the call as before. No condition. THE TIED CARD: unicode/utf8's two tables start as the program's text lays them. -/
import Derived.Test.YtkgdfclpogiemaaGreatDoorRows
import Derived.Test.YtkgdfclpogiemaaGreatDoorTie
import Derived.Test.YtkgdfclpogiemaaGreatDoorCards
import Derived.Test.YtkgdfclpogiemaaGreatDoorLift
import Derived.ProofKit
import Derived.Lib.LaidU8T
import Derived.PinnedBridge
import Derived.Lay
import Derived.LaidOnce
import Derived.SevenTiedAt
import Derived.Test.YtkgdfclpogiemaaGreatDoorSu
import Derived.Test.YtkgdfclpogiemaaGreatDoorSt
import Derived.Deep.RegionHeld3
import Derived.Deep.DeepCutAuto
import Derived.Deep.CutBlock
set_option linter.unusedVariables false
namespace Go.Proofs.YtkgdfclpogiemaaGreatDoor.segmentDelete
open Go.ChangeShapes Go.WideShapes Go.ChangeAt Go.RowKit Go.Lib Go.Shelf Go.Proofs.YtkgdfclpogiemaaGreatDoor.Lift Go.Proofs.YtkgdfclpogiemaaGreatDoor.Rt Go.Proofs.YtkgdfclpogiemaaGreatDoor.Rig Go.Proofs.YtkgdfclpogiemaaGreatDoor.Seg
open Go.ChangeMaps (open_string shut_string)

theorem own : ownKnob Tryz.prog.godebug = none := by kernel_rfl
theorem laidOut : laidOutB Tryz.prog = true := by kernel_rfl

theorem e1 : Con.dropL [97, 98, 99] (1 : Nat) (2 : Nat) = [97, 99] := by decide +kernel
theorem e2 : Let.cut [97, 98, 99] (1 : Nat) (2 : Nat) = [98] := by decide +kernel
theorem e3 : pTake [] (1 : Nat) (2 : Nat) = [] := by decide +kernel
theorem e4 : pTakeT [] (1 : Nat) (2 : Nat) 7 = [⟨7, 1⟩] := by decide +kernel
theorem e5 : placeI (Let.cnt [97, 98, 99]) 1 = (1 : Nat) := by decide +kernel
theorem e6 : strTo (Let.cnt [97, 98, 99]) 1 1 = (2 : Nat) := by decide +kernel
theorem e7 : hasB [] [⟨7, 1⟩] 7 = true := by decide +kernel
theorem pTakeT_len5 (T : List St) (a b mk : Int) : (pTakeT T a b mk).length ≤ T.length + 1 := by
  unfold pTakeT
  have h1 := mapT_len (cutS a b) T T.length
  unfold endT
  split
  · have := siteL_len (mapT (cutS a b) T T.length) ⟨mk, a⟩
    omega
  · omega
/-- Both take away the same. -/
theorem pair5 {i l : Int} {L : Bytes} {S : List Sp} {T : List St} (da dn dm : Int) (hL : L.length ≤ 1500) (hS : S.length ≤ 300) (hTl : T.length ≤ 300) (hRS : RS 0 0 (Let.cnt L) S) (hRT : RT (Let.cnt L) T) (ga : i64 da) (gn : i64 dn) (gm : i64 dm) :
    ∃ (L1 M1 : Bytes) (S1 : List Sp) (T1 : List St), (∀ w v, Sg w v i l L S T → Calls Tryz.prog 6 #[v, .int .i64 da, .int .i64 dn, .int .i64 dm] w (GiveDel w i l L1 S1 T1 M1)) ∧
      (∀ w v, Pl w v i l L S T → Calls Tryz.prog 11 #[v, .int .i64 da, .int .i64 dn, .int .i64 dm] w (GiveDelP w i l L1 S1 T1 M1)) ∧ (∀ s ∈ T1, 0 < s.m) ∧ L1.length ≤ 10000 ∧ M1.length ≤ 10000 ∧ S1.length ≤ 10000 ∧ T1.length ≤ 10000 := by
  obtain ⟨p, e, hp, he, hpe, hec⟩ := str_nat (Let.cnt L) da dn
  have hcl := Let.cnt_len L
  have hl := dropL_cut_len L hpe
  have h1 := (pTake_ok (a := p) (b := e) hRS (by omega) (by omega) (by omega)).1
  have h2 := pTakeT_right hRT (a := p) (b := e) (mk := dm) (by omega) (by omega) (by omega)
  have h3 := RS_len h1 (by omega)
  have h4 := pTakeT_len5 T p e dm
  exact ⟨Con.dropL L p e, Let.cut L p e, pTake S p e, pTakeT T p e dm, fun w v hv => delete_any p e da dn dm w hv hRS hRT hp he hpe hec ga.1 ga.2 gn.1 gn.2 gm (by omega) (by omega), fun w v hv => delete5_any p e da dn dm w hv hRS hRT hp he hpe hec ga.1 ga.2 gn.1 gn.2 gm (by omega) (by omega), RT_pos h2, by omega, by omega, by omega, by omega⟩

set_option maxRecDepth 100000 in
set_option maxHeartbeats 8000000 in
theorem walk (w : World) (hT : Tabs w) {v : Value} {i l : Int} {L : Bytes} {S : List Sp} {T : List St} (h : Arg w v i l L S T) (d : Deed) (hd : d.good) :
    Calls Tryz.prog 3 #[v, d.val] w fun e w' => e = .returned (.bool true) ∧ Below w.heap.size w w' := by
  obtain ⟨da, dn, dm, dq, dt⟩ := d
  obtain ⟨ga, gn, gm, gq, gt⟩ := hd
  show Calls Tryz.prog 3 #[v, .agg #[.int .i64 da, .int .i64 dn, .int .i64 dm, .int .i64 dq, .string (Let.mk dt)]] w _
  simp only at ga gn gm gq gt
  have C1 : Hid (∀ w', Below w.heap.size w w' → Calls Tryz.prog 5 #[.string (ByteArray.mk #[97, 98, 99])] w' (GiveSg w' 1 2 [97, 98, 99] [] [])) := fun w' hb => text_any [97, 98, 99] w' (by decide) (by decide +kernel) (hT.below hb)
  have C2 : Hid (∀ w' x, Sg w' x 1 2 [97, 98, 99] [] [] → Calls Tryz.prog 6 #[x, .int .i64 1, .int .i64 1, .int .i64 7] w' (GiveDel w' 1 2 [97, 99] [] [⟨7, 1⟩] [98])) := fun w' x hx => by
    have := delete_any 1 2 1 1 7 w' hx trivial ⟨List.Pairwise.nil, by simp⟩ e5 e6 (by omega) (by decide +kernel) (by omega) (by omega) (by omega) (by omega) ⟨by omega, by omega⟩ (by decide) (by simp)
    rwa [e1, e2, e3, e4] at this
  have C4 : Hid (∀ w' x, Sg w' x 1 2 [97, 99] [] [⟨7, 1⟩] → Calls Tryz.prog 7 #[x] w' fun e w'' => ∃ q, e = .returned (.pointer q) ∧ IsRope w'' [97, 99] (.pointer q) ∧ Below w'.heap.size w' w'') := fun w' x hx => rope_any w' hx
  have C5 : Hid (∀ w' u, IsRope w' [97, 99] u → Calls Tryz.prog 8 #[u] w' fun e w'' => e = .returned (.string (ByteArray.mk #[97, 99])) ∧ Below w'.heap.size w' w'') := fun w' u hu => Con.text_is w' hu (by decide)
  have C6 : Hid (∀ w' u, IsRope w' [98] u → Calls Tryz.prog 8 #[u] w' fun e w'' => e = .returned (.string (ByteArray.mk #[98])) ∧ Below w'.heap.size w' w'') := fun w' u hu => Con.text_is w' hu (by decide)
  have C7 : Hid (∀ w' x, Sg w' x 1 2 [97, 99] [] [⟨7, 1⟩] → Calls Tryz.prog 9 #[x, .int .i64 7] w' fun e w'' => e = .returned (.bool true) ∧ Below w'.heap.size w' w'') := fun w' x hx => by
    have := shas_any 7 w' hx ⟨by omega, by omega⟩ (by decide) (by decide)
    rwa [e7] at this
  have CN : Hid (loadB L S T dt = false → ∀ w', Below w.heap.size w w' → Calls Tryz.prog 10 #[v, .agg #[.int .i64 da, .int .i64 dn, .int .i64 dm, .int .i64 dq, .string (Let.mk dt)]] w' fun e w'' => e = .returned (.tuple #[.agg #[.int .i64 0, .int .i64 0, .pointer none, .slice none 0 0, .slice none 0 0], .bool false]) ∧ Below w'.heap.size w' w'') := fun hB w' hb => loaded_no w' da dn dm dq dt (h.pl.below hb (Nat.le_refl _)) hB (hT.below hb) gt
  have CY : Hid (loadB L S T dt = true → ∀ w', Below w.heap.size w w' → Calls Tryz.prog 10 #[v, .agg #[.int .i64 da, .int .i64 dn, .int .i64 dm, .int .i64 dq, .string (Let.mk dt)]] w' (GiveIns w' true i l L S T)) := fun hB w' hb => loaded_yes w' da dn dm dq dt (h.pl.below hb (Nat.le_refl _)) hB (hT.below hb) gt
  have HPL : Hid (∀ w', Below w.heap.size w w' → Pl w' v i l L S T) := fun w' hb => h.pl.below hb (Nat.le_refl _)
  obtain ⟨sa, sc, ta, tc, rfl, _, _⟩ := h.pl.open_
  obtain ⟨ls, hls⟩ : ∃ ls, ls = S.length := ⟨_, rfl⟩
  obtain ⟨lt, hlt⟩ : ∃ lt, lt = T.length := ⟨_, rfl⟩
  obtain ⟨W0, hW0⟩ : ∃ W0, W0 = (w.alloc (.cells #[.int .i64 i, .int .i64 l, .string (Let.mk L), .slice sa ls sc, .slice ta lt tc] 25)).alloc (.cells #[.int .i64 da, .int .i64 dn, .int .i64 dm, .int .i64 dq, .string (Let.mk dt)] 27) := ⟨_, rfl⟩
  obtain ⟨b0, r0, r1, l0⟩ := box2 w #[.int .i64 i, .int .i64 l, .string (Let.mk L), .slice sa ls sc, .slice ta lt tc] #[.int .i64 da, .int .i64 dn, .int .i64 dm, .int .i64 dq, .string (Let.mk dt)] 25 27
  rw [← hW0] at b0 r0 r1 l0
  have BX : Hid (∀ w', Below W0.heap.size W0 w' → (w'.cell? ⟨w.heap.size, 0, none⟩ = some (.int .i64 i) ∧ w'.cell? ⟨w.heap.size, 1, none⟩ = some (.int .i64 l) ∧ w'.cell? ⟨w.heap.size, 2, none⟩ = some (.string (Let.mk L)) ∧ w'.cell? ⟨w.heap.size, 3, none⟩ = some (.slice sa ls sc) ∧ w'.cell? ⟨w.heap.size, 4, none⟩ = some (.slice ta lt tc)) ∧ (w'.cell? ⟨w.heap.size + 1, 0, none⟩ = some (.int .i64 da) ∧ w'.cell? ⟨w.heap.size + 1, 1, none⟩ = some (.int .i64 dn) ∧ w'.cell? ⟨w.heap.size + 1, 2, none⟩ = some (.int .i64 dm) ∧ w'.cell? ⟨w.heap.size + 1, 3, none⟩ = some (.int .i64 dq) ∧ w'.cell? ⟨w.heap.size + 1, 4, none⟩ = some (.string (Let.mk dt)))) := fun w' hb => ⟨five_cells ((hb.block _ (by omega)).trans r0), five_cells ((hb.block _ (by omega)).trans r1)⟩
  have KB : Hid (∀ w', Below W0.heap.size W0 w' → Below w.heap.size w w') := fun w' hb => below_more b0 hb
  have HW0 := Lib.hid hW0
  simp only [← hls, ← hlt] at CN CY HPL ⊢
  have GA := Lib.hid ga
  have GN := Lib.hid gn
  have GM := Lib.hid gm
  have h64 := And.intro ga (And.intro gn gm)
  obtain ⟨⟨ga1, ga2⟩, ⟨gn1, gn2⟩, ⟨gm1, gm2⟩⟩ := h64
  clear h b0 r0 r1 l0 hW0 hT hls hlt ga gn gm gq gt
  go_enter Tryz.func3, Tryz.ntmps3
  go_upto_region 1 with fail
  rw [← HW0.out]
  go_wp2_with fail
  refine (C1.out _ (KB.out _ (Below.refl _ _))).mono ?_
  rintro e w1 ⟨v1, rfl, o1, b1⟩
  have K1 : Below W0.heap.size W0 w1 := b1
  obtain ⟨q1, a1, d1, a2, d2, rfl, _, _, _⟩ := o1.open_
  go_wp2_with fail
  refine (C2.out _ _ o1).mono ?_
  rintro e w3 ⟨v3, qr, rfl, o3, or3, b3⟩
  have K3 : Below W0.heap.size W0 w3 := below_more K1 b3
  obtain ⟨q3, a3, d3, a4, d4, rfl, _, _, _⟩ := o3.open_
  obtain ⟨W4, hW4⟩ : ∃ W4, W4 = w3.alloc (.cells #[.int .i64 1, .int .i64 2, .pointer q3, .slice a3 ([] : List Sp).length d3, .slice a4 ([⟨7, 1⟩] : List St).length d4] 32) := ⟨_, rfl⟩
  obtain ⟨b4, r4, l4⟩ := box1 w3 #[.int .i64 1, .int .i64 2, .pointer q3, .slice a3 ([] : List Sp).length d3, .slice a4 ([⟨7, 1⟩] : List St).length d4] 32
  rw [← hW4] at b4 r4 l4
  have K4 : Below W0.heap.size W0 W4 := below_more K3 b4
  have OX4 : Hid (∀ w', Below W4.heap.size W4 w' → Sg w' (.agg #[.int .i64 1, .int .i64 2, .pointer q3, .slice a3 ([] : List Sp).length d3, .slice a4 ([⟨7, 1⟩] : List St).length d4]) 1 2 [97, 99] [] [⟨7, 1⟩]) := fun w' hb => (o3.below b4 (Nat.le_refl _)).below hb (Nat.le_refl _)
  have BV : Hid (∀ w', Below W4.heap.size W4 w' → w'.cell? ⟨w3.heap.size, 0, none⟩ = some (.int .i64 1) ∧ w'.cell? ⟨w3.heap.size, 1, none⟩ = some (.int .i64 2) ∧ w'.cell? ⟨w3.heap.size, 2, none⟩ = some (.pointer q3) ∧ w'.cell? ⟨w3.heap.size, 3, none⟩ = some (.slice a3 0 d3) ∧ w'.cell? ⟨w3.heap.size, 4, none⟩ = some (.slice a4 1 d4)) := fun w' hb => five_cells ((hb.block _ (by omega)).trans r4)
  have O4 : Hid (Sg W4 (.agg #[.int .i64 1, .int .i64 2, .pointer q3, .slice a3 ([] : List Sp).length d3, .slice a4 ([⟨7, 1⟩] : List St).length d4]) 1 2 [97, 99] [] [⟨7, 1⟩]) := o3.below b4 (Nat.le_refl _)
  have OR4 : Hid (∀ w', Below W4.heap.size W4 w' → IsRope w' [98] (.pointer qr)) := fun w' hb => (or3.below b4 (Nat.le_refl _)).below hb (Nat.le_refl _)
  obtain ⟨c0, c1, c2, c3, c4⟩ := five_cells r4
  have HW4 := Lib.hid hW4
  clear o1 o3 or3 b1 b3 b4 r4 l4 hW4 K1 K3 C1 C2
  go_upto_region 2 with fail
  try simp only [List.length_nil, List.length_cons] at HW4 O4 c3 c4 OX4
  rw [← HW4.out]
  go_wp2_with fail
  refine (C4.out _ _ O4.out).mono ?_
  rintro e w5 ⟨q5, rfl, o5, b5⟩
  have J5 : Below W4.heap.size W4 w5 := b5
  go_wp2_with fail
  refine (C5.out _ _ o5).mono ?_
  rintro e w6 ⟨rfl, b6⟩
  have J6 : Below W4.heap.size W4 w6 := below_more J5 b6
  clear c0 c1 c2 c3 c4 o5 b5 b6 J5
  go_wp2_with fail
  refine (C6.out _ _ (OR4.out _ J6)).mono ?_
  rintro e w7a ⟨rfl, b7a⟩
  have J7 : Below W4.heap.size W4 w7a := below_more J6 b7a
  obtain ⟨c0, c1, c2, c3, c4⟩ := BV.out w7a J7
  go_wp2_with fail
  refine (C7.out _ _ (OX4.out _ J7)).mono ?_
  rintro e w7 ⟨rfl, b7⟩
  have K7 : Below W0.heap.size W0 w7 := below_more K4 (below_more J7 b7)
  clear b7 b7a J6 J7 O4 OX4 OR4 C4 C5 C6 C7 HW4 K4 BV c0 c1 c2 c3 c4
  obtain ⟨⟨c0, c1, c2, c3, c4⟩, ⟨x0, x1, x2, x3, x4⟩⟩ := BX.out w7 K7
  cases hB : loadB L S T dt with
  | false =>
    have CN2 := Lib.hid (CN.out hB w7 (KB.out _ K7))
    clear CN CY hB
    go_wp2_with fail
    refine CN2.out.mono ?_
    rintro e w8 ⟨rfl, b8⟩
    have FIN := Lib.hid ((KB.out _ (below_more K7 b8)).alloc (by have := (KB.out _ (below_more K7 b8)).size; omega) (.cells #[.int .i64 0, .int .i64 0, .pointer none, .slice none 0 0, .slice none 0 0] 32))
    clear b8 K7
    go_wp2_with fail
    go_ret
    exact ⟨rfl, FIN.out⟩
  | true =>
    have hB2 := hB
    unfold loadB right5 at hB2
    rw [Bool.and_eq_true, Bool.and_eq_true, Bool.and_eq_true, Bool.and_eq_true] at hB2
    obtain ⟨hs, ⟨hrL, hmm⟩, hq, hrt⟩ := hB2
    obtain ⟨m1, m2, m3⟩ : L.length ≤ 1500 ∧ S.length ≤ 300 ∧ T.length ≤ 300 := of_decide_eq_true hs
    obtain ⟨hRS, hRT⟩ := mright_of hmm
    have CY2 := Lib.hid (CY.out hB w7 (KB.out _ K7))
    have PCL : L.length ≤ 10000 := by omega
    obtain ⟨L1, M1, S1, T1, PA, PB, PC, n1, n2, n3, n4⟩ := pair5 (i := i) (l := l) da dn dm m1 m2 m3 hRS hRT GA.out GN.out GM.out
    have CH : Hid (∀ w' x, Sg w' x i l L S T → Calls Tryz.prog 9 #[x, .int .i64 dm] w' fun e w'' => e = .returned (.bool (hasB S T dm)) ∧ Below w'.heap.size w' w'') := fun w' x hx => shas_any dm w' hx GM.out (by omega) (by omega)
    have CI : Hid (∀ w' x, Pl w' x i l L S T → Calls Tryz.prog 13 #[x, .int .i64 dm] w' fun e w'' => e = .returned (.bool (hasB S T dm)) ∧ Below w'.heap.size w' w'') := fun w' x hx => has5_any dm w' hx GM.out (by omega) (by omega)
    have CQ : Hid (∀ w' x u, Sg w' x i l L1 S1 T1 → Pl w' u i l L1 S1 T1 → Calls Tryz.prog 12 #[x, u] w' fun e w'' => e = .returned (.bool true) ∧ Below w'.heap.size w' w'') := fun w' x u hx hu => has_any w' hx hu PC (by omega) (by omega) (by omega)
    have CG : Hid (∀ w' x u, Sg w' x i l L S T → Pl w' u i l L S T → Calls Tryz.prog 12 #[x, u] w' fun e w'' => e = .returned (.bool true) ∧ Below w'.heap.size w' w'') := fun w' x u hx hu => has_any w' hx hu (RT_pos hRT) (by omega) (by omega) (by omega)
    have HCT : Hid (∀ w' u, IsRope w' M1 u → Calls Tryz.prog 8 #[u] w' fun e w'' => e = .returned (.string (Let.mk M1)) ∧ Below w'.heap.size w' w'') := fun w' u hu => Con.text_is w' hu (by omega)
    replace PA := Lib.hid PA
    replace PB := Lib.hid PB
    clear n1 n2 n3 n4 PC PCL
    clear CN CY hB hs hrL hmm hq hrt m1 m2 m3 hRS hRT
    go_wp2_with fail
    refine CY2.out.mono ?_
    rintro e w8 ⟨v8, rfl, o8, b8⟩
    have K8 : Below W0.heap.size W0 w8 := below_more K7 b8
    obtain ⟨q8, a8, d8, a9, d9, rfl, _, _, _⟩ := o8.open_
    obtain ⟨n8, hn8⟩ : ∃ n8, n8 = S.length := ⟨_, rfl⟩
    obtain ⟨n9, hn9⟩ : ∃ n9, n9 = T.length := ⟨_, rfl⟩
    rw [← hn8, ← hn9] at o8 ⊢
    obtain ⟨W9, hW9⟩ : ∃ W9, W9 = w8.alloc (.cells #[.int .i64 i, .int .i64 l, .pointer q8, .slice a8 n8 d8, .slice a9 n9 d9] 32) := ⟨_, rfl⟩
    obtain ⟨b9, r9, l9⟩ := box1 w8 #[.int .i64 i, .int .i64 l, .pointer q8, .slice a8 n8 d8, .slice a9 n9 d9] 32
    rw [← hW9] at b9 r9 l9
    have K9 : Below W0.heap.size W0 W9 := below_more K8 b9
    have O9 : Hid (∀ w', Below W9.heap.size W9 w' → Sg w' (.agg #[.int .i64 i, .int .i64 l, .pointer q8, .slice a8 n8 d8, .slice a9 n9 d9]) i l L S T) := fun w' hb => (o8.below b9 (Nat.le_refl _)).below hb (Nat.le_refl _)
    have BY : Hid (∀ w', Below W9.heap.size W9 w' → (w'.cell? ⟨w8.heap.size, 0, none⟩ = some (.int .i64 i) ∧ w'.cell? ⟨w8.heap.size, 1, none⟩ = some (.int .i64 l) ∧ w'.cell? ⟨w8.heap.size, 2, none⟩ = some (.pointer q8) ∧ w'.cell? ⟨w8.heap.size, 3, none⟩ = some (.slice a8 n8 d8) ∧ w'.cell? ⟨w8.heap.size, 4, none⟩ = some (.slice a9 n9 d9))) := fun w' hb => five_cells ((hb.block _ (by omega)).trans r9)
    have HW9 := Lib.hid hW9
    clear o8 b8 b9 r9 l9 hW9 K7 K8 CY2 hn8 hn9 c0 c1 c2 c3 c4 x0 x1 x2 x3 x4
    go_upto_region 5 with fail
    rw [← HW9.out]
    obtain ⟨⟨c0, c1, c2, c3, c4⟩, ⟨x0, x1, x2, x3, x4⟩⟩ := BX.out W9 K9
    obtain ⟨e0, e1, e2, e3, e4⟩ := BY.out W9 (Below.refl _ _)
    go_wp2_with fail
    refine (PA.out _ _ (O9.out _ (Below.refl _ _))).mono ?_
    rintro e w11 ⟨v11, q11, rfl, o11, or11, b11⟩
    have K11 := below_more K9 b11
    obtain ⟨qa, a11, d11, a12, d12, rfl, _, _, _⟩ := o11.open_
    obtain ⟨y1, hy1⟩ : ∃ y1, y1 = S1.length := ⟨_, rfl⟩
    obtain ⟨y2, hy2⟩ : ∃ y2, y2 = T1.length := ⟨_, rfl⟩
    rw [← hy1, ← hy2] at o11 ⊢
    obtain ⟨W12, hW12⟩ : ∃ W12, W12 = w11.alloc (.cells #[.int .i64 i, .int .i64 l, .pointer qa, .slice a11 y1 d11, .slice a12 y2 d12] 32) := ⟨_, rfl⟩
    obtain ⟨b12, r12, l12⟩ := box1 w11 #[.int .i64 i, .int .i64 l, .pointer qa, .slice a11 y1 d11, .slice a12 y2 d12] 32
    rw [← hW12] at b12 r12 l12
    have K12 : Below W0.heap.size W0 W12 := below_more K11 b12
    have J12 : Below W9.heap.size W9 W12 := below_more b11 b12
    have O12 := Lib.hid (o11.below b12 (Nat.le_refl _))
    have OR12 := Lib.hid (or11.below b12 (Nat.le_refl _))
    have HR12 := Lib.hid r12
    have HW12 := Lib.hid hW12
    clear o11 or11 b11 b12 r12 l12 hW12 K11 hy1 hy2 c0 c1 c2 c3 c4 x0 x1 x2 x3 x4 e0 e1 e2 e3 e4 HW9 PA
    go_upto_region 8 with fail
    rw [← HW12.out]
    obtain ⟨⟨c0, c1, c2, c3, c4⟩, ⟨x0, x1, x2, x3, x4⟩⟩ := BX.out W12 K12
    go_wp2_with fail
    refine (PB.out _ _ (HPL.out _ (KB.out _ K12))).mono ?_
    rintro e w13 ⟨v13, rfl, o13, b13⟩
    have K13 := below_more K12 b13
    obtain ⟨a13, d13, a14, d14, rfl, _, _⟩ := o13.open_
    obtain ⟨y3, hy3⟩ : ∃ y3, y3 = S1.length := ⟨_, rfl⟩
    obtain ⟨y4, hy4⟩ : ∃ y4, y4 = T1.length := ⟨_, rfl⟩
    rw [← hy3, ← hy4] at o13 ⊢
    obtain ⟨W14, hW14⟩ : ∃ W14, W14 = w13.alloc (.cells #[.int .i64 i, .int .i64 l, .string (Let.mk L1), .slice a13 y3 d13, .slice a14 y4 d14] 25) := ⟨_, rfl⟩
    obtain ⟨b14, r14, l14⟩ := box1 w13 #[.int .i64 i, .int .i64 l, .string (Let.mk L1), .slice a13 y3 d13, .slice a14 y4 d14] 25
    rw [← hW14] at b14 r14 l14
    have K14 : Below W0.heap.size W0 W14 := below_more K13 b14
    have J14 : Below W12.heap.size W12 W14 := below_more b13 b14
    have J9 : Below W9.heap.size W9 W14 := below_more J12 J14
    have O14 : Hid (∀ w', Below W14.heap.size W14 w' → Sg w' (.agg #[.int .i64 i, .int .i64 l, .pointer qa, .slice a11 y1 d11, .slice a12 y2 d12]) i l L1 S1 T1) := fun w' hb => O12.out.below (below_more J14 hb) (Nat.le_refl _)
    have P14 : Hid (∀ w', Below W14.heap.size W14 w' → Pl w' (.agg #[.int .i64 i, .int .i64 l, .string (Let.mk L1), .slice a13 y3 d13, .slice a14 y4 d14]) i l L1 S1 T1) := fun w' hb => (o13.below b14 (Nat.le_refl _)).below hb (Nat.le_refl _)
    have OR14 : Hid (∀ w', Below W14.heap.size W14 w' → IsRope w' M1 (.pointer q11)) := fun w' hb => Con.IsRope.below OR12.out (below_more J14 hb) (Nat.le_refl _)
    have O914 : Hid (∀ w', Below W14.heap.size W14 w' → Sg w' (.agg #[.int .i64 i, .int .i64 l, .pointer q8, .slice a8 n8 d8, .slice a9 n9 d9]) i l L S T) := fun w' hb => O9.out w' (below_more J9 hb)
    have KK : Hid (∀ w', Below W14.heap.size W14 w' → Below w.heap.size w w') := fun w' hb => KB.out _ (below_more K14 hb)
    have BZ : Hid (∀ w', Below W14.heap.size W14 w' → Below W14.heap.size W14 w' ∧ (w'.cell? ⟨w8.heap.size, 0, none⟩ = some (.int .i64 i) ∧ w'.cell? ⟨w8.heap.size, 1, none⟩ = some (.int .i64 l) ∧ w'.cell? ⟨w8.heap.size, 2, none⟩ = some (.pointer q8) ∧ w'.cell? ⟨w8.heap.size, 3, none⟩ = some (.slice a8 n8 d8) ∧ w'.cell? ⟨w8.heap.size, 4, none⟩ = some (.slice a9 n9 d9)) ∧ (w'.cell? ⟨w11.heap.size, 0, none⟩ = some (.int .i64 i) ∧ w'.cell? ⟨w11.heap.size, 1, none⟩ = some (.int .i64 l) ∧ w'.cell? ⟨w11.heap.size, 2, none⟩ = some (.pointer qa) ∧ w'.cell? ⟨w11.heap.size, 3, none⟩ = some (.slice a11 y1 d11) ∧ w'.cell? ⟨w11.heap.size, 4, none⟩ = some (.slice a12 y2 d12)) ∧ (w'.cell? ⟨w13.heap.size, 0, none⟩ = some (.int .i64 i) ∧ w'.cell? ⟨w13.heap.size, 1, none⟩ = some (.int .i64 l) ∧ w'.cell? ⟨w13.heap.size, 2, none⟩ = some (.string (Let.mk L1)) ∧ w'.cell? ⟨w13.heap.size, 3, none⟩ = some (.slice a13 y3 d13) ∧ w'.cell? ⟨w13.heap.size, 4, none⟩ = some (.slice a14 y4 d14)) ∧ (w'.cell? ⟨w.heap.size, 0, none⟩ = some (.int .i64 i) ∧ w'.cell? ⟨w.heap.size, 1, none⟩ = some (.int .i64 l) ∧ w'.cell? ⟨w.heap.size, 2, none⟩ = some (.string (Let.mk L)) ∧ w'.cell? ⟨w.heap.size, 3, none⟩ = some (.slice sa ls sc) ∧ w'.cell? ⟨w.heap.size, 4, none⟩ = some (.slice ta lt tc)) ∧ w'.cell? ⟨w.heap.size + 1, 2, none⟩ = some (.int .i64 dm)) := fun w' hb => by
      obtain ⟨z1, ⟨_, _, z5, _⟩⟩ := BX.out w' (below_more K14 hb)
      exact ⟨hb, BY.out w' (below_more J9 hb), five_cells (((below_more J14 hb).block _ (row_lt HR12.out)).trans HR12.out), five_cells ((hb.block _ (by omega)).trans r14), z1, z5⟩
    have KR := Lib.hid (Below.refl W14.heap.size W14)
    have HW14 := Lib.hid hW14
    clear o13 b13 b14 r14 l14 hW14 K13 K14 hy3 hy4 c0 c1 c2 c3 c4 x0 x1 x2 x3 x4 O12 OR12 HR12 HW12 K12 PB J12 J14 J9 O9 BY K9
    go_upto_region 9 with fail
    rw [← HW14.out]
    go_region_held3 (fun w' => Below W14.heap.size W14 w' ∧ (w'.cell? ⟨w8.heap.size, 0, none⟩ = some (.int .i64 i) ∧ w'.cell? ⟨w8.heap.size, 1, none⟩ = some (.int .i64 l) ∧ w'.cell? ⟨w8.heap.size, 2, none⟩ = some (.pointer q8) ∧ w'.cell? ⟨w8.heap.size, 3, none⟩ = some (.slice a8 n8 d8) ∧ w'.cell? ⟨w8.heap.size, 4, none⟩ = some (.slice a9 n9 d9)) ∧ (w'.cell? ⟨w11.heap.size, 0, none⟩ = some (.int .i64 i) ∧ w'.cell? ⟨w11.heap.size, 1, none⟩ = some (.int .i64 l) ∧ w'.cell? ⟨w11.heap.size, 2, none⟩ = some (.pointer qa) ∧ w'.cell? ⟨w11.heap.size, 3, none⟩ = some (.slice a11 y1 d11) ∧ w'.cell? ⟨w11.heap.size, 4, none⟩ = some (.slice a12 y2 d12)) ∧ (w'.cell? ⟨w13.heap.size, 0, none⟩ = some (.int .i64 i) ∧ w'.cell? ⟨w13.heap.size, 1, none⟩ = some (.int .i64 l) ∧ w'.cell? ⟨w13.heap.size, 2, none⟩ = some (.string (Let.mk L1)) ∧ w'.cell? ⟨w13.heap.size, 3, none⟩ = some (.slice a13 y3 d13) ∧ w'.cell? ⟨w13.heap.size, 4, none⟩ = some (.slice a14 y4 d14)) ∧ (w'.cell? ⟨w.heap.size, 0, none⟩ = some (.int .i64 i) ∧ w'.cell? ⟨w.heap.size, 1, none⟩ = some (.int .i64 l) ∧ w'.cell? ⟨w.heap.size, 2, none⟩ = some (.string (Let.mk L)) ∧ w'.cell? ⟨w.heap.size, 3, none⟩ = some (.slice sa ls sc) ∧ w'.cell? ⟨w.heap.size, 4, none⟩ = some (.slice ta lt tc)) ∧ w'.cell? ⟨w.heap.size + 1, 2, none⟩ = some (.int .i64 dm))
      ((refine BZ.out _ ?_; focus ((repeat first | with_reducible assumption | with_reducible exact KR.out | with_reducible apply Below.drew | with_reducible apply below_drews); done)))
      (first
        | (go_at_call 8; (with_reducible refine (HCT.out _ _ (OR14.out _ ?_)).mono ?_); (focus ((repeat first | with_reducible assumption | with_reducible exact KR.out | with_reducible apply Below.drew | with_reducible apply below_drews); done)); rintro e w15 ⟨rfl, b15⟩; have j15 := below_more (B := W14.heap.size) (w := W14) (by (repeat first | with_reducible assumption | with_reducible exact KR.out | with_reducible apply Below.drew | with_reducible apply below_drews)) b15)
        | (go_at_call 12; (with_reducible refine (CQ.out _ _ _ (O14.out _ ?_) (P14.out _ ?_)).mono ?_); (focus ((repeat first | with_reducible assumption | with_reducible exact KR.out | with_reducible apply Below.drew | with_reducible apply below_drews); done)); (focus ((repeat first | with_reducible assumption | with_reducible exact KR.out | with_reducible apply Below.drew | with_reducible apply below_drews); done)); rintro e w16 ⟨rfl, b16⟩; have j16 := below_more (B := W14.heap.size) (w := W14) (by (repeat first | with_reducible assumption | with_reducible exact KR.out | with_reducible apply Below.drew | with_reducible apply below_drews)) b16)
        | (go_at_call 12; (with_reducible refine (CG.out _ _ _ (O914.out _ ?_) (HPL.out _ (KK.out _ ?_))).mono ?_); (focus ((repeat first | with_reducible assumption | with_reducible exact KR.out | with_reducible apply Below.drew | with_reducible apply below_drews); done)); (focus ((repeat first | with_reducible assumption | with_reducible exact KR.out | with_reducible apply Below.drew | with_reducible apply below_drews); done)); rintro e w17 ⟨rfl, b17⟩; have j17 := below_more (B := W14.heap.size) (w := W14) (by (repeat first | with_reducible assumption | with_reducible exact KR.out | with_reducible apply Below.drew | with_reducible apply below_drews)) b17)
        | (go_at_call 9; (with_reducible refine (CH.out _ _ (O914.out _ ?_)).mono ?_); (focus ((repeat first | with_reducible assumption | with_reducible exact KR.out | with_reducible apply Below.drew | with_reducible apply below_drews); done)); rintro e w18 ⟨rfl, b18⟩; have j18 := below_more (B := W14.heap.size) (w := W14) (by (repeat first | with_reducible assumption | with_reducible exact KR.out | with_reducible apply Below.drew | with_reducible apply below_drews)) b18)
        | (go_at_call 13; (with_reducible refine (CI.out _ _ (HPL.out _ (KK.out _ ?_))).mono ?_); (focus ((repeat first | with_reducible assumption | with_reducible exact KR.out | with_reducible apply Below.drew | with_reducible apply below_drews); done)); rintro e w19 ⟨rfl, b19⟩; have j19 := below_more (B := W14.heap.size) (w := W14) (by (repeat first | with_reducible assumption | with_reducible exact KR.out | with_reducible apply Below.drew | with_reducible apply below_drews)) b19))
    have i9 : (hasB S T dm == hasB S T dm) = true := by simp
    go_wp2_with fail
    go_ret
    exact ⟨ret_bool (by simp), KK.out _ (by (repeat first | with_reducible assumption | with_reducible exact KR.out | with_reducible apply Below.drew | with_reducible apply below_drews))⟩

theorem acc_eq : Rows.laid_unicode_utf8_acceptRanges = Lib.acceptData := by kernel_rfl

set_option maxRecDepth 100000 in
theorem lifted (os : Os) (started : os.Started) (H : Type) (enc : TypeId × Value → H) :
    ReturnsInHanded {} Tryz.checked os 3 .any (fun w args => (Rows.segmentDeleteSpec.pre enc Tryz.prog Tryz.f3 [] false w args ∧ laidMetH Tryz.prog Rows.segmentDeleteRow.laid w) ∧ sizedMet enc Tryz.prog Tryz.f3 (OpenSpec.ofChange Rows.segmentDeleteSpec) false w args) (Rows.segmentDeleteSpec.post enc Tryz.prog Tryz.f3 false true false false) := by
  refine returnsInHanded_of_change_and (C := Tryz.checked) (X := fun w _ => laidMetH Tryz.prog Rows.segmentDeleteRow.laid w) (fun _ _ _ hh h => h.of_heap hh) own started (by kernel_rfl) Tryz.func3
    (ChangeSpec.witness_shaped (enc := enc) (C := Tryz.checked) (os := os) (X := fun w _ => laidMetH Tryz.prog Rows.segmentDeleteRow.laid w) false (World.laidAll Tryz.prog os Rows.segmentDeleteRow.laid) #[.agg #[.int .i64 0, .int .i64 0, .string ByteArray.empty, .slice none 0 0, .slice none 0 0], .agg #[.int .i64 0, .int .i64 0, .int .i64 0, .int .i64 0, .string ByteArray.empty]] 8 (World.laidAll_os _ _ _)
      (World.shaped_of_ZipB (by kernel_rfl) (by kernel_rfl)) (by kernel_rfl) (by kernel_rfl) (by kernel_rfl)
      (by rw [MakeChecks.laidMetH_plain _ _ _ (by kernel_rfl)]; exact laidMet_laidAll _ (by kernel_rfl) (by kernel_rfl))) ?_
  intro W base args ds gs before hval0 hW _ _ hL _
  have hval : ∀ (j : Nat) t v, Tryz.f3.params[j]? = some t → args[j]? = some v → Value.okWide Tryz.prog W .any base t v := hval0
  have hread : ∀ t ∈ Tryz.f3.params.toList, Tryz.prog.readableRec t = true ∧ t < Tryz.prog.types.size := by
    have : (Tryz.f3.params.toList.all fun t => Tryz.prog.readableRec t && decide (t < Tryz.prog.types.size)) = true := by kernel_rfl
    intro t ht
    have := List.all_eq_true.1 this t ht
    simpa using this
  rw [MakeChecks.laidMetH_plain _ _ _ (by kernel_rfl)] at hL
  have hT : Tabs W := utf8Tabs_of_readsT (U8Types.of196 Tryz.lays196) ⟨by kernel_rfl, by kernel_rfl, by kernel_rfl, by kernel_rfl, by kernel_rfl, by kernel_rfl, by kernel_rfl⟩ (Pinned.utf8First_eq ▸ Lib.laidMet.reads hL (.tail _ (.head _))) (acc_eq ▸ Lib.laidMet.reads hL (.head _))
  refine law_contract (P := Tryz.prog) (s := Rows.segmentDeleteSpec) (fn := Tryz.f3) (tb := 4) laidOut rfl hread rfl Tryz.underlying4 (fun W' => okWide_bool_mk Tryz.underlying4 _) ?_ hW ?_
  · intro ds hds
    rw [Tryz.params3] at hds
    match ds, hds with
    | [d0, d1], _ => rfl
  intro pl hA
  rw [Tryz.params3] at hA hval
  obtain ⟨v0, vs0, d0, ds0, p0, q0, hargs, rfl, hp0, h0, r0⟩ := trodAll_cons hA
  obtain ⟨v1, vs1, d1, ds1, p1, q1, rfl, rfl, hp1, h1, r1⟩ := trodAll_cons r0
  obtain ⟨rfl, rfl, hpe⟩ := trodAll_nil r1
  obtain rfl : args = #[v0, v1] := by cases args; simp_all
  obtain ⟨ia, la, La, Sa, Ta, hGa⟩ := open_seg (hval 0 25 v0 rfl rfl) h0
  obtain ⟨d, rfl, hGd⟩ := open_sdeed (hval 1 27 v1 rfl rfl) h1
  exact walk W hT hGa d hGd 

theorem over : Rows.segmentDeleteRow.holds Tryz.pinned (OpenSpec.ofChange Rows.segmentDeleteSpec) :=
  OpenClaim.holds_of_wide 3 Tryz.f3 rfl rfl rfl rfl rfl rfl rfl ⟨rfl, rfl, rfl, rfl, rfl⟩ rfl rfl rfl rfl rfl (by kernel_rfl) Tryz.func3 (by kernel_rfl)
    (of_decide_eq_true (by kernel_rfl)) (by unfold Func.isWrapper; first | (rw [if_pos (by decide +kernel)]; kernel_rfl) | (rw [if_neg (by decide +kernel)]; exact ⟨rfl, rfl⟩))
    (fun os started H enc _ => lifted os started H enc)

/-- The statement. -/
theorem proved : Rows.SegmentDeleteCardSaid :=
  Claim7.holds_tied_plain_at .later [] [.data, .pinned] true (true, "bbb963526ea8cba343adcc6cb74318256d91e4935cd9e7d053e7f38b47c0df35") false over (fun _ h => by cases h) (by kernel_rfl) (fun _ h => by cases h) segmentDelete_row_tie rfl ⟨rfl, rfl⟩ (by kernel_rfl) rfl
    (fun f fn hf hfn => by
      obtain rfl : f = 3 := Option.some.inj ((show Tryz.prog.funcNamed Rows.segmentDeleteRow.func = some 3 by kernel_rfl).symm.trans hf) |>.symm
      obtain rfl : fn = Tryz.f3 := (Option.some.inj (Tryz.func3.symm.trans hfn)).symm
      exact ⟨by kernel_rfl, fun j t ht => by
        rw [Tryz.params3] at ht
        have hm : t ∈ [25, 27] := by simpa using Array.mem_of_getElem? ht
        have hall : ([25, 27].all fun u => !Tryz.prog.wantsStandIn u) = true := by kernel_rfl
        exact (show Tryz.prog.wantsStandIn t = false by simpa using List.all_eq_true.1 hall t hm)⟩)
    (by kernel_rfl)
#print axioms proved
end Go.Proofs.YtkgdfclpogiemaaGreatDoor.segmentDelete
