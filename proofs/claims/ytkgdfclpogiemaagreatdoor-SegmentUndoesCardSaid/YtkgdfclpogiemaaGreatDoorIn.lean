/- Segments, the plain text: Insert. -/
import Derived.Test.YtkgdfclpogiemaaGreatDoorSp
import Derived.Test.YtkgdfclpogiemaaGreatDoorV
import Derived.Deep.RegionHeld3
import Derived.Deep.DeepCutAuto
import Derived.Deep.CutBlock
set_option linter.unusedVariables false
set_option maxRecDepth 100000
namespace Go.Proofs.YtkgdfclpogiemaaGreatDoor.Seg
open Go.RowKit Go.Lib Go.Proofs.YtkgdfclpogiemaaGreatDoor.Rt Go.Proofs.YtkgdfclpogiemaaGreatDoor.Rig

def GiveInsP (w : World) (ok : Bool) (i l : Int) (L : Bytes) (S : List Sp) (T : List St) (e : Ending) (w' : World) : Prop := ∃ v, e = .returned (.tuple #[v, .bool ok]) ∧ Pl w' v i l L S T ∧ Below w.heap.size w w'

set_option maxHeartbeats 24000000 in
theorem insert5_no {v : Value} {i l : Int} {L M : Bytes} {S : List Sp} {T : List St} (at0 mk quota : Int) (w : World) (h : Pl w v i l L S T) (hp : ∀ s ∈ T, 0 < s.m) (b1 : L.length ≤ 10000) (b2 : M.length ≤ 10000) (hf : fitB L.length M.length quota = false) :
    Calls Tryz.prog 54 #[v, .int .i64 at0, .string (Let.mk M), .int .i64 mk, .int .i64 quota] w (GiveInsP w false i l L S T) := by
  obtain ⟨sa, sc, ta, tc, rfl, hS, hT⟩ := h.open_
  obtain ⟨ls, hls⟩ : ∃ ls, ls = S.length := ⟨_, rfl⟩
  obtain ⟨lt, hlt⟩ : ∃ lt, lt = T.length := ⟨_, rfl⟩
  obtain ⟨W0, hW0⟩ : ∃ W0, W0 = (w.alloc (.cells #[.int .i64 i, .int .i64 l, .string (Let.mk L), .slice sa ls sc, .slice ta lt tc] 25)).alloc (.cells #[.int .i64 0, .int .i64 0, .string (ByteArray.mk #[]), .slice none 0 0, .slice none 0 0] 25) := ⟨_, rfl⟩
  obtain ⟨b0, r0, z0, l0⟩ := box2 w #[.int .i64 i, .int .i64 l, .string (Let.mk L), .slice sa ls sc, .slice ta lt tc] #[.int .i64 0, .int .i64 0, .string (ByteArray.mk #[]), .slice none 0 0, .slice none 0 0] 25 25
  rw [← hW0] at b0 r0 z0 l0
  have HW0 := Lib.hid hW0
  have z1 : IntKind.i64.wrap (((Let.mk L).size : Int) + ((Let.mk M).size : Int)) = ((Let.mk L).size : Int) + ((Let.mk M).size : Int) := IntWalk.i64_in _ (by rw [Let.mk_size, Let.mk_size]; omega)
  have HZ0 : ZPl W0 (w.heap.size + 1) := z0
  have g1 : decide (quota < ((Let.mk L).size : Int) + ((Let.mk M).size : Int)) = true := by
    refine decide_eq_true ?_
    have := of_decide_eq_false hf
    rw [Let.mk_size, Let.mk_size]
    omega
  have g2 : quota < ((Let.mk L).size : Int) + ((Let.mk M).size : Int) := of_decide_eq_true g1
  have FIN := Lib.hid (give_pl (w := w) (i := i) (l := l) (L := L) (Nat.le_add_right _ 1) HZ0 (hS.below b0 (Nat.le_refl _)) (hT.below b0 (Nat.le_refl _)) hp b0)
  rw [← hls, ← hlt] at FIN ⊢
  obtain ⟨y0, y1, y2, y3, y4⟩ := set5_cells (a0 := .int .i64 i) (a1 := .int .i64 l) (a2 := .string (Let.mk L)) (a3 := .slice sa ls sc) (a4 := .slice ta lt tc) HZ0
  obtain ⟨c0, c1, c2, c3, c4⟩ := five_cells r0
  obtain ⟨k0, k1, k2, k3, k4⟩ := five_cells z0
  obtain ⟨f0, f1, f2, f3, f4⟩ := five_free z0
  clear h hS hT hp b0 r0 z0 l0 hW0 b1 b2 hf HZ0 hls hlt
  generalize Let.mk L = sl at *
  generalize Let.mk M = sm at *
  go_enter Tryz.func54, Tryz.ntmps54
  go_upto_region 1 with fail
  rw [← HW0.out]
  go_wp2_with fail
  exact bodyPost_ret (v := .tuple #[.agg #[.int .i64 i, .int .i64 l, .string sl, .slice sa ls sc, .slice ta lt tc], .bool false]) (by simp only [set5] at y0 y1 y2 y3 y4; simp [results, Tryz.results54, go_sem, y0, y1, y2, y3, y4]) rfl ⟨_, rfl, FIN.out.1, FIN.out.2⟩

set_option maxHeartbeats 24000000 in
theorem insert5_yes {v : Value} {i l : Int} {L M : Bytes} {S : List Sp} {T : List St} (p : Nat) (at0 mk quota : Int) (w : World) (h : Pl w v i l L S T) (hRS : RS 0 0 (Let.cnt L) S) (hRT : RT (Let.cnt L) T) (hpl : placeI (Let.cnt L) at0 = p) (a1 : -9223372036854775808 ≤ at0) (a2 : at0 ≤ 9223372036854775807) (hmk : i64 mk) (b1 : L.length ≤ 3000) (b2 : M.length ≤ 3000) (hlt3 : T.length ≤ 3000) (hf : fitB L.length M.length quota = true) :
    Calls Tryz.prog 54 #[v, .int .i64 at0, .string (Let.mk M), .int .i64 mk, .int .i64 quota] w (GiveInsP w true i l (Let.put L p M) (pPut S p (Let.cnt M) mk) (pPutT T p (Let.cnt M))) := by
  obtain ⟨sa, sc, ta, tc, rfl, hS, hT⟩ := h.open_
  have hpc : p ≤ Let.cnt L := by unfold placeI at hpl; omega
  have hcl := Let.cnt_len L
  have hcm := Let.cnt_len M
  have hls2 := RS_len hRS (by omega)
  have CL : Hid (∀ w', Calls Tryz.prog 41 #[.string (Let.mk L)] w' fun e w'' => e = .returned (.int .i64 (Let.cnt L)) ∧ Below w'.heap.size w' w'') := fun w' => count1_any L w' (by omega)
  have CM : Hid (∀ w', Calls Tryz.prog 41 #[.string (Let.mk M)] w' fun e w'' => e = .returned (.int .i64 (Let.cnt M)) ∧ Below w'.heap.size w' w'') := fun w' => count1_any M w' (by omega)
  have CK : Hid (∀ w', Below w.heap.size w w' → Calls Tryz.prog 40 #[.agg #[.int .i64 i, .int .i64 l, .string (Let.mk L), .slice sa S.length sc, .slice ta T.length tc]] w' fun e w'' => e = .returned (.agg #[.slice sa S.length sc, .slice ta T.length tc]) ∧ Below w'.heap.size w' w'') := fun w' hb => marks5_any w' (hS.below hb (Nat.le_refl _)) (hT.below hb (Nat.le_refl _))
  have CP : Hid (∀ w', Below w.heap.size w w' → Calls Tryz.prog 79 #[.agg #[.slice sa S.length sc, .slice ta T.length tc], .int .i64 (Let.cnt L), .int .i64 p, .int .i64 (Let.cnt M), .int .i64 mk] w' (GivesM w' (pPut S p (Let.cnt M) mk) (pPutT T p (Let.cnt M)))) := fun w' hb => by
    have := rput_any (Let.cnt L) p (Let.cnt M) mk w' (hS.below hb (Nat.le_refl _)) (hT.below hb (Nat.le_refl _)) (by omega) hpc (by omega) hmk hlt3 (RS_at hRS) (RT_at hRT)
    rw [put_doc hRS hpc, ← pPutT_doc hRT.1 p (Let.cnt M) (by omega)] at this
    exact this
  have CT : Hid (∀ w', Calls Tryz.prog 80 #[.string (Let.mk L), .int .i64 p, .string (Let.mk M)] w' fun e w'' => e = .returned (.string (Let.mk (Let.put L p M))) ∧ Below w'.heap.size w' w'') := fun w' => rput1_any L M p w' (by omega) (by omega) (by omega)
  have POS : Hid (∀ s ∈ pPutT T p (Let.cnt M), 0 < s.m) := RT_pos (pPutT_right hRT (p := p) (k := Let.cnt M) (by omega) (by omega))
  have HPL : Hid (min (max at0 0) (Let.cnt L : Int) = p) := hpl
  obtain ⟨ls, hls⟩ : ∃ ls, ls = S.length := ⟨_, rfl⟩
  obtain ⟨lt, hlt⟩ : ∃ lt, lt = T.length := ⟨_, rfl⟩
  obtain ⟨W0, hW0⟩ : ∃ W0, W0 = (w.alloc (.cells #[.int .i64 i, .int .i64 l, .string (Let.mk L), .slice sa ls sc, .slice ta lt tc] 25)).alloc (.cells #[.int .i64 0, .int .i64 0, .string (ByteArray.mk #[]), .slice none 0 0, .slice none 0 0] 25) := ⟨_, rfl⟩
  obtain ⟨b0, r0, z0, l0⟩ := box2 w #[.int .i64 i, .int .i64 l, .string (Let.mk L), .slice sa ls sc, .slice ta lt tc] #[.int .i64 0, .int .i64 0, .string (ByteArray.mk #[]), .slice none 0 0, .slice none 0 0] 25 25
  rw [← hW0] at b0 r0 z0 l0
  have HW0 := Lib.hid hW0
  have z1 : IntKind.i64.wrap (((Let.mk L).size : Int) + ((Let.mk M).size : Int)) = ((Let.mk L).size : Int) + ((Let.mk M).size : Int) := IntWalk.i64_in _ (by rw [Let.mk_size, Let.mk_size]; omega)
  have g1 : decide (quota < ((Let.mk L).size : Int) + ((Let.mk M).size : Int)) = false := by
    refine decide_eq_false ?_
    have := of_decide_eq_true hf
    rw [Let.mk_size, Let.mk_size]
    omega
  have g2 : ¬ quota < ((Let.mk L).size : Int) + ((Let.mk M).size : Int) := of_decide_eq_false g1
  simp only [← hls, ← hlt] at CK CP ⊢
  have CW : Hid (∀ w' (x1 x2 : Option Addr) (n1 n2 d1 d2 : Nat), Spans w' (.slice x1 n1 d1) (pPut S p (Let.cnt M) mk) → Sites w' (.slice x2 n2 d2) (pPutT T p (Let.cnt M)) → Calls Tryz.prog 38 #[.agg #[.int .i64 i, .int .i64 l, .string (Let.mk L), .slice sa ls sc, .slice ta lt tc], .agg #[.slice x1 n1 d1, .slice x2 n2 d2]] w' (GivePl w' i l L (pPut S p (Let.cnt M) mk) (pPutT T p (Let.cnt M)))) := fun w' x1 x2 n1 n2 d1 d2 h1 h2 => with5_any w' h1 h2 POS.out
  generalize pPut S p (Let.cnt M) mk = S1 at *
  generalize pPutT T p (Let.cnt M) = T1 at *
  generalize Let.put L p M = L1 at *
  have BX : Hid (∀ w', Kp (fun _ => False) W0 w' → Kp (fun _ => False) W0 w' ∧ w'.cell? ⟨w.heap.size, 0, none⟩ = some (.int .i64 i) ∧ w'.cell? ⟨w.heap.size, 1, none⟩ = some (.int .i64 l) ∧ w'.cell? ⟨w.heap.size, 2, none⟩ = some (.string (Let.mk L)) ∧ w'.cell? ⟨w.heap.size, 3, none⟩ = some (.slice sa ls sc) ∧ w'.cell? ⟨w.heap.size, 4, none⟩ = some (.slice ta lt tc)) := fun w' hk => ⟨hk, five_cells (hk.row r0 (fun h => h))⟩
  have KB : Hid (∀ w', Kp (fun _ => False) W0 w' → Below w.heap.size w w') := fun w' hk => hk.below b0 (fun k _ h => h) (by omega)
  have KZ : Hid (∀ w', Kp (fun _ => False) W0 w' → ZPl w' (w.heap.size + 1)) := fun w' hk => hk.row z0 (fun h => h)
  have KS : Hid (∀ w', Kp (fun _ => False) W0 w' → W0.heap.size ≤ w'.heap.size ∧ w.heap.size + 1 < w'.heap.size) := fun w' hk => ⟨hk.b0.size, by have := hk.b0.size; omega⟩
  have KR := Lib.hid (Kp.refl (fun _ => False) W0)
  obtain ⟨mk1, mk2⟩ := hmk
  obtain ⟨_, c0, c1, c2, c3, c4⟩ := BX.out W0 KR.out
  have hcc : Let.cnt L ≤ 3000 := by omega
  have hkk : Let.cnt M ≤ 3000 := by omega
  generalize Let.cnt L = cl at *
  generalize Let.cnt M = cm at *
  clear h hS hT b0 r0 z0 l0 hW0 b1 b2 hf hls hlt hRS hRT hpl hls2 hcl hcm hlt3
  go_enter Tryz.func54, Tryz.ntmps54
  go_upto_region 1 with fail
  rw [← HW0.out]
  go_wp2_with fail
  refine (CL.out _).mono ?_
  rintro e w1 ⟨rfl, b1⟩
  have k1 := KR.out.call b1
  clear c0 c1 c2 c3 c4 b1 CL
  obtain ⟨_, c0, c1, c2, c3, c4⟩ := BX.out w1 k1
  go_upto_region 5 with fail
  rw [HPL.out]
  go_cut [13] from 30 to 39 (fun x wx => ∃ (NB : Nat) (a3 : Option Addr) (d3 : Nat) (a4 : Option Addr) (d4 : Nat), x = .pointer (some ⟨NB, 0, none⟩) ∧ Hid (Filled W0 wx NB i l L S1 T1 a3 d3 a4 d4))
  case first =>
    go_region_held3 (fun w' => Kp (fun _ => False) W0 w' ∧ w'.cell? ⟨w.heap.size, 0, none⟩ = some (.int .i64 i) ∧ w'.cell? ⟨w.heap.size, 1, none⟩ = some (.int .i64 l) ∧ w'.cell? ⟨w.heap.size, 2, none⟩ = some (.string (Let.mk L)) ∧ w'.cell? ⟨w.heap.size, 3, none⟩ = some (.slice sa ls sc) ∧ w'.cell? ⟨w.heap.size, 4, none⟩ = some (.slice ta lt tc))
      ((refine BX.out _ ?_; focus ((repeat first | with_reducible assumption | with_reducible exact KR.out | with_reducible apply Kp.drew | with_reducible apply Kp.drews | with_reducible apply Kp.alloc | (with_reducible refine Kp.putNew ?_ ?_ ; focus (assumption))); done)))
      (first
        | (go_at_call 40; (with_reducible refine (CK.out _ (KB.out _ ?_)).mono ?_); (focus ((repeat first | with_reducible assumption | with_reducible exact KR.out | with_reducible apply Kp.drew | with_reducible apply Kp.drews | with_reducible apply Kp.alloc | (with_reducible refine Kp.putNew ?_ ?_ ; focus (assumption))); done)); rintro e w2 ⟨rfl, b2⟩; have k2 := fun h => Kp.call (R := fun _ => False) (W := W0) h b2; replace k2 := k2 (by (repeat first | with_reducible assumption | with_reducible exact KR.out | with_reducible apply Kp.drew | with_reducible apply Kp.drews | with_reducible apply Kp.alloc | (with_reducible refine Kp.putNew ?_ ?_ ; focus (assumption)))); first | (have zN := ZN.below zN b2) | ((with_reducible (have zN := fun hk => zn_new (W0 := W0) hk b2)); replace zN := zN (by (repeat first | with_reducible assumption | with_reducible exact KR.out | with_reducible apply Kp.drew | with_reducible apply Kp.drews | with_reducible apply Kp.alloc | (with_reducible refine Kp.putNew ?_ ?_ ; focus (assumption))))) | ((with_reducible (have zN := fun hk => zn_newd (W0 := W0) hk b2)); replace zN := zN (by (repeat first | with_reducible assumption | with_reducible exact KR.out | with_reducible apply Kp.drew | with_reducible apply Kp.drews | with_reducible apply Kp.alloc | (with_reducible refine Kp.putNew ?_ ?_ ; focus (assumption))))) | skip)
        | (go_at_call 41; (with_reducible refine (CM.out _).mono ?_); rintro e w3 ⟨rfl, b3⟩; have k3 := fun h => Kp.call (R := fun _ => False) (W := W0) h b3; replace k3 := k3 (by (repeat first | with_reducible assumption | with_reducible exact KR.out | with_reducible apply Kp.drew | with_reducible apply Kp.drews | with_reducible apply Kp.alloc | (with_reducible refine Kp.putNew ?_ ?_ ; focus (assumption)))); first | (have zN := ZN.below zN b3) | ((with_reducible (have zN := fun hk => zn_new (W0 := W0) hk b3)); replace zN := zN (by (repeat first | with_reducible assumption | with_reducible exact KR.out | with_reducible apply Kp.drew | with_reducible apply Kp.drews | with_reducible apply Kp.alloc | (with_reducible refine Kp.putNew ?_ ?_ ; focus (assumption))))) | ((with_reducible (have zN := fun hk => zn_newd (W0 := W0) hk b3)); replace zN := zN (by (repeat first | with_reducible assumption | with_reducible exact KR.out | with_reducible apply Kp.drew | with_reducible apply Kp.drews | with_reducible apply Kp.alloc | (with_reducible refine Kp.putNew ?_ ?_ ; focus (assumption))))) | skip)
        | (go_at_call 79; (with_reducible refine (CP.out _ (KB.out _ ?_)).mono ?_); (focus ((repeat first | with_reducible assumption | with_reducible exact KR.out | with_reducible apply Kp.drew | with_reducible apply Kp.drews | with_reducible apply Kp.alloc | (with_reducible refine Kp.putNew ?_ ?_ ; focus (assumption))); done)); rintro e w4 ⟨u1, u2, rfl, g1, g2, b4⟩; obtain ⟨a1, d1, rfl⟩ := g1.is_slice; obtain ⟨a2, d2, rfl⟩ := g2.is_slice; have k4 := fun h => Kp.call (R := fun _ => False) (W := W0) h b4; replace k4 := k4 (by (repeat first | with_reducible assumption | with_reducible exact KR.out | with_reducible apply Kp.drew | with_reducible apply Kp.drews | with_reducible apply Kp.alloc | (with_reducible refine Kp.putNew ?_ ?_ ; focus (assumption)))); first | (have zN := ZN.below zN b4) | ((with_reducible (have zN := fun hk => zn_new (W0 := W0) hk b4)); replace zN := zN (by (repeat first | with_reducible assumption | with_reducible exact KR.out | with_reducible apply Kp.drew | with_reducible apply Kp.drews | with_reducible apply Kp.alloc | (with_reducible refine Kp.putNew ?_ ?_ ; focus (assumption))))) | ((with_reducible (have zN := fun hk => zn_newd (W0 := W0) hk b4)); replace zN := zN (by (repeat first | with_reducible assumption | with_reducible exact KR.out | with_reducible apply Kp.drew | with_reducible apply Kp.drews | with_reducible apply Kp.alloc | (with_reducible refine Kp.putNew ?_ ?_ ; focus (assumption))))) | skip)
        | (go_at_call 38; (with_reducible refine (CW.out _ _ _ _ _ _ _ ?_ ?_).mono ?_); (focus (first | exact g1 | exact Fl.below g1 ((Below.refl _ _).alloc (Nat.le_refl _) _) (Nat.le_refl _))); (focus (first | exact g2 | exact Fl.below g2 ((Below.refl _ _).alloc (Nat.le_refl _) _) (Nat.le_refl _))); rintro e w5 ⟨v5, rfl, o5, b5⟩; obtain ⟨a3, d3, a4, d4, rfl, g3, g4⟩ := o5.open_; have k5 := fun h => Kp.call (R := fun _ => False) (W := W0) h b5; replace k5 := k5 (by (repeat first | with_reducible assumption | with_reducible exact KR.out | with_reducible apply Kp.drew | with_reducible apply Kp.drews | with_reducible apply Kp.alloc | (with_reducible refine Kp.putNew ?_ ?_ ; focus (assumption)))); first | (have zN := ZN.below zN b5; have FN := fin_row (i := i) (l := l) (L := L) zN g3 g4 POS.out k5; obtain ⟨x0, x1, x2, x3, x4⟩ := five_cells zN.z; obtain ⟨f0, f1, f2, f3, f4⟩ := five_free zN.z; have s6 := zN.s) | ((with_reducible (have zN := fun hk => zn_new (W0 := W0) hk b5)); replace zN := zN (by (repeat first | with_reducible assumption | with_reducible exact KR.out | with_reducible apply Kp.drew | with_reducible apply Kp.drews | with_reducible apply Kp.alloc | (with_reducible refine Kp.putNew ?_ ?_ ; focus (assumption)))); have FN := fin_row (i := i) (l := l) (L := L) zN g3 g4 POS.out k5; obtain ⟨x0, x1, x2, x3, x4⟩ := five_cells zN.z; obtain ⟨f0, f1, f2, f3, f4⟩ := five_free zN.z; have s6 := zN.s) | (have FN := fin_alloc (i := i) (l := l) (L := L) g3 g4 k5; have zN := zn_alloc k5; obtain ⟨x0, x1, x2, x3, x4⟩ := five_cells zN.z; obtain ⟨f0, f1, f2, f3, f4⟩ := five_free zN.z; have s6 := zN.s)))
    all_goals go_wp2_with fail
    all_goals go_meet
    all_goals exact ⟨_, _, _, _, _, rfl, FN⟩
  case rest =>
    obtain ⟨NB, a3, d3, a4, d4, rfl, HF⟩ := hcut
    obtain ⟨R6, G3, G4, K6, S4⟩ := HF.out
    replace R6 := Lib.hid R6
    replace G3 := Lib.hid G3
    replace G4 := Lib.hid G4
    replace K6 := Lib.hid K6
    replace S4 := Lib.hid S4
    obtain ⟨n1, hn1⟩ : ∃ n1, n1 = S1.length := ⟨_, rfl⟩
    obtain ⟨n2, hn2⟩ : ∃ n2, n2 = T1.length := ⟨_, rfl⟩
    simp only [← hn1, ← hn2] at R6 G3 G4
    clear HF c0 c1 c2 c3 c4 hn1 hn2 k1
    go_upto_region 6 with fail
    obtain ⟨_, c0, c1, c2, c3, c4⟩ := BX.out wc K6.out
    obtain ⟨x0, x1, x2, x3, x4⟩ := five_cells R6.out
    go_wp2_with fail
    refine (CT.out _).mono ?_
    rintro e w7 ⟨rfl, b7⟩
    have R7 : Hid (w7.heap[NB]? = some (.cells #[.int .i64 i, .int .i64 l, .string (Let.mk L), .slice a3 n1 d3, .slice a4 n2 d4] 25 (0, 0))) := (b7.block _ (row_lt R6.out)).trans R6.out
    have K7 := Lib.hid (K6.out.call b7)
    have G5 : Hid (Spans w7 (.slice a3 n1 d3) S1) := Fl.below G3.out b7 (Nat.le_refl _)
    have G6 : Hid (Sites w7 (.slice a4 n2 d4) T1) := Fl.below G4.out b7 (Nat.le_refl _)
    clear c0 c1 c2 c3 c4 x0 x1 x2 x3 x4 b7 CT R6 K6 G3 G4
    obtain ⟨x0, x1, x2, x3, x4⟩ := five_cells R7.out
    obtain ⟨f0, f1, f2, f3, f4⟩ := five_free R7.out
    obtain ⟨W8, hW8⟩ : ∃ W8, W8 = w7.setCell ⟨NB, 2, none⟩ (.string (Let.mk L1)) := ⟨_, rfl⟩
    have R8 : Hid (W8.heap[NB]? = some (.cells #[.int .i64 i, .int .i64 l, .string (Let.mk L1), .slice a3 n1 d3, .slice a4 n2 d4] 25 (0, 0))) := by show _ = _; rw [hW8]; exact set_block R7.out
    have K8 : Hid (Kp (fun _ => False) W0 W8) := by show Kp _ _ _; rw [hW8]; exact Kp.putNew S4.out K7.out
    have G7 : Hid (Spans W8 (.slice a3 n1 d3) S1) := by show Spans _ _ _; rw [hW8]; exact Fl.put1 G5.out x2 (str_ni _)
    have G8 : Hid (Sites W8 (.slice a4 n2 d4) T1) := by show Sites _ _ _; rw [hW8]; exact Fl.put1 G6.out x2 (str_ni _)
    have HW8 := Lib.hid hW8
    clear hW8
    go_upto_region 7 with fail
    rw [← HW8.out]
    clear x0 x1 x2 x3 x4 f0 f1 f2 f3 f4 R7 K7 G5 G6 HW8
    obtain ⟨x0, x1, x2, x3, x4⟩ := five_cells R8.out
    have ZZ := KZ.out W8 K8.out
    obtain ⟨k0, k1, k2, k3, k4⟩ := five_cells ZZ
    obtain ⟨f0, f1, f2, f3, f4⟩ := five_free ZZ
    have FIN := Lib.hid (give_pl (w := w) (i := i) (l := l) (L := L1) (Nat.le_add_right _ 1) ZZ G7.out G8.out POS.out (KB.out _ K8.out))
    obtain ⟨y0, y1, y2, y3, y4⟩ := set5_cells (a0 := .int .i64 i) (a1 := .int .i64 l) (a2 := .string (Let.mk L1)) (a3 := .slice a3 n1 d3) (a4 := .slice a4 n2 d4) ZZ
    go_wp2_with fail
    exact bodyPost_ret (v := .tuple #[.agg #[.int .i64 i, .int .i64 l, .string (Let.mk L1), .slice a3 n1 d3, .slice a4 n2 d4], .bool true]) (by simp only [set5] at y0 y1 y2 y3 y4; simp [results, Tryz.results54, go_sem, y0, y1, y2, y3, y4]) rfl ⟨_, rfl, FIN.out.1, FIN.out.2⟩
end Go.Proofs.YtkgdfclpogiemaaGreatDoor.Seg
