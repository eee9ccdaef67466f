/- Segments: Twin, Piece, Part. -/
import Derived.Test.YtkgdfclpogiemaaDoorV
import Derived.Deep.RegionHeld3
import Derived.Deep.DeepCutAuto
import Derived.Deep.CutBlock
set_option linter.unusedVariables false
set_option maxRecDepth 100000
namespace Go.Proofs.YtkgdfclpogiemaaDoor.Seg
open Go.RowKit Go.Lib Go.Proofs.YtkgdfclpogiemaaDoor.Rt Go.Proofs.YtkgdfclpogiemaaDoor.Rig

theorem cut1_is {x : Bytes} {va : Value} (w : World) (a b : Int) (ha : IsRope w x va) (hl : x.length ≤ 10000) (a1 : 0 ≤ a) (a2 : a ≤ 10000) (b1 : 0 ≤ b) (b2 : b ≤ 10000) :
    Calls Tryd.prog 56 #[va, .int .i64 a, .int .i64 b] w (Con.Roped w (Let.cut x a b)) := Con.cut_is w a b ha (by omega) (by omega) (by omega) (by omega) (by omega)

set_option maxHeartbeats 4000000 in
theorem twin_any {v : Value} {i l : Int} {L : Bytes} {S : List Sp} {T : List St} (id : Int) (w : World) (h : Sg w v i l L S T) :
    Calls Tryd.prog 21 #[v, .int .i64 id] w (GiveSg w id l L [] []) := by
  obtain ⟨q, sa, sc, ta, tc, rfl, hR, hS, hT⟩ := h.open_
  generalize S.length = ls at *
  generalize T.length = lt at *
  have BB : Hid (Below w.heap.size w w) := Below.refl _ _
  have GR : Hid (IsRope w L (.pointer q)) := hR
  obtain ⟨W1, hW1⟩ : ∃ W1, W1 = w.alloc (.cells #[.int .i64 i, .int .i64 l, .pointer q, .slice sa ls sc, .slice ta lt tc] 33) := ⟨_, rfl⟩
  obtain ⟨hb1, hr1, hl1⟩ := box_at hW1 (rfl : w.heap.size = w.heap.size)
  replace BB : Hid (Below w.heap.size w W1) := below_more BB.out hb1
  replace GR : Hid (IsRope W1 L (.pointer q)) := GR.out.below hb1 (Nat.le_refl _)
  have RS : Hid (W1.heap[w.heap.size]? = some (.cells #[.int .i64 i, .int .i64 l, .pointer q, .slice sa ls sc, .slice ta lt tc] 33 (0, 0))) := hr1
  have HW1 := Lib.hid hW1
  clear hW1 hb1 hr1
  obtain ⟨W2, hW2⟩ : ∃ W2, W2 = W1.alloc (.cells #[.int .i64 0, .int .i64 0, .pointer none, .slice none 0 0, .slice none 0 0] 33) := ⟨_, rfl⟩
  obtain ⟨hb2, hr2, hl2⟩ := box_at hW2 (hl1 : W1.heap.size = w.heap.size + 1)
  replace RS : Hid (W2.heap[w.heap.size]? = some (.cells #[.int .i64 i, .int .i64 l, .pointer q, .slice sa ls sc, .slice ta lt tc] 33 (0, 0))) := (hb2.block _ (row_lt RS.out)).trans RS.out
  replace BB : Hid (Below w.heap.size w W2) := below_more BB.out hb2
  replace GR : Hid (IsRope W2 L (.pointer q)) := GR.out.below hb2 (Nat.le_refl _)
  have RZ : Hid (W2.heap[w.heap.size + 1]? = some (.cells #[.int .i64 0, .int .i64 0, .pointer none, .slice none 0 0, .slice none 0 0] 33 (0, 0))) := hr2
  have HW2 := Lib.hid hW2
  clear hW2 hb2 hr2
  clear h hR hS hT
  obtain ⟨rsc0, rsc1, rsc2, rsc3, rsc4⟩ := five_cells RS.out
  obtain ⟨rzc0, rzc1, rzc2, rzc3, rzc4⟩ := five_cells RZ.out
  obtain ⟨rzf0, rzf1, rzf2, rzf3, rzf4⟩ := five_free RZ.out
  go_enter Tryd.func21, Tryd.ntmps21
  go_upto_region 1 with fail
  rw [← HW1.out, ← HW2.out]
  clear HW1 HW2
  clear hl1 hl2
  have FIN := Lib.hid (give_sg (w := w) (i := id) (l := l) (Nat.le_add_right _ 1) RZ.out GR.out (Spans.nil_ _) (Sites.nil_ _) (by simp) BB.out)
  obtain ⟨y0, y1, y2, y3, y4⟩ := set5_cells (a0 := .int .i64 id) (a1 := .int .i64 l) (a2 := .pointer q) (a3 := .slice none 0 0) (a4 := .slice none 0 0) RZ.out
  go_wp2_with fail
  exact bodyPost_ret (v := .agg #[.int .i64 id, .int .i64 l, .pointer q, .slice none 0 0, .slice none 0 0]) (by simp only [set5] at y0 y1 y2 y3 y4; simp [results, Tryd.results21, go_sem, y0, y1, y2, y3, y4]) rfl ⟨_, rfl, FIN.out.1, FIN.out.2⟩

set_option maxHeartbeats 4000000 in
theorem piece_any {v : Value} {i l : Int} {L : Bytes} {S : List Sp} {T : List St} (p e : Nat) (a n id : Int) (w : World) (h : Sg w v i l L S T) (hp : placeI (Let.cnt L) a = p) (he : strTo (Let.cnt L) a n = e) (hpe : p ≤ e) (hec : e ≤ Let.cnt L) (a1 : -9223372036854775808 ≤ a) (a2 : a ≤ 9223372036854775807) (n1 : -9223372036854775808 ≤ n) (n2 : n ≤ 9223372036854775807) (b1 : L.length ≤ 10000) :
    Calls Tryd.prog 19 #[v, .int .i64 a, .int .i64 n, .int .i64 id] w (GiveSg w id l (Let.cut L p e) [] []) := by
  have hcl := Let.cnt_len L
  have CS : Hid (∀ w', Below w.heap.size w w' → Calls Tryd.prog 54 #[v, .int .i64 a, .int .i64 n] w' fun e' w'' => e' = .returned (.tuple #[.int .i64 p, .int .i64 e]) ∧ Below w'.heap.size w' w'') := fun w' hb => by
    have := stretch_any a n w' (h.below hb (Nat.le_refl _)) a1 a2 n1 n2 (by omega)
    rwa [hp, he] at this
  obtain ⟨q, sa, sc, ta, tc, rfl, hR, hS, hT⟩ := h.open_
  have CC : Hid (∀ w', Below w.heap.size w w' → Calls Tryd.prog 56 #[.pointer q, .int .i64 p, .int .i64 e] w' (Con.Roped w' (Let.cut L p e))) := fun w' hb => cut1_is w' p e (hR.below hb (Nat.le_refl _)) b1 (by omega) (by omega) (by omega) (by omega)
  generalize Let.cut L p e = M1 at *
  generalize S.length = ls at *
  generalize T.length = lt at *
  have BB : Hid (Below w.heap.size w w) := Below.refl _ _
  obtain ⟨W1, hW1⟩ : ∃ W1, W1 = w.alloc (.cells #[.int .i64 i, .int .i64 l, .pointer q, .slice sa ls sc, .slice ta lt tc] 33) := ⟨_, rfl⟩
  obtain ⟨hb1, hr1, hl1⟩ := box_at hW1 (rfl : w.heap.size = w.heap.size)
  replace BB : Hid (Below w.heap.size w W1) := below_more BB.out hb1
  have RS : Hid (W1.heap[w.heap.size]? = some (.cells #[.int .i64 i, .int .i64 l, .pointer q, .slice sa ls sc, .slice ta lt tc] 33 (0, 0))) := hr1
  have HW1 := Lib.hid hW1
  clear hW1 hb1 hr1
  obtain ⟨W2, hW2⟩ : ∃ W2, W2 = W1.alloc (.cells #[.int .i64 0, .int .i64 0, .pointer none, .slice none 0 0, .slice none 0 0] 33) := ⟨_, rfl⟩
  obtain ⟨hb2, hr2, hl2⟩ := box_at hW2 (hl1 : W1.heap.size = w.heap.size + 1)
  replace RS : Hid (W2.heap[w.heap.size]? = some (.cells #[.int .i64 i, .int .i64 l, .pointer q, .slice sa ls sc, .slice ta lt tc] 33 (0, 0))) := (hb2.block _ (row_lt RS.out)).trans RS.out
  replace BB : Hid (Below w.heap.size w W2) := below_more BB.out hb2
  have RZ : Hid (W2.heap[w.heap.size + 1]? = some (.cells #[.int .i64 0, .int .i64 0, .pointer none, .slice none 0 0, .slice none 0 0] 33 (0, 0))) := hr2
  have HW2 := Lib.hid hW2
  clear hW2 hb2 hr2
  clear h hR hS hT hcl b1 hec hpe hp he
  obtain ⟨rsc0, rsc1, rsc2, rsc3, rsc4⟩ := five_cells RS.out
  go_enter Tryd.func19, Tryd.ntmps19
  go_upto_region 1 with fail
  rw [← HW1.out, ← HW2.out]
  clear HW1 HW2
  clear hl1 hl2
  go_wp2_with fail
  refine (CS.out _ BB.out).mono ?_
  rintro e w1 ⟨rfl, b1⟩
  clear rsc0 rsc1 rsc2 rsc3 rsc4
  replace RS : Hid (w1.heap[w.heap.size]? = some (.cells #[.int .i64 i, .int .i64 l, .pointer q, .slice sa ls sc, .slice ta lt tc] 33 (0, 0))) := (b1.block _ (row_lt RS.out)).trans RS.out
  replace RZ : Hid (w1.heap[w.heap.size + 1]? = some (.cells #[.int .i64 0, .int .i64 0, .pointer none, .slice none 0 0, .slice none 0 0] 33 (0, 0))) := (b1.block _ (row_lt RZ.out)).trans RZ.out
  replace BB : Hid (Below w.heap.size w w1) := below_more BB.out b1
  clear CS
  have BX : Hid (∀ w', Kp (fun k => k = w.heap.size + 1) w1 w' → Kp (fun k => k = w.heap.size + 1) w1 w' ∧ w'.cell? ⟨w.heap.size, 0, none⟩ = some (.int .i64 i) ∧ w'.cell? ⟨w.heap.size, 1, none⟩ = some (.int .i64 l) ∧ w'.cell? ⟨w.heap.size, 2, none⟩ = some (.pointer q) ∧ w'.cell? ⟨w.heap.size, 3, none⟩ = some (.slice sa ls sc) ∧ w'.cell? ⟨w.heap.size, 4, none⟩ = some (.slice ta lt tc)) := fun w' hk => ⟨hk, five_cells (hk.row RS.out (by omega))⟩
  have BZ : Hid (∀ w', Below w1.heap.size w1 w' → ZSeg w' (w.heap.size + 1)) := fun w' hb => ZSeg.below RZ.out hb (row_lt RZ.out)
  have HS1 : Hid (w.heap.size ≤ w1.heap.size) := BB.out.size
  have KB : Hid (∀ w', Kp (fun k => k = w.heap.size + 1) w1 w' → Below w.heap.size w w') := fun w' hk => hk.below BB.out (fun k hk' => by omega) HS1.out
  have KR := Lib.hid (Kp.refl (fun k => k = w.heap.size + 1) w1)
  have KB1 := Lib.hid (Below.refl w1.heap.size w1)
  obtain ⟨_, c0, c1, c2, c3, c4⟩ := BX.out w1 KR.out
  go_upto_region 2 with fail
  go_region_held3 (fun w' => Kp (fun k => k = w.heap.size + 1) w1 w' ∧ w'.cell? ⟨w.heap.size, 0, none⟩ = some (.int .i64 i) ∧ w'.cell? ⟨w.heap.size, 1, none⟩ = some (.int .i64 l) ∧ w'.cell? ⟨w.heap.size, 2, none⟩ = some (.pointer q) ∧ w'.cell? ⟨w.heap.size, 3, none⟩ = some (.slice sa ls sc) ∧ w'.cell? ⟨w.heap.size, 4, none⟩ = some (.slice ta lt tc))
    ((refine BX.out _ ?_; focus ((repeat first | assumption | exact KR.out | apply Kp.drew | apply Kp.drews | apply Kp.putR); done)))
    ((go_at_call 56; (with_reducible refine (CC.out _ (KB.out _ ?_)).mono ?_); (focus ((repeat first | assumption | exact KR.out | apply Kp.drew | apply Kp.drews | apply Kp.putR); done)); rintro e' w3 ⟨v3, rfl, o3, b3⟩; obtain ⟨q3, rfl⟩ := rope_ptr o3; have m3 := below_more (B := w1.heap.size) (w := w1) (by (repeat first | assumption | exact KB1.out | apply Below.drew | apply below_drews)) b3; have k3 := fun h => Kp.call (R := fun k => k = w.heap.size + 1) (W := w1) h b3; replace k3 := k3 (by (repeat first | assumption | exact KR.out | apply Kp.drew | apply Kp.drews | apply Kp.putR)); have z := BZ.out _ m3; obtain ⟨t0, t1, t2, t3, t4, f0, f1, f2, f3, f4⟩ := zseg_cells z))
  have FIN := Lib.hid (give_sg (w := w) (i := id) (l := l) (Nat.le_add_right _ 1) z o3 (Spans.nil_ _) (Sites.nil_ _) (by simp) (KB.out _ k3))
  obtain ⟨u0, u1, u2, u3, u4⟩ := set5_cells (a0 := .int .i64 id) (a1 := .int .i64 l) (a2 := .pointer q3) (a3 := .slice none 0 0) (a4 := .slice none 0 0) z
  go_wp2_with fail
  exact bodyPost_ret (v := .agg #[.int .i64 id, .int .i64 l, .pointer q3, .slice none 0 0, .slice none 0 0]) (by simp only [set5] at u0 u1 u2 u3 u4; simp [results, Tryd.results19, go_sem, u0, u1, u2, u3, u4]) rfl ⟨_, rfl, FIN.out.1, FIN.out.2⟩

/-- Three segments are handed back. -/
def GivePart (w : World) (i l mid lab last : Int) (L1 L2 L3 : Bytes) (S1 : List Sp) (T1 : List St) (S3 : List Sp) (T3 : List St) (e : Ending) (w' : World) : Prop := ∃ v1 v2 v3, e = .returned (.tuple #[v1, v2, v3]) ∧ Sg w' v1 i l L1 S1 T1 ∧ Sg w' v2 mid lab L2 [] [] ∧ Sg w' v3 last l L3 S3 T3 ∧ Below w.heap.size w w'

theorem GivePart.drew {w w' : World} {i l mid lab last : Int} {L1 L2 L3 : Bytes} {S1 : List Sp} {T1 : List St} {S3 : List Sp} {T3 : List St} {e : Ending} (h : GivePart w i l mid lab last L1 L2 L3 S1 T1 S3 T3 e w') : GivePart w i l mid lab last L1 L2 L3 S1 T1 S3 T3 e w'.drew := by
  obtain ⟨v1, v2, v3, e, h1, h2, h3, h4⟩ := h
  exact ⟨v1, v2, v3, e, h1.below (Below.refl _ _).drew (Nat.le_refl _), h2.below (Below.refl _ _).drew (Nat.le_refl _), h3.below (Below.refl _ _).drew (Nat.le_refl _), h4.drew⟩

set_option maxHeartbeats 24000000 in
theorem spart_any {v : Value} {i l : Int} {L : Bytes} {S : List Sp} {T : List St} (p e : Nat) (a n mid last lab : Int) (w : World) (h : Sg w v i l L S T) (hRS : RS 0 0 (Let.cnt L) S) (hRT : RT (Let.cnt L) T) (hp : placeI (Let.cnt L) a = p) (he : strTo (Let.cnt L) a n = e) (hpe : p ≤ e) (hec : e ≤ Let.cnt L) (a1 : -9223372036854775808 ≤ a) (a2 : a ≤ 9223372036854775807) (n1 : -9223372036854775808 ≤ n) (n2 : n ≤ 9223372036854775807) (b1 : L.length ≤ 10000) (hlt : T.length ≤ 10000) :
    Calls Tryd.prog 11 #[v, .int .i64 a, .int .i64 n, .int .i64 mid, .int .i64 last, .int .i64 lab] w (GivePart w i l mid lab last (Let.cut L 0 p) (Let.cut L p e) (Let.cut L e (Let.cnt L)) (pA p S) (sA p T) (pB (e - p : Int) (pB p S)) (sB (e - p : Int) (sB p T))) := by
  have hcl := Let.cnt_len L
  have hls := RS_len hRS (by omega)
  have hRB := RS_pB (p := (p : Int)) hRS
  have hTB := sB_right (p := (p : Int)) hRT
  have hlB := RS_len hRB (by omega)
  have hsB := sB_len (p : Int) T
  have P1 : Hid (∀ s ∈ sA p T, 0 < s.m) := RT_pos (sA_right (p := (p : Int)) hRT)
  have P3 : Hid (∀ s ∈ sB (e - p : Int) (sB p T), 0 < s.m) := RT_pos (sB_right (p := (e - p : Int)) hTB)
  have CS : Hid (∀ w', Below w.heap.size w w' → Calls Tryd.prog 54 #[v, .int .i64 a, .int .i64 n] w' fun e' w'' => e' = .returned (.tuple #[.int .i64 p, .int .i64 e]) ∧ Below w'.heap.size w' w'') := fun w' hb => by
    have := stretch_any a n w' (h.below hb (Nat.le_refl _)) a1 a2 n1 n2 (by omega)
    rwa [hp, he] at this
  obtain ⟨q, sa, sc, ta, tc, rfl, hR, hS, hT⟩ := h.open_
  have CP : Hid (∀ w', Below w.heap.size w w' → Calls Tryd.prog 55 #[.agg #[.slice sa S.length sc, .slice ta T.length tc], .int .i64 p] w' (GivesPt w' (pA p S) (sA p T) (pB p S) (sB p T))) := fun w' hb => part_any p w' (hS.below hb (Nat.le_refl _)) (hT.below hb (Nat.le_refl _)) (by omega) (by omega) (by omega) hlt (fun j hj => by have := RSat hRS j hj; omega) (fun j hj => by have := RTat hRT j hj; omega)
  have CQ : Hid (∀ w' v1 v2, Spans w' v1 (pB p S) → Sites w' v2 (sB p T) → Calls Tryd.prog 55 #[.agg #[v1, v2], .int .i64 ((e : Int) - p)] w' (GivesPt w' (pA (e - p : Int) (pB p S)) (sA (e - p : Int) (sB p T)) (pB (e - p : Int) (pB p S)) (sB (e - p : Int) (sB p T)))) := fun w' v1 v2 h1 h2 => part_any (e - p : Int) w' h1 h2 (by omega) (by omega) (by omega) (by omega) (fun j hj => by have := RSat hRB j hj; omega) (fun j hj => by have := RTat hTB j hj; omega)
  have C1 : Hid (∀ w', Below w.heap.size w w' → Calls Tryd.prog 56 #[.pointer q, .int .i64 0, .int .i64 p] w' (Con.Roped w' (Let.cut L 0 p))) := fun w' hb => cut1_is w' 0 p (hR.below hb (Nat.le_refl _)) b1 (by omega) (by omega) (by omega) (by omega)
  have C2 : Hid (∀ w', Below w.heap.size w w' → Calls Tryd.prog 56 #[.pointer q, .int .i64 p, .int .i64 e] w' (Con.Roped w' (Let.cut L p e))) := fun w' hb => cut1_is w' p e (hR.below hb (Nat.le_refl _)) b1 (by omega) (by omega) (by omega) (by omega)
  have C3 : Hid (∀ w', Below w.heap.size w w' → Calls Tryd.prog 56 #[.pointer q, .int .i64 e, .int .i64 (Let.cnt L)] w' (Con.Roped w' (Let.cut L e (Let.cnt L)))) := fun w' hb => cut1_is w' e (Let.cnt L) (hR.below hb (Nat.le_refl _)) b1 (by omega) (by omega) (by omega) (by omega)
  have CL : Hid (∀ w', Below w.heap.size w w' → Calls Tryd.prog 27 #[.pointer q] w' fun e w'' => e = .returned (.int .i64 (Let.cnt L)) ∧ w' = w'') := fun w' hb => rlen_is w' (hR.below hb (Nat.le_refl _))
  have hec4 : e ≤ 10000 := by omega
  have hpe1 : (p : Int) ≤ e := by omega
  have hec1 : (e : Int) ≤ 10000 := by omega
  generalize pB (e - p : Int) (pB p S) = S3 at *
  generalize sB (e - p : Int) (sB p T) = T3 at *
  generalize pA (e - p : Int) (pB p S) = S2 at *
  generalize sA (e - p : Int) (sB p T) = T2 at *
  generalize pA p S = S1 at *
  generalize sA p T = T1 at *
  generalize pB p S = SB at *
  generalize sB p T = TB at *
  generalize Let.cut L 0 p = L1 at *
  generalize Let.cut L p e = L2 at *
  generalize Let.cut L e (Let.cnt L) = L3 at *
  generalize Let.cnt L = c at *
  generalize S.length = ls at *
  generalize T.length = lt at *
  have BB : Hid (Below w.heap.size w w) := Below.refl _ _
  obtain ⟨W1, hW1⟩ : ∃ W1, W1 = w.alloc (.cells #[.int .i64 i, .int .i64 l, .pointer q, .slice sa ls sc, .slice ta lt tc] 33) := ⟨_, rfl⟩
  obtain ⟨hb1, hr1, hl1⟩ := box_at hW1 (rfl : w.heap.size = w.heap.size)
  replace BB : Hid (Below w.heap.size w W1) := below_more BB.out hb1
  have RS : Hid (W1.heap[w.heap.size]? = some (.cells #[.int .i64 i, .int .i64 l, .pointer q, .slice sa ls sc, .slice ta lt tc] 33 (0, 0))) := hr1
  have HW1 := Lib.hid hW1
  clear hW1 hb1 hr1
  obtain ⟨W2, hW2⟩ : ∃ W2, W2 = W1.alloc (.cells #[.int .i64 0, .int .i64 0, .pointer none, .slice none 0 0, .slice none 0 0] 33) := ⟨_, rfl⟩
  obtain ⟨hb2, hr2, hl2⟩ := box_at hW2 (hl1 : W1.heap.size = w.heap.size + 1)
  replace RS : Hid (W2.heap[w.heap.size]? = some (.cells #[.int .i64 i, .int .i64 l, .pointer q, .slice sa ls sc, .slice ta lt tc] 33 (0, 0))) := (hb2.block _ (row_lt RS.out)).trans RS.out
  replace BB : Hid (Below w.heap.size w W2) := below_more BB.out hb2
  have RA : Hid (W2.heap[w.heap.size + 1]? = some (.cells #[.int .i64 0, .int .i64 0, .pointer none, .slice none 0 0, .slice none 0 0] 33 (0, 0))) := hr2
  have HW2 := Lib.hid hW2
  clear hW2 hb2 hr2
  obtain ⟨W3, hW3⟩ : ∃ W3, W3 = W2.alloc (.cells #[.int .i64 0, .int .i64 0, .pointer none, .slice none 0 0, .slice none 0 0] 33) := ⟨_, rfl⟩
  obtain ⟨hb3, hr3, hl3⟩ := box_at hW3 (hl2 : W2.heap.size = w.heap.size + 1 + 1)
  replace RS : Hid (W3.heap[w.heap.size]? = some (.cells #[.int .i64 i, .int .i64 l, .pointer q, .slice sa ls sc, .slice ta lt tc] 33 (0, 0))) := (hb3.block _ (row_lt RS.out)).trans RS.out
  replace RA : Hid (W3.heap[w.heap.size + 1]? = some (.cells #[.int .i64 0, .int .i64 0, .pointer none, .slice none 0 0, .slice none 0 0] 33 (0, 0))) := (hb3.block _ (row_lt RA.out)).trans RA.out
  replace BB : Hid (Below w.heap.size w W3) := below_more BB.out hb3
  have RB : Hid (W3.heap[w.heap.size + 1 + 1]? = some (.cells #[.int .i64 0, .int .i64 0, .pointer none, .slice none 0 0, .slice none 0 0] 33 (0, 0))) := hr3
  have HW3 := Lib.hid hW3
  clear hW3 hb3 hr3
  obtain ⟨W4, hW4⟩ : ∃ W4, W4 = W3.alloc (.cells #[.int .i64 0, .int .i64 0, .pointer none, .slice none 0 0, .slice none 0 0] 33) := ⟨_, rfl⟩
  obtain ⟨hb4, hr4, hl4⟩ := box_at hW4 (hl3 : W3.heap.size = w.heap.size + 1 + 1 + 1)
  replace RS : Hid (W4.heap[w.heap.size]? = some (.cells #[.int .i64 i, .int .i64 l, .pointer q, .slice sa ls sc, .slice ta lt tc] 33 (0, 0))) := (hb4.block _ (row_lt RS.out)).trans RS.out
  replace RA : Hid (W4.heap[w.heap.size + 1]? = some (.cells #[.int .i64 0, .int .i64 0, .pointer none, .slice none 0 0, .slice none 0 0] 33 (0, 0))) := (hb4.block _ (row_lt RA.out)).trans RA.out
  replace RB : Hid (W4.heap[w.heap.size + 1 + 1]? = some (.cells #[.int .i64 0, .int .i64 0, .pointer none, .slice none 0 0, .slice none 0 0] 33 (0, 0))) := (hb4.block _ (row_lt RB.out)).trans RB.out
  replace BB : Hid (Below w.heap.size w W4) := below_more BB.out hb4
  have RC : Hid (W4.heap[w.heap.size + 1 + 1 + 1]? = some (.cells #[.int .i64 0, .int .i64 0, .pointer none, .slice none 0 0, .slice none 0 0] 33 (0, 0))) := hr4
  have HW4 := Lib.hid hW4
  clear hW4 hb4 hr4
  clear h hR hS hT hRS hRT hcl hls hRB hTB hlB hsB b1 hec hpe hp he hlt
  obtain ⟨rsc0, rsc1, rsc2, rsc3, rsc4⟩ := five_cells RS.out
  go_enter Tryd.func11, Tryd.ntmps11
  go_upto_region 1 with fail
  rw [← HW1.out, ← HW2.out, ← HW3.out, ← HW4.out]
  clear HW1 HW2 HW3 HW4
  clear hl1 hl2 hl3 hl4
  go_wp2_with fail
  refine (CS.out _ BB.out).mono ?_
  rintro e w1 ⟨rfl, b1⟩
  clear rsc0 rsc1 rsc2 rsc3 rsc4
  replace RS : Hid (w1.heap[w.heap.size]? = some (.cells #[.int .i64 i, .int .i64 l, .pointer q, .slice sa ls sc, .slice ta lt tc] 33 (0, 0))) := (b1.block _ (row_lt RS.out)).trans RS.out
  replace RA : Hid (w1.heap[w.heap.size + 1]? = some (.cells #[.int .i64 0, .int .i64 0, .pointer none, .slice none 0 0, .slice none 0 0] 33 (0, 0))) := (b1.block _ (row_lt RA.out)).trans RA.out
  replace RB : Hid (w1.heap[w.heap.size + 1 + 1]? = some (.cells #[.int .i64 0, .int .i64 0, .pointer none, .slice none 0 0, .slice none 0 0] 33 (0, 0))) := (b1.block _ (row_lt RB.out)).trans RB.out
  replace RC : Hid (w1.heap[w.heap.size + 1 + 1 + 1]? = some (.cells #[.int .i64 0, .int .i64 0, .pointer none, .slice none 0 0, .slice none 0 0] 33 (0, 0))) := (b1.block _ (row_lt RC.out)).trans RC.out
  replace BB : Hid (Below w.heap.size w w1) := below_more BB.out b1
  clear CS b1
  obtain ⟨rsc0, rsc1, rsc2, rsc3, rsc4⟩ := five_cells RS.out
  go_wp2_with fail
  refine (CP.out _ BB.out).mono ?_
  rintro e w2 ⟨u1, u2, u3, u4, rfl, g1, g2, g3, g4, _, _, b2⟩
  replace g1 := OwnSp.spans g1
  replace g2 := OwnSt.sites g2
  replace g3 := OwnSp.spans g3
  replace g4 := OwnSt.sites g4
  obtain ⟨x1, y1, rfl⟩ := g1.is_slice
  obtain ⟨x2, y2, rfl⟩ := g2.is_slice
  obtain ⟨x3, y3, rfl⟩ := g3.is_slice
  obtain ⟨x4, y4, rfl⟩ := g4.is_slice
  clear rsc0 rsc1 rsc2 rsc3 rsc4
  replace RS : Hid (w2.heap[w.heap.size]? = some (.cells #[.int .i64 i, .int .i64 l, .pointer q, .slice sa ls sc, .slice ta lt tc] 33 (0, 0))) := (b2.block _ (row_lt RS.out)).trans RS.out
  replace RA : Hid (w2.heap[w.heap.size + 1]? = some (.cells #[.int .i64 0, .int .i64 0, .pointer none, .slice none 0 0, .slice none 0 0] 33 (0, 0))) := (b2.block _ (row_lt RA.out)).trans RA.out
  replace RB : Hid (w2.heap[w.heap.size + 1 + 1]? = some (.cells #[.int .i64 0, .int .i64 0, .pointer none, .slice none 0 0, .slice none 0 0] 33 (0, 0))) := (b2.block _ (row_lt RB.out)).trans RB.out
  replace RC : Hid (w2.heap[w.heap.size + 1 + 1 + 1]? = some (.cells #[.int .i64 0, .int .i64 0, .pointer none, .slice none 0 0, .slice none 0 0] 33 (0, 0))) := (b2.block _ (row_lt RC.out)).trans RC.out
  replace BB : Hid (Below w.heap.size w w2) := below_more BB.out b2
  clear CP b2
  have G1 : Hid (Spans w2 (.slice x1 S1.length y1) S1) := g1
  have G2 : Hid (Sites w2 (.slice x2 T1.length y2) T1) := g2
  have G3 : Hid (Spans w2 (.slice x3 SB.length y3) SB) := g3
  have G4 : Hid (Sites w2 (.slice x4 TB.length y4) TB) := g4
  clear g1 g2 g3 g4
  generalize S1.length = m1 at *
  generalize T1.length = m2 at *
  generalize SB.length = m3 at *
  generalize TB.length = m4 at *
  obtain ⟨W5, hW5⟩ : ∃ W5, W5 = w2.alloc (.cells #[.slice x1 m1 y1, .slice x2 m2 y2] 31) := ⟨_, rfl⟩
  obtain ⟨hb5, hr5, hl5⟩ := box_at hW5 (rfl : w2.heap.size = w2.heap.size)
  replace RS : Hid (W5.heap[w.heap.size]? = some (.cells #[.int .i64 i, .int .i64 l, .pointer q, .slice sa ls sc, .slice ta lt tc] 33 (0, 0))) := (hb5.block _ (row_lt RS.out)).trans RS.out
  replace RA : Hid (W5.heap[w.heap.size + 1]? = some (.cells #[.int .i64 0, .int .i64 0, .pointer none, .slice none 0 0, .slice none 0 0] 33 (0, 0))) := (hb5.block _ (row_lt RA.out)).trans RA.out
  replace RB : Hid (W5.heap[w.heap.size + 1 + 1]? = some (.cells #[.int .i64 0, .int .i64 0, .pointer none, .slice none 0 0, .slice none 0 0] 33 (0, 0))) := (hb5.block _ (row_lt RB.out)).trans RB.out
  replace RC : Hid (W5.heap[w.heap.size + 1 + 1 + 1]? = some (.cells #[.int .i64 0, .int .i64 0, .pointer none, .slice none 0 0, .slice none 0 0] 33 (0, 0))) := (hb5.block _ (row_lt RC.out)).trans RC.out
  replace BB : Hid (Below w.heap.size w W5) := below_more BB.out hb5
  replace G1 : Hid (Spans W5 (.slice x1 m1 y1) S1) := Fl.below G1.out hb5 (Nat.le_refl _)
  replace G2 : Hid (Sites W5 (.slice x2 m2 y2) T1) := Fl.below G2.out hb5 (Nat.le_refl _)
  replace G3 : Hid (Spans W5 (.slice x3 m3 y3) SB) := Fl.below G3.out hb5 (Nat.le_refl _)
  replace G4 : Hid (Sites W5 (.slice x4 m4 y4) TB) := Fl.below G4.out hb5 (Nat.le_refl _)
  have RD : Hid (W5.heap[w2.heap.size]? = some (.cells #[.slice x1 m1 y1, .slice x2 m2 y2] 31 (0, 0))) := hr5
  have HW5 := Lib.hid hW5
  clear hW5 hb5 hr5
  obtain ⟨W6, hW6⟩ : ∃ W6, W6 = W5.alloc (.cells #[.slice x3 m3 y3, .slice x4 m4 y4] 31) := ⟨_, rfl⟩
  obtain ⟨hb6, hr6, hl6⟩ := box_at hW6 (hl5 : W5.heap.size = w2.heap.size + 1)
  replace RS : Hid (W6.heap[w.heap.size]? = some (.cells #[.int .i64 i, .int .i64 l, .pointer q, .slice sa ls sc, .slice ta lt tc] 33 (0, 0))) := (hb6.block _ (row_lt RS.out)).trans RS.out
  replace RA : Hid (W6.heap[w.heap.size + 1]? = some (.cells #[.int .i64 0, .int .i64 0, .pointer none, .slice none 0 0, .slice none 0 0] 33 (0, 0))) := (hb6.block _ (row_lt RA.out)).trans RA.out
  replace RB : Hid (W6.heap[w.heap.size + 1 + 1]? = some (.cells #[.int .i64 0, .int .i64 0, .pointer none, .slice none 0 0, .slice none 0 0] 33 (0, 0))) := (hb6.block _ (row_lt RB.out)).trans RB.out
  replace RC : Hid (W6.heap[w.heap.size + 1 + 1 + 1]? = some (.cells #[.int .i64 0, .int .i64 0, .pointer none, .slice none 0 0, .slice none 0 0] 33 (0, 0))) := (hb6.block _ (row_lt RC.out)).trans RC.out
  replace RD : Hid (W6.heap[w2.heap.size]? = some (.cells #[.slice x1 m1 y1, .slice x2 m2 y2] 31 (0, 0))) := (hb6.block _ (row_lt RD.out)).trans RD.out
  replace BB : Hid (Below w.heap.size w W6) := below_more BB.out hb6
  replace G1 : Hid (Spans W6 (.slice x1 m1 y1) S1) := Fl.below G1.out hb6 (Nat.le_refl _)
  replace G2 : Hid (Sites W6 (.slice x2 m2 y2) T1) := Fl.below G2.out hb6 (Nat.le_refl _)
  replace G3 : Hid (Spans W6 (.slice x3 m3 y3) SB) := Fl.below G3.out hb6 (Nat.le_refl _)
  replace G4 : Hid (Sites W6 (.slice x4 m4 y4) TB) := Fl.below G4.out hb6 (Nat.le_refl _)
  have RE : Hid (W6.heap[w2.heap.size + 1]? = some (.cells #[.slice x3 m3 y3, .slice x4 m4 y4] 31 (0, 0))) := hr6
  have HW6 := Lib.hid hW6
  clear hW6 hb6 hr6
  go_upto_region 3 with fail
  rw [← HW5.out, ← HW6.out]
  clear HW5 HW6
  clear hl5 hl6
  obtain ⟨rec0, rec1, ref0, ref1⟩ := two_cells RE.out
  go_wp2_with fail
  refine (CQ.out _ _ _ G3.out G4.out).mono ?_
  rintro e w3 ⟨u1, u2, u3, u4, rfl, g1, g2, g5, g6, _, _, b3⟩
  replace g1 := OwnSp.spans g1
  replace g2 := OwnSt.sites g2
  replace g5 := OwnSp.spans g5
  replace g6 := OwnSt.sites g6
  obtain ⟨x7, y7, rfl⟩ := g1.is_slice
  obtain ⟨x8, y8, rfl⟩ := g2.is_slice
  obtain ⟨x5, y5, rfl⟩ := g5.is_slice
  obtain ⟨x6, y6, rfl⟩ := g6.is_slice
  clear rec0 rec1 ref0 ref1
  replace RS : Hid (w3.heap[w.heap.size]? = some (.cells #[.int .i64 i, .int .i64 l, .pointer q, .slice sa ls sc, .slice ta lt tc] 33 (0, 0))) := (b3.block _ (row_lt RS.out)).trans RS.out
  replace RA : Hid (w3.heap[w.heap.size + 1]? = some (.cells #[.int .i64 0, .int .i64 0, .pointer none, .slice none 0 0, .slice none 0 0] 33 (0, 0))) := (b3.block _ (row_lt RA.out)).trans RA.out
  replace RB : Hid (w3.heap[w.heap.size + 1 + 1]? = some (.cells #[.int .i64 0, .int .i64 0, .pointer none, .slice none 0 0, .slice none 0 0] 33 (0, 0))) := (b3.block _ (row_lt RB.out)).trans RB.out
  replace RC : Hid (w3.heap[w.heap.size + 1 + 1 + 1]? = some (.cells #[.int .i64 0, .int .i64 0, .pointer none, .slice none 0 0, .slice none 0 0] 33 (0, 0))) := (b3.block _ (row_lt RC.out)).trans RC.out
  replace RD : Hid (w3.heap[w2.heap.size]? = some (.cells #[.slice x1 m1 y1, .slice x2 m2 y2] 31 (0, 0))) := (b3.block _ (row_lt RD.out)).trans RD.out
  replace RE : Hid (w3.heap[w2.heap.size + 1]? = some (.cells #[.slice x3 m3 y3, .slice x4 m4 y4] 31 (0, 0))) := (b3.block _ (row_lt RE.out)).trans RE.out
  replace BB : Hid (Below w.heap.size w w3) := below_more BB.out b3
  replace G1 : Hid (Spans w3 (.slice x1 m1 y1) S1) := Fl.below G1.out b3 (Nat.le_refl _)
  replace G2 : Hid (Sites w3 (.slice x2 m2 y2) T1) := Fl.below G2.out b3 (Nat.le_refl _)
  replace G3 : Hid (Spans w3 (.slice x3 m3 y3) SB) := Fl.below G3.out b3 (Nat.le_refl _)
  replace G4 : Hid (Sites w3 (.slice x4 m4 y4) TB) := Fl.below G4.out b3 (Nat.le_refl _)
  clear G3 G4 RE
  clear CQ b3 g1 g2
  have G5 : Hid (Spans w3 (.slice x5 S3.length y5) S3) := g5
  have G6 : Hid (Sites w3 (.slice x6 T3.length y6) T3) := g6
  clear g5 g6
  generalize S3.length = m5 at *
  generalize T3.length = m6 at *
  generalize S2.length = m7 at *
  generalize T2.length = m8 at *
  obtain ⟨W7, hW7⟩ : ∃ W7, W7 = w3.alloc (.cells #[.slice x7 m7 y7, .slice x8 m8 y8] 31) := ⟨_, rfl⟩
  obtain ⟨hb7, hr7, hl7⟩ := box_at hW7 (rfl : w3.heap.size = w3.heap.size)
  replace RS : Hid (W7.heap[w.heap.size]? = some (.cells #[.int .i64 i, .int .i64 l, .pointer q, .slice sa ls sc, .slice ta lt tc] 33 (0, 0))) := (hb7.block _ (row_lt RS.out)).trans RS.out
  replace RA : Hid (W7.heap[w.heap.size + 1]? = some (.cells #[.int .i64 0, .int .i64 0, .pointer none, .slice none 0 0, .slice none 0 0] 33 (0, 0))) := (hb7.block _ (row_lt RA.out)).trans RA.out
  replace RB : Hid (W7.heap[w.heap.size + 1 + 1]? = some (.cells #[.int .i64 0, .int .i64 0, .pointer none, .slice none 0 0, .slice none 0 0] 33 (0, 0))) := (hb7.block _ (row_lt RB.out)).trans RB.out
  replace RC : Hid (W7.heap[w.heap.size + 1 + 1 + 1]? = some (.cells #[.int .i64 0, .int .i64 0, .pointer none, .slice none 0 0, .slice none 0 0] 33 (0, 0))) := (hb7.block _ (row_lt RC.out)).trans RC.out
  replace RD : Hid (W7.heap[w2.heap.size]? = some (.cells #[.slice x1 m1 y1, .slice x2 m2 y2] 31 (0, 0))) := (hb7.block _ (row_lt RD.out)).trans RD.out
  replace BB : Hid (Below w.heap.size w W7) := below_more BB.out hb7
  replace G1 : Hid (Spans W7 (.slice x1 m1 y1) S1) := Fl.below G1.out hb7 (Nat.le_refl _)
  replace G2 : Hid (Sites W7 (.slice x2 m2 y2) T1) := Fl.below G2.out hb7 (Nat.le_refl _)
  replace G5 : Hid (Spans W7 (.slice x5 m5 y5) S3) := Fl.below G5.out hb7 (Nat.le_refl _)
  replace G6 : Hid (Sites W7 (.slice x6 m6 y6) T3) := Fl.below G6.out hb7 (Nat.le_refl _)
  have RF : Hid (W7.heap[w3.heap.size]? = some (.cells #[.slice x7 m7 y7, .slice x8 m8 y8] 31 (0, 0))) := hr7
  have HW7 := Lib.hid hW7
  clear hW7 hb7 hr7
  obtain ⟨W8, hW8⟩ : ∃ W8, W8 = W7.alloc (.cells #[.slice x5 m5 y5, .slice x6 m6 y6] 31) := ⟨_, rfl⟩
  obtain ⟨hb8, hr8, hl8⟩ := box_at hW8 (hl7 : W7.heap.size = w3.heap.size + 1)
  replace RS : Hid (W8.heap[w.heap.size]? = some (.cells #[.int .i64 i, .int .i64 l, .pointer q, .slice sa ls sc, .slice ta lt tc] 33 (0, 0))) := (hb8.block _ (row_lt RS.out)).trans RS.out
  replace RA : Hid (W8.heap[w.heap.size + 1]? = some (.cells #[.int .i64 0, .int .i64 0, .pointer none, .slice none 0 0, .slice none 0 0] 33 (0, 0))) := (hb8.block _ (row_lt RA.out)).trans RA.out
  replace RB : Hid (W8.heap[w.heap.size + 1 + 1]? = some (.cells #[.int .i64 0, .int .i64 0, .pointer none, .slice none 0 0, .slice none 0 0] 33 (0, 0))) := (hb8.block _ (row_lt RB.out)).trans RB.out
  replace RC : Hid (W8.heap[w.heap.size + 1 + 1 + 1]? = some (.cells #[.int .i64 0, .int .i64 0, .pointer none, .slice none 0 0, .slice none 0 0] 33 (0, 0))) := (hb8.block _ (row_lt RC.out)).trans RC.out
  replace RD : Hid (W8.heap[w2.heap.size]? = some (.cells #[.slice x1 m1 y1, .slice x2 m2 y2] 31 (0, 0))) := (hb8.block _ (row_lt RD.out)).trans RD.out
  replace RF : Hid (W8.heap[w3.heap.size]? = some (.cells #[.slice x7 m7 y7, .slice x8 m8 y8] 31 (0, 0))) := (hb8.block _ (row_lt RF.out)).trans RF.out
  replace BB : Hid (Below w.heap.size w W8) := below_more BB.out hb8
  replace G1 : Hid (Spans W8 (.slice x1 m1 y1) S1) := Fl.below G1.out hb8 (Nat.le_refl _)
  replace G2 : Hid (Sites W8 (.slice x2 m2 y2) T1) := Fl.below G2.out hb8 (Nat.le_refl _)
  replace G5 : Hid (Spans W8 (.slice x5 m5 y5) S3) := Fl.below G5.out hb8 (Nat.le_refl _)
  replace G6 : Hid (Sites W8 (.slice x6 m6 y6) T3) := Fl.below G6.out hb8 (Nat.le_refl _)
  have RG : Hid (W8.heap[w3.heap.size + 1]? = some (.cells #[.slice x5 m5 y5, .slice x6 m6 y6] 31 (0, 0))) := hr8
  have HW8 := Lib.hid hW8
  clear hW8 hb8 hr8
  go_upto_region 4 with fail
  rw [← HW7.out, ← HW8.out]
  clear HW7 HW8
  clear hl7 hl8
  clear RF
  have BX : Hid (∀ w', Below W8.heap.size W8 w' → Below W8.heap.size W8 w' ∧ (w'.cell? ⟨w.heap.size, 0, none⟩ = some (.int .i64 i) ∧ w'.cell? ⟨w.heap.size, 1, none⟩ = some (.int .i64 l) ∧ w'.cell? ⟨w.heap.size, 2, none⟩ = some (.pointer q) ∧ w'.cell? ⟨w.heap.size, 3, none⟩ = some (.slice sa ls sc) ∧ w'.cell? ⟨w.heap.size, 4, none⟩ = some (.slice ta lt tc)) ∧ (w'.cell? ⟨w2.heap.size, 0, none⟩ = some (.slice x1 m1 y1) ∧ w'.cell? ⟨w2.heap.size, 1, none⟩ = some (.slice x2 m2 y2))) := fun w' hb => ⟨hb, five_cells ((hb.block _ (row_lt RS.out)).trans RS.out), two_only ((hb.block _ (row_lt RD.out)).trans RD.out)⟩
  have KR := Lib.hid (Below.refl W8.heap.size W8)
  have KK : Hid (∀ w', Below W8.heap.size W8 w' → Below w.heap.size w w') := fun w' hb => below_more BB.out hb
  have GG : Hid (∀ w', Below W8.heap.size W8 w' → Spans w' (.slice x1 m1 y1) S1 ∧ Sites w' (.slice x2 m2 y2) T1) := fun w' hb => ⟨Fl.below G1.out hb (Nat.le_refl _), Fl.below G2.out hb (Nat.le_refl _)⟩
  go_cut [21] from 46 to 56 (fun x wx => ∃ (NB : Nat) (q1 : Option Addr), x = .pointer (some ⟨NB, 0, none⟩) ∧ Hid (FilS W8 wx NB i l L1 S1 T1 q1 x1 m1 y1 x2 m2 y2))
  case first =>
    obtain ⟨_, ⟨c0, c1, c2, c3, c4⟩, d0, d1⟩ := BX.out W8 KR.out
    go_region_held3 (fun w' => Below W8.heap.size W8 w' ∧ (w'.cell? ⟨w.heap.size, 0, none⟩ = some (.int .i64 i) ∧ w'.cell? ⟨w.heap.size, 1, none⟩ = some (.int .i64 l) ∧ w'.cell? ⟨w.heap.size, 2, none⟩ = some (.pointer q) ∧ w'.cell? ⟨w.heap.size, 3, none⟩ = some (.slice sa ls sc) ∧ w'.cell? ⟨w.heap.size, 4, none⟩ = some (.slice ta lt tc)) ∧ (w'.cell? ⟨w2.heap.size, 0, none⟩ = some (.slice x1 m1 y1) ∧ w'.cell? ⟨w2.heap.size, 1, none⟩ = some (.slice x2 m2 y2)))
      ((refine BX.out _ ?_; focus ((repeat first | with_reducible assumption | with_reducible exact KR.out | with_reducible apply Below.drew | with_reducible apply below_drews | (with_reducible refine Below.alloc ?_ ?_ _; focus (first | with_reducible assumption | with_reducible exact KR.out | exact Nat.le_refl _)) | exact Nat.le_refl _ | (with_reducible refine below_put ?_ (by first | assumption | omega) _)); done)))
      ((go_at_call 56; (with_reducible refine (C1.out _ (KK.out _ ?_)).mono ?_); (focus ((repeat first | with_reducible assumption | with_reducible exact KR.out | with_reducible apply Below.drew | with_reducible apply below_drews | (with_reducible refine Below.alloc ?_ ?_ _; focus (first | with_reducible assumption | with_reducible exact KR.out | exact Nat.le_refl _)) | exact Nat.le_refl _ | (with_reducible refine below_put ?_ (by first | assumption | omega) _)); done)); rintro e w5 ⟨v5, rfl, o1, b5⟩; obtain ⟨q5, rfl⟩ := rope_ptr o1; have jj5 := fun h => below_more (B := W8.heap.size) (w := W8) h b5; replace jj5 := jj5 (by (repeat first | with_reducible assumption | with_reducible exact KR.out | with_reducible apply Below.drew | with_reducible apply below_drews | (with_reducible refine Below.alloc ?_ ?_ _; focus (first | with_reducible assumption | with_reducible exact KR.out | exact Nat.le_refl _)) | exact Nat.le_refl _ | (with_reducible refine below_put ?_ (by first | assumption | omega) _))); have yy5 := jj5.size; first | (have zN := ZR.below zN b5; have FN := fil_sg (i := i) (l := l) zN o1 (GG.out _ jj5).1 (GG.out _ jj5).2 P1.out jj5; obtain ⟨z0, z1, z2, z3, z4⟩ := five_cells zN.z; obtain ⟨f0, f1, f2, f3, f4⟩ := five_free zN.z; have s6 := zN.s) | (with_reducible (have zN := fun hk => zr_new (cs := #[.int .i64 0, .int .i64 0, .pointer none, .slice none 0 0, .slice none 0 0]) (ty := 33) (W := W8) hk b5); replace zN := zN (by (repeat first | with_reducible assumption | with_reducible exact KR.out | with_reducible apply Below.drew | with_reducible apply below_drews | (with_reducible refine Below.alloc ?_ ?_ _; focus (first | with_reducible assumption | with_reducible exact KR.out | exact Nat.le_refl _)) | exact Nat.le_refl _ | (with_reducible refine below_put ?_ (by first | assumption | omega) _))); have FN := fil_sg (i := i) (l := l) zN o1 (GG.out _ jj5).1 (GG.out _ jj5).2 P1.out jj5; obtain ⟨z0, z1, z2, z3, z4⟩ := five_cells zN.z; obtain ⟨f0, f1, f2, f3, f4⟩ := five_free zN.z; have s6 := zN.s) | (with_reducible (have zN := fun hk => zr_newd (cs := #[.int .i64 0, .int .i64 0, .pointer none, .slice none 0 0, .slice none 0 0]) (ty := 33) (W := W8) hk b5); replace zN := zN (by (repeat first | with_reducible assumption | with_reducible exact KR.out | with_reducible apply Below.drew | with_reducible apply below_drews | (with_reducible refine Below.alloc ?_ ?_ _; focus (first | with_reducible assumption | with_reducible exact KR.out | exact Nat.le_refl _)) | exact Nat.le_refl _ | (with_reducible refine below_put ?_ (by first | assumption | omega) _))); have FN := fil_sg (i := i) (l := l) zN o1 (GG.out _ jj5).1 (GG.out _ jj5).2 P1.out jj5; obtain ⟨z0, z1, z2, z3, z4⟩ := five_cells zN.z; obtain ⟨f0, f1, f2, f3, f4⟩ := five_free zN.z; have s6 := zN.s) | (have FN := fil_sga (i := i) (l := l) o1 (GG.out _ jj5).1 (GG.out _ jj5).2 jj5; have zN := zr_alloc (cs := #[.int .i64 0, .int .i64 0, .pointer none, .slice none 0 0, .slice none 0 0]) (ty := 33) jj5; obtain ⟨z0, z1, z2, z3, z4⟩ := five_cells zN.z; obtain ⟨f0, f1, f2, f3, f4⟩ := five_free zN.z; have s6 := zN.s)))
    all_goals go_wp2_with fail
    all_goals go_meet
    all_goals exact ⟨_, _, rfl, FN⟩
  case rest =>
    obtain ⟨wp, hwp⟩ : ∃ wp : World, wp = wc := ⟨_, rfl⟩
    subst hwp
    obtain ⟨NB, q1, rfl, HF⟩ := hcut
    obtain ⟨RH0, SH0, hbF, sF⟩ := HF.out
    have n1 : w.heap.size + 1 + 1 + 1 < NB := Nat.lt_of_lt_of_le (row_lt RC.out) sF
    clear HF BX KR KK GG C1 sF
    replace n1 := Lib.hid n1
    clear RD G1 G2
    replace RS : Hid (wp.heap[w.heap.size]? = some (.cells #[.int .i64 i, .int .i64 l, .pointer q, .slice sa ls sc, .slice ta lt tc] 33 (0, 0))) := (hbF.block _ (row_lt RS.out)).trans RS.out
    replace RA : Hid (wp.heap[w.heap.size + 1]? = some (.cells #[.int .i64 0, .int .i64 0, .pointer none, .slice none 0 0, .slice none 0 0] 33 (0, 0))) := (hbF.block _ (row_lt RA.out)).trans RA.out
    replace RB : Hid (wp.heap[w.heap.size + 1 + 1]? = some (.cells #[.int .i64 0, .int .i64 0, .pointer none, .slice none 0 0, .slice none 0 0] 33 (0, 0))) := (hbF.block _ (row_lt RB.out)).trans RB.out
    replace RC : Hid (wp.heap[w.heap.size + 1 + 1 + 1]? = some (.cells #[.int .i64 0, .int .i64 0, .pointer none, .slice none 0 0, .slice none 0 0] 33 (0, 0))) := (hbF.block _ (row_lt RC.out)).trans RC.out
    replace RG : Hid (wp.heap[w3.heap.size + 1]? = some (.cells #[.slice x5 m5 y5, .slice x6 m6 y6] 31 (0, 0))) := (hbF.block _ (row_lt RG.out)).trans RG.out
    replace BB : Hid (Below w.heap.size w wp) := below_more BB.out hbF
    replace G5 : Hid (Spans wp (.slice x5 m5 y5) S3) := Fl.below G5.out hbF (Nat.le_refl _)
    replace G6 : Hid (Sites wp (.slice x6 m6 y6) T3) := Fl.below G6.out hbF (Nat.le_refl _)
    clear hbF
    have RH : Hid (wp.heap[NB]? = some (.cells #[.int .i64 i, .int .i64 l, .pointer q1, .slice x1 m1 y1, .slice x2 m2 y2] 33 (0, 0))) := RH0
    have SH : Hid (Sg wp (.agg #[.int .i64 i, .int .i64 l, .pointer q1, .slice x1 m1 y1, .slice x2 m2 y2]) i l L1 S1 T1) := SH0
    clear RH0 SH0
    obtain ⟨rsc0, rsc1, rsc2, rsc3, rsc4⟩ := five_cells RS.out
    go_upto_region 5 with fail
    go_wp2_with fail
    refine (C2.out _ BB.out).mono ?_
    rintro e w6 ⟨v6, rfl, o2, b6⟩
    obtain ⟨q2, rfl⟩ := rope_ptr o2
    clear rsc0 rsc1 rsc2 rsc3 rsc4
    replace RS : Hid (w6.heap[w.heap.size]? = some (.cells #[.int .i64 i, .int .i64 l, .pointer q, .slice sa ls sc, .slice ta lt tc] 33 (0, 0))) := (b6.block _ (row_lt RS.out)).trans RS.out
    replace RA : Hid (w6.heap[w.heap.size + 1]? = some (.cells #[.int .i64 0, .int .i64 0, .pointer none, .slice none 0 0, .slice none 0 0] 33 (0, 0))) := (b6.block _ (row_lt RA.out)).trans RA.out
    replace RB : Hid (w6.heap[w.heap.size + 1 + 1]? = some (.cells #[.int .i64 0, .int .i64 0, .pointer none, .slice none 0 0, .slice none 0 0] 33 (0, 0))) := (b6.block _ (row_lt RB.out)).trans RB.out
    replace RC : Hid (w6.heap[w.heap.size + 1 + 1 + 1]? = some (.cells #[.int .i64 0, .int .i64 0, .pointer none, .slice none 0 0, .slice none 0 0] 33 (0, 0))) := (b6.block _ (row_lt RC.out)).trans RC.out
    replace RG : Hid (w6.heap[w3.heap.size + 1]? = some (.cells #[.slice x5 m5 y5, .slice x6 m6 y6] 31 (0, 0))) := (b6.block _ (row_lt RG.out)).trans RG.out
    replace RH : Hid (w6.heap[NB]? = some (.cells #[.int .i64 i, .int .i64 l, .pointer q1, .slice x1 m1 y1, .slice x2 m2 y2] 33 (0, 0))) := (b6.block _ (row_lt RH.out)).trans RH.out
    replace BB : Hid (Below w.heap.size w w6) := below_more BB.out b6
    replace G5 : Hid (Spans w6 (.slice x5 m5 y5) S3) := Fl.below G5.out b6 (Nat.le_refl _)
    replace G6 : Hid (Sites w6 (.slice x6 m6 y6) T3) := Fl.below G6.out b6 (Nat.le_refl _)
    replace SH : Hid (Sg w6 (.agg #[.int .i64 i, .int .i64 l, .pointer q1, .slice x1 m1 y1, .slice x2 m2 y2]) i l L1 S1 T1) := SH.out.below b6 (Nat.le_refl _)
    clear C2 b6
    have SI : Hid (Sg w6 (.agg #[.int .i64 mid, .int .i64 lab, .pointer q2, .slice none 0 0, .slice none 0 0]) mid lab L2 [] []) := nil_sg _ o2
    clear o2
    have n2 := Lib.hid (row_lt RC.out)
    obtain ⟨W9, hW9⟩ : ∃ W9, W9 = w6.alloc (.cells #[.int .i64 mid, .int .i64 lab, .pointer q2, .slice none 0 0, .slice none 0 0] 33) := ⟨_, rfl⟩
    obtain ⟨hb9, hr9, hl9⟩ := box_at hW9 (rfl : w6.heap.size = w6.heap.size)
    replace RS : Hid (W9.heap[w.heap.size]? = some (.cells #[.int .i64 i, .int .i64 l, .pointer q, .slice sa ls sc, .slice ta lt tc] 33 (0, 0))) := (hb9.block _ (row_lt RS.out)).trans RS.out
    replace RA : Hid (W9.heap[w.heap.size + 1]? = some (.cells #[.int .i64 0, .int .i64 0, .pointer none, .slice none 0 0, .slice none 0 0] 33 (0, 0))) := (hb9.block _ (row_lt RA.out)).trans RA.out
    replace RB : Hid (W9.heap[w.heap.size + 1 + 1]? = some (.cells #[.int .i64 0, .int .i64 0, .pointer none, .slice none 0 0, .slice none 0 0] 33 (0, 0))) := (hb9.block _ (row_lt RB.out)).trans RB.out
    replace RC : Hid (W9.heap[w.heap.size + 1 + 1 + 1]? = some (.cells #[.int .i64 0, .int .i64 0, .pointer none, .slice none 0 0, .slice none 0 0] 33 (0, 0))) := (hb9.block _ (row_lt RC.out)).trans RC.out
    replace RG : Hid (W9.heap[w3.heap.size + 1]? = some (.cells #[.slice x5 m5 y5, .slice x6 m6 y6] 31 (0, 0))) := (hb9.block _ (row_lt RG.out)).trans RG.out
    replace RH : Hid (W9.heap[NB]? = some (.cells #[.int .i64 i, .int .i64 l, .pointer q1, .slice x1 m1 y1, .slice x2 m2 y2] 33 (0, 0))) := (hb9.block _ (row_lt RH.out)).trans RH.out
    replace BB : Hid (Below w.heap.size w W9) := below_more BB.out hb9
    replace G5 : Hid (Spans W9 (.slice x5 m5 y5) S3) := Fl.below G5.out hb9 (Nat.le_refl _)
    replace G6 : Hid (Sites W9 (.slice x6 m6 y6) T3) := Fl.below G6.out hb9 (Nat.le_refl _)
    replace SH : Hid (Sg W9 (.agg #[.int .i64 i, .int .i64 l, .pointer q1, .slice x1 m1 y1, .slice x2 m2 y2]) i l L1 S1 T1) := SH.out.below hb9 (Nat.le_refl _)
    replace SI : Hid (Sg W9 (.agg #[.int .i64 mid, .int .i64 lab, .pointer q2, .slice none 0 0, .slice none 0 0]) mid lab L2 [] []) := SI.out.below hb9 (Nat.le_refl _)
    have RI : Hid (W9.heap[w6.heap.size]? = some (.cells #[.int .i64 mid, .int .i64 lab, .pointer q2, .slice none 0 0, .slice none 0 0] 33 (0, 0))) := hr9
    have HW9 := Lib.hid hW9
    clear hW9 hb9 hr9
    go_upto_region 6 with fail
    rw [← HW9.out]
    clear HW9
    clear hl9
    have BX : Hid (∀ w', Below W9.heap.size W9 w' → Below W9.heap.size W9 w' ∧ (w'.cell? ⟨w.heap.size, 0, none⟩ = some (.int .i64 i) ∧ w'.cell? ⟨w.heap.size, 1, none⟩ = some (.int .i64 l) ∧ w'.cell? ⟨w.heap.size, 2, none⟩ = some (.pointer q) ∧ w'.cell? ⟨w.heap.size, 3, none⟩ = some (.slice sa ls sc) ∧ w'.cell? ⟨w.heap.size, 4, none⟩ = some (.slice ta lt tc)) ∧ (w'.cell? ⟨w3.heap.size + 1, 0, none⟩ = some (.slice x5 m5 y5) ∧ w'.cell? ⟨w3.heap.size + 1, 1, none⟩ = some (.slice x6 m6 y6))) := fun w' hb => ⟨hb, five_cells ((hb.block _ (row_lt RS.out)).trans RS.out), two_only ((hb.block _ (row_lt RG.out)).trans RG.out)⟩
    have KR := Lib.hid (Below.refl W9.heap.size W9)
    have KK : Hid (∀ w', Below W9.heap.size W9 w' → Below w.heap.size w w') := fun w' hb => below_more BB.out hb
    have GG : Hid (∀ w', Below W9.heap.size W9 w' → Spans w' (.slice x5 m5 y5) S3 ∧ Sites w' (.slice x6 m6 y6) T3) := fun w' hb => ⟨Fl.below G5.out hb (Nat.le_refl _), Fl.below G6.out hb (Nat.le_refl _)⟩
    go_cut [23] from 64 to 76 (fun x wx => ∃ (NC : Nat) (q3 : Option Addr), x = .pointer (some ⟨NC, 0, none⟩) ∧ Hid (FilS W9 wx NC last l L3 S3 T3 q3 x5 m5 y5 x6 m6 y6))
    case first =>
      obtain ⟨_, ⟨c0, c1, c2, c3, c4⟩, d0, d1⟩ := BX.out W9 KR.out
      go_region_held3 (fun w' => Below W9.heap.size W9 w' ∧ (w'.cell? ⟨w.heap.size, 0, none⟩ = some (.int .i64 i) ∧ w'.cell? ⟨w.heap.size, 1, none⟩ = some (.int .i64 l) ∧ w'.cell? ⟨w.heap.size, 2, none⟩ = some (.pointer q) ∧ w'.cell? ⟨w.heap.size, 3, none⟩ = some (.slice sa ls sc) ∧ w'.cell? ⟨w.heap.size, 4, none⟩ = some (.slice ta lt tc)) ∧ (w'.cell? ⟨w3.heap.size + 1, 0, none⟩ = some (.slice x5 m5 y5) ∧ w'.cell? ⟨w3.heap.size + 1, 1, none⟩ = some (.slice x6 m6 y6)))
        ((refine BX.out _ ?_; focus ((repeat first | with_reducible assumption | with_reducible exact KR.out | with_reducible apply Below.drew | with_reducible apply below_drews | (with_reducible refine Below.alloc ?_ ?_ _; focus (first | with_reducible assumption | with_reducible exact KR.out | exact Nat.le_refl _)) | exact Nat.le_refl _ | (with_reducible refine below_put ?_ (by first | assumption | omega) _)); done)))
        (first
          | (go_at_call 27; (with_reducible refine (CL.out _ (KK.out _ ?_)).mono ?_); (focus ((repeat first | with_reducible assumption | with_reducible exact KR.out | with_reducible apply Below.drew | with_reducible apply below_drews | (with_reducible refine Below.alloc ?_ ?_ _; focus (first | with_reducible assumption | with_reducible exact KR.out | exact Nat.le_refl _)) | exact Nat.le_refl _ | (with_reducible refine below_put ?_ (by first | assumption | omega) _)); done)); rintro e w7 ⟨rfl, rfl⟩)
          | (go_at_call 56; (with_reducible refine (C3.out _ (KK.out _ ?_)).mono ?_); (focus ((repeat first | with_reducible assumption | with_reducible exact KR.out | with_reducible apply Below.drew | with_reducible apply below_drews | (with_reducible refine Below.alloc ?_ ?_ _; focus (first | with_reducible assumption | with_reducible exact KR.out | exact Nat.le_refl _)) | exact Nat.le_refl _ | (with_reducible refine below_put ?_ (by first | assumption | omega) _)); done)); rintro e w9 ⟨v9, rfl, o3, b9⟩; obtain ⟨q9, rfl⟩ := rope_ptr o3; have jj9 := fun h => below_more (B := W9.heap.size) (w := W9) h b9; replace jj9 := jj9 (by (repeat first | with_reducible assumption | with_reducible exact KR.out | with_reducible apply Below.drew | with_reducible apply below_drews | (with_reducible refine Below.alloc ?_ ?_ _; focus (first | with_reducible assumption | with_reducible exact KR.out | exact Nat.le_refl _)) | exact Nat.le_refl _ | (with_reducible refine below_put ?_ (by first | assumption | omega) _))); have yy9 := jj9.size; first | (have zN := ZR.below zN b9; have FN := fil_sg (i := last) (l := l) zN o3 (GG.out _ jj9).1 (GG.out _ jj9).2 P3.out jj9; obtain ⟨z0, z1, z2, z3, z4⟩ := five_cells zN.z; obtain ⟨f0, f1, f2, f3, f4⟩ := five_free zN.z; have s6 := zN.s) | (with_reducible (have zN := fun hk => zr_new (cs := #[.int .i64 0, .int .i64 0, .pointer none, .slice none 0 0, .slice none 0 0]) (ty := 33) (W := W9) hk b9); replace zN := zN (by (repeat first | with_reducible assumption | with_reducible exact KR.out | with_reducible apply Below.drew | with_reducible apply below_drews | (with_reducible refine Below.alloc ?_ ?_ _; focus (first | with_reducible assumption | with_reducible exact KR.out | exact Nat.le_refl _)) | exact Nat.le_refl _ | (with_reducible refine below_put ?_ (by first | assumption | omega) _))); have FN := fil_sg (i := last) (l := l) zN o3 (GG.out _ jj9).1 (GG.out _ jj9).2 P3.out jj9; obtain ⟨z0, z1, z2, z3, z4⟩ := five_cells zN.z; obtain ⟨f0, f1, f2, f3, f4⟩ := five_free zN.z; have s6 := zN.s) | (with_reducible (have zN := fun hk => zr_newd (cs := #[.int .i64 0, .int .i64 0, .pointer none, .slice none 0 0, .slice none 0 0]) (ty := 33) (W := W9) hk b9); replace zN := zN (by (repeat first | with_reducible assumption | with_reducible exact KR.out | with_reducible apply Below.drew | with_reducible apply below_drews | (with_reducible refine Below.alloc ?_ ?_ _; focus (first | with_reducible assumption | with_reducible exact KR.out | exact Nat.le_refl _)) | exact Nat.le_refl _ | (with_reducible refine below_put ?_ (by first | assumption | omega) _))); have FN := fil_sg (i := last) (l := l) zN o3 (GG.out _ jj9).1 (GG.out _ jj9).2 P3.out jj9; obtain ⟨z0, z1, z2, z3, z4⟩ := five_cells zN.z; obtain ⟨f0, f1, f2, f3, f4⟩ := five_free zN.z; have s6 := zN.s) | (have FN := fil_sga (i := last) (l := l) o3 (GG.out _ jj9).1 (GG.out _ jj9).2 jj9; have zN := zr_alloc (cs := #[.int .i64 0, .int .i64 0, .pointer none, .slice none 0 0, .slice none 0 0]) (ty := 33) jj9; obtain ⟨z0, z1, z2, z3, z4⟩ := five_cells zN.z; obtain ⟨f0, f1, f2, f3, f4⟩ := five_free zN.z; have s6 := zN.s)))
      all_goals go_wp2_with fail
      all_goals go_meet
      all_goals exact ⟨_, _, rfl, FN⟩
    case rest =>
      obtain ⟨wq, hwq⟩ : ∃ wq : World, wq = wc := ⟨_, rfl⟩
      subst hwq
      obtain ⟨NC, q3, rfl, HF⟩ := hcut
      obtain ⟨RJ0, SJ0, hbF, sF⟩ := HF.out
      have n3 : w.heap.size + 1 + 1 + 1 < NC := Nat.lt_of_lt_of_le (row_lt RC.out) sF
      clear HF BX KR KK GG C3 CL sF
      replace n3 := Lib.hid n3
      clear RG G5 G6
      replace RS : Hid (wq.heap[w.heap.size]? = some (.cells #[.int .i64 i, .int .i64 l, .pointer q, .slice sa ls sc, .slice ta lt tc] 33 (0, 0))) := (hbF.block _ (row_lt RS.out)).trans RS.out
      replace RA : Hid (wq.heap[w.heap.size + 1]? = some (.cells #[.int .i64 0, .int .i64 0, .pointer none, .slice none 0 0, .slice none 0 0] 33 (0, 0))) := (hbF.block _ (row_lt RA.out)).trans RA.out
      replace RB : Hid (wq.heap[w.heap.size + 1 + 1]? = some (.cells #[.int .i64 0, .int .i64 0, .pointer none, .slice none 0 0, .slice none 0 0] 33 (0, 0))) := (hbF.block _ (row_lt RB.out)).trans RB.out
      replace RC : Hid (wq.heap[w.heap.size + 1 + 1 + 1]? = some (.cells #[.int .i64 0, .int .i64 0, .pointer none, .slice none 0 0, .slice none 0 0] 33 (0, 0))) := (hbF.block _ (row_lt RC.out)).trans RC.out
      replace RH : Hid (wq.heap[NB]? = some (.cells #[.int .i64 i, .int .i64 l, .pointer q1, .slice x1 m1 y1, .slice x2 m2 y2] 33 (0, 0))) := (hbF.block _ (row_lt RH.out)).trans RH.out
      replace RI : Hid (wq.heap[w6.heap.size]? = some (.cells #[.int .i64 mid, .int .i64 lab, .pointer q2, .slice none 0 0, .slice none 0 0] 33 (0, 0))) := (hbF.block _ (row_lt RI.out)).trans RI.out
      replace BB : Hid (Below w.heap.size w wq) := below_more BB.out hbF
      replace SH : Hid (Sg wq (.agg #[.int .i64 i, .int .i64 l, .pointer q1, .slice x1 m1 y1, .slice x2 m2 y2]) i l L1 S1 T1) := SH.out.below hbF (Nat.le_refl _)
      replace SI : Hid (Sg wq (.agg #[.int .i64 mid, .int .i64 lab, .pointer q2, .slice none 0 0, .slice none 0 0]) mid lab L2 [] []) := SI.out.below hbF (Nat.le_refl _)
      clear hbF
      have RJ : Hid (wq.heap[NC]? = some (.cells #[.int .i64 last, .int .i64 l, .pointer q3, .slice x5 m5 y5, .slice x6 m6 y6] 33 (0, 0))) := RJ0
      have SJ : Hid (Sg wq (.agg #[.int .i64 last, .int .i64 l, .pointer q3, .slice x5 m5 y5, .slice x6 m6 y6]) last l L3 S3 T3) := SJ0
      clear RJ0 SJ0
      have BX : Hid (∀ w', Kp (R3 (w.heap.size + 1)) wq w' → Kp (R3 (w.heap.size + 1)) wq w' ∧ (w'.cell? ⟨NB, 0, none⟩ = some (.int .i64 i) ∧ w'.cell? ⟨NB, 1, none⟩ = some (.int .i64 l) ∧ w'.cell? ⟨NB, 2, none⟩ = some (.pointer q1) ∧ w'.cell? ⟨NB, 3, none⟩ = some (.slice x1 m1 y1) ∧ w'.cell? ⟨NB, 4, none⟩ = some (.slice x2 m2 y2)) ∧ (w'.cell? ⟨w6.heap.size, 0, none⟩ = some (.int .i64 mid) ∧ w'.cell? ⟨w6.heap.size, 1, none⟩ = some (.int .i64 lab) ∧ w'.cell? ⟨w6.heap.size, 2, none⟩ = some (.pointer q2) ∧ w'.cell? ⟨w6.heap.size, 3, none⟩ = some (.slice none 0 0) ∧ w'.cell? ⟨w6.heap.size, 4, none⟩ = some (.slice none 0 0)) ∧ (w'.cell? ⟨NC, 0, none⟩ = some (.int .i64 last) ∧ w'.cell? ⟨NC, 1, none⟩ = some (.int .i64 l) ∧ w'.cell? ⟨NC, 2, none⟩ = some (.pointer q3) ∧ w'.cell? ⟨NC, 3, none⟩ = some (.slice x5 m5 y5) ∧ w'.cell? ⟨NC, 4, none⟩ = some (.slice x6 m6 y6))) := fun w' hk => ⟨hk, five_cells (hk.row RH.out (r3_not n1.out)), five_cells (hk.row RI.out (r3_not n2.out)), five_cells (hk.row RJ.out (r3_not n3.out))⟩
      have KR := Lib.hid (Kp.refl (R3 (w.heap.size + 1)) wq)
      have PP : Hid (∀ w', Put3 33 #[.int .i64 0, .int .i64 0, .pointer none, .slice none 0 0, .slice none 0 0] (w.heap.size + 1) (w.heap.size + 1 + 1) (w.heap.size + 1 + 1 + 1) #[.int .i64 i, .int .i64 l, .pointer q1, .slice x1 m1 y1, .slice x2 m2 y2] #[.int .i64 mid, .int .i64 lab, .pointer q2, .slice none 0 0, .slice none 0 0] #[.int .i64 last, .int .i64 l, .pointer q3, .slice x5 m5 y5, .slice x6 m6 y6] wq w' → GivePart w i l mid lab last L1 L2 L3 S1 T1 S3 T3 (.returned (.tuple #[.agg #[.int .i64 i, .int .i64 l, .pointer q1, .slice x1 m1 y1, .slice x2 m2 y2], .agg #[.int .i64 mid, .int .i64 lab, .pointer q2, .slice none 0 0, .slice none 0 0], .agg #[.int .i64 last, .int .i64 l, .pointer q3, .slice x5 m5 y5, .slice x6 m6 y6]])) w') := fun w' p => ⟨_, _, _, rfl, p.sg SH.out P1.out, p.sg SI.out (by simp), p.sg SJ.out P3.out, p.below BB.out (by omega) (by omega) (by omega)⟩
      have QQ := Lib.hid (And.intro RA.out (And.intro RB.out RC.out))
      obtain ⟨rac0, rac1, rac2, rac3, rac4⟩ := five_cells RA.out
      obtain ⟨raf0, raf1, raf2, raf3, raf4⟩ := five_free RA.out
      obtain ⟨rbc0, rbc1, rbc2, rbc3, rbc4⟩ := five_cells RB.out
      obtain ⟨rbf0, rbf1, rbf2, rbf3, rbf4⟩ := five_free RB.out
      obtain ⟨rcc0, rcc1, rcc2, rcc3, rcc4⟩ := five_cells RC.out
      obtain ⟨rcf0, rcf1, rcf2, rcf3, rcf4⟩ := five_free RC.out
      obtain ⟨_, ⟨c0, c1, c2, c3, c4⟩, ⟨d0, d1, d2, d3, d4⟩, e0, e1, e2, e3, e4⟩ := BX.out _ KR.out
      go_upto_region 7 with fail
      go_region_held3 (fun w' => Kp (R3 (w.heap.size + 1)) wq w' ∧ (w'.cell? ⟨NB, 0, none⟩ = some (.int .i64 i) ∧ w'.cell? ⟨NB, 1, none⟩ = some (.int .i64 l) ∧ w'.cell? ⟨NB, 2, none⟩ = some (.pointer q1) ∧ w'.cell? ⟨NB, 3, none⟩ = some (.slice x1 m1 y1) ∧ w'.cell? ⟨NB, 4, none⟩ = some (.slice x2 m2 y2)) ∧ (w'.cell? ⟨w6.heap.size, 0, none⟩ = some (.int .i64 mid) ∧ w'.cell? ⟨w6.heap.size, 1, none⟩ = some (.int .i64 lab) ∧ w'.cell? ⟨w6.heap.size, 2, none⟩ = some (.pointer q2) ∧ w'.cell? ⟨w6.heap.size, 3, none⟩ = some (.slice none 0 0) ∧ w'.cell? ⟨w6.heap.size, 4, none⟩ = some (.slice none 0 0)) ∧ (w'.cell? ⟨NC, 0, none⟩ = some (.int .i64 last) ∧ w'.cell? ⟨NC, 1, none⟩ = some (.int .i64 l) ∧ w'.cell? ⟨NC, 2, none⟩ = some (.pointer q3) ∧ w'.cell? ⟨NC, 3, none⟩ = some (.slice x5 m5 y5) ∧ w'.cell? ⟨NC, 4, none⟩ = some (.slice x6 m6 y6)))
        ((refine BX.out _ ?_; focus ((repeat first | with_reducible assumption | with_reducible exact KR.out | (with_reducible refine Kp.r3 ?_ (by with_reducible (first | exact Or.inl rfl | exact Or.inr (Or.inl rfl) | exact Or.inr (Or.inr rfl)))) | with_reducible apply Kp.drew | with_reducible apply Kp.drews); done)))
        (fail)
      obtain ⟨WX, hWX⟩ : ∃ WX, WX = set5 (set5 (set5 (wq) (w.heap.size + 1) (.int .i64 i) (.int .i64 l) (.pointer q1) (.slice x1 m1 y1) (.slice x2 m2 y2)) (w.heap.size + 1 + 1) (.int .i64 mid) (.int .i64 lab) (.pointer q2) (.slice none 0 0) (.slice none 0 0)) (w.heap.size + 1 + 1 + 1) (.int .i64 last) (.int .i64 l) (.pointer q3) (.slice x5 m5 y5) (.slice x6 m6 y6) := ⟨_, rfl⟩
      have PT : Put3 33 #[.int .i64 0, .int .i64 0, .pointer none, .slice none 0 0, .slice none 0 0] (w.heap.size + 1) (w.heap.size + 1 + 1) (w.heap.size + 1 + 1 + 1) #[.int .i64 i, .int .i64 l, .pointer q1, .slice x1 m1 y1, .slice x2 m2 y2] #[.int .i64 mid, .int .i64 lab, .pointer q2, .slice none 0 0, .slice none 0 0] #[.int .i64 last, .int .i64 l, .pointer q3, .slice x5 m5 y5, .slice x6 m6 y6] wq WX := by rw [hWX]; exact p123 RA.out RB.out RC.out (by omega) (by omega) (by omega)
      have FIN := Lib.hid (GivePart.drew (PP.out _ PT))
      simp only [set5] at hWX
      rw [← hWX]
      clear hWX BX KR PP QQ c0 c1 c2 c3 c4 d0 d1 d2 d3 d4 e0 e1 e2 e3 e4
      clear rac0 rac1 rac2 rac3 rac4 raf0 raf1 raf2 raf3 raf4 rbc0 rbc1 rbc2 rbc3 rbc4 rbf0 rbf1 rbf2 rbf3 rbf4 rcc0 rcc1 rcc2 rcc3 rcc4 rcf0 rcf1 rcf2 rcf3 rcf4
      obtain ⟨c0, c1, c2, c3, c4⟩ := five_cells PT.h1
      obtain ⟨d0, d1, d2, d3, d4⟩ := five_cells PT.h2
      obtain ⟨e0, e1, e2, e3, e4⟩ := five_cells PT.h3
      clear PT
      go_wp2_with fail
      exact bodyPost_ret (v := .tuple #[.agg #[.int .i64 i, .int .i64 l, .pointer q1, .slice x1 m1 y1, .slice x2 m2 y2], .agg #[.int .i64 mid, .int .i64 lab, .pointer q2, .slice none 0 0, .slice none 0 0], .agg #[.int .i64 last, .int .i64 l, .pointer q3, .slice x5 m5 y5, .slice x6 m6 y6]]) (by simp [results, Tryd.results11, go_sem, c0, c1, c2, c3, c4, d0, d1, d2, d3, d4, e0, e1, e2, e3, e4]) rfl FIN.out
end Go.Proofs.YtkgdfclpogiemaaDoor.Seg
