/- Segments, the plain text: Delete. -/
import Derived.Test.YtkgdfclpogiemaaGreatDoorSp
import Derived.Test.YtkgdfclpogiemaaGreatDoorV
import Derived.Deep.RegionHeld3
import Derived.Deep.DeepCutAuto
import Derived.Deep.CutBlock
set_option linter.unusedVariables false
set_option maxRecDepth 100000
namespace Go.Proofs.YtkgdfclpogiemaaGreatDoor.Seg
open Go.RowKit Go.Lib Go.Proofs.YtkgdfclpogiemaaGreatDoor.Rt Go.Proofs.YtkgdfclpogiemaaGreatDoor.Rig

/-- It hands back plain values, and a text. -/
def GiveDelP (w : World) (i l : Int) (L : Bytes) (S : List Sp) (T : List St) (M : Bytes) (e : Ending) (w' : World) : Prop := ∃ v, e = .returned (.tuple #[v, .string (Let.mk M)]) ∧ Pl w' v i l L S T ∧ Below w.heap.size w w'
theorem GiveDelP.drew {w w' : World} {i l : Int} {L M : Bytes} {S : List Sp} {T : List St} {e : Ending} (h : GiveDelP w i l L S T M e w') : GiveDelP w i l L S T M e w'.drew := by
  obtain ⟨v, e, h1, h2⟩ := h
  exact ⟨v, e, h1.below (Below.refl _ _).drew (Nat.le_refl _), h2.drew⟩
theorem rdrop1_any (L : Bytes) (p e : Nat) (w : World) (hl : L.length ≤ 10000) (hp : p ≤ 10000) (he : e ≤ 10000) : Calls Tryz.prog 42 #[.string (Let.mk L), .int .i64 p, .int .i64 e] w fun e' w' => e' = .returned (.string (Let.mk (Con.dropL L p e))) ∧ Below w.heap.size w w' := by
  have := Con.rdrop_any (Let.mk L) p e w (by rw [Let.mk_size]; omega) (by omega) (by omega) (by omega) (by omega)
  rwa [Let.mk_data] at this

set_option maxHeartbeats 24000000 in
theorem delete5_any {v : Value} {i l : Int} {L : Bytes} {S : List Sp} {T : List St} (p e : Nat) (a n mk : Int) (w : World) (h : Pl w v i l L S T) (hRS : RS 0 0 (Let.cnt L) S) (hRT : RT (Let.cnt L) T) (hp : placeI (Let.cnt L) a = p) (he : strTo (Let.cnt L) a n = e) (hpe : p ≤ e) (hec : e ≤ Let.cnt L) (a1 : -9223372036854775808 ≤ a) (a2 : a ≤ 9223372036854775807) (n1 : -9223372036854775808 ≤ n) (n2 : n ≤ 9223372036854775807) (hmk : i64 mk) (b1 : L.length ≤ 3000) (hlt3 : T.length ≤ 3000) :
    Calls Tryz.prog 11 #[v, .int .i64 a, .int .i64 n, .int .i64 mk] w (GiveDelP w i l (Con.dropL L p e) (pTake S p e) (pTakeT T p e mk) (Let.cut L p e)) := by
  have CPL : Hid (∀ w', Below w.heap.size w w' → Calls Tryz.prog 37 #[v, .int .i64 a, .int .i64 n] w' fun e' w'' => e' = .returned (.tuple #[.int .i64 p, .int .i64 e]) ∧ Below w'.heap.size w' w'') := fun w' hb => places5_any p e a n w' (h.below hb (Nat.le_refl _)) hp he hpe hec a1 a2 n1 n2 (by omega)
  obtain ⟨sa, sc, ta, tc, rfl, hS, hT⟩ := h.open_
  have hcl := Let.cnt_len L
  have hls2 := RS_len hRS (by omega)
  have CN : Hid (∀ w', Calls Tryz.prog 41 #[.string (Let.mk L)] w' fun e w'' => e = .returned (.int .i64 (Let.cnt L)) ∧ Below w'.heap.size w' w'') := fun w' => count1_any L w' (by omega)
  have CK : Hid (∀ w', Below w.heap.size w w' → Calls Tryz.prog 40 #[.agg #[.int .i64 i, .int .i64 l, .string (Let.mk L), .slice sa S.length sc, .slice ta T.length tc]] w' fun e w'' => e = .returned (.agg #[.slice sa S.length sc, .slice ta T.length tc]) ∧ Below w'.heap.size w' w'') := fun w' hb => marks5_any w' (hS.below hb (Nat.le_refl _)) (hT.below hb (Nat.le_refl _))
  have CP : Hid (∀ w', Below w.heap.size w w' → Calls Tryz.prog 39 #[.agg #[.slice sa S.length sc, .slice ta T.length tc], .int .i64 (Let.cnt L), .int .i64 p, .int .i64 e, .int .i64 mk] w' (GivesM w' (pTake S p e) (pTakeT T p e mk))) := fun w' hb => by
    have := rtake_any (Let.cnt L) p e mk w' (hS.below hb (Nat.le_refl _)) (hT.below hb (Nat.le_refl _)) (by omega) hpe hec hmk hlt3 (RSat hRS) (RTat hRT)
    rw [take_doc hRS hpe hec] at this
    exact this
  have CT : Hid (∀ w', Calls Tryz.prog 42 #[.string (Let.mk L), .int .i64 p, .int .i64 e] w' fun e' w'' => e' = .returned (.string (Let.mk (Con.dropL L p e))) ∧ Below w'.heap.size w' w'') := fun w' => rdrop1_any L p e w' (by omega) (by omega) (by omega)
  have CU : Hid (∀ w', Calls Tryz.prog 43 #[.string (Let.mk L), .int .i64 p, .int .i64 e] w' fun e' w'' => e' = .returned (.string (Let.mk (Let.cut L p e))) ∧ w' = w'') := fun w' => rcut1_any L p e w' (by omega) (by omega) (by omega)
  have POS : Hid (∀ s ∈ pTakeT T p e mk, 0 < s.m) := RT_pos (pTakeT_right hRT (a := p) (b := e) (mk := mk) (by omega) (by omega) (by omega))
  have CW : Hid (∀ w' (x1 x2 : Option Addr) (n1 n2 d1 d2 : Nat), Spans w' (.slice x1 n1 d1) (pTake S p e) → Sites w' (.slice x2 n2 d2) (pTakeT T p e mk) → Calls Tryz.prog 38 #[.agg #[.int .i64 i, .int .i64 l, .string (Let.mk L), .slice sa S.length sc, .slice ta T.length tc], .agg #[.slice x1 n1 d1, .slice x2 n2 d2]] w' (GivePl w' i l L (pTake S p e) (pTakeT T p e mk))) := fun w' x1 x2 n1 n2 d1 d2 h1 h2 => with5_any w' h1 h2 POS.out
  obtain ⟨mk1, mk2⟩ := hmk
  generalize pTake S p e = S1 at *
  generalize pTakeT T p e mk = T1 at *
  generalize Con.dropL L p e = L1 at *
  generalize Let.cut L p e = M1 at *
  generalize Let.cnt L = c at *
  generalize S.length = ls at *
  generalize T.length = lt at *
  have BB : Hid (Below w.heap.size w w) := Below.refl _ _
  obtain ⟨W1, hW1⟩ : ∃ W1, W1 = w.alloc (.cells #[.int .i64 i, .int .i64 l, .string (Let.mk L), .slice sa ls sc, .slice ta lt tc] 25) := ⟨_, rfl⟩
  obtain ⟨hb1, hr1, hl1⟩ := box_at hW1 (rfl : w.heap.size = w.heap.size)
  replace BB : Hid (Below w.heap.size w W1) := below_more BB.out hb1
  have RS : Hid (W1.heap[w.heap.size]? = some (.cells #[.int .i64 i, .int .i64 l, .string (Let.mk L), .slice sa ls sc, .slice ta lt tc] 25 (0, 0))) := hr1
  have HW1 := Lib.hid hW1
  clear hW1 hb1 hr1
  obtain ⟨W2, hW2⟩ : ∃ W2, W2 = W1.alloc (.cells #[.int .i64 0, .int .i64 0, .string (ByteArray.mk #[]), .slice none 0 0, .slice none 0 0] 25) := ⟨_, rfl⟩
  obtain ⟨hb2, hr2, hl2⟩ := box_at hW2 (hl1 : W1.heap.size = w.heap.size + 1)
  replace RS : Hid (W2.heap[w.heap.size]? = some (.cells #[.int .i64 i, .int .i64 l, .string (Let.mk L), .slice sa ls sc, .slice ta lt tc] 25 (0, 0))) := (hb2.block _ (row_lt RS.out)).trans RS.out
  replace BB : Hid (Below w.heap.size w W2) := below_more BB.out hb2
  have RZ : Hid (W2.heap[w.heap.size + 1]? = some (.cells #[.int .i64 0, .int .i64 0, .string (ByteArray.mk #[]), .slice none 0 0, .slice none 0 0] 25 (0, 0))) := hr2
  have HW2 := Lib.hid hW2
  clear hW2 hb2 hr2
  clear h hS hT hRS hRT hcl hls2 b1 hec hpe hp he hlt3
  obtain ⟨rsc0, rsc1, rsc2, rsc3, rsc4⟩ := five_cells RS.out
  go_enter Tryz.func11, Tryz.ntmps11
  go_upto_region 1 with fail
  rw [← HW1.out, ← HW2.out]
  clear HW1 HW2
  clear hl1 hl2
  go_wp2_with fail
  refine (CPL.out _ BB.out).mono ?_
  rintro e w1 ⟨rfl, b1⟩
  clear rsc0 rsc1 rsc2 rsc3 rsc4
  replace RS : Hid (w1.heap[w.heap.size]? = some (.cells #[.int .i64 i, .int .i64 l, .string (Let.mk L), .slice sa ls sc, .slice ta lt tc] 25 (0, 0))) := (b1.block _ (row_lt RS.out)).trans RS.out
  replace RZ : Hid (w1.heap[w.heap.size + 1]? = some (.cells #[.int .i64 0, .int .i64 0, .string (ByteArray.mk #[]), .slice none 0 0, .slice none 0 0] 25 (0, 0))) := (b1.block _ (row_lt RZ.out)).trans RZ.out
  replace BB : Hid (Below w.heap.size w w1) := below_more BB.out b1
  clear CPL b1
  go_upto_region 2 with fail
  have BX : Hid (∀ w', Below w1.heap.size w1 w' → Below w1.heap.size w1 w' ∧ (w'.cell? ⟨w.heap.size, 0, none⟩ = some (.int .i64 i) ∧ w'.cell? ⟨w.heap.size, 1, none⟩ = some (.int .i64 l) ∧ w'.cell? ⟨w.heap.size, 2, none⟩ = some (.string (Let.mk L)) ∧ w'.cell? ⟨w.heap.size, 3, none⟩ = some (.slice sa ls sc) ∧ w'.cell? ⟨w.heap.size, 4, none⟩ = some (.slice ta lt tc))) := fun w' hb => ⟨hb, five_cells ((hb.block _ (row_lt RS.out)).trans RS.out)⟩
  have KR := Lib.hid (Below.refl w1.heap.size w1)
  have KK : Hid (∀ w', Below w1.heap.size w1 w' → Below w.heap.size w w') := fun w' hb => below_more BB.out hb
  go_cut [12] from 20 to 31 (fun x wx => ∃ (NB : Nat) (a3 : Option Addr) (n3 d3 : Nat) (a4 : Option Addr) (n4 d4 : Nat), x = .pointer (some ⟨NB, 0, none⟩) ∧ Hid (FilP w1 wx NB i l L S1 T1 a3 n3 d3 a4 n4 d4))
  case first =>
    obtain ⟨_, c0, c1, c2, c3, c4⟩ := BX.out w1 KR.out
    go_region_held3 (fun w' => Below w1.heap.size w1 w' ∧ (w'.cell? ⟨w.heap.size, 0, none⟩ = some (.int .i64 i) ∧ w'.cell? ⟨w.heap.size, 1, none⟩ = some (.int .i64 l) ∧ w'.cell? ⟨w.heap.size, 2, none⟩ = some (.string (Let.mk L)) ∧ w'.cell? ⟨w.heap.size, 3, none⟩ = some (.slice sa ls sc) ∧ w'.cell? ⟨w.heap.size, 4, none⟩ = some (.slice ta lt tc)))
      ((refine BX.out _ ?_; focus ((repeat first | with_reducible assumption | with_reducible exact KR.out | with_reducible apply Below.drew | with_reducible apply below_drews | (with_reducible refine Below.alloc ?_ ?_ _; focus (first | with_reducible assumption | with_reducible exact KR.out | exact Nat.le_refl _)) | exact Nat.le_refl _ | (with_reducible refine below_put ?_ (by first | assumption | omega) _)); done)))
      (first
        | (go_at_call 40; (with_reducible refine (CK.out _ (KK.out _ ?_)).mono ?_); (focus ((repeat first | with_reducible assumption | with_reducible exact KR.out | with_reducible apply Below.drew | with_reducible apply below_drews | (with_reducible refine Below.alloc ?_ ?_ _; focus (first | with_reducible assumption | with_reducible exact KR.out | exact Nat.le_refl _)) | exact Nat.le_refl _ | (with_reducible refine below_put ?_ (by first | assumption | omega) _)); done)); rintro e w2 ⟨rfl, b2⟩; have jj2 := fun h => below_more (B := w1.heap.size) (w := w1) h b2; replace jj2 := jj2 (by (repeat first | with_reducible assumption | with_reducible exact KR.out | with_reducible apply Below.drew | with_reducible apply below_drews | (with_reducible refine Below.alloc ?_ ?_ _; focus (first | with_reducible assumption | with_reducible exact KR.out | exact Nat.le_refl _)) | exact Nat.le_refl _ | (with_reducible refine below_put ?_ (by first | assumption | omega) _))); have yy2 := jj2.size; first | (have zN := ZR.below zN b2) | (with_reducible (have zN := fun hk => zr_new (cs := #[.int .i64 0, .int .i64 0, .string (ByteArray.mk #[]), .slice none 0 0, .slice none 0 0]) (ty := 25) (W := w1) hk b2); replace zN := zN (by (repeat first | with_reducible assumption | with_reducible exact KR.out | with_reducible apply Below.drew | with_reducible apply below_drews | (with_reducible refine Below.alloc ?_ ?_ _; focus (first | with_reducible assumption | with_reducible exact KR.out | exact Nat.le_refl _)) | exact Nat.le_refl _ | (with_reducible refine below_put ?_ (by first | assumption | omega) _)))) | (with_reducible (have zN := fun hk => zr_newd (cs := #[.int .i64 0, .int .i64 0, .string (ByteArray.mk #[]), .slice none 0 0, .slice none 0 0]) (ty := 25) (W := w1) hk b2); replace zN := zN (by (repeat first | with_reducible assumption | with_reducible exact KR.out | with_reducible apply Below.drew | with_reducible apply below_drews | (with_reducible refine Below.alloc ?_ ?_ _; focus (first | with_reducible assumption | with_reducible exact KR.out | exact Nat.le_refl _)) | exact Nat.le_refl _ | (with_reducible refine below_put ?_ (by first | assumption | omega) _)))) | skip)
        | (go_at_call 41; (with_reducible refine (CN.out _).mono ?_); rintro e w3 ⟨rfl, b3⟩; have jj3 := fun h => below_more (B := w1.heap.size) (w := w1) h b3; replace jj3 := jj3 (by (repeat first | with_reducible assumption | with_reducible exact KR.out | with_reducible apply Below.drew | with_reducible apply below_drews | (with_reducible refine Below.alloc ?_ ?_ _; focus (first | with_reducible assumption | with_reducible exact KR.out | exact Nat.le_refl _)) | exact Nat.le_refl _ | (with_reducible refine below_put ?_ (by first | assumption | omega) _))); have yy3 := jj3.size; first | (have zN := ZR.below zN b3) | (with_reducible (have zN := fun hk => zr_new (cs := #[.int .i64 0, .int .i64 0, .string (ByteArray.mk #[]), .slice none 0 0, .slice none 0 0]) (ty := 25) (W := w1) hk b3); replace zN := zN (by (repeat first | with_reducible assumption | with_reducible exact KR.out | with_reducible apply Below.drew | with_reducible apply below_drews | (with_reducible refine Below.alloc ?_ ?_ _; focus (first | with_reducible assumption | with_reducible exact KR.out | exact Nat.le_refl _)) | exact Nat.le_refl _ | (with_reducible refine below_put ?_ (by first | assumption | omega) _)))) | (with_reducible (have zN := fun hk => zr_newd (cs := #[.int .i64 0, .int .i64 0, .string (ByteArray.mk #[]), .slice none 0 0, .slice none 0 0]) (ty := 25) (W := w1) hk b3); replace zN := zN (by (repeat first | with_reducible assumption | with_reducible exact KR.out | with_reducible apply Below.drew | with_reducible apply below_drews | (with_reducible refine Below.alloc ?_ ?_ _; focus (first | with_reducible assumption | with_reducible exact KR.out | exact Nat.le_refl _)) | exact Nat.le_refl _ | (with_reducible refine below_put ?_ (by first | assumption | omega) _)))) | skip)
        | (go_at_call 39; (with_reducible refine (CP.out _ (KK.out _ ?_)).mono ?_); (focus ((repeat first | with_reducible assumption | with_reducible exact KR.out | with_reducible apply Below.drew | with_reducible apply below_drews | (with_reducible refine Below.alloc ?_ ?_ _; focus (first | with_reducible assumption | with_reducible exact KR.out | exact Nat.le_refl _)) | exact Nat.le_refl _ | (with_reducible refine below_put ?_ (by first | assumption | omega) _)); done)); rintro e w4 ⟨u1, u2, rfl, g1, g2, b4⟩; obtain ⟨a1, d1, rfl⟩ := g1.is_slice; obtain ⟨a2, d2, rfl⟩ := g2.is_slice; have jj4 := fun h => below_more (B := w1.heap.size) (w := w1) h b4; replace jj4 := jj4 (by (repeat first | with_reducible assumption | with_reducible exact KR.out | with_reducible apply Below.drew | with_reducible apply below_drews | (with_reducible refine Below.alloc ?_ ?_ _; focus (first | with_reducible assumption | with_reducible exact KR.out | exact Nat.le_refl _)) | exact Nat.le_refl _ | (with_reducible refine below_put ?_ (by first | assumption | omega) _))); have yy4 := jj4.size; first | (have zN := ZR.below zN b4) | (with_reducible (have zN := fun hk => zr_new (cs := #[.int .i64 0, .int .i64 0, .string (ByteArray.mk #[]), .slice none 0 0, .slice none 0 0]) (ty := 25) (W := w1) hk b4); replace zN := zN (by (repeat first | with_reducible assumption | with_reducible exact KR.out | with_reducible apply Below.drew | with_reducible apply below_drews | (with_reducible refine Below.alloc ?_ ?_ _; focus (first | with_reducible assumption | with_reducible exact KR.out | exact Nat.le_refl _)) | exact Nat.le_refl _ | (with_reducible refine below_put ?_ (by first | assumption | omega) _)))) | (with_reducible (have zN := fun hk => zr_newd (cs := #[.int .i64 0, .int .i64 0, .string (ByteArray.mk #[]), .slice none 0 0, .slice none 0 0]) (ty := 25) (W := w1) hk b4); replace zN := zN (by (repeat first | with_reducible assumption | with_reducible exact KR.out | with_reducible apply Below.drew | with_reducible apply below_drews | (with_reducible refine Below.alloc ?_ ?_ _; focus (first | with_reducible assumption | with_reducible exact KR.out | exact Nat.le_refl _)) | exact Nat.le_refl _ | (with_reducible refine below_put ?_ (by first | assumption | omega) _)))) | skip)
        | (go_at_call 38; (with_reducible refine (CW.out _ _ _ _ _ _ _ ?_ ?_).mono ?_); (focus (first | exact g1 | exact Fl.below g1 ((Below.refl _ _).alloc (Nat.le_refl _) _) (Nat.le_refl _))); (focus (first | exact g2 | exact Fl.below g2 ((Below.refl _ _).alloc (Nat.le_refl _) _) (Nat.le_refl _))); rintro e w5 ⟨v5, rfl, o5, b5⟩; obtain ⟨a3, d3, a4, d4, rfl, g3, g4⟩ := o5.open_; have jj5 := fun h => below_more (B := w1.heap.size) (w := w1) h b5; replace jj5 := jj5 (by (repeat first | with_reducible assumption | with_reducible exact KR.out | with_reducible apply Below.drew | with_reducible apply below_drews | (with_reducible refine Below.alloc ?_ ?_ _; focus (first | with_reducible assumption | with_reducible exact KR.out | exact Nat.le_refl _)) | exact Nat.le_refl _ | (with_reducible refine below_put ?_ (by first | assumption | omega) _))); have yy5 := jj5.size; first | (have zN := ZR.below zN b5; have FN := fil_pl (i := i) (l := l) (L := L) zN g3 g4 POS.out jj5; obtain ⟨z0, z1, z2, z3, z4⟩ := five_cells zN.z; obtain ⟨f0, f1, f2, f3, f4⟩ := five_free zN.z; have s6 := zN.s) | (with_reducible (have zN := fun hk => zr_new (cs := #[.int .i64 0, .int .i64 0, .string (ByteArray.mk #[]), .slice none 0 0, .slice none 0 0]) (ty := 25) (W := w1) hk b5); replace zN := zN (by (repeat first | with_reducible assumption | with_reducible exact KR.out | with_reducible apply Below.drew | with_reducible apply below_drews | (with_reducible refine Below.alloc ?_ ?_ _; focus (first | with_reducible assumption | with_reducible exact KR.out | exact Nat.le_refl _)) | exact Nat.le_refl _ | (with_reducible refine below_put ?_ (by first | assumption | omega) _))); have FN := fil_pl (i := i) (l := l) (L := L) zN g3 g4 POS.out jj5; obtain ⟨z0, z1, z2, z3, z4⟩ := five_cells zN.z; obtain ⟨f0, f1, f2, f3, f4⟩ := five_free zN.z; have s6 := zN.s) | (with_reducible (have zN := fun hk => zr_newd (cs := #[.int .i64 0, .int .i64 0, .string (ByteArray.mk #[]), .slice none 0 0, .slice none 0 0]) (ty := 25) (W := w1) hk b5); replace zN := zN (by (repeat first | with_reducible assumption | with_reducible exact KR.out | with_reducible apply Below.drew | with_reducible apply below_drews | (with_reducible refine Below.alloc ?_ ?_ _; focus (first | with_reducible assumption | with_reducible exact KR.out | exact Nat.le_refl _)) | exact Nat.le_refl _ | (with_reducible refine below_put ?_ (by first | assumption | omega) _))); have FN := fil_pl (i := i) (l := l) (L := L) zN g3 g4 POS.out jj5; obtain ⟨z0, z1, z2, z3, z4⟩ := five_cells zN.z; obtain ⟨f0, f1, f2, f3, f4⟩ := five_free zN.z; have s6 := zN.s) | (have FN := fil_pla (i := i) (l := l) (L := L) g3 g4 jj5; have zN := zr_alloc (cs := #[.int .i64 0, .int .i64 0, .string (ByteArray.mk #[]), .slice none 0 0, .slice none 0 0]) (ty := 25) jj5; obtain ⟨z0, z1, z2, z3, z4⟩ := five_cells zN.z; obtain ⟨f0, f1, f2, f3, f4⟩ := five_free zN.z; have s6 := zN.s)))
    all_goals go_wp2_with fail
    all_goals go_meet
    all_goals exact ⟨_, _, _, _, _, _, _, rfl, FN⟩
  case rest =>
    obtain ⟨wp, hwp⟩ : ∃ wp : World, wp = wc := ⟨_, rfl⟩
    subst hwp
    obtain ⟨NB, a3, n3, d3, a4, n4, d4, rfl, HF⟩ := hcut
    obtain ⟨r0, s0, hbF, sF⟩ := HF.out
    have NQ : w.heap.size + 1 < NB := Nat.lt_of_lt_of_le (row_lt RZ.out) sF
    clear HF BX KR KK CK CN CP CW sF
    replace NQ := Lib.hid NQ
    replace RS : Hid (wp.heap[w.heap.size]? = some (.cells #[.int .i64 i, .int .i64 l, .string (Let.mk L), .slice sa ls sc, .slice ta lt tc] 25 (0, 0))) := (hbF.block _ (row_lt RS.out)).trans RS.out
    replace RZ : Hid (wp.heap[w.heap.size + 1]? = some (.cells #[.int .i64 0, .int .i64 0, .string (ByteArray.mk #[]), .slice none 0 0, .slice none 0 0] 25 (0, 0))) := (hbF.block _ (row_lt RZ.out)).trans RZ.out
    replace BB : Hid (Below w.heap.size w wp) := below_more BB.out hbF
    have RN : Hid (wp.heap[NB]? = some (.cells #[.int .i64 i, .int .i64 l, .string (Let.mk L), .slice a3 n3 d3, .slice a4 n4 d4] 25 (0, 0))) := r0
    have G3 : Hid (Spans wp (.slice a3 n3 d3) S1) := (pl_parts s0).1
    have G4 : Hid (Sites wp (.slice a4 n4 d4) T1) := (pl_parts s0).2
    clear s0 r0 hbF
    obtain ⟨rsc0, rsc1, rsc2, rsc3, rsc4⟩ := five_cells RS.out
    obtain ⟨rnc0, rnc1, rnc2, rnc3, rnc4⟩ := five_cells RN.out
    go_upto_region 3 with fail
    go_wp2_with fail
    refine (CT.out _).mono ?_
    rintro e w7 ⟨rfl, b7⟩
    clear rsc0 rsc1 rsc2 rsc3 rsc4 rnc0 rnc1 rnc2 rnc3 rnc4
    replace RS : Hid (w7.heap[w.heap.size]? = some (.cells #[.int .i64 i, .int .i64 l, .string (Let.mk L), .slice sa ls sc, .slice ta lt tc] 25 (0, 0))) := (b7.block _ (row_lt RS.out)).trans RS.out
    replace RZ : Hid (w7.heap[w.heap.size + 1]? = some (.cells #[.int .i64 0, .int .i64 0, .string (ByteArray.mk #[]), .slice none 0 0, .slice none 0 0] 25 (0, 0))) := (b7.block _ (row_lt RZ.out)).trans RZ.out
    replace RN : Hid (w7.heap[NB]? = some (.cells #[.int .i64 i, .int .i64 l, .string (Let.mk L), .slice a3 n3 d3, .slice a4 n4 d4] 25 (0, 0))) := (b7.block _ (row_lt RN.out)).trans RN.out
    replace BB : Hid (Below w.heap.size w w7) := below_more BB.out b7
    replace G3 : Hid (Spans w7 (.slice a3 n3 d3) S1) := Fl.below G3.out b7 (Nat.le_refl _)
    replace G4 : Hid (Sites w7 (.slice a4 n4 d4) T1) := Fl.below G4.out b7 (Nat.le_refl _)
    clear CT b7
    obtain ⟨rnc0, rnc1, rnc2, rnc3, rnc4⟩ := five_cells RN.out
    obtain ⟨rnf0, rnf1, rnf2, rnf3, rnf4⟩ := five_free RN.out
    obtain ⟨W8, hW8⟩ : ∃ W8, W8 = w7.setCell ⟨NB, 2, none⟩ (.string (Let.mk L1)) := ⟨_, rfl⟩
    have R8 : Hid (W8.heap[NB]? = some (.cells #[.int .i64 i, .int .i64 l, .string (Let.mk L1), .slice a3 n3 d3, .slice a4 n4 d4] 25 (0, 0))) := by show _ = _; rw [hW8]; exact set_block RN.out
    have S8 : Hid (W8.heap[w.heap.size]? = some (.cells #[.int .i64 i, .int .i64 l, .string (Let.mk L), .slice sa ls sc, .slice ta lt tc] 25 (0, 0))) := by show _ = _; rw [hW8, Below.heap_setCell _ _ _ _ (by have := NQ.out; show w.heap.size ≠ NB; omega)]; exact RS.out
    have Z8 : Hid (W8.heap[w.heap.size + 1]? = some (.cells #[.int .i64 0, .int .i64 0, .string (ByteArray.mk #[]), .slice none 0 0, .slice none 0 0] 25 (0, 0))) := by show _ = _; rw [hW8, Below.heap_setCell _ _ _ _ (by have := NQ.out; show w.heap.size + 1 ≠ NB; omega)]; exact RZ.out
    have B8 : Hid (Below w.heap.size w W8) := by show Below _ _ _; rw [hW8]; exact below_put BB.out (by have := NQ.out; omega) _
    have G5 : Hid (Spans W8 (.slice a3 n3 d3) S1) := by show Spans _ _ _; rw [hW8]; exact Fl.put1 G3.out rnc2 (str_ni _)
    have G6 : Hid (Sites W8 (.slice a4 n4 d4) T1) := by show Sites _ _ _; rw [hW8]; exact Fl.put1 G4.out rnc2 (str_ni _)
    have HW8 := Lib.hid hW8
    clear hW8
    go_upto_region 4 with fail
    rw [← HW8.out]
    clear rnc0 rnc1 rnc2 rnc3 rnc4 rnf0 rnf1 rnf2 rnf3 rnf4 HW8 RN RS RZ BB G3 G4
    have BX : Hid (∀ w', Kp (fun k => k = w.heap.size + 1) W8 w' → Kp (fun k => k = w.heap.size + 1) W8 w' ∧ (w'.cell? ⟨NB, 0, none⟩ = some (.int .i64 i) ∧ w'.cell? ⟨NB, 1, none⟩ = some (.int .i64 l) ∧ w'.cell? ⟨NB, 2, none⟩ = some (.string (Let.mk L1)) ∧ w'.cell? ⟨NB, 3, none⟩ = some (.slice a3 n3 d3) ∧ w'.cell? ⟨NB, 4, none⟩ = some (.slice a4 n4 d4)) ∧ (w'.cell? ⟨w.heap.size, 0, none⟩ = some (.int .i64 i) ∧ w'.cell? ⟨w.heap.size, 1, none⟩ = some (.int .i64 l) ∧ w'.cell? ⟨w.heap.size, 2, none⟩ = some (.string (Let.mk L)) ∧ w'.cell? ⟨w.heap.size, 3, none⟩ = some (.slice sa ls sc) ∧ w'.cell? ⟨w.heap.size, 4, none⟩ = some (.slice ta lt tc))) := fun w' hk => ⟨hk, five_cells (hk.row R8.out (by have := NQ.out; omega)), five_cells (hk.row S8.out (by omega))⟩
    have KR := Lib.hid (Kp.refl (fun k => k = w.heap.size + 1) W8)
    obtain ⟨z8c0, z8c1, z8c2, z8c3, z8c4⟩ := five_cells Z8.out
    obtain ⟨z8f0, z8f1, z8f2, z8f3, z8f4⟩ := five_free Z8.out
    obtain ⟨_, ⟨c0, c1, c2, c3, c4⟩, q0, q1, q2, q3, q4⟩ := BX.out _ KR.out
    go_region_held3 (fun w' => Kp (fun k => k = w.heap.size + 1) W8 w' ∧ (w'.cell? ⟨NB, 0, none⟩ = some (.int .i64 i) ∧ w'.cell? ⟨NB, 1, none⟩ = some (.int .i64 l) ∧ w'.cell? ⟨NB, 2, none⟩ = some (.string (Let.mk L1)) ∧ w'.cell? ⟨NB, 3, none⟩ = some (.slice a3 n3 d3) ∧ w'.cell? ⟨NB, 4, none⟩ = some (.slice a4 n4 d4)) ∧ (w'.cell? ⟨w.heap.size, 0, none⟩ = some (.int .i64 i) ∧ w'.cell? ⟨w.heap.size, 1, none⟩ = some (.int .i64 l) ∧ w'.cell? ⟨w.heap.size, 2, none⟩ = some (.string (Let.mk L)) ∧ w'.cell? ⟨w.heap.size, 3, none⟩ = some (.slice sa ls sc) ∧ w'.cell? ⟨w.heap.size, 4, none⟩ = some (.slice ta lt tc)))
      ((refine BX.out _ ?_; focus ((repeat first | with_reducible assumption | with_reducible exact KR.out | with_reducible apply Kp.putR | with_reducible apply Kp.drew | with_reducible apply Kp.drews); done)))
      ((go_at_call 43; (with_reducible refine (CU.out _).mono ?_); rintro e w9 ⟨rfl, rfl⟩))
    all_goals obtain ⟨WX, hWX⟩ : ∃ WX, WX = set5 W8 (w.heap.size + 1) (.int .i64 i) (.int .i64 l) (.string (Let.mk L1)) (.slice a3 n3 d3) (.slice a4 n4 d4) := ⟨_, rfl⟩
    all_goals have RX : WX.heap[w.heap.size + 1]? = some (.cells #[.int .i64 i, .int .i64 l, .string (Let.mk L1), .slice a3 n3 d3, .slice a4 n4 d4] 25 (0, 0)) := by rw [hWX]; exact set5_block Z8.out
    all_goals have GX := give_pl (w := w) (i := i) (l := l) (L := L1) (Nat.le_add_right _ 1) Z8.out G5.out G6.out POS.out B8.out
    all_goals have FIN : Hid (GiveDelP w i l L1 S1 T1 M1 (.returned (.tuple #[.agg #[.int .i64 i, .int .i64 l, .string (Let.mk L1), .slice a3 n3 d3, .slice a4 n4 d4], .string (Let.mk M1)])) WX.drew) := by show GiveDelP _ _ _ _ _ _ _ _ _; rw [hWX]; exact GiveDelP.drew ⟨_, rfl, GX.1, GX.2⟩
    all_goals simp only [set5] at hWX
    all_goals rw [← hWX]
    all_goals clear GX hWX BX KR c0 c1 c2 c3 c4 q0 q1 q2 q3 q4
    clear z8c0 z8c1 z8c2 z8c3 z8c4 z8f0 z8f1 z8f2 z8f3 z8f4
    all_goals obtain ⟨c0, c1, c2, c3, c4⟩ := five_cells RX
    all_goals clear RX
    all_goals go_wp2_with fail
    all_goals exact bodyPost_ret (v := .tuple #[.agg #[.int .i64 i, .int .i64 l, .string (Let.mk L1), .slice a3 n3 d3, .slice a4 n4 d4], .string (Let.mk M1)]) (by simp [results, Tryz.results11, go_sem, c0, c1, c2, c3, c4]) rfl FIN.out
end Go.Proofs.YtkgdfclpogiemaaGreatDoor.Seg
