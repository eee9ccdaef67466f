/- Segments, the plain text: Forget. -/
import Derived.Test.YtkgdfclpogiemaaGreatDoorSp
import Derived.Test.YtkgdfclpogiemaaGreatDoorV
import Derived.Test.YtkgdfclpogiemaaGreatDoorUm
import Derived.Test.YtkgdfclpogiemaaGreatDoorSt2
import Derived.Deep.RegionHeld3
import Derived.Deep.DeepCutAuto
import Derived.Deep.CutBlock
set_option linter.unusedVariables false
set_option maxRecDepth 100000
namespace Go.Proofs.YtkgdfclpogiemaaGreatDoor.Seg
open Go.RowKit Go.Lib Go.Proofs.YtkgdfclpogiemaaGreatDoor.Rt Go.Proofs.YtkgdfclpogiemaaGreatDoor.Rig

set_option maxHeartbeats 8000000 in
theorem forget5_any {v : Value} {i l : Int} {L : Bytes} {S : List Sp} {T : List St} (mk : Int) (w : World) (h : Pl w v i l L S T) (hp : ∀ s ∈ T, 0 < s.m) (hmk : i64 mk) (l1 : S.length ≤ 10000) (l2 : T.length ≤ 10000) :
    Calls Tryz.prog 21 #[v, .int .i64 mk] w (GivePl w i l L (dropS S mk) (dropT T mk)) := by
  obtain ⟨sa, sc, ta, tc, rfl, hS, hT⟩ := h.open_
  have CK : Hid (∀ w', Below w.heap.size w w' → Calls Tryz.prog 40 #[.agg #[.int .i64 i, .int .i64 l, .string (Let.mk L), .slice sa S.length sc, .slice ta T.length tc]] w' fun e w'' => e = .returned (.agg #[.slice sa S.length sc, .slice ta T.length tc]) ∧ Below w'.heap.size w' w'') := fun w' hb => marks5_any w' (hS.below hb (Nat.le_refl _)) (hT.below hb (Nat.le_refl _))
  have CD : Hid (∀ w', Below w.heap.size w w' → Calls Tryz.prog 56 #[.agg #[.slice sa S.length sc, .slice ta T.length tc], .int .i64 mk] w' (GivesM w' (dropS S mk) (dropT T mk))) := fun w' hb => rdrop_any mk w' (hS.below hb (Nat.le_refl _)) (hT.below hb (Nat.le_refl _)) hmk l1 l2
  have POS : Hid (∀ s ∈ dropT T mk, 0 < s.m) := dropT_pos2 mk hp
  have CW : Hid (∀ w' (x1 x2 : Option Addr) (n1 n2 d1 d2 : Nat), Spans w' (.slice x1 n1 d1) (dropS S mk) → Sites w' (.slice x2 n2 d2) (dropT T mk) → Calls Tryz.prog 38 #[.agg #[.int .i64 i, .int .i64 l, .string (Let.mk L), .slice sa S.length sc, .slice ta T.length tc], .agg #[.slice x1 n1 d1, .slice x2 n2 d2]] w' (GivePl w' i l L (dropS S mk) (dropT T mk))) := fun w' x1 x2 n1 n2 d1 d2 h1 h2 => with5_any w' h1 h2 POS.out
  obtain ⟨mk1, mk2⟩ := hmk
  generalize dropS S mk = S1 at *
  generalize dropT T mk = T1 at *
  generalize S.length = ls at *
  generalize T.length = lt at *
  have BB : Hid (Below w.heap.size w w) := Below.refl _ _
  obtain ⟨W1, hW1⟩ : ∃ W1, W1 = w.alloc (.cells #[.int .i64 i, .int .i64 l, .string (Let.mk L), .slice sa ls sc, .slice ta lt tc] 25) := ⟨_, rfl⟩
  obtain ⟨hb1, hr1, hl1⟩ := box_at hW1 (rfl : w.heap.size = w.heap.size)
  replace BB : Hid (Below w.heap.size w W1) := below_more BB.out hb1
  have RS : Hid (W1.heap[w.heap.size]? = some (.cells #[.int .i64 i, .int .i64 l, .string (Let.mk L), .slice sa ls sc, .slice ta lt tc] 25 (0, 0))) := hr1
  have HW1 := Lib.hid hW1
  clear hW1 hb1 hr1
  obtain ⟨W2, hW2⟩ : ∃ W2, W2 = W1.alloc (.cells #[.int .i64 0, .int .i64 0, .string (ByteArray.mk #[]), .slice none 0 0, .slice none 0 0] 25) := ⟨_, rfl⟩
  obtain ⟨hb2, hr2, hl2⟩ := box_at hW2 (hl1 : W1.heap.size = w.heap.size + 1)
  replace RS : Hid (W2.heap[w.heap.size]? = some (.cells #[.int .i64 i, .int .i64 l, .string (Let.mk L), .slice sa ls sc, .slice ta lt tc] 25 (0, 0))) := (hb2.block _ (row_lt RS.out)).trans RS.out
  replace BB : Hid (Below w.heap.size w W2) := below_more BB.out hb2
  have RZ : Hid (W2.heap[w.heap.size + 1]? = some (.cells #[.int .i64 0, .int .i64 0, .string (ByteArray.mk #[]), .slice none 0 0, .slice none 0 0] 25 (0, 0))) := hr2
  have HW2 := Lib.hid hW2
  clear hW2 hb2 hr2
  clear h hS hT hp
  go_enter Tryz.func21, Tryz.ntmps21
  go_upto_region 1 with fail
  rw [← HW1.out, ← HW2.out]
  clear HW1 HW2
  clear hl1 hl2
  have BX : Hid (∀ w', Kp (fun k => k = w.heap.size + 1) W2 w' → Kp (fun k => k = w.heap.size + 1) W2 w' ∧ (w'.cell? ⟨w.heap.size, 0, none⟩ = some (.int .i64 i) ∧ w'.cell? ⟨w.heap.size, 1, none⟩ = some (.int .i64 l) ∧ w'.cell? ⟨w.heap.size, 2, none⟩ = some (.string (Let.mk L)) ∧ w'.cell? ⟨w.heap.size, 3, none⟩ = some (.slice sa ls sc) ∧ w'.cell? ⟨w.heap.size, 4, none⟩ = some (.slice ta lt tc))) := fun w' hk => ⟨hk, five_cells (hk.row RS.out (by omega))⟩
  have KR := Lib.hid (Kp.refl (fun k => k = w.heap.size + 1) W2)
  have HS1 : Hid (w.heap.size ≤ W2.heap.size) := BB.out.size
  have KB : Hid (∀ w', Kp (fun k => k = w.heap.size + 1) W2 w' → Below w.heap.size w w') := fun w' hk => hk.below BB.out (fun k hk' => by omega) HS1.out
  have BZ : Hid (∀ w', Below W2.heap.size W2 w' → ZPl w' (w.heap.size + 1)) := fun w' hb => ZPl.below RZ.out hb (row_lt RZ.out)
  have KB1 := Lib.hid (Below.refl W2.heap.size W2)
  obtain ⟨_, c0, c1, c2, c3, c4⟩ := BX.out _ KR.out
  go_region_held3 (fun w' => Kp (fun k => k = w.heap.size + 1) W2 w' ∧ (w'.cell? ⟨w.heap.size, 0, none⟩ = some (.int .i64 i) ∧ w'.cell? ⟨w.heap.size, 1, none⟩ = some (.int .i64 l) ∧ w'.cell? ⟨w.heap.size, 2, none⟩ = some (.string (Let.mk L)) ∧ w'.cell? ⟨w.heap.size, 3, none⟩ = some (.slice sa ls sc) ∧ w'.cell? ⟨w.heap.size, 4, none⟩ = some (.slice ta lt tc)))
    ((refine BX.out _ ?_; focus ((repeat first | with_reducible assumption | with_reducible exact KR.out | with_reducible apply Kp.putR | with_reducible apply Kp.drew | with_reducible apply Kp.drews); done)))
    (first
      | (go_at_call 40; (with_reducible refine (CK.out _ (KB.out _ ?_)).mono ?_); (focus ((repeat first | with_reducible assumption | with_reducible exact KR.out | with_reducible apply Kp.putR | with_reducible apply Kp.drew | with_reducible apply Kp.drews); done)); rintro e wx2 ⟨rfl, cc2⟩; have jj2 := below_more (B := W2.heap.size) (w := W2) (by (repeat first | with_reducible assumption | with_reducible exact KB1.out | with_reducible apply Below.drew | with_reducible apply below_drews)) cc2; have kk2 := fun h => Kp.call (R := fun k => k = w.heap.size + 1) (W := W2) h cc2; replace kk2 := kk2 (by (repeat first | with_reducible assumption | with_reducible exact KR.out | with_reducible apply Kp.putR | with_reducible apply Kp.drew | with_reducible apply Kp.drews)))
      | (go_at_call 56; (with_reducible refine (CD.out _ (KB.out _ ?_)).mono ?_); (focus ((repeat first | with_reducible assumption | with_reducible exact KR.out | with_reducible apply Kp.putR | with_reducible apply Kp.drew | with_reducible apply Kp.drews); done)); rintro e wx3 ⟨u1, u2, rfl, g1, g2, cc3⟩; obtain ⟨a1, d1, rfl⟩ := g1.is_slice; obtain ⟨a2, d2, rfl⟩ := g2.is_slice; have jj3 := below_more (B := W2.heap.size) (w := W2) (by (repeat first | with_reducible assumption | with_reducible exact KB1.out | with_reducible apply Below.drew | with_reducible apply below_drews)) cc3; have kk3 := fun h => Kp.call (R := fun k => k = w.heap.size + 1) (W := W2) h cc3; replace kk3 := kk3 (by (repeat first | with_reducible assumption | with_reducible exact KR.out | with_reducible apply Kp.putR | with_reducible apply Kp.drew | with_reducible apply Kp.drews)))
      | (go_at_call 38; (with_reducible refine (CW.out _ _ _ _ _ _ _ g1 g2).mono ?_); rintro e wx4 ⟨v4, rfl, o4, cc4⟩; obtain ⟨a3, d3, a4, d4, rfl, g3, g4⟩ := o4.open_; have jj4 := below_more (B := W2.heap.size) (w := W2) (by (repeat first | with_reducible assumption | with_reducible exact KB1.out | with_reducible apply Below.drew | with_reducible apply below_drews)) cc4; have kk4 := fun h => Kp.call (R := fun k => k = w.heap.size + 1) (W := W2) h cc4; replace kk4 := kk4 (by (repeat first | with_reducible assumption | with_reducible exact KR.out | with_reducible apply Kp.putR | with_reducible apply Kp.drew | with_reducible apply Kp.drews)); have z := BZ.out _ jj4; obtain ⟨t0, t1, t2, t3, t4⟩ := five_cells z; obtain ⟨f0, f1, f2, f3, f4⟩ := five_free z))
  have FIN := Lib.hid (give_pl (w := w) (i := i) (l := l) (L := L) (Nat.le_add_right _ 1) z g3 g4 POS.out (KB.out _ kk4))
  obtain ⟨u0, u1, u2, u3, u4⟩ := set5_cells (a0 := .int .i64 i) (a1 := .int .i64 l) (a2 := .string (Let.mk L)) (a3 := .slice a3 S1.length d3) (a4 := .slice a4 T1.length d4) z
  go_wp2_with fail
  exact bodyPost_ret (v := .agg #[.int .i64 i, .int .i64 l, .string (Let.mk L), .slice a3 S1.length d3, .slice a4 T1.length d4]) (by simp only [set5] at u0 u1 u2 u3 u4; simp [results, Tryz.results21, go_sem, u0, u1, u2, u3, u4]) rfl ⟨_, rfl, FIN.out.1, FIN.out.2⟩
end Go.Proofs.YtkgdfclpogiemaaGreatDoor.Seg
