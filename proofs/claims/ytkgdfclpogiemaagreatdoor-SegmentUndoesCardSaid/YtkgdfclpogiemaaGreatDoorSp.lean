/- Segments, the plain text: places, Has. -/
import Derived.Test.YtkgdfclpogiemaaGreatDoorSl
set_option linter.unusedVariables false
set_option maxRecDepth 100000
namespace Go.Proofs.YtkgdfclpogiemaaGreatDoor.Seg
open Go.RowKit Go.Lib Go.Proofs.YtkgdfclpogiemaaGreatDoor.Rt Go.Proofs.YtkgdfclpogiemaaGreatDoor.Rig

set_option maxHeartbeats 1600000 in
theorem places5_any {v : Value} {i l : Int} {L : Bytes} {S : List Sp} {T : List St} (p e : Nat) (a n : Int) (w : World) (h : Pl w v i l L S T) (hp : placeI (Let.cnt L) a = p) (he : strTo (Let.cnt L) a n = e) (hpe : p ≤ e) (hec : e ≤ Let.cnt L) (a1 : -9223372036854775808 ≤ a) (a2 : a ≤ 9223372036854775807) (n1 : -9223372036854775808 ≤ n) (n2 : n ≤ 9223372036854775807) (hl : L.length ≤ 1073741824) :
    Calls Tryz.prog 37 #[v, .int .i64 a, .int .i64 n] w fun e' w' => e' = .returned (.tuple #[.int .i64 p, .int .i64 e]) ∧ Below w.heap.size w w' := by
  obtain ⟨sa, sc, ta, tc, rfl, _, _⟩ := h.open_
  generalize S.length = ls at *
  generalize T.length = lt at *
  clear h
  obtain ⟨W0, hW0⟩ : ∃ W0, W0 = w.alloc (.cells #[.int .i64 i, .int .i64 l, .string (Let.mk L), .slice sa ls sc, .slice ta lt tc] 25) := ⟨_, rfl⟩
  obtain ⟨b0, r0, l0⟩ := box1 w #[.int .i64 i, .int .i64 l, .string (Let.mk L), .slice sa ls sc, .slice ta lt tc] 25
  rw [← hW0] at b0 r0 l0
  have C1 := Lib.hid (count1_any L W0 hl)
  have hcl := Nat.le_trans (Let.cnt_len L) hl
  have EP : Hid (min (max a 0) (Let.cnt L : Int) = (p : Int)) := hp
  have EE : Hid ((p : Int) + min (max n 0) ((Let.cnt L : Int) - (p : Int)) = (e : Int)) := by
    have h1 := he
    unfold strTo at h1
    rw [hp] at h1
    exact h1
  generalize Let.cnt L = c at *
  have z1 : IntKind.i64.wrap ((c : Int) - (p : Int)) = (c : Int) - (p : Int) := IntWalk.i64_in _ (by omega)
  have z2 : IntKind.i64.wrap ((p : Int) + min (max n 0) ((c : Int) - (p : Int))) = (e : Int) := by rw [EE.out]; exact IntWalk.i64_in _ (by omega)
  have B0 := Lib.hid b0
  have HW0 := Lib.hid hW0
  obtain ⟨c0, c1, c2, c3, c4⟩ := five_cells r0
  clear b0 r0 hW0 l0 hp he
  go_enter Tryz.func37, Tryz.ntmps37
  go_upto_region 1 with fail
  rw [← HW0.out]
  go_wp2_with fail
  refine C1.out.mono ?_
  rintro e' w1 ⟨rfl, b1⟩
  have FIN := Lib.hid (below_more B0.out b1)
  clear b1 C1 c0 c1 c2 c3 c4
  go_upto_region 3 with fail
  rw [EP.out]
  go_wp2_with fail
  go_ret2
  exact ⟨rfl, FIN.out⟩

set_option maxHeartbeats 1600000 in
theorem has5_any {v : Value} {i l : Int} {L : Bytes} {S : List Sp} {T : List St} (mk : Int) (w : World) (h : Pl w v i l L S T) (hmk : i64 mk) (l1 : S.length ≤ 10000) (l2 : T.length ≤ 10000) :
    Calls Tryz.prog 13 #[v, .int .i64 mk] w fun e w' => e = .returned (.bool (hasB S T mk)) ∧ Below w.heap.size w w' := by
  obtain ⟨sa, sc, ta, tc, rfl, hS, hT⟩ := h.open_
  have CK : Hid (∀ w', Below w.heap.size w w' → Calls Tryz.prog 40 #[.agg #[.int .i64 i, .int .i64 l, .string (Let.mk L), .slice sa S.length sc, .slice ta T.length tc]] w' fun e w'' => e = .returned (.agg #[.slice sa S.length sc, .slice ta T.length tc]) ∧ Below w'.heap.size w' w'') := fun w' hb => marks5_any w' (hS.below hb (Nat.le_refl _)) (hT.below hb (Nat.le_refl _))
  have CO : Hid (∀ w', Below w.heap.size w w' → Calls Tryz.prog 48 #[.agg #[.slice sa S.length sc, .slice ta T.length tc], .int .i64 mk] w' (GivesOf w' (ofS S mk) (ofT T mk))) := fun w' hb => rof_any mk w' (hS.below hb (Nat.le_refl _)) (hT.below hb (Nat.le_refl _)) hmk l1 l2
  have EF : Hid (∀ b : Bool, (b = true ↔ (0 < (ofS S mk).length ∨ 0 < (ofT T mk).length)) → b = hasB S T mk) := fun b hb => by
    unfold hasB
    cases b with
    | true => rw [decide_eq_true (hb.1 rfl)]
    | false => rw [decide_eq_false (fun h => by have := hb.2 h; cases this)]
  have hA : (ofS S mk).length ≤ 10000 := Nat.le_trans (List.length_filter_le _ _) l1
  have hB : (ofT T mk).length ≤ 10000 := by unfold ofT; rw [List.length_map]; exact Nat.le_trans (List.length_filter_le _ _) l2
  generalize hasB S T mk = rs at *
  generalize ofS S mk = A at *
  generalize ofT T mk = B at *
  generalize S.length = ls at *
  generalize T.length = lt at *
  obtain ⟨W0, hW0⟩ : ∃ W0, W0 = w.alloc (.cells #[.int .i64 i, .int .i64 l, .string (Let.mk L), .slice sa ls sc, .slice ta lt tc] 25) := ⟨_, rfl⟩
  obtain ⟨b0, r0, l0⟩ := box1 w #[.int .i64 i, .int .i64 l, .string (Let.mk L), .slice sa ls sc, .slice ta lt tc] 25
  rw [← hW0] at b0 r0 l0
  have B0 := Lib.hid b0
  have HW0 := Lib.hid hW0
  obtain ⟨c0, c1, c2, c3, c4⟩ := five_cells r0
  obtain ⟨mk1, mk2⟩ := hmk
  clear h hS hT b0 r0 l0 hW0
  go_enter Tryz.func13, Tryz.ntmps13
  go_upto_region 1 with fail
  rw [← HW0.out]
  go_wp2_with fail
  refine (CK.out _ B0.out).mono ?_
  rintro e w1 ⟨rfl, b1⟩
  have F1 := Lib.hid (below_more B0.out b1)
  clear b1 c0 c1 c2 c3 c4 CK
  go_wp2_with fail
  refine (CO.out _ F1.out).mono ?_
  rintro e w2 ⟨v1, v2, rfl, g1, g2, b2⟩
  have FIN := Lib.hid (below_more F1.out b2)
  obtain ⟨a1, d1, rfl⟩ := g1.is_slice
  obtain ⟨a2, d2, rfl⟩ := g2.is_slice
  generalize A.length = na at *
  generalize B.length = nb at *
  clear g1 g2 b2 CO
  have z1 : IntKind.i64.wrap ((na : Int) + (nb : Int)) = (na : Int) + (nb : Int) := IntWalk.i64_in _ (by omega)
  go_wp2_with fail
  go_ret
  exact ⟨ret_bool (EF.out _ (by simp; omega)), FIN.out⟩

theorem rcut1_any (L : Bytes) (p e : Nat) (w : World) (hl : L.length ≤ 10000) (hp : p ≤ 10000) (he : e ≤ 10000) : Calls Tryz.prog 43 #[.string (Let.mk L), .int .i64 p, .int .i64 e] w fun e' w' => e' = .returned (.string (Let.mk (Let.cut L p e))) ∧ w = w' := by
  have := Con.rcut_any (Let.mk L) p e w (by rw [Let.mk_size]; unfold maxLen; omega) (by omega) (by omega) (by omega) (by omega)
  rwa [Let.mk_data] at this
end Go.Proofs.YtkgdfclpogiemaaGreatDoor.Seg
