/- Segments, the plain text: places, Has. -/
import Derived.Test.YtcpdoicbekcpeaaDoorSl
set_option linter.unusedVariables false
set_option maxRecDepth 100000
namespace Go.Proofs.YtcpdoicbekcpeaaDoor.Seg
open Go.RowKit Go.Lib Go.Proofs.YtcpdoicbekcpeaaDoor.Rt Go.Proofs.YtcpdoicbekcpeaaDoor.Rig

set_option maxHeartbeats 1600000 in
theorem has5_any {v : Value} {i l : Int} {L : Bytes} {S : List Sp} {T : List St} (mk : Int) (w : World) (h : Pl w v i l L S T) (hmk : i64 mk) (l1 : S.length ≤ 10000) (l2 : T.length ≤ 10000) :
    Calls Tryd.prog 87 #[v, .int .i64 mk] w fun e w' => e = .returned (.bool (hasB S T mk)) ∧ Below w.heap.size w w' := by
  obtain ⟨sa, sc, ta, tc, rfl, hS, hT⟩ := h.open_
  have CK : Hid (∀ w', Below w.heap.size w w' → Calls Tryd.prog 81 #[.agg #[.int .i64 i, .int .i64 l, .string (Let.mk L), .slice sa S.length sc, .slice ta T.length tc]] w' fun e w'' => e = .returned (.agg #[.slice sa S.length sc, .slice ta T.length tc]) ∧ Below w'.heap.size w' w'') := fun w' hb => marks5_any w' (hS.below hb (Nat.le_refl _)) (hT.below hb (Nat.le_refl _))
  have CO : Hid (∀ w', Below w.heap.size w w' → Calls Tryd.prog 114 #[.agg #[.slice sa S.length sc, .slice ta T.length tc], .int .i64 mk] w' (GivesOf w' (ofS S mk) (ofT T mk))) := fun w' hb => rof_any mk w' (hS.below hb (Nat.le_refl _)) (hT.below hb (Nat.le_refl _)) hmk l1 l2
  have EF : Hid (∀ b : Bool, (b = true ↔ (0 < (ofS S mk).length ∨ 0 < (ofT T mk).length)) → b = hasB S T mk) := fun b hb => by
    unfold hasB
    cases b with
    | true => rw [decide_eq_true (hb.1 rfl)]
    | false => rw [decide_eq_false (fun h => by have := hb.2 h; cases this)]
  have hA : (ofS S mk).length ≤ 10000 := Nat.le_trans (List.length_filter_le _ _) l1
  have hB : (ofT T mk).length ≤ 10000 := by unfold ofT; rw [List.length_map]; exact Nat.le_trans (List.length_filter_le _ _) l2
  generalize hasB S T mk = rs at *
  generalize ofS S mk = A at *
  generalize ofT T mk = B at *
  generalize S.length = ls at *
  generalize T.length = lt at *
  obtain ⟨W0, hW0⟩ : ∃ W0, W0 = w.alloc (.cells #[.int .i64 i, .int .i64 l, .string (Let.mk L), .slice sa ls sc, .slice ta lt tc] 25) := ⟨_, rfl⟩
  obtain ⟨b0, r0, l0⟩ := box1 w #[.int .i64 i, .int .i64 l, .string (Let.mk L), .slice sa ls sc, .slice ta lt tc] 25
  rw [← hW0] at b0 r0 l0
  have B0 := Lib.hid b0
  have HW0 := Lib.hid hW0
  obtain ⟨c0, c1, c2, c3, c4⟩ := five_cells r0
  obtain ⟨mk1, mk2⟩ := hmk
  clear h hS hT b0 r0 l0 hW0
  go_enter Tryd.func87, Tryd.ntmps87
  go_upto_region 1 with fail
  rw [← HW0.out]
  go_wp2_with fail
  refine (CK.out _ B0.out).mono ?_
  rintro e w1 ⟨rfl, b1⟩
  have F1 := Lib.hid (below_more B0.out b1)
  clear b1 c0 c1 c2 c3 c4 CK
  go_wp2_with fail
  refine (CO.out _ F1.out).mono ?_
  rintro e w2 ⟨v1, v2, rfl, g1, g2, b2⟩
  have FIN := Lib.hid (below_more F1.out b2)
  obtain ⟨a1, d1, rfl⟩ := g1.is_slice
  obtain ⟨a2, d2, rfl⟩ := g2.is_slice
  generalize A.length = na at *
  generalize B.length = nb at *
  clear g1 g2 b2 CO
  have z1 : IntKind.i64.wrap ((na : Int) + (nb : Int)) = (na : Int) + (nb : Int) := IntWalk.i64_in _ (by omega)
  go_wp2_with fail
  go_ret
  exact ⟨ret_bool (EF.out _ (by simp; omega)), FIN.out⟩

end Go.Proofs.YtcpdoicbekcpeaaDoor.Seg
