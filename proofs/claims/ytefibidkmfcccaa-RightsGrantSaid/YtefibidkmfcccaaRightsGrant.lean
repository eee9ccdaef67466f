/- For every list of labels and every deed: RightsGrant answers true, and its arguments read behind the call as before. No condition. -/
import Derived.Test.YtefibidkmfcccaaRows
import Derived.Test.YtefibidkmfcccaaLift
import Derived.Test.YtefibidkmfcccaaLaws
set_option linter.unusedVariables false
namespace Go.Proofs.Ytefibidkmfcccaa.rightsGrant
open Go.ChangeShapes Go.WideShapes Go.ChangeAt Go.RowKit Go.Lib Go.Proofs.Ytefibidkmfcccaa.Lift Go.Proofs.Ytefibidkmfcccaa.Rt Go.Proofs.Ytefibidkmfcccaa.Rig
open Go.ChangeMaps (open_string shut_string)

theorem own : ownKnob Try.prog.godebug = none := by kernel_rfl
theorem laidOut : laidOutB Try.prog = true := by kernel_rfl

set_option maxRecDepth 100000 in
set_option maxHeartbeats 2000000 in
theorem walk {w : World} (v : Value) (L : List Lb) (hL : Labs w v L) (D : Dd) (hD : D.good) :
    Calls Try.prog 5 #[v, .agg D.cells] w fun e w' => e = .returned (.bool true) ∧ Below w.heap.size w w' := by
  obtain ⟨b, l, u, wr, on⟩ := D
  obtain ⟨gb, gl, gu⟩ := hD
  show Calls Try.prog 5 #[v, .agg #[.int .i64 b, .int .i64 l, .int .i64 u, .bool wr, .bool on]] w _
  simp only at gb gl gu
  have C2 : Hid (∀ w, Calls Try.prog 10 #[] w (Gives w two)) := two_any
  have C3 := Lib.hid two_grant
  have C4 := Lib.hid two_may
  have C5 : Hid (∀ w', Below w.heap.size w w' → Calls Try.prog 12 #[v, .int .i64 8] w' fun e w'' => e = .returned (.bool (rightB L 8)) ∧ Below w'.heap.size w' w'') := fun w' hb => rright_any 8 w' (hL.below hb (Nat.le_refl _)) ⟨by decide, by decide⟩
  have CC : Hid (rightP L 8 → ∀ w', Below w.heap.size w w' → Calls Try.prog 17 #[v] w' (Gives w' L)) := fun hr w' hb => rcopy_right w' (hL.below hb (Nat.le_refl _)) hr
  have GN : Hid (whyG L b l u ≠ 0 → ∀ w', Below w.heap.size w w' → Calls Try.prog 16 #[v, .int .i64 b, .int .i64 l, .int .i64 u, .bool wr, .bool on] w' (NoGrant w' (whyG L b l u))) := fun hz w' hb => grant_no w' (hL.below hb (Nat.le_refl _)) gb gl gu hz
  have GY : Hid (rightP L 8 → whyG L b l u = 0 → ∀ w', Below w.heap.size w w' → Calls Try.prog 16 #[v, .int .i64 b, .int .i64 l, .int .i64 u, .bool wr, .bool on] w' (Grants w' (grantL L l.toNat u wr on))) := fun hr hz w' hb => grant_done w' (hL.below hb (Nat.le_refl _)) hr hz
  have RN : Hid (whyG L b l u ≠ 0 → ∀ w' v', Labs w' v' L → Calls Try.prog 18 #[v', .int .i64 b, .int .i64 l, .int .i64 u, .bool wr, .bool on] w' (NoGrant w' (whyG L b l u))) := fun hz w' v' h => rgrant_no w' h gb gl gu hz
  have RY : Hid (rightP L 8 → whyG L b l u = 0 → ∀ w' v', Labs w' v' L → Calls Try.prog 18 #[v', .int .i64 b, .int .i64 l, .int .i64 u, .bool wr, .bool on] w' (Grants w' (grantL L l.toNat u wr on))) := fun hr hz w' v' h => rgrant_done w' h hr hz
  have SA : Hid (∀ M w' v1 v2, Labs w' v1 M → Labs w' v2 M → Calls Try.prog 19 #[v1, v2] w' fun e w'' => e = .returned (.bool true) ∧ Below w'.heap.size w' w'') := fun M w' v1 v2 h1 h2 => labs_same w' h1 h2
  have RG : Hid (rightP L 8 → whyG L b l u = 0 → ∀ w' v', Labs w' v' (grantL L l.toNat u wr on) → Calls Try.prog 9 #[v', .int .i64 8] w' fun e w'' => e = .returned (.bool true) ∧ Below w'.heap.size w' w'') := fun hr hz w' v' h => by
    obtain ⟨h1, h2, h3, h4, _⟩ := why_zero hz
    have := right_any 8 w' h ⟨by decide, by decide⟩
    rw [show rightB (grantL L l.toNat u wr on) 8 = true from decide_eq_true (right_grant hr wr on h3 h4 (by omega))] at this
    exact this
  have WR := Lib.hid (why_range L b l u)
  have HLs := Lib.hid hL
  obtain ⟨W0, hW0⟩ : ∃ W0, W0 = w.alloc (.cells #[.int .i64 b, .int .i64 l, .int .i64 u, .bool wr, .bool on] 29) := ⟨_, rfl⟩
  have b0 : Below w.heap.size w W0 := by rw [hW0]; exact (Below.refl _ _).alloc (Nat.le_refl _) _
  have hnew : W0.heap[w.heap.size]? = some (.cells #[.int .i64 b, .int .i64 l, .int .i64 u, .bool wr, .bool on] 29 (0, 0)) := by rw [hW0]; exact heap_alloc_new _ _
  have xl : w.heap.size < W0.heap.size := by rw [hW0]; simp
  have DC : Hid (∀ w', Below W0.heap.size W0 w' → w'.cell? ⟨w.heap.size, 0, none⟩ = some (.int .i64 b) ∧ w'.cell? ⟨w.heap.size, 1, none⟩ = some (.int .i64 l) ∧ w'.cell? ⟨w.heap.size, 2, none⟩ = some (.int .i64 u) ∧ w'.cell? ⟨w.heap.size, 3, none⟩ = some (.bool wr) ∧ w'.cell? ⟨w.heap.size, 4, none⟩ = some (.bool on)) := fun w' hb => by
    refine ⟨below_cell hb xl ?_, below_cell hb xl ?_, below_cell hb xl ?_, below_cell hb xl ?_, below_cell hb xl ?_⟩ <;> (rw [cell_of_row _ _ _ _ _ _ hnew]; rfl)
  have HW := Lib.hid hW0
  have B0 := Lib.hid b0
  obtain ⟨a, cap, rfl⟩ := hL.is_slice
  generalize L.length = n at *
  obtain ⟨rb, hrb⟩ : ∃ rb, rb = rightB L 8 := ⟨_, rfl⟩
  rw [← hrb] at C5
  replace hrb := Lib.hid hrb
  obtain ⟨st, hst⟩ : ∃ st, st = whyG L b l u := ⟨_, rfl⟩
  rw [← hst] at GN GY RN RY RG WR
  obtain ⟨G, hG⟩ : ∃ G, G = grantL L l.toNat u wr on := ⟨_, rfl⟩
  rw [← hG] at GY RY RG
  clear hst hG hW0 hnew b0 gb gl gu hL
  go_enter Try.func5, Try.ntmps5
  go_wp2_with fail
  rw [← HW.out]
  refine (C2.out _).mono ?_
  rintro e w1 ⟨v1, rfl, l1, hb1⟩
  go_wp2_with fail
  refine (C3.out _ _ l1).mono ?_
  rintro e w2 ⟨v2, rfl, l2, hb2⟩
  have g2 := Lib.hid (below_more hb1 hb2)
  clear hb1 hb2 l1
  go_wp2_with fail
  refine (C4.out _ _ l2).mono ?_
  rintro e w4 ⟨rfl, hb4⟩
  have g4 := Lib.hid (below_more g2.out hb4)
  clear hb4 l2 g2 C2 C3 C4
  go_wp2_with fail
  refine (C5.out _ (below_more B0.out g4.out)).mono ?_
  rintro e w5 ⟨rfl, hb5⟩
  have g5 := Lib.hid (below_more g4.out hb5)
  clear hb5 C5
  cases rb with
  | false =>
    go_wp2_with fail
    go_ret
    exact ⟨rfl, below_more B0.out g5.out⟩
  | true =>
    have RP := Lib.hid (rightB_of hrb.out.symm)
    go_wp2_with fail
    refine (CC.out RP.out _ (below_more B0.out g5.out)).mono ?_
    rintro e w6 ⟨v6, rfl, l6, hb6⟩
    have g6 := Lib.hid (below_more g5.out hb6)
    have L6 := Lib.hid l6
    obtain ⟨a6, c6, rfl⟩ := l6.is_slice
    clear hb6 CC l6
    obtain ⟨x0, x1, x2, x3, x4⟩ := DC.out _ g6.out
    by_cases hz : st = 0
    · subst hz
      go_wp2_with fail
      refine (GY.out RP.out (by trivial) _ (below_more B0.out g6.out)).mono ?_
      rintro e w7 ⟨v7, rfl, l7, hb7⟩
      have g7 := Lib.hid (below_more g6.out hb7)
      have L67 := Lib.hid (L6.out.below hb7 (Nat.le_refl _))
      have L7 := Lib.hid l7
      obtain ⟨a7, c7, rfl⟩ := l7.is_slice
      clear hb7 GY l7 x0 x1 x2 x3 x4
      obtain ⟨x0, x1, x2, x3, x4⟩ := DC.out _ g7.out
      generalize hG7 : G.length = n7 at *
      go_wp2_with fail
      refine (RY.out RP.out (by trivial) _ _ L67.out).mono ?_
      rintro e w8 ⟨v8, rfl, l8, hb8⟩
      have g8 := Lib.hid (below_more g7.out hb8)
      have L68 := Lib.hid (L67.out.below hb8 (Nat.le_refl _))
      have L78 := Lib.hid (L7.out.below hb8 (Nat.le_refl _))
      have L8 := Lib.hid l8
      obtain ⟨a8, c8, rfl⟩ := l8.is_slice
      rw [hG7] at L8 ⊢
      clear hb8 RY l8 x0 x1 x2 x3 x4 hG7
      go_wp2_with fail
      refine (SA.out _ _ _ _ L78.out L8.out).mono ?_
      rintro e w9 ⟨rfl, hb9⟩
      have g9 := Lib.hid (below_more g8.out hb9)
      have L69 := Lib.hid (L68.out.below hb9 (Nat.le_refl _))
      have L79 := Lib.hid (L78.out.below hb9 (Nat.le_refl _))
      clear hb9
      go_wp2_with fail
      refine (SA.out _ _ _ _ (HLs.out.below (below_more B0.out g9.out) (Nat.le_refl _)) L69.out).mono ?_
      rintro e w10 ⟨rfl, hb10⟩
      have g10 := Lib.hid (below_more g9.out hb10)
      have L710 := Lib.hid (L79.out.below hb10 (Nat.le_refl _))
      clear hb10
      go_wp2_with fail
      refine (RG.out RP.out (by trivial) _ _ L710.out).mono ?_
      rintro e w11 ⟨rfl, hb11⟩
      have g11 := Lib.hid (below_more g10.out hb11)
      clear hb11
      go_wp2_with fail
      go_ret
      exact ⟨rfl, below_more B0.out g11.out⟩
    · have hzb : (st == 0) = false := by simpa using hz
      have hzn : (st != 0) = true := by simpa using hz
      have st1 : -9223372036854775808 ≤ st := by rcases WR.out with h | h | h <;> omega
      have st2 : st ≤ 9223372036854775807 := by rcases WR.out with h | h | h <;> omega
      have HZ := Lib.hid hz
      clear hz
      go_wp2_with fail
      refine (GN.out HZ.out _ (below_more B0.out g6.out)).mono ?_
      rintro e w7 ⟨rfl, hb7⟩
      have g7 := Lib.hid (below_more g6.out hb7)
      have L67 := Lib.hid (L6.out.below hb7 (Nat.le_refl _))
      clear hb7 GN x0 x1 x2 x3 x4
      obtain ⟨x0, x1, x2, x3, x4⟩ := DC.out _ g7.out
      go_wp2_with fail
      refine (RN.out HZ.out _ _ L67.out).mono ?_
      rintro e w8 ⟨rfl, hb8⟩
      have g8 := Lib.hid (below_more g7.out hb8)
      have L68 := Lib.hid (L67.out.below hb8 (Nat.le_refl _))
      clear hb8 RN x0 x1 x2 x3 x4
      go_wp2_with fail
      refine (SA.out _ _ _ _ (Labs.nil_ _) (Labs.nil_ _)).mono ?_
      rintro e w9 ⟨rfl, hb9⟩
      have g9 := Lib.hid (below_more g8.out hb9)
      have L69 := Lib.hid (L68.out.below hb9 (Nat.le_refl _))
      clear hb9
      go_wp2_with fail
      refine (SA.out _ _ _ _ (HLs.out.below (below_more B0.out g9.out) (Nat.le_refl _)) L69.out).mono ?_
      rintro e w10 ⟨rfl, hb10⟩
      have g10 := Lib.hid (below_more g9.out hb10)
      clear hb10
      go_wp2_with fail
      go_ret
      exact ⟨rfl, below_more B0.out g10.out⟩

set_option maxRecDepth 100000 in
theorem lifted (os : Os) (started : os.Started) (H : Type) (enc : TypeId × Value → H) :
    ReturnsInHanded {} Try.checked os 5 .any (Rows.rightsGrantSpec.pre6 enc Try.prog Try.f5 Rows.rightsGrantRow.domain false) (Rows.rightsGrantSpec.post enc Try.prog Try.f5 false true false false) := by
  refine returnsInHanded_of_change (C := Try.checked) own started (by kernel_rfl) Try.func5
    (ChangeSpec.witness6 (enc := enc) (C := Try.checked) false ⟨#[], #[.slice none 0 0, .agg #[.int .i64 0, .int .i64 0, .int .i64 0, .bool false, .bool false]], []⟩ 8 (by kernel_rfl) (by kernel_rfl) (by kernel_rfl) (by kernel_rfl)) ?_
  intro W base args ds gs before hval0 hW hcnd _
  have hval : ∀ (j : Nat) t v, Try.f5.params[j]? = some t → args[j]? = some v → Value.okWide Try.prog W .any base t v := hval0
  have hread : ∀ t ∈ Try.f5.params.toList, Try.prog.readableRec t = true ∧ t < Try.prog.types.size := by
    have : (Try.f5.params.toList.all fun t => Try.prog.readableRec t && decide (t < Try.prog.types.size)) = true := by kernel_rfl
    intro t ht
    have := List.all_eq_true.1 this t ht
    simpa using this
  refine law_contract (P := Try.prog) (s := Rows.rightsGrantSpec) (fn := Try.f5) (tb := 4) laidOut rfl hread rfl Try.underlying4 (fun W' => okWide_bool_mk Try.underlying4 _) ?_ hW ?_
  · intro ds hds
    rw [Try.params5] at hds
    match ds, hds with
    | [d0, d1], _ => rfl
  intro pl hA
  rw [Try.params5] at hA hval
  obtain ⟨v0, vs0, d0, ds0, p0, q0, hargs, rfl, hp0, h0, r0⟩ := trodAll_cons hA
  obtain ⟨v1, vs1, d1, ds1, p1, q1, rfl, rfl, hp1, h1, r1⟩ := trodAll_cons r0
  obtain ⟨rfl, rfl, hpe⟩ := trodAll_nil r1
  obtain rfl : args = #[v0, v1] := by cases args; simp_all
  obtain ⟨L, hL0⟩ := open_labels (hval 0 22 v0 rfl rfl) h0
  obtain ⟨D, rfl, hg1⟩ := open_deed (hval 1 29 v1 rfl rfl) h1
  exact walk v0 L hL0 D hg1

theorem over : Rows.rightsGrantRow.holds Try.pinned (OpenSpec.ofChange Rows.rightsGrantSpec) :=
  OpenClaim.holds_of_wide 5 Try.f5 rfl rfl rfl rfl rfl rfl rfl ⟨rfl, rfl, rfl, rfl, rfl⟩ rfl rfl rfl rfl rfl (by kernel_rfl) Try.func5 (by kernel_rfl)
    (of_decide_eq_true (by kernel_rfl)) (by unfold Func.isWrapper; first | (rw [if_pos (by decide +kernel)]; kernel_rfl) | (rw [if_neg (by decide +kernel)]; exact ⟨rfl, rfl⟩))
    (fun os started H enc _ => lifted os started H enc)

/-- The statement. -/
theorem proved : Rows.RightsGrantSaid :=
  over
#print axioms proved
end Go.Proofs.Ytefibidkmfcccaa.rightsGrant
