/- For every list of labels and every number of users: RightsRight answers true, and its arguments read behind the call as before. No condition. -/
import Derived.Test.YtefibidkmfcccaaRows
import Derived.Test.YtefibidkmfcccaaLift
import Derived.Test.YtefibidkmfcccaaRight
set_option linter.unusedVariables false
namespace Go.Proofs.Ytefibidkmfcccaa.rightsRight
open Go.ChangeShapes Go.WideShapes Go.ChangeAt Go.RowKit Go.Lib Go.Proofs.Ytefibidkmfcccaa.Lift Go.Proofs.Ytefibidkmfcccaa.Rt Go.Proofs.Ytefibidkmfcccaa.Rig
open Go.ChangeMaps (open_string shut_string)

theorem own : ownKnob Try.prog.godebug = none := by kernel_rfl
theorem laidOut : laidOutB Try.prog = true := by kernel_rfl

theorem k1 : rightB two 3 = true := by decide
theorem k2 : rightB two 2 = false := by decide

set_option maxRecDepth 100000 in
set_option maxHeartbeats 1000000 in
theorem walk {w : World} (v : Value) (L : List Lb) (hL : Labs w v L) (u : Int) (hu1 : -9223372036854775808 ≤ u) (hu2 : u ≤ 9223372036854775807) :
    Calls Try.prog 3 #[v, .int .i64 u] w fun e w' => e = .returned (.bool true) ∧ Below w.heap.size w w' := by
  have C2 : Hid (∀ w, Calls Try.prog 10 #[] w (Gives w two)) := two_any
  have C3 : Hid (∀ w v, Labs w v two → Calls Try.prog 9 #[v, .int .i64 3] w fun e w' => e = .returned (.bool true) ∧ Below w.heap.size w w') := fun w v h => by
    have := right_any 3 w h ⟨by decide, by decide⟩
    rw [k1] at this
    exact this
  have C4 : Hid (∀ w v, Labs w v two → Calls Try.prog 9 #[v, .int .i64 2] w fun e w' => e = .returned (.bool false) ∧ Below w.heap.size w w') := fun w v h => by
    have := right_any 2 w h ⟨by decide, by decide⟩
    rw [k2] at this
    exact this
  have C5 : Hid (∀ w', Below w.heap.size w w' → Calls Try.prog 11 #[v] w' fun e w'' => e = .returned (.bool (smallB L)) ∧ Below w'.heap.size w' w'') := fun w' hb => small_any w' (hL.below hb (Nat.le_refl _))
  have C6 : Hid (∀ w', Below w.heap.size w w' → Calls Try.prog 9 #[v, .int .i64 u] w' fun e w'' => e = .returned (.bool (rightB L u)) ∧ Below w'.heap.size w' w'') := fun w' hb => right_any u w' (hL.below hb (Nat.le_refl _)) ⟨hu1, hu2⟩
  have C7 : Hid (∀ w', Below w.heap.size w w' → Calls Try.prog 12 #[v, .int .i64 u] w' fun e w'' => e = .returned (.bool (rightB L u)) ∧ Below w'.heap.size w' w'') := fun w' hb => rright_any u w' (hL.below hb (Nat.le_refl _)) ⟨hu1, hu2⟩
  obtain ⟨a, cap, rfl, _⟩ := hL
  generalize L.length = n at *
  generalize hsm : smallB L = sm at *
  generalize hrb : rightB L u = rb at *
  go_enter Try.func3, Try.ntmps3
  go_wp2_with fail
  refine (C2.out _).mono ?_
  rintro e w1 ⟨v1, rfl, l1, hb1⟩
  go_wp2_with fail
  refine (C3.out _ _ l1).mono ?_
  rintro e w2 ⟨rfl, hb2⟩
  have g2 := Lib.hid (below_more hb1 hb2)
  clear hb1 hb2 l1
  go_wp2_with fail
  refine (C2.out _).mono ?_
  rintro e w3 ⟨v3, rfl, l3, hb3⟩
  go_wp2_with fail
  refine (C4.out _ _ l3).mono ?_
  rintro e w4 ⟨rfl, hb4⟩
  have g4 := Lib.hid (below_more (below_more g2.out hb3) hb4)
  clear hb3 hb4 l3 g2 C2 C3 C4
  go_wp2_with fail
  refine (C5.out _ g4.out).mono ?_
  rintro e w5 ⟨rfl, hb5⟩
  have g5 := Lib.hid (below_more g4.out hb5)
  clear hb5 C5
  cases sm with
  | false =>
    go_wp2_with fail
    go_ret
    exact ⟨rfl, g5.out⟩
  | true =>
    go_wp2_with fail
    refine (C6.out _ g5.out).mono ?_
    rintro e w6 ⟨rfl, hb6⟩
    have g6 := Lib.hid (below_more g5.out hb6)
    clear hb6 C6
    go_wp2_with fail
    refine (C7.out _ g6.out).mono ?_
    rintro e w7 ⟨rfl, hb7⟩
    have g7 := Lib.hid (below_more g6.out hb7)
    clear hb7 C7
    cases rb <;>
    · go_wp2_with fail
      go_ret
      exact ⟨rfl, g7.out⟩

set_option maxRecDepth 100000 in
theorem lifted (os : Os) (started : os.Started) (H : Type) (enc : TypeId × Value → H) :
    ReturnsInHanded {} Try.checked os 3 .any (Rows.rightsRightSpec.pre6 enc Try.prog Try.f3 Rows.rightsRightRow.domain false) (Rows.rightsRightSpec.post enc Try.prog Try.f3 false true false false) := by
  refine returnsInHanded_of_change (C := Try.checked) own started (by kernel_rfl) Try.func3
    (ChangeSpec.witness6 (enc := enc) (C := Try.checked) false ⟨#[], #[.slice none 0 0, .int .i64 0], []⟩ 8 (by kernel_rfl) (by kernel_rfl) (by kernel_rfl) (by kernel_rfl)) ?_
  intro W base args ds gs before hval0 hW hcnd _
  have hval : ∀ (j : Nat) t v, Try.f3.params[j]? = some t → args[j]? = some v → Value.okWide Try.prog W .any base t v := hval0
  have hread : ∀ t ∈ Try.f3.params.toList, Try.prog.readableRec t = true ∧ t < Try.prog.types.size := by
    have : (Try.f3.params.toList.all fun t => Try.prog.readableRec t && decide (t < Try.prog.types.size)) = true := by kernel_rfl
    intro t ht
    have := List.all_eq_true.1 this t ht
    simpa using this
  refine law_contract (P := Try.prog) (s := Rows.rightsRightSpec) (fn := Try.f3) (tb := 4) laidOut rfl hread rfl Try.underlying4 (fun W' => okWide_bool_mk Try.underlying4 _) ?_ hW ?_
  · intro ds hds
    rw [Try.params3] at hds
    match ds, hds with
    | [d0, d1], _ => rfl
  intro pl hA
  rw [Try.params3] at hA hval
  obtain ⟨v0, vs0, d0, ds0, p0, q0, hargs, rfl, hp0, h0, r0⟩ := trodAll_cons hA
  obtain ⟨v1, vs1, d1, ds1, p1, q1, rfl, rfl, hp1, h1, r1⟩ := trodAll_cons r0
  obtain ⟨rfl, rfl, hpe⟩ := trodAll_nil r1
  obtain rfl : args = #[v0, v1] := by cases args; simp_all
  obtain ⟨L, hL0⟩ := open_labels (hval 0 22 v0 rfl rfl) h0
  obtain ⟨u, rfl, rfl, _, hw1⟩ := open_int Try.underlying3 (hval 1 3 v1 rfl rfl) h1
  have hb1 : -9223372036854775808 ≤ u ∧ u ≤ 9223372036854775807 := by simpa [Lit.wf, IntKind.min, IntKind.max, IntKind.signed, IntKind.bits] using hw1
  exact walk v0 L hL0 u hb1.1 hb1.2

theorem over : Rows.rightsRightRow.holds Try.pinned (OpenSpec.ofChange Rows.rightsRightSpec) :=
  OpenClaim.holds_of_wide 3 Try.f3 rfl rfl rfl rfl rfl rfl rfl ⟨rfl, rfl, rfl, rfl, rfl⟩ rfl rfl rfl rfl rfl (by kernel_rfl) Try.func3 (by kernel_rfl)
    (of_decide_eq_true (by kernel_rfl)) (by unfold Func.isWrapper; first | (rw [if_pos (by decide +kernel)]; kernel_rfl) | (rw [if_neg (by decide +kernel)]; exact ⟨rfl, rfl⟩))
    (fun os started H enc _ => lifted os started H enc)

/-- The statement. -/
theorem proved : Rows.RightsRightSaid :=
  over
#print axioms proved
end Go.Proofs.Ytefibidkmfcccaa.rightsRight
