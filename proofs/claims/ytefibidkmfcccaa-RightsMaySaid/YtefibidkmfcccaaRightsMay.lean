/- For every list of labels, every user and every label's number: RightsMay answers true, and its arguments read behind the call as before. No condition. -/
import Derived.Test.YtefibidkmfcccaaRows
import Derived.Test.YtefibidkmfcccaaLift
import Derived.Test.YtefibidkmfcccaaMay
set_option linter.unusedVariables false
namespace Go.Proofs.Ytefibidkmfcccaa.rightsMay
open Go.ChangeShapes Go.WideShapes Go.ChangeAt Go.RowKit Go.Lib Go.Proofs.Ytefibidkmfcccaa.Lift Go.Proofs.Ytefibidkmfcccaa.Rt Go.Proofs.Ytefibidkmfcccaa.Rig
open Go.ChangeMaps (open_string shut_string)

theorem own : ownKnob Try.prog.godebug = none := by kernel_rfl
theorem laidOut : laidOutB Try.prog = true := by kernel_rfl

theorem k1 : mayB two 2 1 false = false := by decide
theorem k2 : (mayB two 0 1 false && mayB two 0 1 true) = true := by decide

set_option maxRecDepth 100000 in
set_option maxHeartbeats 1000000 in
theorem walk {w : World} (v : Value) (L : List Lb) (hL : Labs w v L) (u : Int) (hu1 : -9223372036854775808 ≤ u) (hu2 : u ≤ 9223372036854775807) (i : Int) (hi1 : -9223372036854775808 ≤ i) (hi2 : i ≤ 9223372036854775807) :
    Calls Try.prog 4 #[v, .int .i64 u, .int .i64 i] w fun e w' => e = .returned (.bool true) ∧ Below w.heap.size w w' := by
  have C2 : Hid (∀ w, Calls Try.prog 10 #[] w (Gives w two)) := two_any
  have C3 : Hid (∀ w v, Labs w v two → Calls Try.prog 13 #[v, .int .i64 2, .int .i64 1, .bool false] w fun e w' => e = .returned (.bool false) ∧ Below w.heap.size w w') := fun w v h => by
    have := may_any 2 1 false w h ⟨by decide, by decide⟩ ⟨by decide, by decide⟩
    rw [k1] at this
    exact this
  have C4 : Hid (∀ w v, Labs w v two → Calls Try.prog 14 #[v, .int .i64 0, .int .i64 1] w fun e w' => e = .returned (.bool true) ∧ Below w.heap.size w w') := fun w v h => by
    have := edits_any 0 1 w h ⟨by decide, by decide⟩ ⟨by decide, by decide⟩
    rw [k2] at this
    exact this
  have C5 : Hid (∀ w', Below w.heap.size w w' → Calls Try.prog 11 #[v] w' fun e w'' => e = .returned (.bool (smallB L)) ∧ Below w'.heap.size w' w'') := fun w' hb => small_any w' (hL.below hb (Nat.le_refl _))
  have C6 : Hid (∀ b w', Below w.heap.size w w' → Calls Try.prog 13 #[v, .int .i64 u, .int .i64 i, .bool b] w' fun e w'' => e = .returned (.bool (mayB L u i b)) ∧ Below w'.heap.size w' w'') := fun b w' hb => may_any u i b w' (hL.below hb (Nat.le_refl _)) ⟨hu1, hu2⟩ ⟨hi1, hi2⟩
  have C7 : Hid (∀ b w', Below w.heap.size w w' → Calls Try.prog 15 #[v, .int .i64 u, .int .i64 i, .bool b] w' fun e w'' => e = .returned (.bool (mayB L u i b)) ∧ Below w'.heap.size w' w'') := fun b w' hb => rmay_any u i b w' (hL.below hb (Nat.le_refl _)) ⟨hu1, hu2⟩ ⟨hi1, hi2⟩
  have C8 : Hid (∀ w', Below w.heap.size w w' → Calls Try.prog 14 #[v, .int .i64 u, .int .i64 i] w' fun e w'' => e = .returned (.bool (mayB L u i false && mayB L u i true)) ∧ Below w'.heap.size w' w'') := fun w' hb => edits_any u i w' (hL.below hb (Nat.le_refl _)) ⟨hu1, hu2⟩ ⟨hi1, hi2⟩
  have C6a := Lib.hid (C6.out false)
  have C6b := Lib.hid (C6.out true)
  have C7a := Lib.hid (C7.out false)
  have C7b := Lib.hid (C7.out true)
  obtain ⟨a, cap, rfl, _⟩ := hL
  generalize L.length = n at *
  generalize hsm : smallB L = sm at *
  generalize mayB L u i false = x at *
  generalize mayB L u i true = y at *
  clear C6 C7 hsm
  go_enter Try.func4, Try.ntmps4
  go_wp2_with fail
  refine (C2.out _).mono ?_
  rintro e w1 ⟨v1, rfl, l1, hb1⟩
  go_wp2_with fail
  refine (C3.out _ _ l1).mono ?_
  rintro e w2 ⟨rfl, hb2⟩
  have g2 := Lib.hid (below_more hb1 hb2)
  clear hb1 hb2 l1
  go_wp2_with fail
  refine (C2.out _).mono ?_
  rintro e w3 ⟨v3, rfl, l3, hb3⟩
  go_wp2_with fail
  refine (C4.out _ _ l3).mono ?_
  rintro e w4 ⟨rfl, hb4⟩
  have g4 := Lib.hid (below_more (below_more g2.out hb3) hb4)
  clear hb3 hb4 l3 g2 C2 C3 C4
  go_wp2_with fail
  refine (C5.out _ g4.out).mono ?_
  rintro e w5 ⟨rfl, hb5⟩
  have g5 := Lib.hid (below_more g4.out hb5)
  clear hb5 C5
  cases sm with
  | false =>
    go_wp2_with fail
    go_ret
    exact ⟨rfl, g5.out⟩
  | true =>
    go_wp2_with fail
    refine (C6a.out _ g5.out).mono ?_
    rintro e w6 ⟨rfl, hb6⟩
    have g6 := Lib.hid (below_more g5.out hb6)
    clear hb6 C6a
    go_wp2_with fail
    refine (C6b.out _ g6.out).mono ?_
    rintro e w7 ⟨rfl, hb7⟩
    have g7 := Lib.hid (below_more g6.out hb7)
    clear hb7 C6b
    go_wp2_with fail
    refine (C7a.out _ g7.out).mono ?_
    rintro e w8 ⟨rfl, hb8⟩
    have g8 := Lib.hid (below_more g7.out hb8)
    clear hb8 C7a
    cases x <;> cases y <;>
    · go_wp2_with fail
      refine (C7b.out _ g8.out).mono ?_
      rintro e w9 ⟨rfl, hb9⟩
      have g9 := Lib.hid (below_more g8.out hb9)
      clear hb9 C7b
      go_wp2_with fail
      refine (C8.out _ g9.out).mono ?_
      rintro e w10 ⟨rfl, hb10⟩
      have g10 := Lib.hid (below_more g9.out hb10)
      clear hb10 C8
      go_wp2_with fail
      go_ret
      exact ⟨rfl, g10.out⟩

set_option maxRecDepth 100000 in
theorem lifted (os : Os) (started : os.Started) (H : Type) (enc : TypeId × Value → H) :
    ReturnsInHanded {} Try.checked os 4 .any (Rows.rightsMaySpec.pre6 enc Try.prog Try.f4 Rows.rightsMayRow.domain false) (Rows.rightsMaySpec.post enc Try.prog Try.f4 false true false false) := by
  refine returnsInHanded_of_change (C := Try.checked) own started (by kernel_rfl) Try.func4
    (ChangeSpec.witness6 (enc := enc) (C := Try.checked) false ⟨#[], #[.slice none 0 0, .int .i64 0, .int .i64 0], []⟩ 8 (by kernel_rfl) (by kernel_rfl) (by kernel_rfl) (by kernel_rfl)) ?_
  intro W base args ds gs before hval0 hW hcnd _
  have hval : ∀ (j : Nat) t v, Try.f4.params[j]? = some t → args[j]? = some v → Value.okWide Try.prog W .any base t v := hval0
  have hread : ∀ t ∈ Try.f4.params.toList, Try.prog.readableRec t = true ∧ t < Try.prog.types.size := by
    have : (Try.f4.params.toList.all fun t => Try.prog.readableRec t && decide (t < Try.prog.types.size)) = true := by kernel_rfl
    intro t ht
    have := List.all_eq_true.1 this t ht
    simpa using this
  refine law_contract (P := Try.prog) (s := Rows.rightsMaySpec) (fn := Try.f4) (tb := 4) laidOut rfl hread rfl Try.underlying4 (fun W' => okWide_bool_mk Try.underlying4 _) ?_ hW ?_
  · intro ds hds
    rw [Try.params4] at hds
    match ds, hds with
    | [d0, d1, d2], _ => rfl
  intro pl hA
  rw [Try.params4] at hA hval
  obtain ⟨v0, vs0, d0, ds0, p0, q0, hargs, rfl, hp0, h0, r0⟩ := trodAll_cons hA
  obtain ⟨v1, vs1, d1, ds1, p1, q1, rfl, rfl, hp1, h1, r1⟩ := trodAll_cons r0
  obtain ⟨v2, vs2, d2, ds2, p2, q2, rfl, rfl, hp2, h2, r2⟩ := trodAll_cons r1
  obtain ⟨rfl, rfl, hpe⟩ := trodAll_nil r2
  obtain rfl : args = #[v0, v1, v2] := by cases args; simp_all
  obtain ⟨L, hL0⟩ := open_labels (hval 0 22 v0 rfl rfl) h0
  obtain ⟨u, rfl, rfl, _, hw1⟩ := open_int Try.underlying3 (hval 1 3 v1 rfl rfl) h1
  have hb1 : -9223372036854775808 ≤ u ∧ u ≤ 9223372036854775807 := by simpa [Lit.wf, IntKind.min, IntKind.max, IntKind.signed, IntKind.bits] using hw1
  obtain ⟨i, rfl, rfl, _, hw2⟩ := open_int Try.underlying3 (hval 2 3 v2 rfl rfl) h2
  have hb2 : -9223372036854775808 ≤ i ∧ i ≤ 9223372036854775807 := by simpa [Lit.wf, IntKind.min, IntKind.max, IntKind.signed, IntKind.bits] using hw2
  exact walk v0 L hL0 u hb1.1 hb1.2 i hb2.1 hb2.2

theorem over : Rows.rightsMayRow.holds Try.pinned (OpenSpec.ofChange Rows.rightsMaySpec) :=
  OpenClaim.holds_of_wide 4 Try.f4 rfl rfl rfl rfl rfl rfl rfl ⟨rfl, rfl, rfl, rfl, rfl⟩ rfl rfl rfl rfl rfl (by kernel_rfl) Try.func4 (by kernel_rfl)
    (of_decide_eq_true (by kernel_rfl)) (by unfold Func.isWrapper; first | (rw [if_pos (by decide +kernel)]; kernel_rfl) | (rw [if_neg (by decide +kernel)]; exact ⟨rfl, rfl⟩))
    (fun os started H enc _ => lifted os started H enc)

/-- The statement. -/
theorem proved : Rows.RightsMaySaid :=
  over
#print axioms proved
end Go.Proofs.Ytefibidkmfcccaa.rightsMay
