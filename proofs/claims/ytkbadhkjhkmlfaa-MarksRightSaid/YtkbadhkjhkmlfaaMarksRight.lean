/- For every list of spans, every list of sites and every number of letters: MarksRight answers true, and its arguments read behind the call as before. No condition. -/
import Derived.Test.YtkbadhkjhkmlfaaRows
import Derived.Test.YtkbadhkjhkmlfaaLift
import Derived.Test.YtkbadhkjhkmlfaaMx

set_option linter.unusedVariables false
namespace Go.Proofs.Ytkbadhkjhkmlfaa.marksRight
open Go.ChangeShapes Go.WideShapes Go.ChangeAt Go.RowKit Go.Lib Go.Proofs.Ytkbadhkjhkmlfaa.Lift Go.Proofs.Ytkbadhkjhkmlfaa.Rt Go.Proofs.Ytkbadhkjhkmlfaa.Rig
open Go.ChangeMaps (open_string shut_string)

theorem own : ownKnob Try.prog.godebug = none := by kernel_rfl
theorem laidOut : laidOutB Try.prog = true := by kernel_rfl

theorem k1 : mrightB [⟨1, 0, 2⟩] [] 2 = true := by decide
theorem k2 : mrightB [⟨1, 0, 2⟩] [] 1 = false := by decide

set_option maxRecDepth 100000 in
set_option maxHeartbeats 2000000 in
theorem walk {w : World} (sv : Value) (S : List Sp) (hS : Spans w sv S) (tv : Value) (T : List St) (hT : Sites w tv T) (n : Int) (hn1 : -9223372036854775808 ≤ n) (hn2 : n ≤ 9223372036854775807) :
    Calls Try.prog 3 #[sv, tv, .int .i64 n] w fun e w' => e = .returned (.bool true) ∧ Below w.heap.size w w' := by
  have C1 : Hid (∀ w : World, Calls Try.prog 10 #[.agg #[.slice (some ⟨w.heap.size, 0, none⟩) 1 1, .slice none 0 0], .int .i64 2] (w.alloc (.cells #[.int .i64 1, .int .i64 0, .int .i64 2] 26)) fun e w' => e = .returned (.bool true) ∧ Below w.heap.size w w') := fun w => by
    have := right_any 2 _ (lit_span (m := 1) (f := 0) (t := 2) (heap_alloc_new w _) ⟨⟨by decide, by decide⟩, ⟨by decide, by decide⟩, ⟨by decide, by decide⟩⟩) (Sites.nil_ _) ⟨by decide, by decide⟩
    rw [k1] at this
    exact this.mono fun e w' ⟨h1, h2⟩ => ⟨h1, below_more ((Below.refl _ w).alloc (Nat.le_refl _) _) h2⟩
  have C2 : Hid (∀ w : World, Calls Try.prog 10 #[.agg #[.slice (some ⟨w.heap.size, 0, none⟩) 1 1, .slice none 0 0], .int .i64 1] (w.alloc (.cells #[.int .i64 1, .int .i64 0, .int .i64 2] 26)) fun e w' => e = .returned (.bool false) ∧ Below w.heap.size w w') := fun w => by
    have := right_any 1 _ (lit_span (m := 1) (f := 0) (t := 2) (heap_alloc_new w _) ⟨⟨by decide, by decide⟩, ⟨by decide, by decide⟩, ⟨by decide, by decide⟩⟩) (Sites.nil_ _) ⟨by decide, by decide⟩
    rw [k2] at this
    exact this.mono fun e w' ⟨h1, h2⟩ => ⟨h1, below_more ((Below.refl _ w).alloc (Nat.le_refl _) _) h2⟩
  have C3 : Hid (∀ w', Below w.heap.size w w' → Calls Try.prog 10 #[.agg #[sv, tv], .int .i64 n] w' fun e w'' => e = .returned (.bool (mrightB S T n)) ∧ Below w'.heap.size w' w'') := fun w' hb => right_any n w' (hS.below hb (Nat.le_refl _)) (hT.below hb (Nat.le_refl _)) ⟨hn1, hn2⟩
  have C4 : Hid (∀ w', Below w.heap.size w w' → Calls Try.prog 11 #[.agg #[sv, tv], .int .i64 n] w' fun e w'' => e = .returned (.bool (mrightB S T n)) ∧ Below w'.heap.size w' w'') := fun w' hb => rmright_any n w' (hS.below hb (Nat.le_refl _)) (hT.below hb (Nat.le_refl _)) ⟨hn1, hn2⟩
  obtain ⟨sa, sc, rfl⟩ := hS.is_slice
  obtain ⟨ta, tc, rfl⟩ := hT.is_slice
  generalize S.length = ls at *
  generalize T.length = lt at *
  generalize mrightB S T n = r at *
  clear hS hT
  go_enter Try.func3, Try.ntmps3
  go_wp2_with fail
  refine (C1.out _).mono ?_
  rintro e w1 ⟨rfl, hb1⟩
  have g1 := Lib.hid hb1
  clear hb1 C1
  go_wp2_with fail
  refine (C2.out _).mono ?_
  rintro e w2 ⟨rfl, hb2⟩
  have g2 := Lib.hid (below_more g1.out hb2)
  clear hb2 C2 g1
  by_cases q1 : 2000 < ls
  · have d1 : decide (2000 < ls) = true := by simpa using q1
    go_wp2_with fail
    go_ret
    exact ⟨rfl, g2.out⟩
  · have d1 : decide (2000 < ls) = false := by simpa using q1
    by_cases q2 : 2000 < lt
    · have d2 : decide (2000 < lt) = true := by simpa using q2
      go_wp2_with fail
      go_ret
      exact ⟨rfl, g2.out⟩
    · have d2 : decide (2000 < lt) = false := by simpa using q2
      go_wp2_with fail
      refine (C3.out _ g2.out).mono ?_
      rintro e w3 ⟨rfl, hb3⟩
      have g3 := Lib.hid (below_more g2.out hb3)
      clear hb3 C3 g2
      go_wp2_with fail
      refine (C4.out _ g3.out).mono ?_
      rintro e w4 ⟨rfl, hb4⟩
      have g4 := Lib.hid (below_more g3.out hb4)
      clear hb4 C4 g3
      cases r <;>
      · go_wp2_with fail
        go_ret
        exact ⟨rfl, g4.out⟩

set_option maxRecDepth 100000 in
theorem lifted (os : Os) (started : os.Started) (H : Type) (enc : TypeId × Value → H) :
    ReturnsInHanded {} Try.checked os 3 .any (Rows.marksRightSpec.pre6 enc Try.prog Try.f3 Rows.marksRightRow.domain false) (Rows.marksRightSpec.post enc Try.prog Try.f3 false true false false) := by
  refine returnsInHanded_of_change (C := Try.checked) own started (by kernel_rfl) Try.func3
    (ChangeSpec.witness6 (enc := enc) (C := Try.checked) false ⟨#[], #[.slice none 0 0, .slice none 0 0, .int .i64 0], []⟩ 8 (by kernel_rfl) (by kernel_rfl) (by kernel_rfl) (by kernel_rfl)) ?_
  intro W base args ds gs before hval0 hW hcnd _
  have hval : ∀ (j : Nat) t v, Try.f3.params[j]? = some t → args[j]? = some v → Value.okWide Try.prog W .any base t v := hval0
  have hread : ∀ t ∈ Try.f3.params.toList, Try.prog.readableRec t = true ∧ t < Try.prog.types.size := by
    have : (Try.f3.params.toList.all fun t => Try.prog.readableRec t && decide (t < Try.prog.types.size)) = true := by kernel_rfl
    intro t ht
    have := List.all_eq_true.1 this t ht
    simpa using this
  refine law_contract (P := Try.prog) (s := Rows.marksRightSpec) (fn := Try.f3) (tb := 4) laidOut rfl hread rfl Try.underlying4 (fun W' => okWide_bool_mk Try.underlying4 _) ?_ hW ?_
  · intro ds hds
    rw [Try.params3] at hds
    match ds, hds with
    | [d0, d1, d2], _ => rfl
  intro pl hA
  rw [Try.params3] at hA hval
  obtain ⟨v0, vs0, d0, ds0, p0, q0, hargs, rfl, hp0, h0, r0⟩ := trodAll_cons hA
  obtain ⟨v1, vs1, d1, ds1, p1, q1, rfl, rfl, hp1, h1, r1⟩ := trodAll_cons r0
  obtain ⟨v2, vs2, d2, ds2, p2, q2, rfl, rfl, hp2, h2, r2⟩ := trodAll_cons r1
  obtain ⟨rfl, rfl, hpe⟩ := trodAll_nil r2
  obtain rfl : args = #[v0, v1, v2] := by cases args; simp_all
  obtain ⟨S, hL0⟩ := open_spans (hval 0 22 v0 rfl rfl) h0
  obtain ⟨T, hL1⟩ := open_sites (hval 1 23 v1 rfl rfl) h1
  obtain ⟨n, rfl, rfl, _, hw2⟩ := open_int Try.underlying3 (hval 2 3 v2 rfl rfl) h2
  have hb2 : -9223372036854775808 ≤ n ∧ n ≤ 9223372036854775807 := by simpa [Lit.wf, IntKind.min, IntKind.max, IntKind.signed, IntKind.bits] using hw2
  exact walk v0 S hL0 v1 T hL1 n hb2.1 hb2.2

theorem over : Rows.marksRightRow.holds Try.pinned (OpenSpec.ofChange Rows.marksRightSpec) :=
  OpenClaim.holds_of_wide 3 Try.f3 rfl rfl rfl rfl rfl rfl rfl ⟨rfl, rfl, rfl, rfl, rfl⟩ rfl rfl rfl rfl rfl (by kernel_rfl) Try.func3 (by kernel_rfl)
    (of_decide_eq_true (by kernel_rfl)) (by unfold Func.isWrapper; first | (rw [if_pos (by decide +kernel)]; kernel_rfl) | (rw [if_neg (by decide +kernel)]; exact ⟨rfl, rfl⟩))
    (fun os started H enc _ => lifted os started H enc)

/-- The statement. -/
theorem proved : Rows.MarksRightSaid :=
  over
#print axioms proved
end Go.Proofs.Ytkbadhkjhkmlfaa.marksRight
