/- For every list of pieces and all numbers: ViewOffset answers true, and its arguments read behind the call as before. No condition. -/
import Derived.Test.YtcpdoicbekcpeaaRows
import Derived.Test.YtcpdoicbekcpeaaLift
import Derived.Test.YtcpdoicbekcpeaaVg
import Derived.Deep.RegionHeld3
set_option linter.unusedVariables false
namespace Go.Proofs.Ytcpdoicbekcpeaa.viewOffset
open Go.ChangeShapes Go.WideShapes Go.ChangeAt Go.RowKit Go.Lib Go.Proofs.Ytcpdoicbekcpeaa.Lift Go.Proofs.Ytcpdoicbekcpeaa.Rk Go.Proofs.Ytcpdoicbekcpeaa.Vi
open Go.ChangeMaps (open_string shut_string)

theorem own : ownKnob Try.prog.godebug = none := by kernel_rfl
theorem laidOut : laidOutB Try.prog = true := by kernel_rfl

theorem threeO : ofs threeP 2 9 0 = (4, true) := by decide +kernel
set_option maxHeartbeats 8000000 in
theorem walk {w : World} (v : Value) (A : List Pc) (h : Pcs w v A) (id : Int) (_ : -9223372036854775808 ≤ id) (_ : id ≤ 9223372036854775807) (t : Int) (_ : -9223372036854775808 ≤ t) (_ : t ≤ 9223372036854775807) :
    Calls Try.prog 4 #[v, .int .i64 id, .int .i64 t] w fun e w' => e = .returned (.bool true) ∧ Below w.heap.size w w' := by
  have HP : Hid (∀ w', Below w.heap.size w w' → Pcs w' v A) := fun w' hb => h.below hb (Nat.le_refl _)
  obtain ⟨a, cap, rfl, hl, hm, hq⟩ := h.open_
  clear h hq
  go_enter Try.func4, Try.ntmps4
  go_wp2_with fail
  refine (three_any _).mono ?_
  rintro e w1 ⟨u, rfl, p1, b1⟩
  obtain ⟨ua, uc, rfl, _⟩ := p1.open_
  have C1 := Offset_any 2 9 w1 p1 three_right
  rw [threeO] at C1
  simp only at C1
  have HB1 := Lib.hid b1
  clear b1 p1
  go_wp2_with fail
  refine C1.mono ?_
  rintro e w2 ⟨rfl, b2⟩
  have HB2 := Lib.hid (below_more' HB1.out b2)
  clear b2 C1
  go_wp2_with fail
  refine (right_any _ (HP.out _ HB2.out)).mono ?_
  rintro e w3 ⟨b, rfl, hr, b3⟩
  have HB3 := Lib.hid (below_more' HB2.out b3)
  clear b3
  cases b with
  | false =>
    go_wp2_with fail
    go_ret
    exact ⟨by simp, HB3.out⟩
  | true =>
    replace hr := hr rfl
    have HR := Lib.hid hr
    clear hr
    generalize A.length = n at *
    go_wp2_with fail
    refine (Offset_any id t _ (HP.out _ HB3.out) HR.out).mono ?_
    rintro e w4 ⟨rfl, b4⟩
    have HB4 := Lib.hid (below_more' HB3.out b4)
    clear b4
    obtain ⟨r1, h1⟩ : ∃ r1, r1 = (ofs A id t 0).1 := ⟨_, rfl⟩
    obtain ⟨r2, h2⟩ : ∃ r2, r2 = (ofs A id t 0).2 := ⟨_, rfl⟩
    have C5 := rOffset_any id t _ (HP.out _ HB4.out) HR.out
    rw [← h1, ← h2] at C5 ⊢
    clear h1 h2
    go_wp2_with fail
    refine C5.mono ?_
    rintro e w5 ⟨rfl, b5⟩
    have HB5 := Lib.hid (below_more' HB4.out b5)
    clear b5 C5
    cases r2
    all_goals (
      go_wp2_with fail
      go_ret
      exact ⟨by simp, HB5.out⟩)

set_option maxRecDepth 100000 in
theorem lifted (os : Os) (started : os.Started) (H : Type) (enc : TypeId × Value → H) :
    ReturnsInHanded {} Try.checked os 4 .any (Rows.viewOffsetSpec.pre6 enc Try.prog Try.f4 Rows.viewOffsetRow.domain false) (Rows.viewOffsetSpec.post enc Try.prog Try.f4 false true false false) := by
  refine returnsInHanded_of_change (C := Try.checked) own started (by kernel_rfl) Try.func4
    (ChangeSpec.witness6 (enc := enc) (C := Try.checked) false ⟨#[], #[.slice none 0 0, .int .i64 0, .int .i64 0], []⟩ 8 (by kernel_rfl) (by kernel_rfl) (by kernel_rfl) (by kernel_rfl)) ?_
  intro W base args ds gs before hval0 hW hcnd _
  have hval : ∀ (j : Nat) t v, Try.f4.params[j]? = some t → args[j]? = some v → Value.okWide Try.prog W .any base t v := hval0
  have hread : ∀ t ∈ Try.f4.params.toList, Try.prog.readableRec t = true ∧ t < Try.prog.types.size := by
    have : (Try.f4.params.toList.all fun t => Try.prog.readableRec t && decide (t < Try.prog.types.size)) = true := by kernel_rfl
    intro t ht
    have := List.all_eq_true.1 this t ht
    simpa using this
  refine law_contract (P := Try.prog) (s := Rows.viewOffsetSpec) (fn := Try.f4) (tb := 4) laidOut rfl hread rfl Try.underlying4 (fun W' => okWide_bool_mk Try.underlying4 _) ?_ hW ?_
  · intro ds hds
    rw [Try.params4] at hds
    match ds, hds with
    | [d0, d1, d2], _ => rfl
  intro pl hA
  rw [Try.params4] at hA hval
  obtain ⟨v0, vs0, d0, ds0, p0, q0, hargs, rfl, hp0, h0, r0⟩ := trodAll_cons hA
  obtain ⟨v1, vs1, d1, ds1, p1, q1, rfl, rfl, hp1, h1, r1⟩ := trodAll_cons r0
  obtain ⟨v2, vs2, d2, ds2, p2, q2, rfl, rfl, hp2, h2, r2⟩ := trodAll_cons r1
  obtain ⟨rfl, rfl, hpe⟩ := trodAll_nil r2
  obtain rfl : args = #[v0, v1, v2] := by cases args; simp_all
  obtain ⟨l, hL0⟩ := open_pieces (hval 0 22 v0 rfl rfl) h0
  obtain ⟨id, rfl, rfl, _, hw1⟩ := open_int Try.underlying3 (hval 1 3 v1 rfl rfl) h1
  have hb1 : -9223372036854775808 ≤ id ∧ id ≤ 9223372036854775807 := by simpa [Lit.wf, IntKind.min, IntKind.max, IntKind.signed, IntKind.bits] using hw1
  obtain ⟨t, rfl, rfl, _, hw2⟩ := open_int Try.underlying3 (hval 2 3 v2 rfl rfl) h2
  have hb2 : -9223372036854775808 ≤ t ∧ t ≤ 9223372036854775807 := by simpa [Lit.wf, IntKind.min, IntKind.max, IntKind.signed, IntKind.bits] using hw2
  exact walk v0 l hL0 id hb1.1 hb1.2 t hb2.1 hb2.2

theorem over : Rows.viewOffsetRow.holds Try.pinned (OpenSpec.ofChange Rows.viewOffsetSpec) :=
  OpenClaim.holds_of_wide 4 Try.f4 rfl rfl rfl rfl rfl rfl rfl ⟨rfl, rfl, rfl, rfl, rfl⟩ rfl rfl rfl rfl rfl (by kernel_rfl) Try.func4 (by kernel_rfl)
    (of_decide_eq_true (by kernel_rfl)) (by unfold Func.isWrapper; first | (rw [if_pos (by decide +kernel)]; kernel_rfl) | (rw [if_neg (by decide +kernel)]; exact ⟨rfl, rfl⟩))
    (fun os started H enc _ => lifted os started H enc)

/-- The statement. -/
theorem proved : Rows.ViewOffsetSaid :=
  over
#print axioms proved
end Go.Proofs.Ytcpdoicbekcpeaa.viewOffset
