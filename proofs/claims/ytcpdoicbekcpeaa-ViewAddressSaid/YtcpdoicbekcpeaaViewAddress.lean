/- For every list of pieces and every number: ViewAddress answers true, and its arguments read behind the call as before. No condition. -/
import Derived.Test.YtcpdoicbekcpeaaRows
import Derived.Test.YtcpdoicbekcpeaaLift
import Derived.Test.YtcpdoicbekcpeaaVg
import Derived.Deep.RegionHeld3
set_option linter.unusedVariables false
namespace Go.Proofs.Ytcpdoicbekcpeaa.viewAddress
open Go.ChangeShapes Go.WideShapes Go.ChangeAt Go.RowKit Go.Lib Go.Proofs.Ytcpdoicbekcpeaa.Lift Go.Proofs.Ytcpdoicbekcpeaa.Rk Go.Proofs.Ytcpdoicbekcpeaa.Vi
open Go.ChangeMaps (open_string shut_string)

theorem own : ownKnob Try.prog.godebug = none := by kernel_rfl
theorem laidOut : laidOutB Try.prog = true := by kernel_rfl

theorem threeA : adr threeP (clampI 3 (wid threeP)) = (1, 3, true) := by decide +kernel
theorem threeW : wid threeP = 6 := by decide +kernel
set_option maxHeartbeats 8000000 in
theorem walk {w : World} (v : Value) (A : List Pc) (h : Pcs w v A) (t : Int) (_ : -9223372036854775808 ≤ t) (_ : t ≤ 9223372036854775807) :
    Calls Try.prog 3 #[v, .int .i64 t] w fun e w' => e = .returned (.bool true) ∧ Below w.heap.size w w' := by
  have HP : Hid (∀ w', Below w.heap.size w w' → Pcs w' v A) := fun w' hb => h.below hb (Nat.le_refl _)
  obtain ⟨a, cap, rfl, hl, hm, hq⟩ := h.open_
  clear h hq
  go_enter Try.func3, Try.ntmps3
  go_wp2_with fail
  refine (three_any _).mono ?_
  rintro e w1 ⟨u, rfl, p1, b1⟩
  obtain ⟨ua, uc, rfl, _⟩ := p1.open_
  have C1 := Address_any 3 w1 p1 three_right
  rw [threeA] at C1
  simp only at C1
  have HB1 := Lib.hid b1
  clear b1 p1
  go_wp2_with fail
  refine C1.mono ?_
  rintro e w2 ⟨rfl, b2⟩
  have HB2 := Lib.hid (below_more' HB1.out b2)
  clear b2 C1
  go_wp2_with fail
  refine (three_any _).mono ?_
  rintro e w3 ⟨u3, rfl, p3, b3⟩
  obtain ⟨ua3, uc3, rfl, _⟩ := p3.open_
  have C3 := Width_any w3 p3 three_right
  rw [threeW] at C3
  have HB3 := Lib.hid (below_more' HB2.out b3)
  clear b3 p3
  go_wp2_with fail
  refine C3.mono ?_
  rintro e w4 ⟨rfl, b4⟩
  have HB4 := Lib.hid (below_more' HB3.out b4)
  clear b4 C3
  go_wp2_with fail
  refine (right_any _ (HP.out _ HB4.out)).mono ?_
  rintro e w5 ⟨b, rfl, hr, b5⟩
  have HB5 := Lib.hid (below_more' HB4.out b5)
  clear b5
  cases b with
  | false =>
    go_wp2_with fail
    go_ret
    exact ⟨by simp, HB5.out⟩
  | true =>
    replace hr := hr rfl
    have HR := Lib.hid hr
    clear hr
    generalize A.length = n at *
    obtain ⟨r1, h1⟩ : ∃ r1, r1 = (adr A (clampI t (wid A))).1 := ⟨_, rfl⟩
    obtain ⟨r2, h2⟩ : ∃ r2, r2 = (adr A (clampI t (wid A))).2.1 := ⟨_, rfl⟩
    obtain ⟨r3, h3⟩ : ∃ r3, r3 = (adr A (clampI t (wid A))).2.2 := ⟨_, rfl⟩
    obtain ⟨r4, h4⟩ : ∃ r4, r4 = wid A := ⟨_, rfl⟩
    have C6 := fun w' hb => Address_any t w' (HP.out w' hb) HR.out
    have C7 := fun w' hb => rAddress_any t w' (HP.out w' hb) HR.out
    have C8 := fun w' hb => Width_any w' (HP.out w' hb) HR.out
    have C9 := fun w' hb => rWidth_any w' (HP.out w' hb) HR.out
    simp only [← h1, ← h2, ← h3] at C6 C7
    simp only [← h4] at C8 C9
    replace C6 := Lib.hid C6
    replace C7 := Lib.hid C7
    replace C8 := Lib.hid C8
    replace C9 := Lib.hid C9
    clear h1 h2 h3 h4
    go_wp2_with fail
    refine (C6.out _ HB5.out).mono ?_
    rintro e w6 ⟨rfl, b6⟩
    have HB6 := Lib.hid (below_more' HB5.out b6)
    clear b6
    go_wp2_with fail
    refine (C7.out _ HB6.out).mono ?_
    rintro e w7 ⟨rfl, b7⟩
    have HB7 := Lib.hid (below_more' HB6.out b7)
    clear b7
    have e3 : (r3 == r3) = true := by simp
    go_wp2_with fail
    refine (C8.out _ HB7.out).mono ?_
    rintro e w8 ⟨rfl, b8⟩
    have HB8 := Lib.hid (below_more' HB7.out b8)
    clear b8
    go_wp2_with fail
    refine (C9.out _ HB8.out).mono ?_
    rintro e w9 ⟨rfl, b9⟩
    have HB9 := Lib.hid (below_more' HB8.out b9)
    clear b9
    go_wp2_with fail
    go_ret
    exact ⟨by simp, HB9.out⟩

set_option maxRecDepth 100000 in
theorem lifted (os : Os) (started : os.Started) (H : Type) (enc : TypeId × Value → H) :
    ReturnsInHanded {} Try.checked os 3 .any (Rows.viewAddressSpec.pre6 enc Try.prog Try.f3 Rows.viewAddressRow.domain false) (Rows.viewAddressSpec.post enc Try.prog Try.f3 false true false false) := by
  refine returnsInHanded_of_change (C := Try.checked) own started (by kernel_rfl) Try.func3
    (ChangeSpec.witness6 (enc := enc) (C := Try.checked) false ⟨#[], #[.slice none 0 0, .int .i64 0], []⟩ 8 (by kernel_rfl) (by kernel_rfl) (by kernel_rfl) (by kernel_rfl)) ?_
  intro W base args ds gs before hval0 hW hcnd _
  have hval : ∀ (j : Nat) t v, Try.f3.params[j]? = some t → args[j]? = some v → Value.okWide Try.prog W .any base t v := hval0
  have hread : ∀ t ∈ Try.f3.params.toList, Try.prog.readableRec t = true ∧ t < Try.prog.types.size := by
    have : (Try.f3.params.toList.all fun t => Try.prog.readableRec t && decide (t < Try.prog.types.size)) = true := by kernel_rfl
    intro t ht
    have := List.all_eq_true.1 this t ht
    simpa using this
  refine law_contract (P := Try.prog) (s := Rows.viewAddressSpec) (fn := Try.f3) (tb := 4) laidOut rfl hread rfl Try.underlying4 (fun W' => okWide_bool_mk Try.underlying4 _) ?_ hW ?_
  · intro ds hds
    rw [Try.params3] at hds
    match ds, hds with
    | [d0, d1], _ => rfl
  intro pl hA
  rw [Try.params3] at hA hval
  obtain ⟨v0, vs0, d0, ds0, p0, q0, hargs, rfl, hp0, h0, r0⟩ := trodAll_cons hA
  obtain ⟨v1, vs1, d1, ds1, p1, q1, rfl, rfl, hp1, h1, r1⟩ := trodAll_cons r0
  obtain ⟨rfl, rfl, hpe⟩ := trodAll_nil r1
  obtain rfl : args = #[v0, v1] := by cases args; simp_all
  obtain ⟨l, hL0⟩ := open_pieces (hval 0 22 v0 rfl rfl) h0
  obtain ⟨t, rfl, rfl, _, hw1⟩ := open_int Try.underlying3 (hval 1 3 v1 rfl rfl) h1
  have hb1 : -9223372036854775808 ≤ t ∧ t ≤ 9223372036854775807 := by simpa [Lit.wf, IntKind.min, IntKind.max, IntKind.signed, IntKind.bits] using hw1
  exact walk v0 l hL0 t hb1.1 hb1.2

theorem over : Rows.viewAddressRow.holds Try.pinned (OpenSpec.ofChange Rows.viewAddressSpec) :=
  OpenClaim.holds_of_wide 3 Try.f3 rfl rfl rfl rfl rfl rfl rfl ⟨rfl, rfl, rfl, rfl, rfl⟩ rfl rfl rfl rfl rfl (by kernel_rfl) Try.func3 (by kernel_rfl)
    (of_decide_eq_true (by kernel_rfl)) (by unfold Func.isWrapper; first | (rw [if_pos (by decide +kernel)]; kernel_rfl) | (rw [if_neg (by decide +kernel)]; exact ⟨rfl, rfl⟩))
    (fun os started H enc _ => lifted os started H enc)

/-- The statement. -/
theorem proved : Rows.ViewAddressSaid :=
  over
#print axioms proved
end Go.Proofs.Ytcpdoicbekcpeaa.viewAddress
