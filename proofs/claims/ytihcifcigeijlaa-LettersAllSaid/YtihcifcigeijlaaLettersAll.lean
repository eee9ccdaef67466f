/- For every text: LettersAll answers true, and its argument reads behind the call as before. No condition. -/
import Derived.Test.YtihcifcigeijlaaRows
import Derived.Test.YtihcifcigeijlaaLift
import Derived.Test.YtihcifcigeijlaaWalkE
set_option linter.unusedVariables false
namespace Go.Proofs.Ytihcifcigeijlaa.lettersAll
open Go.ChangeShapes Go.WideShapes Go.ChangeAt Go.RowKit Go.Lib Go.Proofs.Ytihcifcigeijlaa.Lift Go.Proofs.Ytihcifcigeijlaa.Let Go.Proofs.Ytihcifcigeijlaa.Con
open Go.ChangeMaps (open_string shut_string)

theorem own : ownKnob Try.prog.godebug = none := by kernel_rfl
theorem laidOut : laidOutB Try.prog = true := by kernel_rfl

theorem k1 : lets (ByteArray.mk #[97, 226, 130, 172]).data.toList = [97, 8364] := by decide +kernel

set_option maxRecDepth 100000 in
set_option maxHeartbeats 400000 in
theorem walk (s : ByteArray) (hs : s.size ≤ maxLen) (w : World) :
    Calls Try.prog 3 #[.string s] w fun e w' => e = .returned (.bool true) ∧ Below w.heap.size w w' := by
  have hs2 := hs
  unfold maxLen at hs
  by_cases hlen : (5000 : Int) < s.size
  · go_enter Try.func3, Try.ntmps3
    go_wp2_with fail
    refine (letters_any _ _ (by decide)).mono ?_
    rintro e w1 ⟨v, rfl, hown, hb1⟩
    rw [k1] at hown
    obtain ⟨p, cap, rfl, _, _, hr⟩ := Row.of_owns hown
    rcases hr with hr | ⟨q, o, rfl, _, hc⟩
    · cases hr
    have hc1 : w1.cell? ⟨q, o + 1, none⟩ = some (.int .i32 8364) := hc 1 (by decide)
    clear hown hc
    go_wp2
    go_ret
    exact ⟨rfl, hb1⟩
  · go_enter Try.func3, Try.ntmps3
    go_wp2_with fail
    refine (letters_any _ _ (by decide)).mono ?_
    rintro e w1 ⟨v, rfl, hown, hb1⟩
    rw [k1] at hown
    obtain ⟨p, cap, rfl, _, _, hr⟩ := Row.of_owns hown
    rcases hr with hr | ⟨q, o, rfl, _, hc⟩
    · cases hr
    have hc1 : w1.cell? ⟨q, o + 1, none⟩ = some (.int .i32 8364) := hc 1 (by decide)
    clear hown hc
    go_wp2_with fail
    refine (letters_any s _ (by omega)).mono ?_
    rintro e w2 ⟨v2, rfl, hown2, hb2⟩
    go_wp2_with fail
    refine (rletters_any s _ (by omega)).mono ?_
    rintro e w3 ⟨v3, rfl, hown3, hb3⟩
    have hr2 := (Row.of_owns hown2).below hb3 (Nat.le_refl _)
    have hr3 := Row.of_owns hown3
    have hl := lets_len s.data.toList
    rw [sz] at hl
    go_wp2_with fail
    refine (same_yes v2 v3 _ _ hr2 hr3 (by omega)).mono ?_
    rintro e w4 ⟨rfl, hb4⟩
    clear hr2 hr3 hown2 hown3
    go_wp2
    go_ret
    exact ⟨rfl, hb1.trans ((hb2.trans ((hb3.mono hb2.size).trans (hb4.mono (Nat.le_trans hb2.size hb3.size)))).mono hb1.size)⟩

set_option maxRecDepth 100000 in
theorem lifted (os : Os) (started : os.Started) (H : Type) (enc : TypeId × Value → H) :
    ReturnsInHanded {} Try.checked os 3 .any (Rows.lettersAllSpec.pre6 enc Try.prog Try.f3 Rows.lettersAllRow.domain false) (Rows.lettersAllSpec.post enc Try.prog Try.f3 false true false false) := by
  refine returnsInHanded_of_change (C := Try.checked) own started (by kernel_rfl) Try.func3
    (ChangeSpec.witness6 (enc := enc) (C := Try.checked) false ⟨#[], #[.string ByteArray.empty], []⟩ 8 (by kernel_rfl) (by kernel_rfl) (by kernel_rfl) (by kernel_rfl)) ?_
  intro W base args ds gs before hval0 hW hcnd _
  have hval : ∀ (j : Nat) t v, Try.f3.params[j]? = some t → args[j]? = some v → Value.okWide Try.prog W .any base t v := hval0
  have hread : ∀ t ∈ Try.f3.params.toList, Try.prog.readableRec t = true ∧ t < Try.prog.types.size := by
    have : (Try.f3.params.toList.all fun t => Try.prog.readableRec t && decide (t < Try.prog.types.size)) = true := by kernel_rfl
    intro t ht
    have := List.all_eq_true.1 this t ht
    simpa using this
  refine law_contract (P := Try.prog) (s := Rows.lettersAllSpec) (fn := Try.f3) (tb := 4) laidOut rfl hread rfl Try.underlying4 (fun W' => okWide_bool_mk Try.underlying4 _) ?_ hW ?_
  · intro ds hds
    rw [Try.params3] at hds
    match ds, hds with
    | [d0], _ => rfl
  intro pl hA
  rw [Try.params3] at hA hval
  obtain ⟨v0, vs0, d0, ds0, p0, q0, hargs, rfl, hp0, h0, r0⟩ := trodAll_cons hA
  obtain ⟨rfl, rfl, hpe⟩ := trodAll_nil r0
  obtain rfl : args = #[v0] := by cases args; simp_all
  obtain ⟨s, rfl, rfl, _, hs0⟩ := open_string Try.underlying9 (hval 0 9 v0 rfl rfl) h0
  exact walk s hs0 W

theorem over : Rows.lettersAllRow.holds Try.pinned (OpenSpec.ofChange Rows.lettersAllSpec) :=
  OpenClaim.holds_of_wide 3 Try.f3 rfl rfl rfl rfl rfl rfl rfl ⟨rfl, rfl, rfl, rfl, rfl⟩ rfl rfl rfl rfl rfl (by kernel_rfl) Try.func3 (by kernel_rfl)
    (of_decide_eq_true (by kernel_rfl)) (by unfold Func.isWrapper; first | (rw [if_pos (by decide +kernel)]; kernel_rfl) | (rw [if_neg (by decide +kernel)]; exact ⟨rfl, rfl⟩))
    (fun os started H enc _ => lifted os started H enc)

/-- The statement. -/
theorem proved : Rows.LettersAllSaid :=
  over
#print axioms proved
end Go.Proofs.Ytihcifcigeijlaa.lettersAll
