/- For every text: LedgerPlates answers true, and its argument reads behind the call as before. No condition. -/
import Derived.Test.YtffejfpbeimngaaRows
import Derived.Test.YtffejfpbeimngaaLift
import Derived.Test.YtffejfpbeimngaaLp

set_option linter.unusedVariables false
namespace Go.Proofs.Ytffejfpbeimngaa.ledgerPlates
open Go.ChangeShapes Go.WideShapes Go.ChangeAt Go.RowKit Go.Lib Go.Proofs.Ytffejfpbeimngaa.Lift Go.Proofs.Ytffejfpbeimngaa.Ldg
open Go.ChangeMaps (open_string shut_string)

theorem own : ownKnob Try.prog.godebug = none := by kernel_rfl
theorem laidOut : laidOutB Try.prog = true := by kernel_rfl

theorem k1 : platesN (ByteArray.mk #[120]).size = 2 := by decide +kernel

set_option maxRecDepth 100000 in
set_option maxHeartbeats 400000 in
theorem walk (s : ByteArray) (hs : s.size ≤ maxLen) (w : World) :
    Calls Try.prog 3 #[.string s] w fun e w' => e = .returned (.bool true) ∧ Below w.heap.size w w' := by
  unfold maxLen at hs
  have C1 : Hid (∀ w, Calls Try.prog 4 #[.string (ByteArray.mk #[120])] w fun e w' => e = .returned (.int .i64 2) ∧ w' = w) := fun w => plates_any (ByteArray.mk #[120]) (by decide) w
  have C2 : Hid (∀ w, Calls Try.prog 4 #[.string s] w fun e w' => e = .returned (.int .i64 (platesN s.size : Nat)) ∧ w' = w) := fun w => plates_any s (by omega) w
  have C3 : Hid (∀ w, Calls Try.prog 5 #[.string s] w fun e w' => e = .returned (.int .i64 (platesN s.size : Nat)) ∧ w' = w) := fun w => rplates_any s (by omega) w
  generalize platesN s.size = m at *
  go_enter Try.func3, Try.ntmps3
  go_wp2_with fail
  refine (C1.out _).mono ?_
  rintro e w1 ⟨rfl, rfl⟩
  go_wp2_with fail
  refine (C2.out _).mono ?_
  rintro e w2 ⟨rfl, rfl⟩
  go_wp2_with fail
  refine (C3.out _).mono ?_
  rintro e w3 ⟨rfl, rfl⟩
  go_wp2
  go_ret
  exact ⟨rfl, Below.refl _ _⟩

set_option maxRecDepth 100000 in
theorem lifted (os : Os) (started : os.Started) (H : Type) (enc : TypeId × Value → H) :
    ReturnsInHanded {} Try.checked os 3 .any (Rows.ledgerPlatesSpec.pre6 enc Try.prog Try.f3 Rows.ledgerPlatesRow.domain false) (Rows.ledgerPlatesSpec.post enc Try.prog Try.f3 false true false false) := by
  refine returnsInHanded_of_change (C := Try.checked) own started (by kernel_rfl) Try.func3
    (ChangeSpec.witness6 (enc := enc) (C := Try.checked) false ⟨#[], #[.string ByteArray.empty], []⟩ 8 (by kernel_rfl) (by kernel_rfl) (by kernel_rfl) (by kernel_rfl)) ?_
  intro W base args ds gs before hval0 hW hcnd _
  have hval : ∀ (j : Nat) t v, Try.f3.params[j]? = some t → args[j]? = some v → Value.okWide Try.prog W .any base t v := hval0
  have hread : ∀ t ∈ Try.f3.params.toList, Try.prog.readableRec t = true ∧ t < Try.prog.types.size := by
    have : (Try.f3.params.toList.all fun t => Try.prog.readableRec t && decide (t < Try.prog.types.size)) = true := by kernel_rfl
    intro t ht
    have := List.all_eq_true.1 this t ht
    simpa using this
  refine law_contract (P := Try.prog) (s := Rows.ledgerPlatesSpec) (fn := Try.f3) (tb := 4) laidOut rfl hread rfl Try.underlying4 (fun W' => okWide_bool_mk Try.underlying4 _) ?_ hW ?_
  · intro ds hds
    rw [Try.params3] at hds
    match ds, hds with
    | [d0], _ => rfl
  intro pl hA
  rw [Try.params3] at hA hval
  obtain ⟨v0, vs0, d0, ds0, p0, q0, hargs, rfl, hp0, h0, r0⟩ := trodAll_cons hA
  obtain ⟨rfl, rfl, hpe⟩ := trodAll_nil r0
  obtain rfl : args = #[v0] := by cases args; simp_all
  obtain ⟨s, rfl, rfl, _, hs0⟩ := open_string Try.underlying9 (hval 0 9 v0 rfl rfl) h0
  exact walk s hs0 W

theorem over : Rows.ledgerPlatesRow.holds Try.pinned (OpenSpec.ofChange Rows.ledgerPlatesSpec) :=
  OpenClaim.holds_of_wide 3 Try.f3 rfl rfl rfl rfl rfl rfl rfl ⟨rfl, rfl, rfl, rfl, rfl⟩ rfl rfl rfl rfl rfl (by kernel_rfl) Try.func3 (by kernel_rfl)
    (of_decide_eq_true (by kernel_rfl)) (by unfold Func.isWrapper; first | (rw [if_pos (by decide +kernel)]; kernel_rfl) | (rw [if_neg (by decide +kernel)]; exact ⟨rfl, rfl⟩))
    (fun os started H enc _ => lifted os started H enc)

/-- The statement. -/
theorem proved : Rows.LedgerPlatesSaid :=
  over
#print axioms proved
end Go.Proofs.Ytffejfpbeimngaa.ledgerPlates
