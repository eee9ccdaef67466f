/- For every list of texts and every text: FrameMany answers true, and its arguments read behind the call as before. No condition. -/
import Derived.Test.YtehmngdacjpflaaRows
import Derived.Test.YtehmngdacjpflaaLift
import Derived.Test.YtehmngdacjpflaaFi
import Derived.Test.YtehmngdacjpflaaFp

set_option linter.unusedVariables false
namespace Go.Proofs.Ytehmngdacjpflaa.frameMany
open Go.ChangeShapes Go.WideShapes Go.ChangeAt Go.RowKit Go.Lib Go.Proofs.Ytehmngdacjpflaa.Lift Go.Proofs.Ytehmngdacjpflaa.Bx Go.Proofs.Ytehmngdacjpflaa.Frm
open Go.ChangeMaps (open_string shut_string)

theorem own : ownKnob Try.prog.godebug = none := by kernel_rfl
theorem laidOut : laidOutB Try.prog = true := by kernel_rfl

theorem walk (v : Value) (X : List (List UInt8)) {w : World} (h : Strs w v X) (hT : ∀ x ∈ X, x.length ≤ maxLen) (r : ByteArray) (hs : r.size ≤ maxLen) : Calls Try.prog 6 #[v, .string r] w fun e w' => e = .returned (.bool true) ∧ Below w.heap.size w w' := many_walk wrap_ok split_ok r.data.toList w h hT

set_option maxRecDepth 100000 in
theorem lifted (os : Os) (started : os.Started) (H : Type) (enc : TypeId × Value → H) :
    ReturnsInHanded {} Try.checked os 6 .any (Rows.frameManySpec.pre6 enc Try.prog Try.f6 Rows.frameManyRow.domain false) (Rows.frameManySpec.post enc Try.prog Try.f6 false true false false) := by
  refine returnsInHanded_of_change (C := Try.checked) own started (by kernel_rfl) Try.func6
    (ChangeSpec.witness6 (enc := enc) (C := Try.checked) false ⟨#[], #[.slice none 0 0, .string ByteArray.empty], []⟩ 8 (by kernel_rfl) (by kernel_rfl) (by kernel_rfl) (by kernel_rfl)) ?_
  intro W base args ds gs before hval0 hW hcnd _
  have hval : ∀ (j : Nat) t v, Try.f6.params[j]? = some t → args[j]? = some v → Value.okWide Try.prog W .any base t v := hval0
  have hread : ∀ t ∈ Try.f6.params.toList, Try.prog.readableRec t = true ∧ t < Try.prog.types.size := by
    have : (Try.f6.params.toList.all fun t => Try.prog.readableRec t && decide (t < Try.prog.types.size)) = true := by kernel_rfl
    intro t ht
    have := List.all_eq_true.1 this t ht
    simpa using this
  refine law_contract (P := Try.prog) (s := Rows.frameManySpec) (fn := Try.f6) (tb := 4) laidOut rfl hread rfl Try.underlying4 (fun W' => okWide_bool_mk Try.underlying4 _) ?_ hW ?_
  · intro ds hds
    rw [Try.params6] at hds
    match ds, hds with
    | [d0, d1], _ => rfl
  intro pl hA
  rw [Try.params6] at hA hval
  obtain ⟨v0, vs0, d0, ds0, p0, q0, hargs, rfl, hp0, h0, r0⟩ := trodAll_cons hA
  obtain ⟨v1, vs1, d1, ds1, p1, q1, rfl, rfl, hp1, h1, r1⟩ := trodAll_cons r0
  obtain ⟨rfl, rfl, hpe⟩ := trodAll_nil r1
  obtain rfl : args = #[v0, v1] := by cases args; simp_all
  obtain ⟨X, hL0, hT0⟩ := Frm.open_strs (hval 0 24 v0 rfl rfl) h0
  obtain ⟨r, rfl, rfl, _, hs1⟩ := open_string Try.underlying9 (hval 1 9 v1 rfl rfl) h1
  exact walk v0 X hL0 hT0 r hs1

theorem over : Rows.frameManyRow.holds Try.pinned (OpenSpec.ofChange Rows.frameManySpec) :=
  OpenClaim.holds_of_wide 6 Try.f6 rfl rfl rfl rfl rfl rfl rfl ⟨rfl, rfl, rfl, rfl, rfl⟩ rfl rfl rfl rfl rfl (by kernel_rfl) Try.func6 (by kernel_rfl)
    (of_decide_eq_true (by kernel_rfl)) (by unfold Func.isWrapper; first | (rw [if_pos (by decide +kernel)]; kernel_rfl) | (rw [if_neg (by decide +kernel)]; exact ⟨rfl, rfl⟩))
    (fun os started H enc _ => lifted os started H enc)

/-- The statement. -/
theorem proved : Rows.FrameManySaid :=
  over
#print axioms proved
end Go.Proofs.Ytehmngdacjpflaa.frameMany
