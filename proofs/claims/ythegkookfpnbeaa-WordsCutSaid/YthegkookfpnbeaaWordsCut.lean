/- For all texts and every place: WordsCut answers true, and its arguments read behind the call as before. No condition. -/
import Derived.Test.YthegkookfpnbeaaRows
import Derived.Test.YthegkookfpnbeaaLift
import Derived.Test.YthegkookfpnbeaaKg
import Derived.Test.YthegkookfpnbeaaGz

set_option linter.unusedVariables false
namespace Go.Proofs.Ythegkookfpnbeaa.wordsCut
open Go.ChangeShapes Go.WideShapes Go.ChangeAt Go.RowKit Go.Lib Go.Proofs.Ythegkookfpnbeaa.Lift Go.Proofs.Ythegkookfpnbeaa.Bx Go.Proofs.Ythegkookfpnbeaa.Frm Go.Proofs.Ythegkookfpnbeaa.Wds
open Go.ChangeMaps (open_string shut_string)

theorem own : ownKnob Try.prog.godebug = none := by kernel_rfl
theorem laidOut : laidOutB Try.prog = true := by kernel_rfl

theorem walk (s : ByteArray) (hs : s.size ≤ maxLen) (cut : Int) (h1 : -9223372036854775808 ≤ cut) (h2 : cut ≤ 9223372036854775807) (m : ByteArray) (hm : m.size ≤ maxLen) (w : World) : Calls Try.prog 7 #[.string s, .int .i64 cut, .string m] w fun e w' => e = .returned (.bool true) ∧ Below w.heap.size w w' := by
  have e : s = mkB s.data.toList := by cases s; rfl
  have e2 : m = mkB m.data.toList := by cases m; rfl
  have hl : s.data.toList.length ≤ 9223372036854775807 := by unfold maxLen at hs; exact hs
  have hl2 : m.data.toList.length ≤ 9223372036854775807 := by unfold maxLen at hm; exact hm
  rw [e, e2]
  exact cut_walk ask_ok _ _ cut hl hl2 w

set_option maxRecDepth 100000 in
theorem lifted (os : Os) (started : os.Started) (H : Type) (enc : TypeId × Value → H) :
    ReturnsInHanded {} Try.checked os 7 .any (Rows.wordsCutSpec.pre6 enc Try.prog Try.f7 Rows.wordsCutRow.domain false) (Rows.wordsCutSpec.post enc Try.prog Try.f7 false true false false) := by
  refine returnsInHanded_of_change (C := Try.checked) own started (by kernel_rfl) Try.func7
    (ChangeSpec.witness6 (enc := enc) (C := Try.checked) false ⟨#[], #[.string ByteArray.empty, .int .i64 0, .string ByteArray.empty], []⟩ 8 (by kernel_rfl) (by kernel_rfl) (by kernel_rfl) (by kernel_rfl)) ?_
  intro W base args ds gs before hval0 hW hcnd _
  have hval : ∀ (j : Nat) t v, Try.f7.params[j]? = some t → args[j]? = some v → Value.okWide Try.prog W .any base t v := hval0
  have hread : ∀ t ∈ Try.f7.params.toList, Try.prog.readableRec t = true ∧ t < Try.prog.types.size := by
    have : (Try.f7.params.toList.all fun t => Try.prog.readableRec t && decide (t < Try.prog.types.size)) = true := by kernel_rfl
    intro t ht
    have := List.all_eq_true.1 this t ht
    simpa using this
  refine law_contract (P := Try.prog) (s := Rows.wordsCutSpec) (fn := Try.f7) (tb := 4) laidOut rfl hread rfl Try.underlying4 (fun W' => okWide_bool_mk Try.underlying4 _) ?_ hW ?_
  · intro ds hds
    rw [Try.params7] at hds
    match ds, hds with
    | [d0, d1, d2], _ => rfl
  intro pl hA
  rw [Try.params7] at hA hval
  obtain ⟨v0, vs0, d0, ds0, p0, q0, hargs, rfl, hp0, h0, r0⟩ := trodAll_cons hA
  obtain ⟨v1, vs1, d1, ds1, p1, q1, rfl, rfl, hp1, h1, r1⟩ := trodAll_cons r0
  obtain ⟨v2, vs2, d2, ds2, p2, q2, rfl, rfl, hp2, h2, r2⟩ := trodAll_cons r1
  obtain ⟨rfl, rfl, hpe⟩ := trodAll_nil r2
  obtain rfl : args = #[v0, v1, v2] := by cases args; simp_all
  obtain ⟨s, rfl, rfl, _, hs0⟩ := open_string Try.underlying9 (hval 0 9 v0 rfl rfl) h0
  obtain ⟨cut, rfl, rfl, _, hw1⟩ := open_int Try.underlying3 (hval 1 3 v1 rfl rfl) h1
  have hb1 : -9223372036854775808 ≤ cut ∧ cut ≤ 9223372036854775807 := by simpa [Lit.wf, IntKind.min, IntKind.max, IntKind.signed, IntKind.bits] using hw1
  obtain ⟨m, rfl, rfl, _, hs2⟩ := open_string Try.underlying9 (hval 2 9 v2 rfl rfl) h2
  exact walk s hs0 cut hb1.1 hb1.2 m hs2 W

theorem over : Rows.wordsCutRow.holds Try.pinned (OpenSpec.ofChange Rows.wordsCutSpec) :=
  OpenClaim.holds_of_wide 7 Try.f7 rfl rfl rfl rfl rfl rfl rfl ⟨rfl, rfl, rfl, rfl, rfl⟩ rfl rfl rfl rfl rfl (by kernel_rfl) Try.func7 (by kernel_rfl)
    (of_decide_eq_true (by kernel_rfl)) (by unfold Func.isWrapper; first | (rw [if_pos (by decide +kernel)]; kernel_rfl) | (rw [if_neg (by decide +kernel)]; exact ⟨rfl, rfl⟩))
    (fun os started H enc _ => lifted os started H enc)

/-- The statement. -/
theorem proved : Rows.WordsCutSaid :=
  over
#print axioms proved
end Go.Proofs.Ythegkookfpnbeaa.wordsCut
