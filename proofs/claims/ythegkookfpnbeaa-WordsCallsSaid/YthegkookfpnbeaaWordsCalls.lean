/- For every call of plain values: WordsCalls answers true, and its argument reads behind the call as before. No condition. -/
import Derived.Test.YthegkookfpnbeaaRows
import Derived.Test.YthegkookfpnbeaaLift
import Derived.Test.YthegkookfpnbeaaGu
import Derived.Test.YthegkookfpnbeaaGz

set_option linter.unusedVariables false
namespace Go.Proofs.Ythegkookfpnbeaa.wordsCalls
open Go.ChangeShapes Go.WideShapes Go.ChangeAt Go.RowKit Go.Lib Go.Proofs.Ythegkookfpnbeaa.Lift Go.Proofs.Ythegkookfpnbeaa.Bx Go.Proofs.Ythegkookfpnbeaa.Frm Go.Proofs.Ythegkookfpnbeaa.Wds
open Go.ChangeMaps (open_string shut_string)

theorem own : ownKnob Try.prog.godebug = none := by kernel_rfl
theorem laidOut : laidOutB Try.prog = true := by kernel_rfl

theorem walk (p : Pl) (hp : okP p) (h1 : p.tok.length ≤ 9223372036854775807) (h2 : p.text.length ≤ 9223372036854775807) (h3 : p.more.length ≤ 9223372036854775807) (w : World) : Calls Try.prog 3 #[plV p] w fun e w' => e = .returned (.bool true) ∧ Below w.heap.size w w' :=
  calls_walk call_ok op_ok ask_ok p hp ⟨h1, h2, h3⟩ w

set_option maxRecDepth 100000 in
theorem lifted (os : Os) (started : os.Started) (H : Type) (enc : TypeId × Value → H) :
    ReturnsInHanded {} Try.checked os 3 .any (Rows.wordsCallsSpec.pre6 enc Try.prog Try.f3 Rows.wordsCallsRow.domain false) (Rows.wordsCallsSpec.post enc Try.prog Try.f3 false true false false) := by
  refine returnsInHanded_of_change (C := Try.checked) own started (by kernel_rfl) Try.func3
    (ChangeSpec.witness6 (enc := enc) (C := Try.checked) false ⟨#[], #[.agg #[.int .i64 0, .string ByteArray.empty, .int .i64 0, .int .i64 0, .int .i64 0, .int .i64 0, .int .i64 0, .int .i64 0, .int .i64 0, .string ByteArray.empty, .string ByteArray.empty, .bool false, .bool false]], []⟩ 8 (by kernel_rfl) (by kernel_rfl) (by kernel_rfl) (by kernel_rfl)) ?_
  intro W base args ds gs before hval0 hW hcnd _
  have hval : ∀ (j : Nat) t v, Try.f3.params[j]? = some t → args[j]? = some v → Value.okWide Try.prog W .any base t v := hval0
  have hread : ∀ t ∈ Try.f3.params.toList, Try.prog.readableRec t = true ∧ t < Try.prog.types.size := by
    have : (Try.f3.params.toList.all fun t => Try.prog.readableRec t && decide (t < Try.prog.types.size)) = true := by kernel_rfl
    intro t ht
    have := List.all_eq_true.1 this t ht
    simpa using this
  refine law_contract (P := Try.prog) (s := Rows.wordsCallsSpec) (fn := Try.f3) (tb := 4) laidOut rfl hread rfl Try.underlying4 (fun W' => okWide_bool_mk Try.underlying4 _) ?_ hW ?_
  · intro ds hds
    rw [Try.params3] at hds
    match ds, hds with
    | [d0], _ => rfl
  intro pl hA
  rw [Try.params3] at hA hval
  obtain ⟨v0, vs0, d0, ds0, p0, q0, hargs, rfl, hp0, h0, r0⟩ := trodAll_cons hA
  obtain ⟨rfl, rfl, hpe⟩ := trodAll_nil r0
  obtain rfl : args = #[v0] := by cases args; simp_all
  obtain ⟨p, rfl, hL0, hl0, hm0, hn0⟩ := Wds.open_plain (hval 0 24 v0 rfl rfl) h0
  exact walk p hL0 hl0 hm0 hn0 W

theorem over : Rows.wordsCallsRow.holds Try.pinned (OpenSpec.ofChange Rows.wordsCallsSpec) :=
  OpenClaim.holds_of_wide 3 Try.f3 rfl rfl rfl rfl rfl rfl rfl ⟨rfl, rfl, rfl, rfl, rfl⟩ rfl rfl rfl rfl rfl (by kernel_rfl) Try.func3 (by kernel_rfl)
    (of_decide_eq_true (by kernel_rfl)) (by unfold Func.isWrapper; first | (rw [if_pos (by decide +kernel)]; kernel_rfl) | (rw [if_neg (by decide +kernel)]; exact ⟨rfl, rfl⟩))
    (fun os started H enc _ => lifted os started H enc)

/-- The statement. -/
theorem proved : Rows.WordsCallsSaid :=
  over
#print axioms proved
end Go.Proofs.Ythegkookfpnbeaa.wordsCalls
