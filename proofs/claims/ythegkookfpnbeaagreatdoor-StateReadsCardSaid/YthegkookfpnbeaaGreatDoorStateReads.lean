/- For all texts and every place: StateReads answers true, and its arguments read behind the call as before. No condition. THE TIED CARD: the program's table of SHA-256's constants starts as the program's text lays it. -/
import Derived.Test.YthegkookfpnbeaaGreatDoorRows
import Derived.Test.YthegkookfpnbeaaGreatDoorTie
import Derived.Test.YthegkookfpnbeaaGreatDoorCards
import Derived.Test.YthegkookfpnbeaaGreatDoorLift
import Derived.ProofKit
import Derived.Lib.LaidU8
import Derived.Lay
import Derived.LaidOnce
import Derived.SevenTiedAt
import Derived.Test.YthegkookfpnbeaaGreatDoorTp
import Derived.Test.YthegkookfpnbeaaGreatDoorPla
import Derived.SizedLaws
set_option linter.unusedVariables false
namespace Go.Proofs.YthegkookfpnbeaaGreatDoor.stateReads
open Go.ChangeShapes Go.WideShapes Go.ChangeAt Go.RowKit Go.Lib Go.Proofs.YthegkookfpnbeaaGreatDoor.Lift Go.Proofs.YthegkookfpnbeaaGreatDoor.Bx Go.Proofs.YthegkookfpnbeaaGreatDoor.Frm Go.Proofs.YthegkookfpnbeaaGreatDoor.Sta Go.Proofs.YthegkookfpnbeaaGreatDoor.Slt
open Go.ChangeMaps (open_string shut_string)

theorem own : ownKnob Tryz.prog.godebug = none := by kernel_rfl
theorem laidOut : laidOutB Tryz.prog = true := by kernel_rfl

theorem walk (s : ByteArray) (hs : s.size ≤ 140737488355328) (cut : Int) (h1 : -9223372036854775808 ≤ cut) (h2 : cut ≤ 9223372036854775807) (m : ByteArray) (hm : m.size ≤ 140737488355328) (w : World) (hR : Slt.Roots w) : Calls Tryz.prog 6 #[.string s, .int .i64 cut, .string m] w fun e w' => e = .returned (.bool true) ∧ Below w.heap.size w w' := by
  have e : s = mkB s.data.toList := by cases s; rfl
  have e2 : m = mkB m.data.toList := by cases m; rfl
  rw [e, e2]
  exact reads_walk _ _ cut hs hm w hR

set_option maxRecDepth 100000 in
theorem lifted (os : Os) (started : os.Started) (H : Type) (enc : TypeId × Value → H) :
    ReturnsInHanded {} Tryz.checked os 6 .any (fun w args => (Rows.stateReadsSpec.pre enc Tryz.prog Tryz.f6 [] false w args ∧ laidMetH Tryz.prog Rows.stateReadsRow.laid w) ∧ sizedMet enc Tryz.prog Tryz.f6 (OpenSpec.ofChange Rows.stateReadsSpec) false w args) (Rows.stateReadsSpec.post enc Tryz.prog Tryz.f6 false true false false) := by
  refine returnsInHanded_of_change_and (C := Tryz.checked) (X := fun w _ => laidMetH Tryz.prog Rows.stateReadsRow.laid w) (fun _ _ _ hh h => h.of_heap hh) own started (by kernel_rfl) Tryz.func6
    (ChangeSpec.witness_shaped (enc := enc) (C := Tryz.checked) (os := os) (X := fun w _ => laidMetH Tryz.prog Rows.stateReadsRow.laid w) false (World.laidAll Tryz.prog os Rows.stateReadsRow.laid) #[.string ByteArray.empty, .int .i64 0, .string ByteArray.empty] 8 (World.laidAll_os _ _ _)
      (World.shaped_of_ZipB (by kernel_rfl) (by kernel_rfl)) (by kernel_rfl) (by kernel_rfl) (by kernel_rfl)
      (by rw [MakeChecks.laidMetH_plain _ _ _ (by kernel_rfl)]; exact laidMet_laidAll _ (by kernel_rfl) (by kernel_rfl))) ?_
  intro W base args ds gs before hval0 hW _ hWt hL _
  have hval : ∀ (j : Nat) t v, Tryz.f6.params[j]? = some t → args[j]? = some v → Value.okWide Tryz.prog W .any base t v := hval0
  have hread : ∀ t ∈ Tryz.f6.params.toList, Tryz.prog.readableRec t = true ∧ t < Tryz.prog.types.size := by
    have : (Tryz.f6.params.toList.all fun t => Tryz.prog.readableRec t && decide (t < Tryz.prog.types.size)) = true := by kernel_rfl
    intro t ht
    have := List.all_eq_true.1 this t ht
    simpa using this
  rw [MakeChecks.laidMetH_plain _ _ _ (by kernel_rfl)] at hL
  have hT := roots_of (Lib.laidMet.reads hL (.head _))
  refine law_contract (P := Tryz.prog) (s := Rows.stateReadsSpec) (fn := Tryz.f6) (tb := 4) laidOut rfl hread rfl Tryz.underlying4 (fun W' => okWide_bool_mk Tryz.underlying4 _) ?_ hW ?_
  · intro ds hds
    rw [Tryz.params6] at hds
    match ds, hds with
    | [d0, d1, d2], _ => rfl
  intro pl hA
  rw [Tryz.params6] at hA hval hWt
  obtain ⟨v0, vs0, d0, ds0, p0, q0, hargs, rfl, hp0, h0, r0⟩ := trodAll_cons hA
  obtain ⟨v1, vs1, d1, ds1, p1, q1, rfl, rfl, hp1, h1, r1⟩ := trodAll_cons r0
  obtain ⟨v2, vs2, d2, ds2, p2, q2, rfl, rfl, hp2, h2, r2⟩ := trodAll_cons r1
  obtain ⟨rfl, rfl, hpe⟩ := trodAll_nil r2
  obtain rfl : args = #[v0, v1, v2] := by cases args; simp_all
  have hwt0 : (d0.weights Tryz.prog 9).all (· ≤ reachBytes) = true := List.all_eq_true.2 fun n hn => List.all_eq_true.1 hWt n (DataW.weights_mem_each (j := 0) (t := 9) (d := d0) rfl rfl n hn)
  obtain ⟨s, rfl, rfl, _, hs0⟩ := open_string Tryz.underlying9 (hval 0 9 v0 rfl rfl) h0
  have hz0 : s.size ≤ 140737488355328 := by have h := List.all_eq_true.1 hwt0 s.data.toList.length (by simp [DataW.weights]); have h47 := reachBytes_lt; have h2 : s.size = s.data.toList.length := rfl; simp at h; omega
  obtain ⟨cut, rfl, rfl, _, hw1⟩ := open_int Tryz.underlying3 (hval 1 3 v1 rfl rfl) h1
  have hb1 : -9223372036854775808 ≤ cut ∧ cut ≤ 9223372036854775807 := by simpa [Lit.wf, IntKind.min, IntKind.max, IntKind.signed, IntKind.bits] using hw1
  have hwt2 : (d2.weights Tryz.prog 9).all (· ≤ reachBytes) = true := List.all_eq_true.2 fun n hn => List.all_eq_true.1 hWt n (DataW.weights_mem_each (j := 2) (t := 9) (d := d2) rfl rfl n hn)
  obtain ⟨m, rfl, rfl, _, hs2⟩ := open_string Tryz.underlying9 (hval 2 9 v2 rfl rfl) h2
  have hz2 : m.size ≤ 140737488355328 := by have h := List.all_eq_true.1 hwt2 m.data.toList.length (by simp [DataW.weights]); have h47 := reachBytes_lt; have h2 : m.size = m.data.toList.length := rfl; simp at h; omega
  exact walk  s hz0 cut hb1.1 hb1.2 m hz2 W hT

theorem over : Rows.stateReadsRow.holds Tryz.pinned (OpenSpec.ofChange Rows.stateReadsSpec) :=
  OpenClaim.holds_of_wide 6 Tryz.f6 rfl rfl rfl rfl rfl rfl rfl ⟨rfl, rfl, rfl, rfl, rfl⟩ rfl rfl rfl rfl rfl (by kernel_rfl) Tryz.func6 (by kernel_rfl)
    (of_decide_eq_true (by kernel_rfl)) (by unfold Func.isWrapper; first | (rw [if_pos (by decide +kernel)]; kernel_rfl) | (rw [if_neg (by decide +kernel)]; exact ⟨rfl, rfl⟩))
    (fun os started H enc _ => lifted os started H enc)

/-- The statement. -/
theorem proved : Rows.StateReadsCardSaid :=
  Claim7.holds_tied_plain_at .later [] [.data] true (true, "b758a4fad40996e4e74f7e585a7cbf0b6b3e3e6f1c365efe2027dbb6f1d612c0") true over (fun _ h => by cases h) (by kernel_rfl) (fun _ h => by cases h) stateReads_row_tie rfl ⟨rfl, rfl⟩ (by kernel_rfl) rfl
    (fun f fn hf hfn => by
      obtain rfl : f = 6 := Option.some.inj ((show Tryz.prog.funcNamed Rows.stateReadsRow.func = some 6 by kernel_rfl).symm.trans hf) |>.symm
      obtain rfl : fn = Tryz.f6 := (Option.some.inj (Tryz.func6.symm.trans hfn)).symm
      exact ⟨by kernel_rfl, fun j t ht => by
        rw [Tryz.params6] at ht
        have hm : t ∈ [9, 3, 9] := by simpa using Array.mem_of_getElem? ht
        have hall : ([9, 3, 9].all fun u => !Tryz.prog.wantsStandIn u) = true := by kernel_rfl
        exact (show Tryz.prog.wantsStandIn t = false by simpa using List.all_eq_true.1 hall t hm)⟩)
    (by kernel_rfl)
#print axioms proved
end Go.Proofs.YthegkookfpnbeaaGreatDoor.stateReads
