/- For every config and every state: StateRight answers true, and its arguments read behind the call as before. No condition. THE TIED CARD: the program's table of SHA-256's constants, and the library's two tables of package unicode/utf8, start as the texts lay them. -/
import Derived.Test.YtccaiippoephbaaGreatDoorRows
import Derived.Test.YtccaiippoephbaaGreatDoorTie
import Derived.Test.YtccaiippoephbaaGreatDoorCards
import Derived.Test.YtccaiippoephbaaGreatDoorLift
import Derived.ProofKit
import Derived.Lib.LaidU8
import Derived.Lay
import Derived.LaidOnce
import Derived.SevenTiedAt
import Derived.Test.YtccaiippoephbaaGreatDoorVb
import Derived.Test.YtccaiippoephbaaGreatDoorWf
import Derived.Test.YtccaiippoephbaaGreatDoorOz
import Derived.SizedLaws
import Derived.PinnedBridge
import Derived.Lib.LaidU8T
set_option linter.unusedVariables false
namespace Go.Proofs.YtccaiippoephbaaGreatDoor.stateRight
open Go.ChangeShapes Go.WideShapes Go.ChangeAt Go.RowKit Go.Lib Go.Proofs.YtccaiippoephbaaGreatDoor.Lift Go.Shelf Go.Proofs.YtccaiippoephbaaGreatDoor.Bx Go.Proofs.YtccaiippoephbaaGreatDoor.Frm Go.Proofs.YtccaiippoephbaaGreatDoor.Sta Go.Proofs.YtccaiippoephbaaGreatDoor.Slt
open Go.ChangeMaps (open_string shut_string)
theorem own : ownKnob Tryz.prog.godebug = none := by kernel_rfl
theorem laidOut : laidOutB Tryz.prog = true := by kernel_rfl
theorem walk {cs cs' : List Value} {C : Cfg} {S : Sta} {w : World} (h : cfgM.R (fun _ => True) w cs C) (hg : cfgG C) (h' : staM.R (fun _ => True) w cs' S) (hg' : staG S) (hR : Slt.Roots w) (hT : Con.Tabs w) : Calls Tryz.prog 3 #[.agg cs.toArray, .agg cs'.toArray] w fun e w' => e = .returned (.bool true) ∧ Below w.heap.size w w' := state_right h hg h' hg' hR hT
theorem acc_eq : Rows.laid_unicode_utf8_acceptRanges = Lib.acceptData := by kernel_rfl
set_option maxRecDepth 100000 in
theorem lifted (os : Os) (started : os.Started) (H : Type) (enc : TypeId × Value → H) :
    ReturnsInHanded {} Tryz.checked os 3 .any (fun w args => (Rows.stateRightSpec.pre enc Tryz.prog Tryz.f3 [] false w args ∧ laidMetH Tryz.prog Rows.stateRightRow.laid w) ∧ sizedMet enc Tryz.prog Tryz.f3 (OpenSpec.ofChange Rows.stateRightSpec) false w args) (Rows.stateRightSpec.post enc Tryz.prog Tryz.f3 false true false false) := by
  refine returnsInHanded_of_change_and (C := Tryz.checked) (X := fun w _ => laidMetH Tryz.prog Rows.stateRightRow.laid w) (fun _ _ _ hh h => h.of_heap hh) own started (by kernel_rfl) Tryz.func3
    (ChangeSpec.witness_shaped (enc := enc) (C := Tryz.checked) (os := os) (X := fun w _ => laidMetH Tryz.prog Rows.stateRightRow.laid w) false (World.laidAll Tryz.prog os Rows.stateRightRow.laid) #[.agg #[.slice none 0 0, .slice none 0 0, .int .i64 0, .int .i64 0, .int .i64 0, .int .i64 0, .int .i64 0, .int .i64 0, .int .i64 0], .agg #[.int .i64 0, .int .i64 0, .int .i64 0, .slice none 0 0, .slice none 0 0, .slice none 0 0, .slice none 0 0, .slice none 0 0]] 8 (World.laidAll_os _ _ _)
      (World.shaped_of_ZipB (by kernel_rfl) (by kernel_rfl)) (by kernel_rfl) (by kernel_rfl) (by kernel_rfl)
      (by rw [MakeChecks.laidMetH_plain _ _ _ (by kernel_rfl)]; exact laidMet_laidAll _ (by kernel_rfl) (by kernel_rfl))) ?_
  intro W base args ds gs before hval0 hW _ hWt hL _
  have hval : ∀ (j : Nat) t v, Tryz.f3.params[j]? = some t → args[j]? = some v → Value.okWide Tryz.prog W .any base t v := hval0
  have hread : ∀ t ∈ Tryz.f3.params.toList, Tryz.prog.readableRec t = true ∧ t < Tryz.prog.types.size := by
    have : (Tryz.f3.params.toList.all fun t => Tryz.prog.readableRec t && decide (t < Tryz.prog.types.size)) = true := by kernel_rfl
    intro t ht
    have := List.all_eq_true.1 this t ht
    simpa using this
  rw [MakeChecks.laidMetH_plain _ _ _ (by kernel_rfl)] at hL
  have hT := (⟨roots_of (Lib.laidMet.reads hL (.tail _ (.head _))), utf8Tabs_of_readsT (U8Types.of196 Tryz.lays196) ⟨by kernel_rfl, by kernel_rfl, by kernel_rfl, by kernel_rfl, by kernel_rfl, by kernel_rfl, by kernel_rfl⟩ (Pinned.utf8First_eq ▸ Lib.laidMet.reads hL (.tail _ (.tail _ (.head _)))) (acc_eq ▸ Lib.laidMet.reads hL (.head _))⟩ : Slt.Roots W ∧ Con.Tabs W)
  refine law_contract (P := Tryz.prog) (s := Rows.stateRightSpec) (fn := Tryz.f3) (tb := 4) laidOut rfl hread rfl Tryz.underlying4 (fun W' => okWide_bool_mk Tryz.underlying4 _) ?_ hW ?_
  · intro ds hds
    rw [Tryz.params3] at hds
    match ds, hds with
    | [d0, d1], _ => rfl
  intro pl hA
  rw [Tryz.params3] at hA hval hWt
  obtain ⟨v0, vs0, d0, ds0, p0, q0, hargs, rfl, hp0, h0, r0⟩ := trodAll_cons hA
  obtain ⟨v1, vs1, d1, ds1, p1, q1, rfl, rfl, hp1, h1, r1⟩ := trodAll_cons r0
  obtain ⟨rfl, rfl, hpe⟩ := trodAll_nil r1
  obtain rfl : args = #[v0, v1] := by cases args; simp_all
  have hwt0 : (d0.weights Tryz.prog 25).all (· ≤ reachBytes) = true := List.all_eq_true.2 fun n hn => List.all_eq_true.1 hWt n (DataW.weights_mem_each (j := 0) (t := 25) (d := d0) rfl rfl n hn)
  obtain ⟨cs0, C, rfl, hM0, hG0⟩ := Sta.open_config (hval 0 25 v0 rfl rfl) h0 (fun n hn => by have h := List.all_eq_true.1 hwt0 n hn; have h47 := reachBytes_lt; simp at h; show n ≤ 140737488355328; omega)
  have hwt1 : (d1.weights Tryz.prog 31).all (· ≤ reachBytes) = true := List.all_eq_true.2 fun n hn => List.all_eq_true.1 hWt n (DataW.weights_mem_each (j := 1) (t := 31) (d := d1) rfl rfl n hn)
  obtain ⟨cs1, S, rfl, hM1, hG1⟩ := Sta.open_state (hval 1 31 v1 rfl rfl) h1 (fun n hn => by have h := List.all_eq_true.1 hwt1 n hn; have h47 := reachBytes_lt; simp at h; show n ≤ 140737488355328; omega)
  exact walk  hM0 hG0 hM1 hG1 hT.1 hT.2
theorem over : Rows.stateRightRow.holds Tryz.pinned (OpenSpec.ofChange Rows.stateRightSpec) :=
  OpenClaim.holds_of_wide 3 Tryz.f3 rfl rfl rfl rfl rfl rfl rfl ⟨rfl, rfl, rfl, rfl, rfl⟩ rfl rfl rfl rfl rfl (by kernel_rfl) Tryz.func3 (by kernel_rfl)
    (of_decide_eq_true (by kernel_rfl)) (by unfold Func.isWrapper; first | (rw [if_pos (by decide +kernel)]; kernel_rfl) | (rw [if_neg (by decide +kernel)]; exact ⟨rfl, rfl⟩))
    (fun os started H enc _ => lifted os started H enc)
/-- The statement. -/
theorem proved : Rows.StateRightCardSaid :=
  Claim7.holds_tied_plain_at .later [] [.data, .data, .pinned] true (true, "fe37b6e64a9811afd3c77a06bbcd1c3dddadc86ff6b411315fa5d39c1689e0ab") true over (fun _ h => by cases h) (by kernel_rfl) (fun _ h => by cases h) stateRight_row_tie rfl ⟨rfl, rfl⟩ (by kernel_rfl) rfl
    (fun f fn hf hfn => by
      obtain rfl : f = 3 := Option.some.inj ((show Tryz.prog.funcNamed Rows.stateRightRow.func = some 3 by kernel_rfl).symm.trans hf) |>.symm
      obtain rfl : fn = Tryz.f3 := (Option.some.inj (Tryz.func3.symm.trans hfn)).symm
      exact ⟨by kernel_rfl, fun j t ht => by
        rw [Tryz.params3] at ht
        have hm : t ∈ [25, 31] := by simpa using Array.mem_of_getElem? ht
        have hall : ([25, 31].all fun u => !Tryz.prog.wantsStandIn u) = true := by kernel_rfl
        exact (show Tryz.prog.wantsStandIn t = false by simpa using List.all_eq_true.1 hall t hm)⟩)
    (by kernel_rfl)
#print axioms proved
end Go.Proofs.YtccaiippoephbaaGreatDoor.stateRight
