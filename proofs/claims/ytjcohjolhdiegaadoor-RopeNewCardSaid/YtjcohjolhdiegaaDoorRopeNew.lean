/- For every text: RopeNew answers true, and its argument reads behind the call as before. THE TIED CARD: unicode/utf8's two tables start as the program's text lays them. -/
import Derived.Test.YtjcohjolhdiegaaDoorRows
import Derived.Test.YtjcohjolhdiegaaDoorTie
import Derived.Test.YtjcohjolhdiegaaDoorCards
import Derived.Test.YtjcohjolhdiegaaDoorLift
import Derived.ProofKit
import Derived.Lib.LaidU8T
import Derived.PinnedBridge
import Derived.Lay
import Derived.LaidOnce
import Derived.SevenTiedAt
import Derived.Test.YtjcohjolhdiegaaDoorRope
set_option linter.unusedVariables false
namespace Go.Proofs.YtjcohjolhdiegaaDoor.ropeNew
open Go.ChangeShapes Go.WideShapes Go.ChangeAt Go.RowKit Go.Lib Go.Shelf Go.Proofs.YtjcohjolhdiegaaDoor.Lift Go.Proofs.YtjcohjolhdiegaaDoor.Let Go.Proofs.YtjcohjolhdiegaaDoor.Con
open Go.ChangeMaps (open_string shut_string)

theorem own : ownKnob Tryd.prog.godebug = none := by kernel_rfl
theorem laidOut : laidOutB Tryd.prog = true := by kernel_rfl

theorem k1 : right (ByteArray.mk #[97, 98]).data.toList = true := by decide +kernel
theorem k2 : mk (ByteArray.mk #[97, 98]).data.toList = ByteArray.mk #[97, 98] := mk_self _

set_option maxRecDepth 100000 in
set_option maxHeartbeats 800000 in
theorem walk (s : ByteArray) (hs : s.size ≤ maxLen) (w : World) (hT : Tabs w) :
    Calls Tryd.prog 4 #[.string s] w fun e w' => e = .returned (.bool true) ∧ Below w.heap.size w w' := by
  have hs2 := hs
  unfold maxLen at hs
  have C1 : Hid (Calls Tryd.prog 13 #[.string (ByteArray.mk #[97, 98])] w (NewYes w (ByteArray.mk #[97, 98]).data.toList)) := new_yes _ w (by decide) k1 hT
  have C2 : Hid (∀ w v, IsRope w (ByteArray.mk #[97, 98]).data.toList v → Calls Tryd.prog 14 #[v] w fun e w' => e = .returned (.string (ByteArray.mk #[97, 98])) ∧ Below w.heap.size w w') := fun w v h => by
    have := text_is w h (by decide)
    rw [k2] at this
    exact this
  have HT := Lib.hid hT
  clear hT
  by_cases hlen : (4000 : Int) < s.size
  · go_enter Tryd.func4, Tryd.ntmps4
    go_wp2_with fail
    refine C1.out.mono ?_
    rintro e w1 ⟨v, rfl, h1, hb1⟩
    go_wp2_with fail
    refine (C2.out _ _ h1).mono ?_
    rintro e w2 ⟨rfl, hb2⟩
    go_wp2_with fail
    go_ret
    exact ⟨rfl, below_more hb1 hb2⟩
  · cases hr : right s.data.toList with
    | false =>
      have C3 : Hid (∀ w, Tabs w → Calls Tryd.prog 13 #[.string s] w fun e w' => e = .returned (.tuple #[.pointer none, .bool false]) ∧ Below w.heap.size w w') := fun w h => new_no s w (by omega) hr h
      have C4 : Hid (∀ w, Calls Tryd.prog 12 #[.string s] w fun e w' => e = .returned (.bool false) ∧ w = w') := fun w => by
        have := rright_any s w hs2
        rw [hr] at this
        exact this
      clear hr
      go_enter Tryd.func4, Tryd.ntmps4
      go_wp2_with fail
      refine C1.out.mono ?_
      rintro e w1 ⟨v, rfl, h1, hb1⟩
      go_wp2_with fail
      refine (C2.out _ _ h1).mono ?_
      rintro e w2 ⟨rfl, hb2⟩
      have hb2' := below_more hb1 hb2
      go_wp2_with fail
      refine (C3.out _ (HT.out.below hb2')).mono ?_
      rintro e w3 ⟨rfl, hb3⟩
      go_wp2_with fail
      refine (C4.out _).mono ?_
      rintro e w4 ⟨rfl, rfl⟩
      go_wp2_with fail
      go_ret
      exact ⟨rfl, below_more hb2' hb3⟩
    | true =>
      have C3 : Hid (∀ w, Tabs w → Calls Tryd.prog 13 #[.string s] w (NewYes w s.data.toList)) := fun w h => new_yes s w (by omega) hr h
      have C4 : Hid (∀ w, Calls Tryd.prog 12 #[.string s] w fun e w' => e = .returned (.bool true) ∧ w = w') := fun w => by
        have := rright_any s w hs2
        rw [hr] at this
        exact this
      have C5 : Hid (∀ w v, IsRope w s.data.toList v → Calls Tryd.prog 15 #[v, .string s] w fun e w' => e = .returned (.bool true) ∧ Below w.heap.size w w') := fun w v h => has_any s w h (by omega)
      clear hr
      go_enter Tryd.func4, Tryd.ntmps4
      go_wp2_with fail
      refine C1.out.mono ?_
      rintro e w1 ⟨v, rfl, h1, hb1⟩
      go_wp2_with fail
      refine (C2.out _ _ h1).mono ?_
      rintro e w2 ⟨rfl, hb2⟩
      have hb2' := below_more hb1 hb2
      go_wp2_with fail
      refine (C3.out _ (HT.out.below hb2')).mono ?_
      rintro e w3 ⟨v3, rfl, h3, hb3⟩
      have hb3' := below_more hb2' hb3
      go_wp2_with fail
      refine (C4.out _).mono ?_
      rintro e w4 ⟨rfl, rfl⟩
      go_wp2_with fail
      refine (C5.out _ _ h3).mono ?_
      rintro e w5 ⟨rfl, hb5⟩
      go_wp2_with fail
      go_ret
      exact ⟨rfl, below_more hb3' hb5⟩

theorem acc_eq : Rows.laid_unicode_utf8_acceptRanges = Lib.acceptData := by kernel_rfl

set_option maxRecDepth 100000 in
theorem lifted (os : Os) (started : os.Started) (H : Type) (enc : TypeId × Value → H) :
    ReturnsInHanded {} Tryd.checked os 4 .any (fun w args => (Rows.ropeNewSpec.pre enc Tryd.prog Tryd.f4 [] false w args ∧ laidMetH Tryd.prog Rows.ropeNewRow.laid w) ∧ sizedMet enc Tryd.prog Tryd.f4 (OpenSpec.ofChange Rows.ropeNewSpec) false w args) (Rows.ropeNewSpec.post enc Tryd.prog Tryd.f4 false true false false) := by
  refine returnsInHanded_of_change_and (C := Tryd.checked) (X := fun w _ => laidMetH Tryd.prog Rows.ropeNewRow.laid w) (fun _ _ _ hh h => h.of_heap hh) own started (by kernel_rfl) Tryd.func4
    (ChangeSpec.witness_shaped (enc := enc) (C := Tryd.checked) (os := os) (X := fun w _ => laidMetH Tryd.prog Rows.ropeNewRow.laid w) false (World.laidAll Tryd.prog os Rows.ropeNewRow.laid) #[.string ByteArray.empty] 8 (World.laidAll_os _ _ _)
      (World.shaped_of_ZipB (by kernel_rfl) (by kernel_rfl)) (by kernel_rfl) (by kernel_rfl) (by kernel_rfl)
      (by rw [MakeChecks.laidMetH_plain _ _ _ (by kernel_rfl)]; exact laidMet_laidAll _ (by kernel_rfl) (by kernel_rfl))) ?_
  intro W base args ds gs before hval0 hW _ _ hL _
  have hval : ∀ (j : Nat) t v, Tryd.f4.params[j]? = some t → args[j]? = some v → Value.okWide Tryd.prog W .any base t v := hval0
  have hread : ∀ t ∈ Tryd.f4.params.toList, Tryd.prog.readableRec t = true ∧ t < Tryd.prog.types.size := by
    have : (Tryd.f4.params.toList.all fun t => Tryd.prog.readableRec t && decide (t < Tryd.prog.types.size)) = true := by kernel_rfl
    intro t ht
    have := List.all_eq_true.1 this t ht
    simpa using this
  rw [MakeChecks.laidMetH_plain _ _ _ (by kernel_rfl)] at hL
  have hT : Tabs W := utf8Tabs_of_readsT (U8Types.of196 Tryd.lays196) ⟨by kernel_rfl, by kernel_rfl, by kernel_rfl, by kernel_rfl, by kernel_rfl, by kernel_rfl, by kernel_rfl⟩ (Pinned.utf8First_eq ▸ Lib.laidMet.reads hL (.tail _ (.head _))) (acc_eq ▸ Lib.laidMet.reads hL (.head _))
  refine law_contract (P := Tryd.prog) (s := Rows.ropeNewSpec) (fn := Tryd.f4) (tb := 4) laidOut rfl hread rfl Tryd.underlying4 (fun W' => okWide_bool_mk Tryd.underlying4 _) ?_ hW ?_
  · intro ds hds
    rw [Tryd.params4] at hds
    match ds, hds with
    | [d0], _ => rfl
  intro pl hA
  rw [Tryd.params4] at hA hval
  obtain ⟨v0, vs0, d0, ds0, p0, q0, hargs, rfl, hp0, h0, r0⟩ := trodAll_cons hA
  obtain ⟨rfl, rfl, hpe⟩ := trodAll_nil r0
  obtain rfl : args = #[v0] := by cases args; simp_all
  obtain ⟨s, rfl, rfl, _, hs0⟩ := open_string Tryd.underlying9 (hval 0 9 v0 rfl rfl) h0
  exact walk s hs0 W hT

theorem over : Rows.ropeNewRow.holds Tryd.pinned (OpenSpec.ofChange Rows.ropeNewSpec) :=
  OpenClaim.holds_of_wide 4 Tryd.f4 rfl rfl rfl rfl rfl rfl rfl ⟨rfl, rfl, rfl, rfl, rfl⟩ rfl rfl rfl rfl rfl (by kernel_rfl) Tryd.func4 (by kernel_rfl)
    (of_decide_eq_true (by kernel_rfl)) (by unfold Func.isWrapper; first | (rw [if_pos (by decide +kernel)]; kernel_rfl) | (rw [if_neg (by decide +kernel)]; exact ⟨rfl, rfl⟩))
    (fun os started H enc _ => lifted os started H enc)

/-- The statement. -/
theorem proved : Rows.RopeNewCardSaid :=
  Claim7.holds_tied_plain_at .later [] [.data, .pinned] true (true, "204a5bf4e88a8898dff6c77e214f6a87eb849d6394f7bff06f8f3fca1b4174ce") false over (fun _ h => by cases h) (by kernel_rfl) (fun _ h => by cases h) ropeNew_row_tie rfl ⟨rfl, rfl⟩ (by kernel_rfl) rfl
    (fun f fn hf hfn => by
      obtain rfl : f = 4 := Option.some.inj ((show Tryd.prog.funcNamed Rows.ropeNewRow.func = some 4 by kernel_rfl).symm.trans hf) |>.symm
      obtain rfl : fn = Tryd.f4 := (Option.some.inj (Tryd.func4.symm.trans hfn)).symm
      exact ⟨by kernel_rfl, fun j t ht => by
        rw [Tryd.params4] at ht
        have hm : t ∈ [9] := by simpa using Array.mem_of_getElem? ht
        have hall : ([9].all fun u => !Tryd.prog.wantsStandIn u) = true := by kernel_rfl
        exact (show Tryd.prog.wantsStandIn t = false by simpa using List.all_eq_true.1 hall t hm)⟩)
    (by kernel_rfl)
#print axioms proved
end Go.Proofs.YtjcohjolhdiegaaDoor.ropeNew
