/- For every text and every two numbers: RopeCut answers true, and its arguments read behind the call as before. THE TIED CARD: unicode/utf8's two tables start as the program's text lays them. -/
import Derived.Test.YtjcohjolhdiegaaDoorRows
import Derived.Test.YtjcohjolhdiegaaDoorTie
import Derived.Test.YtjcohjolhdiegaaDoorCards
import Derived.Test.YtjcohjolhdiegaaDoorLift
import Derived.ProofKit
import Derived.Lib.LaidU8T
import Derived.PinnedBridge
import Derived.Lay
import Derived.LaidOnce
import Derived.SevenTiedAt
import Derived.Test.YtjcohjolhdiegaaDoorRope
set_option linter.unusedVariables false
namespace Go.Proofs.YtjcohjolhdiegaaDoor.ropeCut
open Go.ChangeShapes Go.WideShapes Go.ChangeAt Go.RowKit Go.Lib Go.Shelf Go.Proofs.YtjcohjolhdiegaaDoor.Lift Go.Proofs.YtjcohjolhdiegaaDoor.Let Go.Proofs.YtjcohjolhdiegaaDoor.Con
open Go.ChangeMaps (open_string shut_string)

theorem own : ownKnob Tryd.prog.godebug = none := by kernel_rfl
theorem laidOut : laidOutB Tryd.prog = true := by kernel_rfl

theorem k1 : right (ByteArray.mk #[97, 98, 99]).data.toList = true := by decide +kernel
theorem k2 : mk (cut (ByteArray.mk #[97, 98, 99]).data.toList 1 2) = ByteArray.mk #[98] := by decide +kernel


set_option maxRecDepth 100000 in
set_option maxHeartbeats 800000 in
theorem walk (s : ByteArray) (hs : s.size ≤ maxLen) (a : Int) (ha1 : -9223372036854775808 ≤ a) (ha2 : a ≤ 9223372036854775807) (b : Int) (hb1 : -9223372036854775808 ≤ b) (hb2 : b ≤ 9223372036854775807) (w : World) (hT : Tabs w) :
    Calls Tryd.prog 5 #[.string s, .int .i64 a, .int .i64 b] w fun e w' => e = .returned (.bool true) ∧ Below w.heap.size w w' := by
  have hs2 := hs
  unfold maxLen at hs
  have C1 : Hid (Calls Tryd.prog 16 #[.string (ByteArray.mk #[97, 98, 99])] w (Roped w (ByteArray.mk #[97, 98, 99]).data.toList)) := of_any _ w (by decide) k1 hT
  have C2 : Hid (∀ w v, IsRope w (ByteArray.mk #[97, 98, 99]).data.toList v → Calls Tryd.prog 17 #[v, .int .i64 1, .int .i64 2] w (Roped w (cut (ByteArray.mk #[97, 98, 99]).data.toList 1 2))) := fun w v h => cut_is w 1 2 h (by decide) (by decide) (by decide) (by decide) (by decide)
  have C3 : Hid (∀ w v, IsRope w (cut (ByteArray.mk #[97, 98, 99]).data.toList 1 2) v → Calls Tryd.prog 14 #[v] w fun e w' => e = .returned (.string (ByteArray.mk #[98])) ∧ Below w.heap.size w w') := fun w v h => by
    have := text_is w h (Nat.le_trans (cut_len _ _ _) (by decide))
    rw [k2] at this
    exact this
  have HT := Lib.hid hT
  clear hT
  by_cases hlen : (3000 : Int) < s.size
  · go_enter Tryd.func5, Tryd.ntmps5
    go_wp2_with fail
    refine C1.out.mono ?_
    rintro e w1 ⟨v, rfl, h1, hb1⟩
    go_wp2_with fail
    refine (C2.out _ _ h1).mono ?_
    rintro e w2 ⟨v2, rfl, h2, hb2⟩
    go_wp2_with fail
    refine (C3.out _ _ h2).mono ?_
    rintro e w3 ⟨rfl, hb3⟩
    have hb3' := below_more (below_more hb1 hb2) hb3
    have C4 : Hid (∀ w, Calls Tryd.prog 12 #[.string s] w fun e w' => e = .returned (.bool (right s.data.toList)) ∧ w = w') := fun w => rright_any s w hs2
    go_wp2_with fail
    first
      | (go_ret; exact ⟨rfl, hb3'⟩)
      | (refine (C4.out _).mono ?_
         rintro e w4 ⟨rfl, rfl⟩
         go_wp2_with fail
         go_ret
         exact ⟨rfl, hb3'⟩)
  · cases hr : right s.data.toList with
    | false =>
      have C4 : Hid (∀ w, Calls Tryd.prog 12 #[.string s] w fun e w' => e = .returned (.bool false) ∧ w = w') := fun w => by
        have := rright_any s w hs2
        rw [hr] at this
        exact this
      clear hr
      go_enter Tryd.func5, Tryd.ntmps5
      go_wp2_with fail
      refine C1.out.mono ?_
      rintro e w1 ⟨v, rfl, h1, hb1⟩
      go_wp2_with fail
      refine (C2.out _ _ h1).mono ?_
      rintro e w2 ⟨v2, rfl, h2, hb2⟩
      go_wp2_with fail
      refine (C3.out _ _ h2).mono ?_
      rintro e w3 ⟨rfl, hb3⟩
      have hb3' := below_more (below_more hb1 hb2) hb3
      go_wp2_with fail
      refine (C4.out _).mono ?_
      rintro e w4 ⟨rfl, rfl⟩
      go_wp2_with fail
      go_ret
      exact ⟨rfl, hb3'⟩
    | true =>
      have hz := sz s
      have C4 : Hid (∀ w, Calls Tryd.prog 12 #[.string s] w fun e w' => e = .returned (.bool true) ∧ w = w') := fun w => by
        have := rright_any s w hs2
        rw [hr] at this
        exact this
      have D1 : Hid (∀ w, Tabs w → Calls Tryd.prog 16 #[.string s] w (Roped w s.data.toList)) := fun w h => of_any s w (by omega) hr h
      have D2 : Hid (∀ w v, IsRope w s.data.toList v → Calls Tryd.prog 17 #[v, .int .i64 a, .int .i64 b] w (Roped w (cut s.data.toList a b))) := fun w v h => cut_is w a b h (by omega) ha1 ha2 hb1 hb2
      have D3 : Hid (∀ w, Calls Tryd.prog 18 #[.string s, .int .i64 a, .int .i64 b] w fun e w' => e = .returned (.string (mk (cut s.data.toList a b))) ∧ w = w') := fun w => rcut_any s a b w hs2 ha1 ha2 hb1 hb2
      have D4 : Hid (∀ w v, IsRope w (cut s.data.toList a b) v → Calls Tryd.prog 15 #[v, .string (mk (cut s.data.toList a b))] w fun e w' => e = .returned (.bool true) ∧ Below w.heap.size w w') := fun w v h => has_is _ w h (by have := cut_len s.data.toList a b; omega)
      have D5 : Hid (∀ w v, IsRope w s.data.toList v → Calls Tryd.prog 19 #[v, .int .i64 a, .int .i64 b] w (Roped w (dropL s.data.toList a b))) := fun w v h => drop_is w a b h (by omega) ha1 ha2 hb1 hb2
      have D6 : Hid (∀ w, Calls Tryd.prog 20 #[.string s, .int .i64 a, .int .i64 b] w fun e w' => e = .returned (.string (mk (dropL s.data.toList a b))) ∧ Below w.heap.size w w') := fun w => rdrop_any s a b w (by omega) ha1 ha2 hb1 hb2
      have D7 : Hid (∀ w v, IsRope w (dropL s.data.toList a b) v → Calls Tryd.prog 15 #[v, .string (mk (dropL s.data.toList a b))] w fun e w' => e = .returned (.bool true) ∧ Below w.heap.size w w') := fun w v h => has_is _ w h (by have := dropL_len s.data.toList a b; omega)
      have D8 : Hid (∀ w v, IsRope w s.data.toList v → Calls Tryd.prog 15 #[v, .string s] w fun e w' => e = .returned (.bool true) ∧ Below w.heap.size w w') := fun w v h => has_any s w h (by omega)
      clear hr hz
      go_enter Tryd.func5, Tryd.ntmps5
      go_wp2_with fail
      refine C1.out.mono ?_
      rintro e w1 ⟨v, rfl, h1, hb1⟩
      go_wp2_with fail
      refine (C2.out _ _ h1).mono ?_
      rintro e w2 ⟨v2, rfl, h2, hb2⟩
      go_wp2_with fail
      refine (C3.out _ _ h2).mono ?_
      rintro e w3 ⟨rfl, hb3⟩
      have hb3' := below_more (below_more hb1 hb2) hb3
      go_wp2_with fail
      refine (C4.out _).mono ?_
      rintro e w4 ⟨rfl, rfl⟩
      go_wp2_with fail
      refine (D1.out _ (HT.out.below hb3')).mono ?_
      rintro e w5 ⟨r, rfl, hr, hb5⟩
      have hb5' := below_more hb3' hb5
      go_wp2_with fail
      refine (D2.out _ _ hr).mono ?_
      rintro e w6 ⟨v6, rfl, h6, hb6⟩
      have hb6' := below_more hb5' hb6
      have hr6 := hr.below hb6 (Nat.le_refl _)
      go_wp2_with fail
      refine (D3.out _).mono ?_
      rintro e w7 ⟨rfl, rfl⟩
      go_wp2_with fail
      refine (D4.out _ _ h6).mono ?_
      rintro e w8 ⟨rfl, hb8⟩
      have hb8' := below_more hb6' hb8
      have hr8 := hr6.below hb8 (Nat.le_refl _)
      go_wp2_with fail
      refine (D5.out _ _ hr8).mono ?_
      rintro e w9 ⟨v9, rfl, h9, hb9⟩
      have hb9' := below_more hb8' hb9
      have hr9 := hr8.below hb9 (Nat.le_refl _)
      go_wp2_with fail
      refine (D6.out _).mono ?_
      rintro e w10 ⟨rfl, hb10⟩
      have hb10' := below_more hb9' hb10
      have hr10 := hr9.below hb10 (Nat.le_refl _)
      have h10 := h9.below hb10 (Nat.le_refl _)
      go_wp2_with fail
      refine (D7.out _ _ h10).mono ?_
      rintro e w11 ⟨rfl, hb11⟩
      have hb11' := below_more hb10' hb11
      have hr11 := hr10.below hb11 (Nat.le_refl _)
      go_wp2_with fail
      refine (D8.out _ _ hr11).mono ?_
      rintro e w12 ⟨rfl, hb12⟩
      go_wp2_with fail
      go_ret
      exact ⟨rfl, below_more hb11' hb12⟩

theorem acc_eq : Rows.laid_unicode_utf8_acceptRanges = Lib.acceptData := by kernel_rfl

set_option maxRecDepth 100000 in
theorem lifted (os : Os) (started : os.Started) (H : Type) (enc : TypeId × Value → H) :
    ReturnsInHanded {} Tryd.checked os 5 .any (fun w args => (Rows.ropeCutSpec.pre enc Tryd.prog Tryd.f5 [] false w args ∧ laidMetH Tryd.prog Rows.ropeCutRow.laid w) ∧ sizedMet enc Tryd.prog Tryd.f5 (OpenSpec.ofChange Rows.ropeCutSpec) false w args) (Rows.ropeCutSpec.post enc Tryd.prog Tryd.f5 false true false false) := by
  refine returnsInHanded_of_change_and (C := Tryd.checked) (X := fun w _ => laidMetH Tryd.prog Rows.ropeCutRow.laid w) (fun _ _ _ hh h => h.of_heap hh) own started (by kernel_rfl) Tryd.func5
    (ChangeSpec.witness_shaped (enc := enc) (C := Tryd.checked) (os := os) (X := fun w _ => laidMetH Tryd.prog Rows.ropeCutRow.laid w) false (World.laidAll Tryd.prog os Rows.ropeCutRow.laid) #[.string ByteArray.empty, .int .i64 0, .int .i64 0] 8 (World.laidAll_os _ _ _)
      (World.shaped_of_ZipB (by kernel_rfl) (by kernel_rfl)) (by kernel_rfl) (by kernel_rfl) (by kernel_rfl)
      (by rw [MakeChecks.laidMetH_plain _ _ _ (by kernel_rfl)]; exact laidMet_laidAll _ (by kernel_rfl) (by kernel_rfl))) ?_
  intro W base args ds gs before hval0 hW _ _ hL _
  have hval : ∀ (j : Nat) t v, Tryd.f5.params[j]? = some t → args[j]? = some v → Value.okWide Tryd.prog W .any base t v := hval0
  have hread : ∀ t ∈ Tryd.f5.params.toList, Tryd.prog.readableRec t = true ∧ t < Tryd.prog.types.size := by
    have : (Tryd.f5.params.toList.all fun t => Tryd.prog.readableRec t && decide (t < Tryd.prog.types.size)) = true := by kernel_rfl
    intro t ht
    have := List.all_eq_true.1 this t ht
    simpa using this
  rw [MakeChecks.laidMetH_plain _ _ _ (by kernel_rfl)] at hL
  have hT : Tabs W := utf8Tabs_of_readsT (U8Types.of196 Tryd.lays196) ⟨by kernel_rfl, by kernel_rfl, by kernel_rfl, by kernel_rfl, by kernel_rfl, by kernel_rfl, by kernel_rfl⟩ (Pinned.utf8First_eq ▸ Lib.laidMet.reads hL (.tail _ (.head _))) (acc_eq ▸ Lib.laidMet.reads hL (.head _))
  refine law_contract (P := Tryd.prog) (s := Rows.ropeCutSpec) (fn := Tryd.f5) (tb := 4) laidOut rfl hread rfl Tryd.underlying4 (fun W' => okWide_bool_mk Tryd.underlying4 _) ?_ hW ?_
  · intro ds hds
    rw [Tryd.params5] at hds
    match ds, hds with
    | [d0, d1, d2], _ => rfl
  intro pl hA
  rw [Tryd.params5] at hA hval
  obtain ⟨v0, vs0, d0, ds0, p0, q0, hargs, rfl, hp0, h0, r0⟩ := trodAll_cons hA
  obtain ⟨v1, vs1, d1, ds1, p1, q1, rfl, rfl, hp1, h1, r1⟩ := trodAll_cons r0
  obtain ⟨v2, vs2, d2, ds2, p2, q2, rfl, rfl, hp2, h2, r2⟩ := trodAll_cons r1
  obtain ⟨rfl, rfl, hpe⟩ := trodAll_nil r2
  obtain rfl : args = #[v0, v1, v2] := by cases args; simp_all
  obtain ⟨s, rfl, rfl, _, hs0⟩ := open_string Tryd.underlying9 (hval 0 9 v0 rfl rfl) h0
  obtain ⟨a, rfl, rfl, _, hw1⟩ := open_int Tryd.underlying3 (hval 1 3 v1 rfl rfl) h1
  have hb1 : -9223372036854775808 ≤ a ∧ a ≤ 9223372036854775807 := by simpa [Lit.wf, IntKind.min, IntKind.max, IntKind.signed, IntKind.bits] using hw1
  obtain ⟨b, rfl, rfl, _, hw2⟩ := open_int Tryd.underlying3 (hval 2 3 v2 rfl rfl) h2
  have hb2 : -9223372036854775808 ≤ b ∧ b ≤ 9223372036854775807 := by simpa [Lit.wf, IntKind.min, IntKind.max, IntKind.signed, IntKind.bits] using hw2
  exact walk s hs0 a hb1.1 hb1.2 b hb2.1 hb2.2 W hT

theorem over : Rows.ropeCutRow.holds Tryd.pinned (OpenSpec.ofChange Rows.ropeCutSpec) :=
  OpenClaim.holds_of_wide 5 Tryd.f5 rfl rfl rfl rfl rfl rfl rfl ⟨rfl, rfl, rfl, rfl, rfl⟩ rfl rfl rfl rfl rfl (by kernel_rfl) Tryd.func5 (by kernel_rfl)
    (of_decide_eq_true (by kernel_rfl)) (by unfold Func.isWrapper; first | (rw [if_pos (by decide +kernel)]; kernel_rfl) | (rw [if_neg (by decide +kernel)]; exact ⟨rfl, rfl⟩))
    (fun os started H enc _ => lifted os started H enc)

/-- The statement. -/
theorem proved : Rows.RopeCutCardSaid :=
  Claim7.holds_tied_plain_at .later [] [.data, .pinned] true (true, "204a5bf4e88a8898dff6c77e214f6a87eb849d6394f7bff06f8f3fca1b4174ce") false over (fun _ h => by cases h) (by kernel_rfl) (fun _ h => by cases h) ropeCut_row_tie rfl ⟨rfl, rfl⟩ (by kernel_rfl) rfl
    (fun f fn hf hfn => by
      obtain rfl : f = 5 := Option.some.inj ((show Tryd.prog.funcNamed Rows.ropeCutRow.func = some 5 by kernel_rfl).symm.trans hf) |>.symm
      obtain rfl : fn = Tryd.f5 := (Option.some.inj (Tryd.func5.symm.trans hfn)).symm
      exact ⟨by kernel_rfl, fun j t ht => by
        rw [Tryd.params5] at ht
        have hm : t ∈ [9, 3, 3] := by simpa using Array.mem_of_getElem? ht
        have hall : ([9, 3, 3].all fun u => !Tryd.prog.wantsStandIn u) = true := by kernel_rfl
        exact (show Tryd.prog.wantsStandIn t = false by simpa using List.all_eq_true.1 hall t hm)⟩)
    (by kernel_rfl)
#print axioms proved
end Go.Proofs.YtjcohjolhdiegaaDoor.ropeCut
