/- For every two texts: RopeJoin answers true, and its arguments read behind the call as before. THE TIED CARD: unicode/utf8's two tables start as the program's text lays them. -/
import Derived.Test.YtjcohjolhdiegaaDoorRows
import Derived.Test.YtjcohjolhdiegaaDoorTie
import Derived.Test.YtjcohjolhdiegaaDoorCards
import Derived.Test.YtjcohjolhdiegaaDoorLift
import Derived.ProofKit
import Derived.Lib.LaidU8T
import Derived.PinnedBridge
import Derived.Lay
import Derived.LaidOnce
import Derived.SevenTiedAt
import Derived.Test.YtjcohjolhdiegaaDoorRope
set_option linter.unusedVariables false
namespace Go.Proofs.YtjcohjolhdiegaaDoor.ropeJoin
open Go.ChangeShapes Go.WideShapes Go.ChangeAt Go.RowKit Go.Lib Go.Shelf Go.Proofs.YtjcohjolhdiegaaDoor.Lift Go.Proofs.YtjcohjolhdiegaaDoor.Let Go.Proofs.YtjcohjolhdiegaaDoor.Con
open Go.ChangeMaps (open_string shut_string)

theorem own : ownKnob Tryd.prog.godebug = none := by kernel_rfl
theorem laidOut : laidOutB Tryd.prog = true := by kernel_rfl

theorem k1 : right (ByteArray.mk #[97]).data.toList = true := by decide +kernel
theorem k1b : right (ByteArray.mk #[98]).data.toList = true := by decide +kernel
theorem k2 : mk ((ByteArray.mk #[97]).data.toList ++ (ByteArray.mk #[98]).data.toList) = ByteArray.mk #[97, 98] := by decide +kernel

/-- What stands ahead of the tests: the ropes of "ab" and "x". -/
structure Pre (w : World) : Prop where
  c1 : Calls Tryd.prog 16 #[.string (ByteArray.mk #[97])] w (Roped w (ByteArray.mk #[97]).data.toList)
  c1b : ∀ w, Tabs w → Calls Tryd.prog 16 #[.string (ByteArray.mk #[98])] w (Roped w (ByteArray.mk #[98]).data.toList)
  c2 : ∀ w v u, IsRope w (ByteArray.mk #[97]).data.toList v → IsRope w (ByteArray.mk #[98]).data.toList u → Calls Tryd.prog 23 #[v, u] w (Roped w ((ByteArray.mk #[97]).data.toList ++ (ByteArray.mk #[98]).data.toList))
  c3 : ∀ w v, IsRope w ((ByteArray.mk #[97]).data.toList ++ (ByteArray.mk #[98]).data.toList) v → Calls Tryd.prog 14 #[v] w fun e w' => e = .returned (.string (ByteArray.mk #[97, 98])) ∧ Below w.heap.size w w'
theorem pre (w : World) (hT : Tabs w) : Pre w :=
  ⟨of_any _ w (by decide) k1 hT, fun w h => of_any _ w (by decide) k1b h, fun w v u h1 h2 => join_is w h1 h2 (by decide), fun w v h => by
    have := text_is w h (by decide)
    rw [k2] at this
    exact this⟩

set_option maxRecDepth 100000 in
set_option maxHeartbeats 800000 in
theorem walk_long (s : ByteArray) (hs : s.size ≤ maxLen) (t : ByteArray) (ht : t.size ≤ maxLen) (w : World) (hT : Tabs w)
    (hg : (3000 < s.size) ∨ (¬ 3000 < s.size ∧ 3000 < t.size) ∨ (¬ 3000 < s.size ∧ ¬ 3000 < t.size ∧ right s.data.toList = false) ∨ (¬ 3000 < s.size ∧ ¬ 3000 < t.size ∧ right s.data.toList = true ∧ right t.data.toList = false)) :
    Calls Tryd.prog 7 #[.string s, .string t] w fun e w' => e = .returned (.bool true) ∧ Below w.heap.size w w' := by
  have hs2 := hs
  have ht2 := ht
  unfold maxLen at hs ht
  have PR := Lib.hid (pre w hT)
  have HT := Lib.hid hT
  have RS : Hid (∀ w, Calls Tryd.prog 12 #[.string s] w fun e w' => e = .returned (.bool (right s.data.toList)) ∧ w = w') := fun w => rright_any s w hs2
  have RT : Hid (∀ w, Calls Tryd.prog 12 #[.string t] w fun e w' => e = .returned (.bool (right t.data.toList)) ∧ w = w') := fun w => rright_any t w ht2
  clear hT
  rcases hg with g1 | ⟨g1, g2⟩ | ⟨g1, g2, g3⟩ | ⟨g1, g2, g3, g4⟩
  · have d1 : decide ((3000 : Int) < (s.size : Int)) = true := by simp; omega
    go_enter Tryd.func7, Tryd.ntmps7
    go_wp2_with fail
    refine PR.out.c1.mono ?_
    rintro e w1 ⟨v, rfl, h1, hb1⟩
    go_wp2_with fail
    refine (PR.out.c1b _ (HT.out.below hb1)).mono ?_
    rintro e w2 ⟨v2, rfl, h2, hb2⟩
    go_wp2_with fail
    refine (PR.out.c2 _ _ _ (h1.below hb2 (Nat.le_refl _)) h2).mono ?_
    rintro e w3 ⟨v3, rfl, h3, hb3⟩
    go_wp2_with fail
    refine (PR.out.c3 _ _ h3).mono ?_
    rintro e w4 ⟨rfl, hb4⟩
    go_wp2_with fail
    go_ret
    exact ⟨rfl, below_more (below_more (below_more hb1 hb2) hb3) hb4⟩
  · have d1 : decide ((3000 : Int) < (s.size : Int)) = false := by simp; omega
    have d2 : decide ((3000 : Int) < (t.size : Int)) = true := by simp; omega
    go_enter Tryd.func7, Tryd.ntmps7
    go_wp2_with fail
    refine PR.out.c1.mono ?_
    rintro e w1 ⟨v, rfl, h1, hb1⟩
    go_wp2_with fail
    refine (PR.out.c1b _ (HT.out.below hb1)).mono ?_
    rintro e w2 ⟨v2, rfl, h2, hb2⟩
    go_wp2_with fail
    refine (PR.out.c2 _ _ _ (h1.below hb2 (Nat.le_refl _)) h2).mono ?_
    rintro e w3 ⟨v3, rfl, h3, hb3⟩
    go_wp2_with fail
    refine (PR.out.c3 _ _ h3).mono ?_
    rintro e w4 ⟨rfl, hb4⟩
    go_wp2_with fail
    go_ret
    exact ⟨rfl, below_more (below_more (below_more hb1 hb2) hb3) hb4⟩
  · have d1 : decide ((3000 : Int) < (s.size : Int)) = false := by simp; omega
    have d2 : decide ((3000 : Int) < (t.size : Int)) = false := by simp; omega
    rw [g3] at RS
    clear g3
    go_enter Tryd.func7, Tryd.ntmps7
    go_wp2_with fail
    refine PR.out.c1.mono ?_
    rintro e w1 ⟨v, rfl, h1, hb1⟩
    go_wp2_with fail
    refine (PR.out.c1b _ (HT.out.below hb1)).mono ?_
    rintro e w2 ⟨v2, rfl, h2, hb2⟩
    go_wp2_with fail
    refine (PR.out.c2 _ _ _ (h1.below hb2 (Nat.le_refl _)) h2).mono ?_
    rintro e w3 ⟨v3, rfl, h3, hb3⟩
    go_wp2_with fail
    refine (PR.out.c3 _ _ h3).mono ?_
    rintro e w4 ⟨rfl, hb4⟩
    go_wp2_with fail
    refine (RS.out _).mono ?_
    rintro e w5 ⟨rfl, rfl⟩
    go_wp2_with fail
    go_ret
    exact ⟨rfl, below_more (below_more (below_more hb1 hb2) hb3) hb4⟩
  · have d1 : decide ((3000 : Int) < (s.size : Int)) = false := by simp; omega
    have d2 : decide ((3000 : Int) < (t.size : Int)) = false := by simp; omega
    rw [g3] at RS
    rw [g4] at RT
    clear g3 g4
    go_enter Tryd.func7, Tryd.ntmps7
    go_wp2_with fail
    refine PR.out.c1.mono ?_
    rintro e w1 ⟨v, rfl, h1, hb1⟩
    go_wp2_with fail
    refine (PR.out.c1b _ (HT.out.below hb1)).mono ?_
    rintro e w2 ⟨v2, rfl, h2, hb2⟩
    go_wp2_with fail
    refine (PR.out.c2 _ _ _ (h1.below hb2 (Nat.le_refl _)) h2).mono ?_
    rintro e w3 ⟨v3, rfl, h3, hb3⟩
    go_wp2_with fail
    refine (PR.out.c3 _ _ h3).mono ?_
    rintro e w4 ⟨rfl, hb4⟩
    go_wp2_with fail
    refine (RS.out _).mono ?_
    rintro e w5 ⟨rfl, rfl⟩
    go_wp2_with fail
    refine (RT.out _).mono ?_
    rintro e w6 ⟨rfl, rfl⟩
    go_wp2_with fail
    go_ret
    exact ⟨rfl, below_more (below_more (below_more hb1 hb2) hb3) hb4⟩

set_option maxRecDepth 100000 in
set_option maxHeartbeats 800000 in
theorem walk_main (s : ByteArray) (hs : s.size ≤ maxLen) (t : ByteArray) (ht : t.size ≤ maxLen) (w : World) (hT : Tabs w)
    (g1 : ¬ 3000 < s.size) (g2 : ¬ 3000 < t.size) (g3 : right s.data.toList = true) (g4 : right t.data.toList = true) :
    Calls Tryd.prog 7 #[.string s, .string t] w fun e w' => e = .returned (.bool true) ∧ Below w.heap.size w w' := by
  have hs2 := hs
  have ht2 := ht
  unfold maxLen at hs ht
  have zs := sz s
  have zt := sz t
  have PR := Lib.hid (pre w hT)
  have HT := Lib.hid hT
  have RS : Hid (∀ w, Calls Tryd.prog 12 #[.string s] w fun e w' => e = .returned (.bool (right s.data.toList)) ∧ w = w') := fun w => rright_any s w hs2
  have RT : Hid (∀ w, Calls Tryd.prog 12 #[.string t] w fun e w' => e = .returned (.bool (right t.data.toList)) ∧ w = w') := fun w => rright_any t w ht2
  have D1 : Hid (∀ w, Tabs w → Calls Tryd.prog 16 #[.string s] w (Roped w s.data.toList)) := fun w h => of_any s w (by omega) g3 h
  have D1b : Hid (∀ w, Tabs w → Calls Tryd.prog 16 #[.string t] w (Roped w t.data.toList)) := fun w h => of_any t w (by omega) g4 h
  have D2 : Hid (∀ w v u, IsRope w s.data.toList v → IsRope w t.data.toList u → Calls Tryd.prog 23 #[v, u] w (Roped w (s.data.toList ++ t.data.toList))) := fun w v u h k => join_is w h k (by omega)
  have D2n : Hid (∀ w v, IsRope w s.data.toList v → Calls Tryd.prog 23 #[v, .pointer none] w (Roped w s.data.toList)) := fun w v h => by
    have := join_is w h (nil_is w) (by simp; omega)
    rw [List.append_nil] at this
    exact this
  have D2m : Hid (∀ w u, IsRope w t.data.toList u → Calls Tryd.prog 23 #[.pointer none, u] w (Roped w t.data.toList)) := fun w v h => join_is w (nil_is w) h (by simp; omega)
  have r1 : ∀ w : World, (Op.stringOp .add s t).run Tryd.prog w = .ok (.string (mk (s.data.toList ++ t.data.toList))) w := fun w => by
    rw [← mk_append]
    exact run_string_add_sum w _ _ (by omega)
  have D4 : Hid (∀ w v, IsRope w (s.data.toList ++ t.data.toList) v → Calls Tryd.prog 15 #[v, .string (mk (s.data.toList ++ t.data.toList))] w fun e w' => e = .returned (.bool true) ∧ Below w.heap.size w w') := fun w v h => has_is _ w h (by rw [List.length_append]; omega)
  have D5 : Hid (∀ w v, IsRope w s.data.toList v → Calls Tryd.prog 15 #[v, .string s] w fun e w' => e = .returned (.bool true) ∧ Below w.heap.size w w') := fun w v h => has_any s w h (by omega)
  have D6 : Hid (∀ w v, IsRope w t.data.toList v → Calls Tryd.prog 15 #[v, .string t] w fun e w' => e = .returned (.bool true) ∧ Below w.heap.size w w') := fun w v h => has_any t w h (by omega)
  have d1 : decide ((3000 : Int) < (s.size : Int)) = false := by simp; omega
  have d2 : decide ((3000 : Int) < (t.size : Int)) = false := by simp; omega
  rw [g3] at RS
  rw [g4] at RT
  clear g3 g4 hT zs zt
  go_enter Tryd.func7, Tryd.ntmps7
  go_wp2_with fail
  refine PR.out.c1.mono ?_
  rintro e w1 ⟨v, rfl, h1, hb1⟩
  go_wp2_with fail
  refine (PR.out.c1b _ (HT.out.below hb1)).mono ?_
  rintro e w2 ⟨v2, rfl, h2, hb2⟩
  go_wp2_with fail
  refine (PR.out.c2 _ _ _ (h1.below hb2 (Nat.le_refl _)) h2).mono ?_
  rintro e w3 ⟨v3, rfl, h3, hb3⟩
  go_wp2_with fail
  refine (PR.out.c3 _ _ h3).mono ?_
  rintro e w4 ⟨rfl, hb4⟩
  have b4 := below_more (below_more (below_more hb1 hb2) hb3) hb4
  go_wp2_with fail
  refine (RS.out _).mono ?_
  rintro e w5 ⟨rfl, rfl⟩
  go_wp2_with fail
  refine (RT.out _).mono ?_
  rintro e w6 ⟨rfl, rfl⟩
  go_wp2_with fail
  refine (D1.out _ (HT.out.below b4)).mono ?_
  rintro e w7 ⟨r, rfl, hr, hb7⟩
  have b7 := below_more b4 hb7
  go_wp2_with fail
  refine (D1b.out _ (HT.out.below b7)).mono ?_
  rintro e w8 ⟨u, rfl, hu, hb8⟩
  have b8 := below_more b7 hb8
  have hr8 := hr.below hb8 (Nat.le_refl _)
  go_wp2_with fail
  refine (D2.out _ _ _ hr8 hu).mono ?_
  rintro e w9 ⟨v9, rfl, h9, hb9⟩
  have b9 := below_more b8 hb9
  have hr9 := hr8.below hb9 (Nat.le_refl _)
  have hu9 := hu.below hb9 (Nat.le_refl _)
  go_wp2_with fail
  refine (D4.out _ _ h9).mono ?_
  rintro e w11 ⟨rfl, hb11⟩
  have b11 := below_more b9 hb11
  have hr11 := hr9.below hb11 (Nat.le_refl _)
  have hu11 := hu9.below hb11 (Nat.le_refl _)
  go_wp2_with fail
  refine (D5.out _ _ hr11).mono ?_
  rintro e w12 ⟨rfl, hb12⟩
  have b12 := below_more b11 hb12
  have hr12 := hr11.below hb12 (Nat.le_refl _)
  have hu12 := hu11.below hb12 (Nat.le_refl _)
  go_wp2_with fail
  refine (D6.out _ _ hu12).mono ?_
  rintro e w13 ⟨rfl, hb13⟩
  have b13 := below_more b12 hb13
  have hr13 := hr12.below hb13 (Nat.le_refl _)
  have hu13 := hu12.below hb13 (Nat.le_refl _)
  go_wp2_with fail
  refine (D2n.out _ _ hr13).mono ?_
  rintro e w14 ⟨v14, rfl, h14, hb14⟩
  have b14 := below_more b13 hb14
  have hu14 := hu13.below hb14 (Nat.le_refl _)
  go_wp2_with fail
  refine (D5.out _ _ h14).mono ?_
  rintro e w15 ⟨rfl, hb15⟩
  have b15 := below_more b14 hb15
  have hu15 := hu14.below hb15 (Nat.le_refl _)
  go_wp2_with fail
  refine (D2m.out _ _ hu15).mono ?_
  rintro e w16 ⟨v16, rfl, h16, hb16⟩
  have b16 := below_more b15 hb16
  go_wp2_with fail
  refine (D6.out _ _ h16).mono ?_
  rintro e w17 ⟨rfl, hb17⟩
  go_wp2_with fail
  go_ret
  exact ⟨rfl, below_more b16 hb17⟩

theorem walk (s : ByteArray) (hs : s.size ≤ maxLen) (t : ByteArray) (ht : t.size ≤ maxLen) (w : World) (hT : Tabs w) :
    Calls Tryd.prog 7 #[.string s, .string t] w fun e w' => e = .returned (.bool true) ∧ Below w.heap.size w w' := by
  by_cases g1 : 3000 < s.size
  · exact walk_long s hs t ht w hT (.inl g1)
  by_cases g2 : 3000 < t.size
  · exact walk_long s hs t ht w hT (.inr (.inl ⟨g1, g2⟩))
  cases g3 : right s.data.toList with
  | false => exact walk_long s hs t ht w hT (.inr (.inr (.inl ⟨g1, g2, g3⟩)))
  | true =>
    cases g4 : right t.data.toList with
    | false => exact walk_long s hs t ht w hT (.inr (.inr (.inr ⟨g1, g2, g3, g4⟩)))
    | true => exact walk_main s hs t ht w hT g1 g2 g3 g4

theorem acc_eq : Rows.laid_unicode_utf8_acceptRanges = Lib.acceptData := by kernel_rfl

set_option maxRecDepth 100000 in
theorem lifted (os : Os) (started : os.Started) (H : Type) (enc : TypeId × Value → H) :
    ReturnsInHanded {} Tryd.checked os 7 .any (fun w args => (Rows.ropeJoinSpec.pre enc Tryd.prog Tryd.f7 [] false w args ∧ laidMetH Tryd.prog Rows.ropeJoinRow.laid w) ∧ sizedMet enc Tryd.prog Tryd.f7 (OpenSpec.ofChange Rows.ropeJoinSpec) false w args) (Rows.ropeJoinSpec.post enc Tryd.prog Tryd.f7 false true false false) := by
  refine returnsInHanded_of_change_and (C := Tryd.checked) (X := fun w _ => laidMetH Tryd.prog Rows.ropeJoinRow.laid w) (fun _ _ _ hh h => h.of_heap hh) own started (by kernel_rfl) Tryd.func7
    (ChangeSpec.witness_shaped (enc := enc) (C := Tryd.checked) (os := os) (X := fun w _ => laidMetH Tryd.prog Rows.ropeJoinRow.laid w) false (World.laidAll Tryd.prog os Rows.ropeJoinRow.laid) #[.string ByteArray.empty, .string ByteArray.empty] 8 (World.laidAll_os _ _ _)
      (World.shaped_of_ZipB (by kernel_rfl) (by kernel_rfl)) (by kernel_rfl) (by kernel_rfl) (by kernel_rfl)
      (by rw [MakeChecks.laidMetH_plain _ _ _ (by kernel_rfl)]; exact laidMet_laidAll _ (by kernel_rfl) (by kernel_rfl))) ?_
  intro W base args ds gs before hval0 hW _ _ hL _
  have hval : ∀ (j : Nat) t v, Tryd.f7.params[j]? = some t → args[j]? = some v → Value.okWide Tryd.prog W .any base t v := hval0
  have hread : ∀ t ∈ Tryd.f7.params.toList, Tryd.prog.readableRec t = true ∧ t < Tryd.prog.types.size := by
    have : (Tryd.f7.params.toList.all fun t => Tryd.prog.readableRec t && decide (t < Tryd.prog.types.size)) = true := by kernel_rfl
    intro t ht
    have := List.all_eq_true.1 this t ht
    simpa using this
  rw [MakeChecks.laidMetH_plain _ _ _ (by kernel_rfl)] at hL
  have hT : Tabs W := utf8Tabs_of_readsT (U8Types.of196 Tryd.lays196) ⟨by kernel_rfl, by kernel_rfl, by kernel_rfl, by kernel_rfl, by kernel_rfl, by kernel_rfl, by kernel_rfl⟩ (Pinned.utf8First_eq ▸ Lib.laidMet.reads hL (.tail _ (.head _))) (acc_eq ▸ Lib.laidMet.reads hL (.head _))
  refine law_contract (P := Tryd.prog) (s := Rows.ropeJoinSpec) (fn := Tryd.f7) (tb := 4) laidOut rfl hread rfl Tryd.underlying4 (fun W' => okWide_bool_mk Tryd.underlying4 _) ?_ hW ?_
  · intro ds hds
    rw [Tryd.params7] at hds
    match ds, hds with
    | [d0, d1], _ => rfl
  intro pl hA
  rw [Tryd.params7] at hA hval
  obtain ⟨v0, vs0, d0, ds0, p0, q0, hargs, rfl, hp0, h0, r0⟩ := trodAll_cons hA
  obtain ⟨v1, vs1, d1, ds1, p1, q1, rfl, rfl, hp1, h1, r1⟩ := trodAll_cons r0
  obtain ⟨rfl, rfl, hpe⟩ := trodAll_nil r1
  obtain rfl : args = #[v0, v1] := by cases args; simp_all
  obtain ⟨s, rfl, rfl, _, hs0⟩ := open_string Tryd.underlying9 (hval 0 9 v0 rfl rfl) h0
  obtain ⟨t, rfl, rfl, _, hs1⟩ := open_string Tryd.underlying9 (hval 1 9 v1 rfl rfl) h1
  exact walk s hs0 t hs1 W hT

theorem over : Rows.ropeJoinRow.holds Tryd.pinned (OpenSpec.ofChange Rows.ropeJoinSpec) :=
  OpenClaim.holds_of_wide 7 Tryd.f7 rfl rfl rfl rfl rfl rfl rfl ⟨rfl, rfl, rfl, rfl, rfl⟩ rfl rfl rfl rfl rfl (by kernel_rfl) Tryd.func7 (by kernel_rfl)
    (of_decide_eq_true (by kernel_rfl)) (by unfold Func.isWrapper; first | (rw [if_pos (by decide +kernel)]; kernel_rfl) | (rw [if_neg (by decide +kernel)]; exact ⟨rfl, rfl⟩))
    (fun os started H enc _ => lifted os started H enc)

/-- The statement. -/
theorem proved : Rows.RopeJoinCardSaid :=
  Claim7.holds_tied_plain_at .later [] [.data, .pinned] true (true, "204a5bf4e88a8898dff6c77e214f6a87eb849d6394f7bff06f8f3fca1b4174ce") false over (fun _ h => by cases h) (by kernel_rfl) (fun _ h => by cases h) ropeJoin_row_tie rfl ⟨rfl, rfl⟩ (by kernel_rfl) rfl
    (fun f fn hf hfn => by
      obtain rfl : f = 7 := Option.some.inj ((show Tryd.prog.funcNamed Rows.ropeJoinRow.func = some 7 by kernel_rfl).symm.trans hf) |>.symm
      obtain rfl : fn = Tryd.f7 := (Option.some.inj (Tryd.func7.symm.trans hfn)).symm
      exact ⟨by kernel_rfl, fun j t ht => by
        rw [Tryd.params7] at ht
        have hm : t ∈ [9, 9] := by simpa using Array.mem_of_getElem? ht
        have hall : ([9, 9].all fun u => !Tryd.prog.wantsStandIn u) = true := by kernel_rfl
        exact (show Tryd.prog.wantsStandIn t = false by simpa using List.all_eq_true.1 hall t hm)⟩)
    (by kernel_rfl)
#print axioms proved
end Go.Proofs.YtjcohjolhdiegaaDoor.ropeJoin
