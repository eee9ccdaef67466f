/- For every plain segment (a number, a label, a text, spans, sites): SegmentLoads answers true, and its argument reads behind the call as before. No condition. THE TIED CARD: unicode/utf8's two tables start as the program's text lays them. -/
import Derived.Test.YtengmiolcfgdiaaDoorRows
import Derived.Test.YtengmiolcfgdiaaDoorTie
import Derived.Test.YtengmiolcfgdiaaDoorCards
import Derived.Test.YtengmiolcfgdiaaDoorLift
import Derived.ProofKit
import Derived.Lib.LaidU8T
import Derived.PinnedBridge
import Derived.Lay
import Derived.LaidOnce
import Derived.SevenTiedAt
import Derived.Test.YtengmiolcfgdiaaDoorQs
set_option linter.unusedVariables false
namespace Go.Proofs.YtengmiolcfgdiaaDoor.segmentLoads
open Go.ChangeShapes Go.WideShapes Go.ChangeAt Go.RowKit Go.Lib Go.Shelf Go.Proofs.YtengmiolcfgdiaaDoor.Lift Go.Proofs.YtengmiolcfgdiaaDoor.Rt Go.Proofs.YtengmiolcfgdiaaDoor.Rig Go.Proofs.YtengmiolcfgdiaaDoor.Seg
open Go.ChangeMaps (open_string shut_string)

theorem own : ownKnob Tryd.prog.godebug = none := by kernel_rfl
theorem laidOut : laidOutB Tryd.prog = true := by kernel_rfl

theorem load_no {v : Value} {i l : Int} {L : Bytes} {S : List Sp} {T : List St} (w : World) (h : Pl w v i l L S T) (hf : right5 L S T = false) (b1 : L.length ≤ 10000) (l1 : S.length ≤ 100000) (l2 : T.length ≤ 100000) (hTb : Tabs w) :
    Calls Tryd.prog 11 #[v] w (GiveIns w false 0 0 [] [] []) := by
  unfold right5 at hf
  cases hr : Let.right L with
  | false => exact load_no1 w h hr b1 l1 l2 hTb
  | true =>
    rw [hr, Bool.true_and] at hf
    exact load_no2 w h hr hf b1 l1 l2 hTb
theorem zero_pl (w : World) : Pl w (.agg #[.int .i64 0, .int .i64 0, .string (ByteArray.mk #[]), .slice none 0 0, .slice none 0 0]) 0 0 [] [] [] := ⟨_, _, rfl, Spans.nil_ _, Sites.nil_ _⟩
theorem ab_pl (w : World) : Pl w (.agg #[.int .i64 1, .int .i64 2, .string (ByteArray.mk #[97, 98]), .slice none 0 0, .slice none 0 0]) 1 2 [97, 98] [] [] := ⟨_, _, rfl, Spans.nil_ _, Sites.nil_ _⟩

set_option maxRecDepth 100000 in
set_option maxHeartbeats 1600000 in
theorem walk (w : World) (hT : Tabs w) {v : Value} {i l : Int} {L : Bytes} {S : List Sp} {T : List St} (h : Arg w v i l L S T) :
    Calls Tryd.prog 3 #[v] w fun e w' => e = .returned (.bool true) ∧ Below w.heap.size w w' := by
  have C1 : Hid (∀ w', Below w.heap.size w w' → Calls Tryd.prog 9 #[.string (ByteArray.mk #[97, 98])] w' (GiveSg w' 1 2 [97, 98] [] [])) := fun w' hb => text_any [97, 98] w' (by decide) (by decide +kernel) (hT.below hb)
  have C2 : Hid (∀ w' u, Sg w' u 1 2 [97, 98] [] [] → Calls Tryd.prog 8 #[u, .agg #[.int .i64 1, .int .i64 2, .string (ByteArray.mk #[97, 98]), .slice none 0 0, .slice none 0 0]] w' fun e w'' => e = .returned (.bool true) ∧ Below w'.heap.size w' w'') := fun w' u hu => has_any w' hu (ab_pl w') (by simp) (by decide) (by simp) (by simp)
  have C3 : Hid (∀ w', Below w.heap.size w w' → Calls Tryd.prog 10 #[v] w' fun e w'' => e = .returned (.bool (smallB L S T)) ∧ Below w'.heap.size w' w'') := fun w' hb => small_any w' (h.pl.below hb (Nat.le_refl _))
  have HPL : Hid (∀ w', Below w.heap.size w w' → Pl w' v i l L S T) := fun w' hb => h.pl.below hb (Nat.le_refl _)
  have HTB : Hid (∀ w', Below w.heap.size w w' → Tabs w') := fun w' hb => hT.below hb
  obtain ⟨sa, sc, ta, tc, rfl, hS, hTT⟩ := h.pl.open_
  obtain ⟨ls, hls⟩ : ∃ ls, ls = S.length := ⟨_, rfl⟩
  obtain ⟨lt, hlt⟩ : ∃ lt, lt = T.length := ⟨_, rfl⟩
  obtain ⟨W0, hW0⟩ : ∃ W0, W0 = w.alloc (.cells #[.int .i64 i, .int .i64 l, .string (Let.mk L), .slice sa ls sc, .slice ta lt tc] 25) := ⟨_, rfl⟩
  obtain ⟨b0, r0, l0⟩ := box1 w #[.int .i64 i, .int .i64 l, .string (Let.mk L), .slice sa ls sc, .slice ta lt tc] 25
  rw [← hW0] at b0 r0 l0
  have BX : Hid (∀ w', Below W0.heap.size W0 w' → w'.cell? ⟨w.heap.size, 0, none⟩ = some (.int .i64 i) ∧ w'.cell? ⟨w.heap.size, 1, none⟩ = some (.int .i64 l) ∧ w'.cell? ⟨w.heap.size, 2, none⟩ = some (.string (Let.mk L)) ∧ w'.cell? ⟨w.heap.size, 3, none⟩ = some (.slice sa ls sc) ∧ w'.cell? ⟨w.heap.size, 4, none⟩ = some (.slice ta lt tc)) := fun w' hb => five_cells ((hb.block _ (by omega)).trans r0)
  have KB : Hid (∀ w', Below W0.heap.size W0 w' → Below w.heap.size w w') := fun w' hb => below_more b0 hb
  have HW0 := Lib.hid hW0
  rw [← hls, ← hlt] at C3 HPL ⊢
  have HLS := Lib.hid hls
  have HLT := Lib.hid hlt
  clear h hS hTT b0 r0 l0 hW0 hT hls hlt
  go_enter Tryd.func3, Tryd.ntmps3
  go_upto_region 1 with fail
  rw [← HW0.out]
  go_wp2_with fail
  refine (C1.out _ (KB.out _ (Below.refl _ _))).mono ?_
  rintro e w1 ⟨v1, rfl, o1, b1⟩
  have K1 : Below W0.heap.size W0 w1 := b1
  obtain ⟨q1, a1, d1, a2, d2, rfl, _, _, _⟩ := o1.open_
  go_wp2_with fail
  refine (C2.out _ _ o1).mono ?_
  rintro e w2 ⟨rfl, b2⟩
  have K2 : Below W0.heap.size W0 w2 := below_more K1 b2
  clear o1 b1 b2 K1 C1 C2
  obtain ⟨c0, c1, c2, c3, c4⟩ := BX.out w2 K2
  go_wp2_with fail
  refine (C3.out _ (KB.out _ K2)).mono ?_
  rintro e w3 ⟨rfl, b3⟩
  have K3 : Below W0.heap.size W0 w3 := below_more K2 b3
  have F3 := Lib.hid (KB.out _ K3)
  clear b3 K2 C3 c0 c1 c2 c3 c4
  cases hsm : smallB L S T with
  | false =>
    go_wp2_with fail
    go_ret
    exact ⟨rfl, F3.out⟩
  | true =>
    obtain ⟨m1, m2, m3⟩ : L.length ≤ 1500 ∧ S.length ≤ 300 ∧ T.length ≤ 300 := of_decide_eq_true hsm
    have C4 : Hid (∀ w', Below w.heap.size w w' → Calls Tryd.prog 12 #[.agg #[.int .i64 i, .int .i64 l, .string (Let.mk L), .slice sa ls sc, .slice ta lt tc]] w' fun e w'' => e = .returned (.bool (right5 L S T)) ∧ Below w'.heap.size w' w'') := fun w' hb => right5_any w' (HPL.out w' hb) (by omega)
    obtain ⟨c0, c1, c2, c3, c4⟩ := BX.out w3 K3
    cases hr5 : right5 L S T with
    | true =>
      have hrr := hr5
      unfold right5 at hrr
      rw [Bool.and_eq_true] at hrr
      have HP : Hid (∀ s ∈ T, 0 < s.m) := RT_pos (mright_of hrr.2).2
      rw [hr5] at C4
      have C5 := Lib.hid (load_yes w3 (HPL.out w3 F3.out) hrr.1 hrr.2 (by omega) (by omega) (by omega) (HTB.out w3 F3.out))
      have C6 : Hid (∀ w' u, Below w.heap.size w w' → Sg w' u i l L S T → Calls Tryd.prog 8 #[u, .agg #[.int .i64 i, .int .i64 l, .string (Let.mk L), .slice sa ls sc, .slice ta lt tc]] w' fun e w'' => e = .returned (.bool true) ∧ Below w'.heap.size w' w'') := fun w' u hb hu => has_any w' hu (HPL.out w' hb) HP.out (by omega) (by omega) (by omega)
      clear hr5 hrr hsm m1 m2 m3 HP HTB
      go_wp2_with fail
      refine C5.out.mono ?_
      rintro e w4 ⟨v4, rfl, o4, b4⟩
      have K4 : Below W0.heap.size W0 w4 := below_more K3 b4
      obtain ⟨q4, a4, d4, a5, d5, rfl, _, _, _⟩ := o4.open_
      obtain ⟨W5, hW5⟩ : ∃ W5, W5 = w4.alloc (.cells #[.int .i64 i, .int .i64 l, .pointer q4, .slice a4 S.length d4, .slice a5 T.length d5] 31) := ⟨_, rfl⟩
      obtain ⟨b5, r5, l5⟩ := box1 w4 #[.int .i64 i, .int .i64 l, .pointer q4, .slice a4 S.length d4, .slice a5 T.length d5] 31
      rw [← hW5] at b5 r5 l5
      have K5 : Below W0.heap.size W0 W5 := below_more K4 b5
      have O5 := Lib.hid (o4.below b5 (Nat.le_refl _))
      have BY : Hid (∀ w', Below W5.heap.size W5 w' → w'.cell? ⟨w4.heap.size, 0, none⟩ = some (.int .i64 i) ∧ w'.cell? ⟨w4.heap.size, 1, none⟩ = some (.int .i64 l) ∧ w'.cell? ⟨w4.heap.size, 2, none⟩ = some (.pointer q4) ∧ w'.cell? ⟨w4.heap.size, 3, none⟩ = some (.slice a4 S.length d4) ∧ w'.cell? ⟨w4.heap.size, 4, none⟩ = some (.slice a5 T.length d5)) := fun w' hb => five_cells ((hb.block _ (by omega)).trans r5)
      have HW5 := Lib.hid hW5
      clear c0 c1 c2 c3 c4 o4 b4 K4 b5 r5 l5 hW5 C5 K3
      go_upto_region 6 with fail
      rw [← HW5.out]
      obtain ⟨c0, c1, c2, c3, c4⟩ := BX.out W5 K5
      go_wp2_with fail
      refine (C4.out _ (KB.out _ K5)).mono ?_
      rintro e w6 ⟨rfl, b6⟩
      have K6 : Below W0.heap.size W0 w6 := below_more K5 b6
      have O6 := Lib.hid (O5.out.below b6 (Nat.le_refl _))
      clear c0 c1 c2 c3 c4
      obtain ⟨c0, c1, c2, c3, c4⟩ := BX.out w6 K6
      obtain ⟨e0, e1, e2, e3, e4⟩ := BY.out w6 b6
      have F6 := Lib.hid (KB.out _ K6)
      clear b6 K5 K6 C4
      go_wp2_with fail
      refine (C6.out _ _ F6.out O6.out).mono ?_
      rintro e w7 ⟨rfl, b7⟩
      have F7 := Lib.hid (below_more F6.out b7)
      clear b7
      go_wp2_with fail
      go_ret
      exact ⟨rfl, F7.out⟩
    | false =>
      rw [hr5] at C4
      have C5 := Lib.hid (load_no w3 (HPL.out w3 F3.out) hr5 (by omega) (by omega) (by omega) (HTB.out w3 F3.out))
      have C6 : Hid (∀ w' u, Sg w' u 0 0 [] [] [] → Calls Tryd.prog 8 #[u, .agg #[.int .i64 0, .int .i64 0, .string (ByteArray.mk #[]), .slice none 0 0, .slice none 0 0]] w' fun e w'' => e = .returned (.bool true) ∧ Below w'.heap.size w' w'') := fun w' u hu => has_any w' hu (zero_pl w') (by simp) (by decide) (by simp) (by simp)
      clear hr5 hsm m1 m2 m3 HTB
      go_wp2_with fail
      refine C5.out.mono ?_
      rintro e w4 ⟨v4, rfl, o4, b4⟩
      have K4 : Below W0.heap.size W0 w4 := below_more K3 b4
      obtain ⟨q4, a4, d4, a5, d5, rfl, _, _, _⟩ := o4.open_
      obtain ⟨W5, hW5⟩ : ∃ W5, W5 = w4.alloc (.cells #[.int .i64 0, .int .i64 0, .pointer q4, .slice a4 ([] : List Sp).length d4, .slice a5 ([] : List St).length d5] 31) := ⟨_, rfl⟩
      obtain ⟨b5, r5, l5⟩ := box1 w4 #[.int .i64 0, .int .i64 0, .pointer q4, .slice a4 ([] : List Sp).length d4, .slice a5 ([] : List St).length d5] 31
      rw [← hW5] at b5 r5 l5
      have K5 : Below W0.heap.size W0 W5 := below_more K4 b5
      have O5 := Lib.hid (o4.below b5 (Nat.le_refl _))
      have BY : Hid (∀ w', Below W5.heap.size W5 w' → w'.cell? ⟨w4.heap.size, 0, none⟩ = some (.int .i64 0) ∧ w'.cell? ⟨w4.heap.size, 1, none⟩ = some (.int .i64 0) ∧ w'.cell? ⟨w4.heap.size, 2, none⟩ = some (.pointer q4) ∧ w'.cell? ⟨w4.heap.size, 3, none⟩ = some (.slice a4 0 d4) ∧ w'.cell? ⟨w4.heap.size, 4, none⟩ = some (.slice a5 0 d5)) := fun w' hb => five_cells ((hb.block _ (by omega)).trans r5)
      have HW5 := Lib.hid hW5
      clear c0 c1 c2 c3 c4 o4 b4 K4 b5 r5 l5 hW5 C5 K3
      go_upto_region 6 with fail
      try simp only [List.length_nil] at HW5
      rw [← HW5.out]
      obtain ⟨c0, c1, c2, c3, c4⟩ := BX.out W5 K5
      go_wp2_with fail
      refine (C4.out _ (KB.out _ K5)).mono ?_
      rintro e w6 ⟨rfl, b6⟩
      have K6 : Below W0.heap.size W0 w6 := below_more K5 b6
      have O6 := Lib.hid (O5.out.below b6 (Nat.le_refl _))
      clear c0 c1 c2 c3 c4
      obtain ⟨e0, e1, e2, e3, e4⟩ := BY.out w6 b6
      have F6 := Lib.hid (KB.out _ K6)
      clear b6 K5 K6 C4
      go_wp2_with fail
      refine (C6.out _ _ O6.out).mono ?_
      rintro e w7 ⟨rfl, b7⟩
      have F7 := Lib.hid (below_more F6.out b7)
      clear b7
      go_wp2_with fail
      go_ret
      exact ⟨rfl, F7.out⟩

theorem acc_eq : Rows.laid_unicode_utf8_acceptRanges = Lib.acceptData := by kernel_rfl

set_option maxRecDepth 100000 in
theorem lifted (os : Os) (started : os.Started) (H : Type) (enc : TypeId × Value → H) :
    ReturnsInHanded {} Tryd.checked os 3 .any (fun w args => (Rows.segmentLoadsSpec.pre enc Tryd.prog Tryd.f3 [] false w args ∧ laidMetH Tryd.prog Rows.segmentLoadsRow.laid w) ∧ sizedMet enc Tryd.prog Tryd.f3 (OpenSpec.ofChange Rows.segmentLoadsSpec) false w args) (Rows.segmentLoadsSpec.post enc Tryd.prog Tryd.f3 false true false false) := by
  refine returnsInHanded_of_change_and (C := Tryd.checked) (X := fun w _ => laidMetH Tryd.prog Rows.segmentLoadsRow.laid w) (fun _ _ _ hh h => h.of_heap hh) own started (by kernel_rfl) Tryd.func3
    (ChangeSpec.witness_shaped (enc := enc) (C := Tryd.checked) (os := os) (X := fun w _ => laidMetH Tryd.prog Rows.segmentLoadsRow.laid w) false (World.laidAll Tryd.prog os Rows.segmentLoadsRow.laid) #[.agg #[.int .i64 0, .int .i64 0, .string ByteArray.empty, .slice none 0 0, .slice none 0 0]] 8 (World.laidAll_os _ _ _)
      (World.shaped_of_ZipB (by kernel_rfl) (by kernel_rfl)) (by kernel_rfl) (by kernel_rfl) (by kernel_rfl)
      (by rw [MakeChecks.laidMetH_plain _ _ _ (by kernel_rfl)]; exact laidMet_laidAll _ (by kernel_rfl) (by kernel_rfl))) ?_
  intro W base args ds gs before hval0 hW _ _ hL _
  have hval : ∀ (j : Nat) t v, Tryd.f3.params[j]? = some t → args[j]? = some v → Value.okWide Tryd.prog W .any base t v := hval0
  have hread : ∀ t ∈ Tryd.f3.params.toList, Tryd.prog.readableRec t = true ∧ t < Tryd.prog.types.size := by
    have : (Tryd.f3.params.toList.all fun t => Tryd.prog.readableRec t && decide (t < Tryd.prog.types.size)) = true := by kernel_rfl
    intro t ht
    have := List.all_eq_true.1 this t ht
    simpa using this
  rw [MakeChecks.laidMetH_plain _ _ _ (by kernel_rfl)] at hL
  have hT : Tabs W := utf8Tabs_of_readsT (U8Types.of196 Tryd.lays196) ⟨by kernel_rfl, by kernel_rfl, by kernel_rfl, by kernel_rfl, by kernel_rfl, by kernel_rfl, by kernel_rfl⟩ (Pinned.utf8First_eq ▸ Lib.laidMet.reads hL (.tail _ (.head _))) (acc_eq ▸ Lib.laidMet.reads hL (.head _))
  refine law_contract (P := Tryd.prog) (s := Rows.segmentLoadsSpec) (fn := Tryd.f3) (tb := 4) laidOut rfl hread rfl Tryd.underlying4 (fun W' => okWide_bool_mk Tryd.underlying4 _) ?_ hW ?_
  · intro ds hds
    rw [Tryd.params3] at hds
    match ds, hds with
    | [d0], _ => rfl
  intro pl hA
  rw [Tryd.params3] at hA hval
  obtain ⟨v0, vs0, d0, ds0, p0, q0, hargs, rfl, hp0, h0, r0⟩ := trodAll_cons hA
  obtain ⟨rfl, rfl, hpe⟩ := trodAll_nil r0
  obtain rfl : args = #[v0] := by cases args; simp_all
  obtain ⟨ia, la, La, Sa, Ta, hGa⟩ := open_seg (hval 0 25 v0 rfl rfl) h0
  exact walk W hT hGa 

theorem over : Rows.segmentLoadsRow.holds Tryd.pinned (OpenSpec.ofChange Rows.segmentLoadsSpec) :=
  OpenClaim.holds_of_wide 3 Tryd.f3 rfl rfl rfl rfl rfl rfl rfl ⟨rfl, rfl, rfl, rfl, rfl⟩ rfl rfl rfl rfl rfl (by kernel_rfl) Tryd.func3 (by kernel_rfl)
    (of_decide_eq_true (by kernel_rfl)) (by unfold Func.isWrapper; first | (rw [if_pos (by decide +kernel)]; kernel_rfl) | (rw [if_neg (by decide +kernel)]; exact ⟨rfl, rfl⟩))
    (fun os started H enc _ => lifted os started H enc)

/-- The statement. -/
theorem proved : Rows.SegmentLoadsCardSaid :=
  Claim7.holds_tied_plain_at .later [] [.data, .pinned] true (true, "a0ad057a98a1236160f967de97a5492a7e9130c7ed44157e07eb42448e885465") false over (fun _ h => by cases h) (by kernel_rfl) (fun _ h => by cases h) segmentLoads_row_tie rfl ⟨rfl, rfl⟩ (by kernel_rfl) rfl
    (fun f fn hf hfn => by
      obtain rfl : f = 3 := Option.some.inj ((show Tryd.prog.funcNamed Rows.segmentLoadsRow.func = some 3 by kernel_rfl).symm.trans hf) |>.symm
      obtain rfl : fn = Tryd.f3 := (Option.some.inj (Tryd.func3.symm.trans hfn)).symm
      exact ⟨by kernel_rfl, fun j t ht => by
        rw [Tryd.params3] at ht
        have hm : t ∈ [25] := by simpa using Array.mem_of_getElem? ht
        have hall : ([25].all fun u => !Tryd.prog.wantsStandIn u) = true := by kernel_rfl
        exact (show Tryd.prog.wantsStandIn t = false by simpa using List.all_eq_true.1 hall t hm)⟩)
    (by kernel_rfl)
#print axioms proved
end Go.Proofs.YtengmiolcfgdiaaDoor.segmentLoads
