/- For every plain value of a thing: UndoThings answers true, and its argument reads behind the call as before. No condition. THE TIED CARD: unicode/utf8's two tables start as the program's text lays them. -/
import Derived.Test.YtoejjicgnhndfaaDoorRows
import Derived.Test.YtoejjicgnhndfaaDoorTie
import Derived.Test.YtoejjicgnhndfaaDoorCards
import Derived.Test.YtoejjicgnhndfaaDoorLift
import Derived.ProofKit
import Derived.Lib.LaidU8T
import Derived.PinnedBridge
import Derived.Lay
import Derived.LaidOnce
import Derived.SevenTiedAt
import Derived.Test.YtoejjicgnhndfaaDoorUk
import Derived.Test.YtoejjicgnhndfaaDoorUo2
import Derived.SizedLaws
import Derived.Deep.RegionHeld3
set_option linter.unusedVariables false
namespace Go.Proofs.YtoejjicgnhndfaaDoor.undoThings
open Go.ChangeShapes Go.WideShapes Go.ChangeAt Go.RowKit Go.Lib Go.Shelf Go.Proofs.YtoejjicgnhndfaaDoor.Lift Go.Proofs.YtoejjicgnhndfaaDoor.Rk Go.Proofs.YtoejjicgnhndfaaDoor.Rig Go.Proofs.YtoejjicgnhndfaaDoor.Und
open Go.ChangeMaps (open_string shut_string)

theorem own : ownKnob Tryd.prog.godebug = none := by kernel_rfl
theorem laidOut : laidOutB Tryd.prog = true := by kernel_rfl

set_option maxRecDepth 100000 in
set_option maxHeartbeats 8000000 in
theorem walk (w : World) (hT : Tabs w) (y : U) (hg : y.good) :
    Calls Tryd.prog 11 #[y.val] w fun e w' => e = .returned (.bool true) ∧ Below w.heap.size w w' := by
  have HT : Hid (∀ w', Below w.heap.size w w' → Tabs w') := fun w' hb => hT.below hb
  have HOK : Hid (∀ b, ok1 y = b → ok1 y = b) := fun _ h => h
  obtain ⟨hk, hd, hm, hl, ht⟩ := hg
  have EV : Hid (y.val = .agg #[.int .i64 y.k, .int .i64 y.d, .int .i64 y.m, .int .i64 y.l, .string (Let.mk y.t)]) := rfl
  obtain ⟨yk, hyk⟩ : ∃ z, z = y.k := ⟨_, rfl⟩
  obtain ⟨yd, hyd⟩ : ∃ z, z = y.d := ⟨_, rfl⟩
  obtain ⟨ym, hym⟩ : ∃ z, z = y.m := ⟨_, rfl⟩
  obtain ⟨yl, hyl⟩ : ∃ z, z = y.l := ⟨_, rfl⟩
  obtain ⟨yt, hyt⟩ : ∃ z, z = y.t := ⟨_, rfl⟩
  have HG : Hid (y.good) := ⟨hk, hd, hm, hl, ht⟩
  rw [← hyk, ← hyd, ← hym, ← hyl, ← hyt] at EV
  rw [EV.out]
  rw [← hyt] at ht
  have HY := Lib.hid (And.intro hyk (And.intro hyd (And.intro hym (And.intro hyl hyt))))
  obtain ⟨B0, R0, L0⟩ := ubox w #[.int .i64 yk, .int .i64 yd, .int .i64 ym, .int .i64 yl, .string (Let.mk yt)] 88
  obtain ⟨W0, hW0⟩ : ∃ W0, W0 = w.alloc (.cells #[.int .i64 yk, .int .i64 yd, .int .i64 ym, .int .i64 yl, .string (Let.mk yt)] 88) := ⟨_, rfl⟩
  rw [← hW0] at B0 R0 L0
  have BX : Hid (∀ w', Below W0.heap.size W0 w' → Below W0.heap.size W0 w' ∧ w'.cell? ⟨w.heap.size, 0, none⟩ = some (.int .i64 yk) ∧ w'.cell? ⟨w.heap.size, 1, none⟩ = some (.int .i64 yd) ∧ w'.cell? ⟨w.heap.size, 2, none⟩ = some (.int .i64 ym) ∧ w'.cell? ⟨w.heap.size, 3, none⟩ = some (.int .i64 yl) ∧ w'.cell? ⟨w.heap.size, 4, none⟩ = some (.string (Let.mk yt))) := fun w' hb => ⟨hb, u5cells ((hb.block _ (urow_lt R0)).trans R0)⟩
  have KB : Hid (∀ w', Below W0.heap.size W0 w' → Below w.heap.size w w') := fun w' hb => below_more B0 hb
  have HW0 := Lib.hid hW0
  have ms : (Let.mk yt).size = yt.length := Let.mk_size yt
  have C1 := fun w' => mark_any w' (Nums.put 0 3 0)
  have C2 := fun w' => mark_any w' (Nums.other 88 (.agg #[.int .i64 yk, .int .i64 yd, .int .i64 ym, .int .i64 yl, .string (Let.mk yt)]) (by decide) (by decide))
  have C3 := fun w' => label_any w' (Nums.other 88 (.agg #[.int .i64 yk, .int .i64 yd, .int .i64 ym, .int .i64 yl, .string (Let.mk yt)]) (by decide) (by decide))
  unfold putV at C1
  clear hW0 B0 R0 L0 hT hk hd hm hl hyk hyd hym hyl hyt
  go_enter Tryd.func11, Tryd.ntmps11
  go_upto_region 1 with fail
  rw [← HW0.out]
  go_wp2_with fail
  refine (C1 _).mono ?_
  rintro e w1 ⟨rfl, b1⟩
  obtain ⟨_, c0, c1, c2, c3, c4⟩ := BX.out _ b1
  have K1 : Hid (Below W0.heap.size W0 w1) := b1
  clear b1
  by_cases h2000 : yt.length ≤ 2000
  · have d1 : decide (2000 < (yt.length : Int)) = false := decide_eq_false (by omega)
    have CR : Hid (∀ w', Calls Tryd.prog 21 #[.string (Let.mk yt)] w' fun e w'' => e = .returned (.bool (Let.right yt)) ∧ w' = w'') := fun w' => by
      have := Con.rright_any (Let.mk yt) w' (by rw [Let.mk_size]; unfold maxLen; omega)
      rwa [Let.mk_data] at this
    cases hr : Let.right yt with
    | false =>
      rw [hr] at CR
      go_wp2_with fail
      refine (CR.out _).mono ?_
      rintro e w2 ⟨rfl, rfl⟩
      go_wp2_with fail
      go_ret
      exact ⟨rfl, KB.out _ K1.out⟩
    | true =>
      rw [hr] at CR
      go_wp2_with fail
      refine (CR.out _).mono ?_
      rintro e w2 ⟨rfl, rfl⟩
      obtain ⟨B3, R3, L3⟩ := ubox w1 #[.int .i64 yk, .int .i64 yd, .int .i64 ym, .int .i64 yl, .string (Let.mk yt)] 88
      obtain ⟨W3, hW3⟩ : ∃ W3, W3 = w1.alloc (.cells #[.int .i64 yk, .int .i64 yd, .int .i64 ym, .int .i64 yl, .string (Let.mk yt)] 88) := ⟨_, rfl⟩
      rw [← hW3] at B3 R3 L3
      have CU : Hid (Calls Tryd.prog 53 #[.slice (some ⟨w1.heap.size, 0, none⟩) 1 1] W3 fun e w'' => e = .returned (.bool (rightU [y])) ∧ Below W3.heap.size W3 w'') := uright_any W3 ⟨row_one (y := y.cells) (by unfold U.cells; rw [← HY.out.1, ← HY.out.2.1, ← HY.out.2.2.1, ← HY.out.2.2.2.1, ← HY.out.2.2.2.2]; exact R3) rfl, fun z hz => by simp at hz; rw [hz]; exact HG.out⟩
      have K3 := Lib.hid (below_more K1.out B3)
      have HW3 := Lib.hid hW3
      clear hW3 B3 R3 L3 CR
      cases hu : rightU [y] with
      | false =>
        rw [hu] at CU
        go_wp2_with fail
        rw [← HW3.out]
        refine CU.out.mono ?_
        rintro e w4 ⟨rfl, b4⟩
        go_wp2_with fail
        go_ret
        exact ⟨rfl, KB.out _ (below_more K3.out b4)⟩
      | true =>
        rw [hu] at CU
        have hok : ok1 y = true := by unfold rightU at hu; simpa using hu
        go_wp2_with fail
        rw [← HW3.out]
        refine CU.out.mono ?_
        rintro e w4 ⟨rfl, b4⟩
        have K4 := Lib.hid (below_more K3.out b4)
        clear b4 CU c0 c1 c2 c3 c4
        obtain ⟨_, c0, c1, c2, c3, c4⟩ := BX.out _ K4.out
        have CT : Hid (∀ w', Below w.heap.size w w' → Calls Tryd.prog 56 #[.agg #[.int .i64 yk, .int .i64 yd, .int .i64 ym, .int .i64 yl, .string (Let.mk yt)]] w' fun e w'' => ∃ v, e = .returned v ∧ ThV w'' v y ∧ Below w'.heap.size w' w'') := fun w' hb => by
          have := thing_any y w' hok (by rw [← HY.out.2.2.2.2]; omega) (HT.out _ hb)
          rwa [EV.out] at this
        have CT4 := Lib.hid (CT.out _ (KB.out _ K4.out))
        go_wp2_with fail
        refine CT4.out.mono ?_
        rintro e w5 ⟨v, rfl, hv, b5⟩
        have K5 := Lib.hid (below_more K4.out b5)
        have hn := hv.nums
        have CM : Hid (∀ w', Calls Tryd.prog 63 #[v] w' fun e w'' => e = .returned (.tuple #[.int .i64 ym, .bool true]) ∧ Below w'.heap.size w' w'') := fun w' => by have := mark_any w' hn; rwa [← HY.out.2.2.1] at this
        have CL : Hid (∀ w', Calls Tryd.prog 64 #[v] w' fun e w'' => e = .returned (.int .i64 yl) ∧ Below w'.heap.size w' w'') := fun w' => by have := label_any w' hn; rwa [← HY.out.2.2.2.1] at this
        have CX : Hid (∀ w', Below w5.heap.size w5 w' → Calls Tryd.prog 65 #[v] w' fun e w'' => e = .returned (.tuple #[.string (Let.mk yt), .bool (yk == 1)]) ∧ Below w'.heap.size w' w'') := fun w' hb => by
          have := ltext_any y w' (hv.below hb (Nat.le_refl _)) (by rw [← HY.out.2.2.2.2]; omega)
          rwa [← HY.out.1, ← HY.out.2.2.2.2] at this
        clear hn hv CT CT4 b5 c0 c1 c2 c3 c4 hok
        go_wp2_with fail
        refine (CM.out _).mono ?_
        rintro e w6 ⟨rfl, b6⟩
        have J6 : Hid (Below w5.heap.size w5 w6) := b6
        have K6 := Lib.hid (below_more K5.out b6)
        obtain ⟨_, c0, c1, c2, c3, c4⟩ := BX.out _ K6.out
        clear b6
        go_wp2_with fail
        refine (C2 _).mono ?_
        rintro e w7 ⟨rfl, b7⟩
        have J7 : Hid (Below w5.heap.size w5 w7) := below_more J6.out b7
        have K7 := Lib.hid (below_more K6.out b7)
        clear b7 c0 c1 c2 c3 c4
        go_upto_region 9 with fail
        have BZ : Hid (∀ w', Below w7.heap.size w7 w' → Below w7.heap.size w7 w' ∧ w'.cell? ⟨w.heap.size, 0, none⟩ = some (.int .i64 yk) ∧ w'.cell? ⟨w.heap.size, 1, none⟩ = some (.int .i64 yd) ∧ w'.cell? ⟨w.heap.size, 2, none⟩ = some (.int .i64 ym) ∧ w'.cell? ⟨w.heap.size, 3, none⟩ = some (.int .i64 yl) ∧ w'.cell? ⟨w.heap.size, 4, none⟩ = some (.string (Let.mk yt))) := fun w' hb => ⟨hb, (BX.out _ (below_more K7.out hb)).2⟩
        have KS := Lib.hid (Below.refl w7.heap.size w7)
        have KF : Hid (∀ w', Below w7.heap.size w7 w' → Below w.heap.size w w' ∧ Below w5.heap.size w5 w') := fun w' hb => ⟨KB.out _ (below_more K7.out hb), below_more J7.out hb⟩
        obtain ⟨_, c0, c1, c2, c3, c4⟩ := BZ.out _ KS.out
        go_region_held3 (fun w' => Below w7.heap.size w7 w' ∧ w'.cell? ⟨w.heap.size, 0, none⟩ = some (.int .i64 yk) ∧ w'.cell? ⟨w.heap.size, 1, none⟩ = some (.int .i64 yd) ∧ w'.cell? ⟨w.heap.size, 2, none⟩ = some (.int .i64 ym) ∧ w'.cell? ⟨w.heap.size, 3, none⟩ = some (.int .i64 yl) ∧ w'.cell? ⟨w.heap.size, 4, none⟩ = some (.string (Let.mk yt)))
          ((refine BZ.out _ ?_; focus ((repeat first | with_reducible assumption | with_reducible exact KS.out | with_reducible apply Below.drew | with_reducible apply below_drews); done)))
          (first
            | (go_at_call 64; (with_reducible refine (CL.out _).mono ?_); rintro e w8 ⟨rfl, b8⟩; have jj8 := fun h => below_more (B := w7.heap.size) (w := w7) h b8; replace jj8 := jj8 (by (repeat first | with_reducible assumption | with_reducible exact KS.out | with_reducible apply Below.drew | with_reducible apply below_drews)))
            | (go_at_call 64; (with_reducible refine (C3 _).mono ?_); rintro e w9 ⟨rfl, b9⟩; have jj9 := fun h => below_more (B := w7.heap.size) (w := w7) h b9; replace jj9 := jj9 (by (repeat first | with_reducible assumption | with_reducible exact KS.out | with_reducible apply Below.drew | with_reducible apply below_drews))))
        all_goals go_wp2_with fail
        all_goals (
          refine (CX.out _ (KF.out _ jj9).2).mono ?_
          rintro e w10 ⟨rfl, b10⟩
          have jj10 := below_more jj9 b10
          have FIN := Lib.hid (KF.out _ jj10).1
          clear c0 c1 c2 c3 c4
          obtain ⟨_, c0, c1, c2, c3, c4⟩ := BZ.out _ jj10
          clear b10 BX BZ
          cases hb : (yk == 1) with
          | true =>
            go_wp2_with fail
            go_ret
            exact ⟨ret_bool (by simp), FIN.out⟩
          | false =>
            go_wp2_with fail
            go_ret
            exact ⟨ret_bool (by simp), FIN.out⟩)
  · have d1 : decide (2000 < (yt.length : Int)) = true := decide_eq_true (by omega)
    go_wp2_with fail
    go_ret
    exact ⟨rfl, KB.out _ K1.out⟩

theorem acc_eq : Rows.laid_unicode_utf8_acceptRanges = Lib.acceptData := by kernel_rfl

set_option maxRecDepth 100000 in
theorem lifted (os : Os) (started : os.Started) (H : Type) (enc : TypeId × Value → H) :
    ReturnsInHanded {} Tryd.checked os 11 .any (fun w args => (Rows.undoThingsSpec.pre enc Tryd.prog Tryd.f11 [] false w args ∧ laidMetH Tryd.prog Rows.undoThingsRow.laid w) ∧ sizedMet enc Tryd.prog Tryd.f11 (OpenSpec.ofChange Rows.undoThingsSpec) false w args) (Rows.undoThingsSpec.post enc Tryd.prog Tryd.f11 false true false false) := by
  refine returnsInHanded_of_change_and (C := Tryd.checked) (X := fun w _ => laidMetH Tryd.prog Rows.undoThingsRow.laid w) (fun _ _ _ hh h => h.of_heap hh) own started (by kernel_rfl) Tryd.func11
    (ChangeSpec.witness_shaped (enc := enc) (C := Tryd.checked) (os := os) (X := fun w _ => laidMetH Tryd.prog Rows.undoThingsRow.laid w) false (World.laidAll Tryd.prog os Rows.undoThingsRow.laid) #[.agg #[.int .i64 0, .int .i64 0, .int .i64 0, .int .i64 0, .string ByteArray.empty]] 8 (World.laidAll_os _ _ _)
      (World.shaped_of_ZipB (by kernel_rfl) (by kernel_rfl)) (by kernel_rfl) (by kernel_rfl) (by kernel_rfl)
      (by rw [MakeChecks.laidMetH_plain _ _ _ (by kernel_rfl)]; exact laidMet_laidAll _ (by kernel_rfl) (by kernel_rfl))) ?_
  intro W base args ds gs before hval0 hW _ hWt hL _
  have hval : ∀ (j : Nat) t v, Tryd.f11.params[j]? = some t → args[j]? = some v → Value.okWide Tryd.prog W .any base t v := hval0
  have hread : ∀ t ∈ Tryd.f11.params.toList, Tryd.prog.readableRec t = true ∧ t < Tryd.prog.types.size := by
    have : (Tryd.f11.params.toList.all fun t => Tryd.prog.readableRec t && decide (t < Tryd.prog.types.size)) = true := by kernel_rfl
    intro t ht
    have := List.all_eq_true.1 this t ht
    simpa using this
  rw [MakeChecks.laidMetH_plain _ _ _ (by kernel_rfl)] at hL
  have hT : Tabs W := utf8Tabs_of_readsT (U8Types.of196 Tryd.lays196) ⟨by kernel_rfl, by kernel_rfl, by kernel_rfl, by kernel_rfl, by kernel_rfl, by kernel_rfl, by kernel_rfl⟩ (Pinned.utf8First_eq ▸ Lib.laidMet.reads hL (.tail _ (.head _))) (acc_eq ▸ Lib.laidMet.reads hL (.head _))
  refine law_contract (P := Tryd.prog) (s := Rows.undoThingsSpec) (fn := Tryd.f11) (tb := 4) laidOut rfl hread rfl Tryd.underlying4 (fun W' => okWide_bool_mk Tryd.underlying4 _) ?_ hW ?_
  · intro ds hds
    rw [Tryd.params11] at hds
    match ds, hds with
    | [d0], _ => rfl
  intro pl hA
  rw [Tryd.params11] at hA hval hWt
  obtain ⟨v0, vs0, d0, ds0, p0, q0, hargs, rfl, hp0, h0, r0⟩ := trodAll_cons hA
  obtain ⟨rfl, rfl, hpe⟩ := trodAll_nil r0
  obtain rfl : args = #[v0] := by cases args; simp_all
  have hwt0 : (d0.weights Tryd.prog 88).all (· ≤ reachBytes) = true := List.all_eq_true.2 fun n hn => List.all_eq_true.1 hWt n (DataW.weights_mem_each (j := 0) (t := 88) (d := d0) rfl rfl n hn)
  obtain ⟨x, rfl, hGx⟩ := Und.open_undo (hval 0 88 v0 rfl rfl) h0 hwt0
  exact walk W hT x hGx 

theorem over : Rows.undoThingsRow.holds Tryd.pinned (OpenSpec.ofChange Rows.undoThingsSpec) :=
  OpenClaim.holds_of_wide 11 Tryd.f11 rfl rfl rfl rfl rfl rfl rfl ⟨rfl, rfl, rfl, rfl, rfl⟩ rfl rfl rfl rfl rfl (by kernel_rfl) Tryd.func11 (by kernel_rfl)
    (of_decide_eq_true (by kernel_rfl)) (by unfold Func.isWrapper; first | (rw [if_pos (by decide +kernel)]; kernel_rfl) | (rw [if_neg (by decide +kernel)]; exact ⟨rfl, rfl⟩))
    (fun os started H enc _ => lifted os started H enc)

/-- The statement. -/
theorem proved : Rows.UndoThingsCardSaid :=
  Claim7.holds_tied_plain_at .later [] [.data, .pinned] true (true, "3a977cad1127ddb1e8b4d38ffec3cb5556e3c2924b6afded30eded5dffa0be69") true over (fun _ h => by cases h) (by kernel_rfl) (fun _ h => by cases h) undoThings_row_tie rfl ⟨rfl, rfl⟩ (by kernel_rfl) rfl
    (fun f fn hf hfn => by
      obtain rfl : f = 11 := Option.some.inj ((show Tryd.prog.funcNamed Rows.undoThingsRow.func = some 11 by kernel_rfl).symm.trans hf) |>.symm
      obtain rfl : fn = Tryd.f11 := (Option.some.inj (Tryd.func11.symm.trans hfn)).symm
      exact ⟨by kernel_rfl, fun j t ht => by
        rw [Tryd.params11] at ht
        have hm : t ∈ [88] := by simpa using Array.mem_of_getElem? ht
        have hall : ([88].all fun u => !Tryd.prog.wantsStandIn u) = true := by kernel_rfl
        exact (show Tryd.prog.wantsStandIn t = false by simpa using List.all_eq_true.1 hall t hm)⟩)
    (by kernel_rfl)
#print axioms proved
end Go.Proofs.YtoejjicgnhndfaaDoor.undoThings
