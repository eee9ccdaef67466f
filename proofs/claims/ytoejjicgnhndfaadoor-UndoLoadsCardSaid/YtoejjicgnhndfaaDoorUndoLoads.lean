/- For every list of plain values: UndoLoads answers true, and its argument reads behind the call as before. No condition. THE TIED CARD: unicode/utf8's two tables start as the program's text lays them. -/
import Derived.Test.YtoejjicgnhndfaaDoorRows
import Derived.Test.YtoejjicgnhndfaaDoorTie
import Derived.Test.YtoejjicgnhndfaaDoorCards
import Derived.Test.YtoejjicgnhndfaaDoorLift
import Derived.ProofKit
import Derived.Lib.LaidU8T
import Derived.PinnedBridge
import Derived.Lay
import Derived.LaidOnce
import Derived.SevenTiedAt
import Derived.Test.YtoejjicgnhndfaaDoorUh
import Derived.Test.YtoejjicgnhndfaaDoorUi
import Derived.Test.YtoejjicgnhndfaaDoorUo
import Derived.SizedLaws
set_option linter.unusedVariables false
namespace Go.Proofs.YtoejjicgnhndfaaDoor.undoLoads
open Go.ChangeShapes Go.WideShapes Go.ChangeAt Go.RowKit Go.Lib Go.Shelf Go.Proofs.YtoejjicgnhndfaaDoor.Lift Go.Proofs.YtoejjicgnhndfaaDoor.Rk Go.Proofs.YtoejjicgnhndfaaDoor.Rig Go.Proofs.YtoejjicgnhndfaaDoor.Und
open Go.ChangeMaps (open_string shut_string)

theorem own : ownKnob Tryd.prog.godebug = none := by kernel_rfl
theorem laidOut : laidOutB Tryd.prog = true := by kernel_rfl

def y1 : U := ⟨2, 1, 2, 0, [120]⟩
theorem y1_right : rightU [y1] = true := by decide +kernel
theorem y1_good : ∀ y ∈ [y1], y.good := fun y hy => by
  simp at hy
  subst hy
  exact ⟨⟨by decide, by decide⟩, ⟨by decide, by decide⟩, ⟨by decide, by decide⟩, ⟨by decide, by decide⟩, by decide⟩
theorem small_len {A : List U} (h : smallU A = true) : (∀ y ∈ A, y.t.length ≤ 1073741824) ∧ A.length ≤ 10000 := by
  obtain ⟨h1, h2⟩ : sumT A ≤ 2000 ∧ A.length ≤ 60 := of_decide_eq_true h
  refine ⟨fun y hy => ?_, by omega⟩
  obtain ⟨j, hj, rfl⟩ := List.getElem_of_mem hy
  have e1 := sumT_take A hj
  have e2 := sumT_le A (j + 1)
  omega
set_option maxRecDepth 100000 in
set_option maxHeartbeats 8000000 in
theorem walk (w : World) (hT : Tabs w) {v : Value} {A : List U} (h : Us w v A) :
    Calls Tryd.prog 8 #[v] w fun e w' => e = .returned (.bool true) ∧ Below w.heap.size w w' := by
  have HG := Lib.hid h.2
  obtain ⟨a, cap, rfl, hcap, hmax, _⟩ := h.open_
  obtain ⟨n, hn⟩ : ∃ n, n = A.length := ⟨_, rfl⟩
  rw [← hn] at h hcap ⊢
  have HU : Hid (∀ w', Below w.heap.size w w' → Us w' (.slice a n cap) A) := fun w' hb => h.below hb (Nat.le_refl _)
  have HT : Hid (∀ w', Below w.heap.size w w' → Tabs w') := fun w' hb => hT.below hb
  obtain ⟨B0, R0, L0⟩ := ubox w #[.int .i64 2, .int .i64 1, .int .i64 2, .int .i64 0, .string (ByteArray.mk #[120])] 88
  obtain ⟨W0, hW0⟩ : ∃ W0, W0 = w.alloc (.cells #[.int .i64 2, .int .i64 1, .int .i64 2, .int .i64 0, .string (ByteArray.mk #[120])] 88) := ⟨_, rfl⟩
  rw [← hW0] at B0 R0 L0
  have HB0 := Lib.hid B0
  have C1 : Hid (Calls Tryd.prog 50 #[.slice (some ⟨w.heap.size, 0, none⟩) 1 1] W0 fun e w' => ∃ s, e = .returned (.tuple #[.agg #[s], .bool true]) ∧ Stk w' s [y1] ∧ Below W0.heap.size W0 w') := uload_yes W0 ⟨row_one (y := y1.cells) R0 rfl, y1_good⟩ y1_right (by intro y hy; simp at hy; subst hy; decide) (by decide) (HT.out _ B0)
  have HW0 := Lib.hid hW0
  clear h hT hn hW0 B0 R0 L0
  go_enter Tryd.func8, Tryd.ntmps8
  go_wp2_with fail
  rw [← HW0.out]
  refine C1.out.mono ?_
  rintro e w1 ⟨s1, rfl, hs1, b1⟩
  obtain ⟨sa, sc, rfl⟩ := Rk.Rows.is_slice hs1
  have K1 := Lib.hid (below_more HB0.out b1)
  have CP1 : Hid (∀ w', Below w1.heap.size w1 w' → Calls Tryd.prog 51 #[.agg #[.slice sa [y1].length sc]] w' fun e w'' => ∃ v, e = .returned v ∧ Us w'' v [y1] ∧ Below w'.heap.size w' w'') := fun w' hb => splain_any w' (hs1.below hb) y1_good (by intro y hy; simp at hy; subst hy; decide) (by decide)
  have FB1 : Hid (∀ o, Below w1.heap.size w1 (w1.alloc o)) := fun o => (Below.refl _ _).alloc (Nat.le_refl _) o
  clear hs1 b1 C1 HB0 HW0
  go_wp2_with fail
  refine (CP1.out _ (FB1.out _)).mono ?_
  rintro e w2 ⟨v2, rfl, hu2, b2⟩
  obtain ⟨a2, c2, rfl, _, _, _⟩ := hu2.open_
  have K2 := Lib.hid (below_more K1.out (below_more (FB1.out _) b2))
  clear hu2 b2 CP1 FB1
  simp only [List.length_cons, List.length_nil]
  go_wp2_with fail
  refine (usmall_any w2 (HU.out _ K2.out)).mono ?_
  rintro e w3 ⟨rfl, b3⟩
  have K3 := Lib.hid (below_more K2.out b3)
  clear b3
  cases hs : smallU A with
  | false =>
    go_wp2_with fail
    go_ret
    exact ⟨rfl, K3.out⟩
  | true =>
    obtain ⟨s1, s2⟩ := small_len hs
    have HS := Lib.hid s1
    have HS2 := Lib.hid s2
    clear s1 s2 hs
    cases hr : rightU A with
    | true =>
      have HR := Lib.hid hr
      clear hr
      go_wp2_with fail
      refine (uload_yes w3 (HU.out _ K3.out) HR.out HS.out HS2.out (HT.out _ K3.out)).mono ?_
      rintro e w4 ⟨s4, rfl, hs4, b4⟩
      obtain ⟨xa, xc, rfl⟩ := Rk.Rows.is_slice hs4
      obtain ⟨m, hm⟩ : ∃ m, m = A.length := ⟨_, rfl⟩
      rw [← hm] at hs4 ⊢
      have K4 := Lib.hid (below_more K3.out b4)
      have FB4 : Hid (∀ o, Below w4.heap.size w4 (w4.alloc o)) := fun o => (Below.refl _ _).alloc (Nat.le_refl _) o
      have S4 : Hid (∀ w', Below w4.heap.size w4 w' → Stk w' (.slice xa m xc) A) := fun w' hb => hs4.below hb
      have CR : Hid (∀ w', Below w.heap.size w w' → Calls Tryd.prog 53 #[.slice a n cap] w' fun e w'' => e = .returned (.bool true) ∧ Below w'.heap.size w' w'') := fun w' hb => by
        have := uright_any w' (HU.out _ hb)
        rwa [HR.out] at this
      clear hs4 b4 hm
      obtain ⟨W5, hW5⟩ : ∃ W5, W5 = w4.alloc (.cells #[.slice xa m xc] 84) := ⟨_, rfl⟩
      obtain ⟨B5, R5, L5⟩ := ubox w4 #[.slice xa m xc] 84
      rw [← hW5] at B5 R5 L5
      have c0 : W5.cell? ⟨w4.heap.size, 0, none⟩ = some (.slice xa m xc) := by rw [cell_of_row _ _ _ _ _ _ R5]; rfl
      have K5 := Lib.hid (below_more K4.out B5)
      have HB5 := Lib.hid B5
      have HL5 := Lib.hid L5
      have HW5 := Lib.hid hW5
      clear hW5 B5 R5 L5
      go_upto_region 7 with fail
      rw [← HW5.out]
      go_wp2_with fail
      refine (CR.out _ K5.out).mono ?_
      rintro e w6 ⟨rfl, b6⟩
      have c6 : w6.cell? ⟨w4.heap.size, 0, none⟩ = some (.slice xa m xc) := below_cell b6 (by have := HL5.out; omega) c0
      have K6 := Lib.hid (below_more K5.out b6)
      have CP : Hid (∀ w', Below w4.heap.size w4 w' → Calls Tryd.prog 51 #[.agg #[.slice xa m xc]] w' fun e w'' => ∃ v, e = .returned v ∧ Us w'' v A ∧ Below w'.heap.size w' w'') := fun w' hb => splain_any w' (S4.out _ hb) HG.out HS.out HS2.out
      have CP6 := Lib.hid (CP.out w6 (below_more HB5.out b6))
      clear c0 b6 CP CR HW5
      go_wp2_with fail
      refine CP6.out.mono ?_
      rintro e w7 ⟨v7, rfl, hu7, b7⟩
      have K7 := Lib.hid (below_more K6.out b7)
      obtain ⟨a7, c7, rfl, _, _, _⟩ := hu7.open_
      obtain ⟨m7, hm7⟩ : ∃ m, m = A.length := ⟨_, rfl⟩
      rw [← hm7] at hu7 ⊢
      have CS := Lib.hid (usame_any w7 hu7 (HU.out _ K7.out))
      clear hu7 b7 hm7
      go_wp2_with fail
      refine CS.out.mono ?_
      rintro e w8 ⟨rfl, b8⟩
      have K8 := Lib.hid (below_more K7.out b8)
      clear b8
      go_wp2_with fail
      go_ret
      exact ⟨rfl, K8.out⟩
    | false =>
      have HR := Lib.hid hr
      clear hr
      go_wp2_with fail
      refine (uload_no w3 (HU.out _ K3.out) HR.out HS.out HS2.out (HT.out _ K3.out)).mono ?_
      rintro e w4 ⟨rfl, b4⟩
      have K4 := Lib.hid (below_more K3.out b4)
      have S4 : Hid (∀ w', Below w4.heap.size w4 w' → Stk w' (.slice none 0 0) []) := fun w' hb => Rk.Rows.nil_ _ _ _
      have CR : Hid (∀ w', Below w.heap.size w w' → Calls Tryd.prog 53 #[.slice a n cap] w' fun e w'' => e = .returned (.bool false) ∧ Below w'.heap.size w' w'') := fun w' hb => by
        have := uright_any w' (HU.out _ hb)
        rwa [HR.out] at this
      clear b4
      obtain ⟨W5, hW5⟩ : ∃ W5, W5 = w4.alloc (.cells #[.slice none 0 0] 84) := ⟨_, rfl⟩
      obtain ⟨B5, R5, L5⟩ := ubox w4 #[.slice none 0 0] 84
      rw [← hW5] at B5 R5 L5
      have c0 : W5.cell? ⟨w4.heap.size, 0, none⟩ = some (.slice none 0 0) := by rw [cell_of_row _ _ _ _ _ _ R5]; rfl
      have K5 := Lib.hid (below_more K4.out B5)
      have HB5 := Lib.hid B5
      have HL5 := Lib.hid L5
      have HW5 := Lib.hid hW5
      clear hW5 B5 R5 L5
      go_upto_region 7 with fail
      rw [← HW5.out]
      go_wp2_with fail
      refine (CR.out _ K5.out).mono ?_
      rintro e w6 ⟨rfl, b6⟩
      have c6 : w6.cell? ⟨w4.heap.size, 0, none⟩ = some (.slice none 0 0) := below_cell b6 (by have := HL5.out; omega) c0
      have K6 := Lib.hid (below_more K5.out b6)
      have CP6 := Lib.hid (splain_any w6 (S4.out _ (below_more HB5.out b6)) (by simp) (by simp) (by simp))
      clear c0 b6 CR HW5
      go_wp2_with fail
      refine CP6.out.mono ?_
      rintro e w7 ⟨v7, rfl, hu7, b7⟩
      have K7 := Lib.hid (below_more K6.out b7)
      obtain ⟨a7, c7, rfl, _, _, _⟩ := hu7.open_
      simp only [List.length_nil]
      go_wp2_with fail
      go_ret
      exact ⟨rfl, K7.out⟩

theorem acc_eq : Rows.laid_unicode_utf8_acceptRanges = Lib.acceptData := by kernel_rfl

set_option maxRecDepth 100000 in
theorem lifted (os : Os) (started : os.Started) (H : Type) (enc : TypeId × Value → H) :
    ReturnsInHanded {} Tryd.checked os 8 .any (fun w args => (Rows.undoLoadsSpec.pre enc Tryd.prog Tryd.f8 [] false w args ∧ laidMetH Tryd.prog Rows.undoLoadsRow.laid w) ∧ sizedMet enc Tryd.prog Tryd.f8 (OpenSpec.ofChange Rows.undoLoadsSpec) false w args) (Rows.undoLoadsSpec.post enc Tryd.prog Tryd.f8 false true false false) := by
  refine returnsInHanded_of_change_and (C := Tryd.checked) (X := fun w _ => laidMetH Tryd.prog Rows.undoLoadsRow.laid w) (fun _ _ _ hh h => h.of_heap hh) own started (by kernel_rfl) Tryd.func8
    (ChangeSpec.witness_shaped (enc := enc) (C := Tryd.checked) (os := os) (X := fun w _ => laidMetH Tryd.prog Rows.undoLoadsRow.laid w) false (World.laidAll Tryd.prog os Rows.undoLoadsRow.laid) #[.slice none 0 0] 8 (World.laidAll_os _ _ _)
      (World.shaped_of_ZipB (by kernel_rfl) (by kernel_rfl)) (by kernel_rfl) (by kernel_rfl) (by kernel_rfl)
      (by rw [MakeChecks.laidMetH_plain _ _ _ (by kernel_rfl)]; exact laidMet_laidAll _ (by kernel_rfl) (by kernel_rfl))) ?_
  intro W base args ds gs before hval0 hW _ hWt hL _
  have hval : ∀ (j : Nat) t v, Tryd.f8.params[j]? = some t → args[j]? = some v → Value.okWide Tryd.prog W .any base t v := hval0
  have hread : ∀ t ∈ Tryd.f8.params.toList, Tryd.prog.readableRec t = true ∧ t < Tryd.prog.types.size := by
    have : (Tryd.f8.params.toList.all fun t => Tryd.prog.readableRec t && decide (t < Tryd.prog.types.size)) = true := by kernel_rfl
    intro t ht
    have := List.all_eq_true.1 this t ht
    simpa using this
  rw [MakeChecks.laidMetH_plain _ _ _ (by kernel_rfl)] at hL
  have hT : Tabs W := utf8Tabs_of_readsT (U8Types.of196 Tryd.lays196) ⟨by kernel_rfl, by kernel_rfl, by kernel_rfl, by kernel_rfl, by kernel_rfl, by kernel_rfl, by kernel_rfl⟩ (Pinned.utf8First_eq ▸ Lib.laidMet.reads hL (.tail _ (.head _))) (acc_eq ▸ Lib.laidMet.reads hL (.head _))
  refine law_contract (P := Tryd.prog) (s := Rows.undoLoadsSpec) (fn := Tryd.f8) (tb := 4) laidOut rfl hread rfl Tryd.underlying4 (fun W' => okWide_bool_mk Tryd.underlying4 _) ?_ hW ?_
  · intro ds hds
    rw [Tryd.params8] at hds
    match ds, hds with
    | [d0], _ => rfl
  intro pl hA
  rw [Tryd.params8] at hA hval hWt
  obtain ⟨v0, vs0, d0, ds0, p0, q0, hargs, rfl, hp0, h0, r0⟩ := trodAll_cons hA
  obtain ⟨rfl, rfl, hpe⟩ := trodAll_nil r0
  obtain rfl : args = #[v0] := by cases args; simp_all
  have hwt0 : (d0.weights Tryd.prog 81).all (· ≤ reachBytes) = true := List.all_eq_true.2 fun n hn => List.all_eq_true.1 hWt n (DataW.weights_mem_each (j := 0) (t := 81) (d := d0) rfl rfl n hn)
  obtain ⟨Al, hGl⟩ := Und.open_undos (hval 0 81 v0 rfl rfl) h0 hwt0
  exact walk W hT hGl 

theorem over : Rows.undoLoadsRow.holds Tryd.pinned (OpenSpec.ofChange Rows.undoLoadsSpec) :=
  OpenClaim.holds_of_wide 8 Tryd.f8 rfl rfl rfl rfl rfl rfl rfl ⟨rfl, rfl, rfl, rfl, rfl⟩ rfl rfl rfl rfl rfl (by kernel_rfl) Tryd.func8 (by kernel_rfl)
    (of_decide_eq_true (by kernel_rfl)) (by unfold Func.isWrapper; first | (rw [if_pos (by decide +kernel)]; kernel_rfl) | (rw [if_neg (by decide +kernel)]; exact ⟨rfl, rfl⟩))
    (fun os started H enc _ => lifted os started H enc)

/-- The statement. -/
theorem proved : Rows.UndoLoadsCardSaid :=
  Claim7.holds_tied_plain_at .later [] [.data, .pinned] true (true, "3a977cad1127ddb1e8b4d38ffec3cb5556e3c2924b6afded30eded5dffa0be69") true over (fun _ h => by cases h) (by kernel_rfl) (fun _ h => by cases h) undoLoads_row_tie rfl ⟨rfl, rfl⟩ (by kernel_rfl) rfl
    (fun f fn hf hfn => by
      obtain rfl : f = 8 := Option.some.inj ((show Tryd.prog.funcNamed Rows.undoLoadsRow.func = some 8 by kernel_rfl).symm.trans hf) |>.symm
      obtain rfl : fn = Tryd.f8 := (Option.some.inj (Tryd.func8.symm.trans hfn)).symm
      exact ⟨by kernel_rfl, fun j t ht => by
        rw [Tryd.params8] at ht
        have hm : t ∈ [81] := by simpa using Array.mem_of_getElem? ht
        have hall : ([81].all fun u => !Tryd.prog.wantsStandIn u) = true := by kernel_rfl
        exact (show Tryd.prog.wantsStandIn t = false by simpa using List.all_eq_true.1 hall t hm)⟩)
    (by kernel_rfl)
#print axioms proved
end Go.Proofs.YtoejjicgnhndfaaDoor.undoLoads
