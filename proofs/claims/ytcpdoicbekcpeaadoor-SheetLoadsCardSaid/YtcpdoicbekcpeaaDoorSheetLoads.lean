/- For every list of plain segments, frozen or not: SheetLoads answers true, and its arguments read behind the call as before. No condition. THE TIED CARD: unicode/utf8's two tables start as the program's text lays them. -/
import Derived.Test.YtcpdoicbekcpeaaDoorRows
import Derived.Test.YtcpdoicbekcpeaaDoorTie
import Derived.Test.YtcpdoicbekcpeaaDoorCards
import Derived.Test.YtcpdoicbekcpeaaDoorLift
import Derived.ProofKit
import Derived.Lib.LaidU8T
import Derived.PinnedBridge
import Derived.Lay
import Derived.LaidOnce
import Derived.SevenTiedAt
import Derived.Test.YtcpdoicbekcpeaaDoorHs
import Derived.SizedLaws
set_option linter.unusedVariables false
namespace Go.Proofs.YtcpdoicbekcpeaaDoor.sheetLoads
open Go.ChangeShapes Go.WideShapes Go.ChangeAt Go.RowKit Go.Lib Go.Shelf Go.Proofs.YtcpdoicbekcpeaaDoor.Lift Go.Proofs.YtcpdoicbekcpeaaDoor.Rk Go.Proofs.YtcpdoicbekcpeaaDoor.Rt Go.Proofs.YtcpdoicbekcpeaaDoor.Rig Go.Proofs.YtcpdoicbekcpeaaDoor.Seg Go.Proofs.YtcpdoicbekcpeaaDoor.She
open Go.ChangeMaps (open_string shut_string)

theorem own : ownKnob Tryd.prog.godebug = none := by kernel_rfl
theorem laidOut : laidOutB Tryd.prog = true := by kernel_rfl

set_option linter.unusedSimpArgs false
theorem load_two {u : Value} (f : Bool) (w : World) (h : Pls w u twoG) (hT : Con.Tabs w) : Calls Tryd.prog 22 #[.bool f, u] w fun e w' => ∃ a c, e = .returned (.tuple #[.agg #[.bool f, .slice a 2 c], .bool true]) ∧ Sgs w' (.slice a 2 c) twoG ∧ Below w.heap.size w w' := by
  refine (sload_any f w h two_sz (by decide) hT).mono ?_
  rintro e w' ⟨s, rfl, hs, hb⟩
  rw [two_ok, if_pos rfl] at hs
  obtain ⟨a, c, rfl⟩ := Rk.Rows.is_slice hs
  exact ⟨a, c, by rw [two_ok, Bool.and_true]; rfl, hs, hb⟩
theorem one_two {w : World} {b : Nat} {e : TypeId} (hb : w.heap[b]? = some (.cells #[.int .i64 1, .int .i64 2] e (0, 0))) : iRow w (.slice (some ⟨b, 0, none⟩) 2 2) (twoG.map G5.i) := by
  refine ⟨fun x hx => ?_, some ⟨b, 0, none⟩, 2, rfl, by decide, by unfold maxLen; omega, .inr ⟨b, 0, rfl, (Array.getElem?_eq_some_iff.1 hb).1, fun j hj i u hu => ?_⟩⟩
  · simp [twoG] at hx
    rcases hx with rfl | rfl <;> rfl
  · rw [cell_of_row w b _ _ _ (0, 0) hb, Nat.zero_add]
    rcases j with _ | _ | j
    · rcases i with _ | i
      · exact hu
      · simp [twoG] at hu
    · rcases i with _ | i
      · exact hu
      · simp [twoG] at hu
    · simp [twoG] at hj; omega
set_option maxRecDepth 100000 in
set_option maxHeartbeats 16000000 in
theorem walk (w : World) (hT : Tabs w) (f : Bool) {v : Value} {G : List G5} (hA : Args w v G) :
    Calls Tryd.prog 4 #[.bool f, v] w fun e w' => e = .returned (.bool true) ∧ Below w.heap.size w w' := by
  have HT : Hid (∀ w', Below w.heap.size w w' → Con.Tabs w') := fun w' hb => hT.below hb
  have HAr : Hid (∀ w', Below w.heap.size w w' → Args w' v G) := fun w' hb => hA.below hb
  obtain ⟨la, lc, rfl⟩ := Rk.Rows.is_slice hA.1
  obtain ⟨n, hn⟩ : ∃ n, n = G.length := ⟨_, rfl⟩
  have HN := Lib.hid hn
  rw [← hn] at HAr ⊢
  clear hT hA hn
  go_enter Tryd.func4, Tryd.ntmps4
  go_wp2_with fail
  refine (two_any _).mono ?_
  rintro e w1 ⟨u, rfl, p1, b1⟩
  obtain ⟨ua, uc, rfl⟩ := Rk.Rows.is_slice p1
  have C1 := load_two true w1 p1 (HT.out _ b1)
  have HB1 := Lib.hid b1
  clear b1 p1
  go_wp2_with fail
  refine C1.mono ?_
  rintro e w2 ⟨ta, tc, rfl, h2, b2⟩
  have HB2 := Lib.hid (below_more HB1.out b2)
  clear b2 C1
  obtain ⟨B3, R3, L3⟩ := box1 w2 #[.bool true, .slice ta 2 tc] 50
  have HSh : Hid (∀ w', Below (w2.heap.size + 1) (w2.alloc (.cells #[.bool true, .slice ta 2 tc] 50)) w' → Sh w' (.agg #[.bool true, .slice ta 2 tc]) true twoG) := fun w' hb => ⟨_, rfl, (h2.below B3).below (by rw [L3]; exact hb)⟩
  have HBx : Hid (∀ w', Below (w2.heap.size + 1) (w2.alloc (.cells #[.bool true, .slice ta 2 tc] 50)) w' → Below w.heap.size w w' ∧ w'.cell? ⟨w2.heap.size, 0, none⟩ = some (.bool true) ∧ w'.cell? ⟨w2.heap.size, 1, none⟩ = some (.slice ta 2 tc)) := fun w' hb =>
    ⟨below_more HB2.out (below_more B3 (by rw [L3]; exact hb)), (two_cells ((hb.block _ (Nat.lt_succ_self _)).trans R3)).1, (two_cells ((hb.block _ (Nat.lt_succ_self _)).trans R3)).2.1⟩
  obtain ⟨W3, hW3⟩ : ∃ W3, W3 = w2.alloc (.cells #[.bool true, .slice ta 2 tc] 50) := ⟨_, rfl⟩
  rw [← hW3] at HSh HBx L3
  have HW3 := Lib.hid hW3
  obtain ⟨N3, hN3⟩ : ∃ N3, N3 = w2.heap.size + 1 := ⟨_, rfl⟩
  rw [← hN3] at HSh HBx L3
  have HL3 := Lib.hid L3
  have K3 : Hid (Below N3 W3 W3) := Below.refl _ _
  obtain ⟨_, z0, z1⟩ := HBx.out _ K3.out
  clear hW3 B3 R3 L3 h2 hN3
  go_upto_region 2 with fail
  rw [← HW3.out]
  go_wp2_with fail
  refine (sfrozen_any _ (HSh.out _ K3.out)).mono ?_
  rintro e w4 ⟨rfl, b4⟩
  have K4 : Hid (Below N3 W3 w4) := by show Below _ _ _; rw [← HL3.out]; rw [← HL3.out] at K3; exact K3.out.trans b4
  clear b4 z0 z1
  obtain ⟨_, z0, z1⟩ := HBx.out _ K4.out
  go_wp2_with fail
  refine (ids_any _ (HSh.out _ K4.out) (by decide)).mono ?_
  rintro e w5 ⟨i5, rfl, h5, b5⟩
  obtain ⟨ia, ic, rfl, _⟩ := h5.open_
  have K5 : Hid (Below N3 W3 w5) := K4.out.trans (b5.mono (by rw [← HL3.out]; exact K4.out.size))
  have H5 : Hid (iRow (w5.alloc (.cells #[.int .i64 1, .int .i64 2] 3)) (.slice ia (twoG.map G5.i).length ic) (twoG.map G5.i)) := h5.below ((Below.refl _ _).alloc (Nat.le_refl _) _)
  have K6 : Hid (Below N3 W3 (w5.alloc (.cells #[.int .i64 1, .int .i64 2] 3))) := K5.out.alloc (by rw [← HL3.out]; exact K5.out.size) _
  have CI := hints_any _ H5.out (one_two (heap_alloc_new w5 _))
  clear b5 h5 z0 z1
  go_wp2_with fail
  refine CI.mono ?_
  rintro e w6 ⟨rfl, b6⟩
  have K7 : Hid (Below N3 W3 w6) := K6.out.trans (b6.mono (by rw [← HL3.out]; exact K6.out.size))
  have HB7 := Lib.hid (HBx.out _ K7.out).1
  clear b6 CI
  go_wp2_with fail
  refine (hsmall_any _ (HAr.out _ HB7.out)).mono ?_
  rintro e w7 ⟨rfl, b7⟩
  have HB8 := Lib.hid (below_more HB7.out b7)
  clear b7
  cases hsm : smallG G with
  | false =>
    clear hsm
    go_wp2_with fail
    go_ret
    exact ⟨by simp, HB8.out⟩
  | true =>
    obtain ⟨sz, s40, _⟩ := small_sz hsm
    have SZ := Lib.hid sz
    have S40 := Lib.hid s40
    have CL := Lib.hid (sload_any f w7 (HAr.out _ HB8.out).1 sz (by omega) (HT.out _ HB8.out))
    have CRt : Hid (∀ w', Below w.heap.size w w' → Calls Tryd.prog 28 #[.slice la n lc] w' fun e w'' => e = .returned (.bool (okG G)) ∧ Below w'.heap.size w' w'') := fun w' hb => hright_any w' (HAr.out w' hb).1 SZ.out (by have := S40.out; omega)
    have S40n : Hid (n ≤ 40) := by show _ ≤ _; rw [HN.out]; exact S40.out
    clear sz s40 hsm
    cases hok : okG G with
    | false =>
      rw [hok] at CRt
      go_wp2_with fail
      refine (CL.out).mono ?_
      rintro e w8 ⟨s, rfl, h8, b8⟩
      rw [hok, if_neg (by simp)] at h8
      rw [hok, Bool.and_false]
      obtain ⟨sa, sc, rfl⟩ := Rk.Rows.is_slice h8
      obtain ⟨B9, R9, L9⟩ := box1 w8 #[.bool false, .slice sa 0 sc] 50
      have HB9 := Lib.hid (below_more HB8.out b8)
      have HSh9 : Hid (∀ w', Below (w8.alloc (.cells #[.bool false, .slice sa 0 sc] 50)).heap.size (w8.alloc (.cells #[.bool false, .slice sa 0 sc] 50)) w' → Sh w' (.agg #[.bool false, .slice sa 0 sc]) false []) := fun w' hb => ⟨_, rfl, (h8.below B9).below hb⟩
      have HC9 : Hid (∀ w', Below (w8.alloc (.cells #[.bool false, .slice sa 0 sc] 50)).heap.size (w8.alloc (.cells #[.bool false, .slice sa 0 sc] 50)) w' → Below w.heap.size w w' ∧ w'.cell? ⟨w8.heap.size, 0, none⟩ = some (.bool false) ∧ w'.cell? ⟨w8.heap.size, 1, none⟩ = some (.slice sa 0 sc)) := fun w' hb =>
        ⟨below_more HB9.out (below_more B9 hb), (two_cells ((hb.block _ (by rw [L9]; exact Nat.lt_succ_self _)).trans R9)).1, (two_cells ((hb.block _ (by rw [L9]; exact Nat.lt_succ_self _)).trans R9)).2.1⟩
      obtain ⟨W9, hW9⟩ : ∃ W9, W9 = w8.alloc (.cells #[.bool false, .slice sa 0 sc] 50) := ⟨_, rfl⟩
      rw [← hW9] at HSh9 HC9
      have HW9 := Lib.hid hW9
      have K9 : Hid (Below W9.heap.size W9 W9) := Below.refl _ _
      obtain ⟨k9, z0, z1⟩ := HC9.out _ K9.out
      have HK9 := Lib.hid k9
      clear h8 b8 B9 R9 L9 hW9 k9 CL hok
      go_upto_region 7 with fail
      rw [← HW9.out]
      go_wp2_with fail
      refine (CRt.out _ HK9.out).mono ?_
      rintro e w10 ⟨rfl, b10⟩
      have K10 : Hid (Below W9.heap.size W9 w10) := K9.out.trans b10
      clear b10 z0 z1
      obtain ⟨_, z0, z1⟩ := HC9.out _ K10.out
      go_wp2_with fail
      refine (segs_any _ (HSh9.out _ K10.out) (by decide)).mono ?_
      rintro e w11 ⟨s11, rfl, h11, b11⟩
      obtain ⟨sa11, sc11, rfl⟩ := Rk.Rows.is_slice h11
      have K11 := Lib.hid (below_more K10.out b11)
      clear b11 h11 z0 z1
      obtain ⟨_, z0, z1⟩ := HC9.out _ K11.out
      go_wp2_with fail
      refine (sfrozen_any _ (HSh9.out _ K11.out)).mono ?_
      rintro e w12 ⟨rfl, b12⟩
      have K12 := Lib.hid (below_more K11.out b12)
      have HB12 := Lib.hid (HC9.out _ K12.out).1
      clear b12 z0 z1
      go_wp2_with fail
      go_ret
      exact ⟨by simp, HB12.out⟩
    | true =>
      rw [hok] at CRt
      have HOK : Hid (∀ g ∈ G, g.ok) := fun g hg => by
        obtain ⟨j, hj, rfl⟩ := List.getElem_of_mem hg
        exact r5_ok (okG_iff.1 hok j hj).1 (SZ.out _ hg)
      go_wp2_with fail
      refine (CL.out).mono ?_
      rintro e w8 ⟨s, rfl, h8, b8⟩
      rw [hok, if_pos rfl] at h8
      rw [hok, Bool.and_true]
      obtain ⟨sa, sc, rfl⟩ := Rk.Rows.is_slice h8
      rw [← HN.out] at h8 ⊢
      obtain ⟨B9, R9, L9⟩ := box1 w8 #[.bool f, .slice sa n sc] 50
      have HB9 := Lib.hid (below_more HB8.out b8)
      have HSh9 : Hid (∀ w', Below (w8.alloc (.cells #[.bool f, .slice sa n sc] 50)).heap.size (w8.alloc (.cells #[.bool f, .slice sa n sc] 50)) w' → Sh w' (.agg #[.bool f, .slice sa n sc]) f G) := fun w' hb => ⟨_, rfl, (h8.below B9).below hb⟩
      have HC9 : Hid (∀ w', Below (w8.alloc (.cells #[.bool f, .slice sa n sc] 50)).heap.size (w8.alloc (.cells #[.bool f, .slice sa n sc] 50)) w' → Below w.heap.size w w' ∧ w'.cell? ⟨w8.heap.size, 0, none⟩ = some (.bool f) ∧ w'.cell? ⟨w8.heap.size, 1, none⟩ = some (.slice sa n sc)) := fun w' hb =>
        ⟨below_more HB9.out (below_more B9 hb), (two_cells ((hb.block _ (by rw [L9]; exact Nat.lt_succ_self _)).trans R9)).1, (two_cells ((hb.block _ (by rw [L9]; exact Nat.lt_succ_self _)).trans R9)).2.1⟩
      obtain ⟨W9, hW9⟩ : ∃ W9, W9 = w8.alloc (.cells #[.bool f, .slice sa n sc] 50) := ⟨_, rfl⟩
      rw [← hW9] at HSh9 HC9
      have HW9 := Lib.hid hW9
      have K9 : Hid (Below W9.heap.size W9 W9) := Below.refl _ _
      obtain ⟨k9, z0, z1⟩ := HC9.out _ K9.out
      have HK9 := Lib.hid k9
      clear h8 b8 B9 R9 L9 hW9 k9 CL hok
      go_upto_region 7 with fail
      rw [← HW9.out]
      go_wp2_with fail
      refine (CRt.out _ HK9.out).mono ?_
      rintro e w10 ⟨rfl, b10⟩
      have K10 : Hid (Below W9.heap.size W9 w10) := K9.out.trans b10
      clear b10 z0 z1
      obtain ⟨_, z0, z1⟩ := HC9.out _ K10.out
      go_wp2_with fail
      refine (hplain_any _ (HSh9.out _ K10.out) HOK.out (by have := S40.out; omega)).mono ?_
      rintro e w11 ⟨p11, rfl, h11, b11⟩
      obtain ⟨pa, pc, rfl⟩ := Rk.Rows.is_slice h11
      have K11 := Lib.hid (below_more K10.out b11)
      have HB11 := Lib.hid (HC9.out _ K11.out).1
      have CSm := hsame_any _ h11 (HAr.out _ HB11.out).1
      rw [← HN.out] at CSm ⊢
      clear b11 h11 z0 z1
      go_wp2_with fail
      refine CSm.mono ?_
      rintro e w12 ⟨rfl, b12⟩
      have K12 := Lib.hid (below_more K11.out b12)
      clear b12 CSm
      obtain ⟨_, z0, z1⟩ := HC9.out _ K12.out
      go_wp2_with fail
      refine (sfrozen_any _ (HSh9.out _ K12.out)).mono ?_
      rintro e w13 ⟨rfl, b13⟩
      have K13 := Lib.hid (below_more K12.out b13)
      clear b13 z0 z1
      obtain ⟨_, z0, z1⟩ := HC9.out _ K13.out
      have ef : (f == f) = true := by simp
      go_wp2_with fail
      refine (segs_any _ (HSh9.out _ K13.out) (by have := S40.out; omega)).mono ?_
      rintro e w14 ⟨s14, rfl, h14, b14⟩
      obtain ⟨sa14, sc14, rfl⟩ := Rk.Rows.is_slice h14
      have K14 := Lib.hid (below_more K13.out b14)
      have HB14 := Lib.hid (HC9.out _ K14.out).1
      rw [← HN.out]
      clear b14 h14 z0 z1
      go_wp2_with fail
      go_ret
      exact ⟨by simp, HB14.out⟩

theorem acc_eq : Rows.laid_unicode_utf8_acceptRanges = Lib.acceptData := by kernel_rfl

set_option maxRecDepth 100000 in
theorem lifted (os : Os) (started : os.Started) (H : Type) (enc : TypeId × Value → H) :
    ReturnsInHanded {} Tryd.checked os 4 .any (fun w args => (Rows.sheetLoadsSpec.pre enc Tryd.prog Tryd.f4 [] false w args ∧ laidMetH Tryd.prog Rows.sheetLoadsRow.laid w) ∧ sizedMet enc Tryd.prog Tryd.f4 (OpenSpec.ofChange Rows.sheetLoadsSpec) false w args) (Rows.sheetLoadsSpec.post enc Tryd.prog Tryd.f4 false true false false) := by
  refine returnsInHanded_of_change_and (C := Tryd.checked) (X := fun w _ => laidMetH Tryd.prog Rows.sheetLoadsRow.laid w) (fun _ _ _ hh h => h.of_heap hh) own started (by kernel_rfl) Tryd.func4
    (ChangeSpec.witness_shaped (enc := enc) (C := Tryd.checked) (os := os) (X := fun w _ => laidMetH Tryd.prog Rows.sheetLoadsRow.laid w) false (World.laidAll Tryd.prog os Rows.sheetLoadsRow.laid) #[.bool false, .slice none 0 0] 8 (World.laidAll_os _ _ _)
      (World.shaped_of_ZipB (by kernel_rfl) (by kernel_rfl)) (by kernel_rfl) (by kernel_rfl) (by kernel_rfl)
      (by rw [MakeChecks.laidMetH_plain _ _ _ (by kernel_rfl)]; exact laidMet_laidAll _ (by kernel_rfl) (by kernel_rfl))) ?_
  intro W base args ds gs before hval0 hW _ hWt hL _
  have hval : ∀ (j : Nat) t v, Tryd.f4.params[j]? = some t → args[j]? = some v → Value.okWide Tryd.prog W .any base t v := hval0
  have hread : ∀ t ∈ Tryd.f4.params.toList, Tryd.prog.readableRec t = true ∧ t < Tryd.prog.types.size := by
    have : (Tryd.f4.params.toList.all fun t => Tryd.prog.readableRec t && decide (t < Tryd.prog.types.size)) = true := by kernel_rfl
    intro t ht
    have := List.all_eq_true.1 this t ht
    simpa using this
  rw [MakeChecks.laidMetH_plain _ _ _ (by kernel_rfl)] at hL
  have hT : Tabs W := utf8Tabs_of_readsT (U8Types.of196 Tryd.lays196) ⟨by kernel_rfl, by kernel_rfl, by kernel_rfl, by kernel_rfl, by kernel_rfl, by kernel_rfl, by kernel_rfl⟩ (Pinned.utf8First_eq ▸ Lib.laidMet.reads hL (.tail _ (.head _))) (acc_eq ▸ Lib.laidMet.reads hL (.head _))
  refine law_contract (P := Tryd.prog) (s := Rows.sheetLoadsSpec) (fn := Tryd.f4) (tb := 4) laidOut rfl hread rfl Tryd.underlying4 (fun W' => okWide_bool_mk Tryd.underlying4 _) ?_ hW ?_
  · intro ds hds
    rw [Tryd.params4] at hds
    match ds, hds with
    | [d0, d1], _ => rfl
  intro pl hA
  rw [Tryd.params4] at hA hval hWt
  obtain ⟨v0, vs0, d0, ds0, p0, q0, hargs, rfl, hp0, h0, r0⟩ := trodAll_cons hA
  obtain ⟨v1, vs1, d1, ds1, p1, q1, rfl, rfl, hp1, h1, r1⟩ := trodAll_cons r0
  obtain ⟨rfl, rfl, hpe⟩ := trodAll_nil r1
  obtain rfl : args = #[v0, v1] := by cases args; simp_all
  obtain ⟨f, rfl, rfl, _⟩ := open_bool Tryd.underlying4 (hval 0 4 v0 rfl rfl) h0
  have hwt1 : (d1.weights Tryd.prog 47).all (· ≤ reachBytes) = true := List.all_eq_true.2 fun n hn => List.all_eq_true.1 hWt n (DataW.weights_mem_each (j := 1) (t := 47) (d := d1) rfl rfl n hn)
  obtain ⟨Gl, hGl⟩ := She.open_segs (hval 1 47 v1 rfl rfl) h1 hwt1
  exact walk W hT f hGl 

theorem over : Rows.sheetLoadsRow.holds Tryd.pinned (OpenSpec.ofChange Rows.sheetLoadsSpec) :=
  OpenClaim.holds_of_wide 4 Tryd.f4 rfl rfl rfl rfl rfl rfl rfl ⟨rfl, rfl, rfl, rfl, rfl⟩ rfl rfl rfl rfl rfl (by kernel_rfl) Tryd.func4 (by kernel_rfl)
    (of_decide_eq_true (by kernel_rfl)) (by unfold Func.isWrapper; first | (rw [if_pos (by decide +kernel)]; kernel_rfl) | (rw [if_neg (by decide +kernel)]; exact ⟨rfl, rfl⟩))
    (fun os started H enc _ => lifted os started H enc)

/-- The statement. -/
theorem proved : Rows.SheetLoadsCardSaid :=
  Claim7.holds_tied_plain_at .later [] [.data, .pinned] true (true, "0353ae2d0db4c87f21033a723c8aa8ede6146840b4536422d4bfe06a1c6aab85") false over (fun _ h => by cases h) (by kernel_rfl) (fun _ h => by cases h) sheetLoads_row_tie rfl ⟨rfl, rfl⟩ (by kernel_rfl) rfl
    (fun f fn hf hfn => by
      obtain rfl : f = 4 := Option.some.inj ((show Tryd.prog.funcNamed Rows.sheetLoadsRow.func = some 4 by kernel_rfl).symm.trans hf) |>.symm
      obtain rfl : fn = Tryd.f4 := (Option.some.inj (Tryd.func4.symm.trans hfn)).symm
      exact ⟨by kernel_rfl, fun j t ht => by
        rw [Tryd.params4] at ht
        have hm : t ∈ [4, 47] := by simpa using Array.mem_of_getElem? ht
        have hall : ([4, 47].all fun u => !Tryd.prog.wantsStandIn u) = true := by kernel_rfl
        exact (show Tryd.prog.wantsStandIn t = false by simpa using List.all_eq_true.1 hall t hm)⟩)
    (by kernel_rfl)
#print axioms proved
end Go.Proofs.YtcpdoicbekcpeaaDoor.sheetLoads
