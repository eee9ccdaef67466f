/- For every list of plain values, every document and every mark: UndoFinds answers true, and its arguments read behind the call as before. No condition. THE TIED CARD: unicode/utf8's two tables start as the program's text lays them. -/
import Derived.Test.YtoejjicgnhndfaaDoorRows
import Derived.Test.YtoejjicgnhndfaaDoorTie
import Derived.Test.YtoejjicgnhndfaaDoorCards
import Derived.Test.YtoejjicgnhndfaaDoorLift
import Derived.ProofKit
import Derived.Lib.LaidU8T
import Derived.PinnedBridge
import Derived.Lay
import Derived.LaidOnce
import Derived.SevenTiedAt
import Derived.Test.YtoejjicgnhndfaaDoorUx
import Derived.Test.YtoejjicgnhndfaaDoorUo
import Derived.Test.YtoejjicgnhndfaaDoorYa
import Derived.Test.YtoejjicgnhndfaaDoorYb
import Derived.Test.YtoejjicgnhndfaaDoorYc
import Derived.SizedLaws
import Derived.Deep.RegionHeld3
set_option linter.unusedVariables false
namespace Go.Proofs.YtoejjicgnhndfaaDoor.undoFinds
open Go.ChangeShapes Go.WideShapes Go.ChangeAt Go.RowKit Go.Lib Go.Shelf Go.Proofs.YtoejjicgnhndfaaDoor.Lift Go.Proofs.YtoejjicgnhndfaaDoor.Rk Go.Proofs.YtoejjicgnhndfaaDoor.Rig Go.Proofs.YtoejjicgnhndfaaDoor.Und
open Go.ChangeMaps (open_string shut_string)

theorem own : ownKnob Tryd.prog.godebug = none := by kernel_rfl
theorem laidOut : laidOutB Tryd.prog = true := by kernel_rfl

def yp2 : U := ⟨1, 1, 2, 0, []⟩
def yp3 : U := ⟨1, 1, 3, 0, []⟩
def LP2 : List U := [yp2, yp3]
theorem lp_good : ∀ y ∈ LP2, y.good := fun y hy => by
  simp [LP2] at hy
  rcases hy with rfl | rfl
  all_goals exact ⟨⟨by decide, by decide⟩, ⟨by decide, by decide⟩, ⟨by decide, by decide⟩, ⟨by decide, by decide⟩, by decide⟩
theorem lp_last : lastA LP2 1 = some yp3 := by rfl
theorem lp_right : rightU LP2 = true := by decide +kernel
theorem lp_us {w : World} {b : Nat} (hb : w.heap[b]? = some (.cells #[.int .i64 1, .int .i64 1, .int .i64 2, .int .i64 0, .string (ByteArray.mk #[]), .int .i64 1, .int .i64 1, .int .i64 3, .int .i64 0, .string (ByteArray.mk #[])] 88 (0, 0))) : Us w (.slice (some ⟨b, 0, none⟩) 2 2) LP2 := by
  refine ⟨⟨fun x hx => ?_, some ⟨b, 0, none⟩, 2, rfl, Nat.le_refl _, by unfold maxLen; omega, .inr ⟨b, 0, rfl, (Array.getElem?_eq_some_iff.1 hb).1, fun j hj i u hu => ?_⟩⟩, lp_good⟩
  · simp [LP2] at hx
    rcases hx with rfl | rfl <;> rfl
  · rw [cell_of_row w b _ _ _ (0, 0) hb]
    rcases j with _ | _ | j
    · rcases i with _ | _ | _ | _ | _ | i
      all_goals first | exact hu | (exfalso; simp [LP2, U.cells, yp2] at hu; done)
    · rcases i with _ | _ | _ | _ | _ | i
      all_goals first | exact hu | (exfalso; simp [LP2, U.cells, yp3] at hu; done)
    · simp [LP2] at hj
      omega
theorem small_len {A : List U} (h : smallU A = true) : (∀ y ∈ A, y.t.length ≤ 1073741824) ∧ A.length ≤ 60 := by
  obtain ⟨h1, h2⟩ : sumT A ≤ 2000 ∧ A.length ≤ 60 := of_decide_eq_true h
  refine ⟨fun y hy => ?_, by omega⟩
  obtain ⟨j, hj, rfl⟩ := List.getElem_of_mem hy
  have e1 := sumT_take A hj
  have e2 := sumT_le A (j + 1)
  omega
theorem last_mem {A : List U} {y : U} {doc : Int} (h : lastA A doc = some y) : y ∈ A := by
  have := List.mem_of_find?_eq_some h
  simpa using this
set_option maxRecDepth 100000 in
set_option maxHeartbeats 8000000 in
theorem walk (w : World) (hT : Tabs w) {v : Value} {A : List U} (h : Us w v A) (doc : Int) (hd1 : -9223372036854775808 ≤ doc) (hd2 : doc ≤ 9223372036854775807) (mark : Int) (hm1 : -9223372036854775808 ≤ mark) (hm2 : mark ≤ 9223372036854775807) :
    Calls Tryd.prog 10 #[v, .int .i64 doc, .int .i64 mark] w fun e w' => e = .returned (.bool true) ∧ Below w.heap.size w w' := by
  have HG := Lib.hid h.2
  obtain ⟨a, cap, rfl, hcap, hmax, _⟩ := h.open_
  obtain ⟨n, hn⟩ : ∃ n, n = A.length := ⟨_, rfl⟩
  rw [← hn] at h hcap ⊢
  have HN := Lib.hid hn
  have HU : Hid (∀ w', Below w.heap.size w w' → Us w' (.slice a n cap) A) := fun w' hb => h.below hb (Nat.le_refl _)
  have HT : Hid (∀ w', Below w.heap.size w w' → Tabs w') := fun w' hb => hT.below hb
  obtain ⟨B0, R0, L0⟩ := ubox w #[.int .i64 1, .int .i64 1, .int .i64 2, .int .i64 0, .string (ByteArray.mk #[]), .int .i64 1, .int .i64 1, .int .i64 3, .int .i64 0, .string (ByteArray.mk #[])] 88
  obtain ⟨W0, hW0⟩ : ∃ W0, W0 = w.alloc (.cells #[.int .i64 1, .int .i64 1, .int .i64 2, .int .i64 0, .string (ByteArray.mk #[]), .int .i64 1, .int .i64 1, .int .i64 3, .int .i64 0, .string (ByteArray.mk #[])] 88) := ⟨_, rfl⟩
  rw [← hW0] at B0 R0 L0
  have K0 := Lib.hid B0
  have CL := Lib.hid (uload_yes W0 (lp_us R0) lp_right (by intro y hy; simp [LP2] at hy; rcases hy with rfl | rfl <;> decide) (by decide) (HT.out _ B0))
  have HW0 := Lib.hid hW0
  unfold maxLen at hmax
  clear h hT hn hW0 B0 R0 L0
  go_enter Tryd.func10, Tryd.ntmps10
  go_wp2_with fail
  rw [← HW0.out]
  refine CL.out.mono ?_
  rintro e w1 ⟨s1, rfl, hs1, b1⟩
  obtain ⟨sa, sc, rfl⟩ := Rk.Rows.is_slice hs1
  have K1 := Lib.hid (below_more K0.out b1)
  obtain ⟨m2, hm2'⟩ : ∃ z, z = LP2.length := ⟨_, rfl⟩
  rw [← hm2'] at hs1 ⊢
  obtain ⟨B2, R2, L2⟩ := ubox w1 #[.slice sa m2 sc] 84
  obtain ⟨W2, hW2⟩ : ∃ W2, W2 = w1.alloc (.cells #[.slice sa m2 sc] 84) := ⟨_, rfl⟩
  rw [← hW2] at B2 R2 L2
  have K2 := Lib.hid (below_more K1.out B2)
  have R7 := Lib.hid R2
  have CA := Lib.hid (slast_any 1 W2 (hs1.below B2) (by decide))
  have c7 := u1cell R2
  have HW2 := Lib.hid hW2
  clear hm2' hW2 B2 R2 L2 b1 hs1 CL
  go_upto_region 2 with fail
  rw [← HW2.out]
  go_wp2_with fail
  refine CA.out.mono ?_
  rintro e w3 ⟨o3, rfl, ho3, b3⟩
  rw [lp_last] at ho3 ⊢
  have CB := Lib.hid (lplain_any yp3 w3 ho3 (by decide))
  obtain ⟨t3, q3, rfl⟩ := ThV.iface ho3
  have K3 := Lib.hid (below_more K2.out b3)
  have R73 := Lib.hid (ukeep b3 (urow_lt R7.out) R7.out)
  clear ho3 b3 CA c7
  simp only [Option.isSome_some]
  go_wp2_with fail
  refine CB.out.mono ?_
  rintro e w4 ⟨rfl, b4⟩
  have EY : yp3.val = .agg #[.int .i64 1, .int .i64 1, .int .i64 3, .int .i64 0, .string (ByteArray.mk #[])] := rfl
  rw [EY]
  obtain ⟨B5, R5, L5⟩ := ubox w4 #[.int .i64 1, .int .i64 1, .int .i64 3, .int .i64 0, .string (ByteArray.mk #[])] 88
  obtain ⟨W5, hW5⟩ : ∃ W5, W5 = w4.alloc (.cells #[.int .i64 1, .int .i64 1, .int .i64 3, .int .i64 0, .string (ByteArray.mk #[])] 88) := ⟨_, rfl⟩
  rw [← hW5] at B5 R5 L5
  have b5 := below_more b4 B5
  have K5 := Lib.hid (below_more K3.out b5)
  have R75 := Lib.hid (ukeep b5 (urow_lt R73.out) R73.out)
  obtain ⟨p0, p1, p2, p3, p4⟩ := u5cells R5
  have HW5 := Lib.hid hW5
  have NE := neq_undo 1 1 3 0 (ByteArray.mk #[])
  have GU := guard_undo
  clear hW5 B5 R5 L5 b4 b5 CB EY R73 R7
  go_upto_region 6 with fail
  rw [← HW5.out]
  clear p0 p1 p2 p3 p4 NE HW2 HW5 HW0
  go_wp2_with fail
  refine (usmall_any W5 (HU.out _ K5.out)).mono ?_
  rintro e w6 ⟨rfl, b6⟩
  have K6 := Lib.hid (below_more K5.out b6)
  have R76 := Lib.hid (ukeep b6 (urow_lt R75.out) R75.out)
  clear b6 R75
  cases hs : smallU A with
  | false =>
    go_wp2_with fail
    go_ret
    exact ⟨rfl, K6.out⟩
  | true =>
    obtain ⟨s1, s2⟩ := small_len hs
    have HS := Lib.hid s1
    have s3 : n ≤ 60 := by rw [HN.out]; exact s2
    clear s1 s2 hs
    go_wp2_with fail
    refine (uright_any w6 (HU.out _ K6.out)).mono ?_
    rintro e w7 ⟨rfl, b7⟩
    have K7 := Lib.hid (below_more K6.out b7)
    have R77 := Lib.hid (ukeep b7 (urow_lt R76.out) R76.out)
    clear b7 R76
    cases hr : rightU A with
    | false =>
      go_wp2_with fail
      go_ret
      exact ⟨rfl, K7.out⟩
    | true =>
      have CL := Lib.hid (uload_yes w7 (HU.out _ K7.out) hr HS.out (by rw [← HN.out]; omega) (HT.out _ K7.out))
      clear hr
      go_wp2_with (go_at_call 50; refine CL.out.mono ?_; rintro e w8 ⟨s8, rfl, hs8, b8⟩; obtain ⟨la, lc, rfl⟩ := Rk.Rows.is_slice hs8; obtain ⟨m, hm⟩ : ∃ m, m = A.length := ⟨_, rfl⟩; rw [← hm] at hs8 ⊢; have R78 := ukeep b8 (urow_lt R77.out) R77.out; have c78 := u1cell R78; have f78 := ublock_frozen (j := 0) R78; have HM := Lib.hid hm; have H8 := Lib.hid hs8; have HR8 := Lib.hid R78; have K8 := Lib.hid (below_more K7.out b8); clear hm hs8 R78 b8)
      obtain ⟨W9, hW9⟩ : ∃ W9, W9 = w8.setCell ⟨w1.heap.size, 0, none⟩ (.slice la m lc) := ⟨_, rfl⟩
      have K9 : Hid (Below w.heap.size w W9) := by show Below _ _ _; rw [hW9]; exact K8.out.setCell (p := ⟨w1.heap.size, 0, none⟩) K1.out.size _
      have R79 : Hid (W9.heap[w1.heap.size]? = some (.cells #[.slice la m lc] 84 (0, 0))) := by show _ = _; rw [hW9]; exact uset_block (i := 0) HR8.out
      have H9 : Hid (Stk W9 (.slice la m lc) A) := by show Stk _ _ _; rw [hW9]; exact H8.out.set HR8.out (by decide)
      rw [← hW9]
      clear hW9 c78 f78 HR8 H8 K8 R77 CL
      refine (slast_any doc W9 H9.out (by rw [← HN.out]; omega)).mono ?_
      rintro e w10 ⟨o10, rfl, ho10, b10⟩
      have K10 := Lib.hid (below_more K9.out b10)
      have R710 := Lib.hid (ukeep b10 (urow_lt R79.out) R79.out)
      have H10 := Lib.hid (H9.out.below b10)
      have CR := Lib.hid (rlast_any doc w10 (HU.out _ K10.out))
      clear b10 R79 H9
      cases hO : lastA A doc with
      | none =>
        rw [hO] at ho10 CR
        obtain rfl : o10 = .nilIface := ho10
        unfold valO at CR
        simp only [Option.isSome_none] at CR ⊢
        go_wp2_with fail
        refine CR.out.mono ?_
        rintro e w11 ⟨rfl, b11⟩
        obtain ⟨B12, R12, L12⟩ := ubox w11 #[.int .i64 0, .int .i64 0, .int .i64 0, .int .i64 0, .string (ByteArray.mk #[])] 88
        obtain ⟨W12, hW12⟩ : ∃ W12, W12 = w11.alloc (.cells #[.int .i64 0, .int .i64 0, .int .i64 0, .int .i64 0, .string (ByteArray.mk #[])] 88) := ⟨_, rfl⟩
        rw [← hW12] at B12 R12 L12
        have b12 := below_more b11 B12
        have K12 := Lib.hid (below_more K10.out b12)
        have R712 := Lib.hid (ukeep b12 (urow_lt R710.out) R710.out)
        have H12 := Lib.hid (H10.out.below b12)
        have R15 := Lib.hid R12
        have CB2 := Lib.hid (lplain_nil W12)
        have HW12 := Lib.hid hW12
        clear hW12 B12 R12 L12 b11 b12 R710 H10 CR
        go_upto_region 11 with fail
        rw [← HW12.out]
        go_wp2_with fail
        refine CB2.out.mono ?_
        rintro e w13 ⟨rfl, b13⟩
        obtain ⟨B14, R14, L14⟩ := ubox w13 #[.int .i64 0, .int .i64 0, .int .i64 0, .int .i64 0, .string (ByteArray.mk #[])] 88
        obtain ⟨W14, hW14⟩ : ∃ W14, W14 = w13.alloc (.cells #[.int .i64 0, .int .i64 0, .int .i64 0, .int .i64 0, .string (ByteArray.mk #[])] 88) := ⟨_, rfl⟩
        rw [← hW14] at B14 R14 L14
        have b14 := below_more b13 B14
        have K14 := Lib.hid (below_more K12.out b14)
        have R714 := Lib.hid (ukeep b14 (urow_lt R712.out) R712.out)
        have H14 := Lib.hid (H12.out.below b14)
        have R154 := ukeep b14 (urow_lt R15.out) R15.out
        obtain ⟨p0, p1, p2, p3, p4⟩ := u5cells R14
        obtain ⟨q0, q1, q2, q3, q4⟩ := u5cells R154
        have NE := neq_undo 0 0 0 0 (ByteArray.mk #[])
        have GU := guard_undo
        have HW14 := Lib.hid hW14
        clear hW14 B14 R14 L14 b13 b14 R712 H12 R15 R154 CB2 HW12
        go_upto_region 12 with fail
        rw [← HW14.out]
        obtain ⟨WZ, hWZ⟩ : ∃ WZ, WZ = W14 := ⟨_, rfl⟩
        rw [← hWZ] at R714 K14 H14 p0 p1 p2 p3 p4 q0 q1 q2 q3 q4 ⊢
        have RZ := Lib.hid R714.out
        have KZ : Hid (∀ w', Below WZ.heap.size WZ w' → Below w.heap.size w w') := fun w' hb => below_more K14.out hb
        have HZ : Hid (∀ w', Below WZ.heap.size WZ w' → Stk w' (.slice la m lc) A) := fun w' hb => H14.out.below hb
        clear hWZ R714 H14 HW14
        go_upto_region 14 with fail
        clear p0 p1 p2 p3 p4 q0 q1 q2 q3 q4 NE
        have CD : Hid (∀ w', Below WZ.heap.size WZ w' → Calls Tryd.prog 61 #[.agg #[.slice la m lc], .int .i64 mark] w' fun e w'' => ∃ s', e = .returned (.agg #[s']) ∧ Stk w'' s' (dropA A mark) ∧ Below w'.heap.size w' w'') := fun w' hb => sdrop_any mark w' (HZ.out _ hb) (by rw [← HN.out]; omega)
        have CRD : Hid (∀ w', Below WZ.heap.size WZ w' → Calls Tryd.prog 62 #[.slice a n cap, .int .i64 mark] w' fun e w'' => ∃ v', e = .returned v' ∧ Us w'' v' (dropA A mark) ∧ Below w'.heap.size w' w'') := fun w' hb => rdrop_any mark w' (HU.out _ (KZ.out _ hb)) (by rw [← HN.out]; omega)
        have CP2 : Hid (∀ w', Below WZ.heap.size WZ w' → Calls Tryd.prog 51 #[.agg #[.slice la m lc]] w' fun e w'' => ∃ v, e = .returned v ∧ Us w'' v A ∧ Below w'.heap.size w' w'') := fun w' hb => splain_any w' (HZ.out _ hb) HG.out HS.out (by rw [← HN.out]; omega)
        have DG : Hid ((∀ y ∈ dropA A mark, y.good) ∧ (∀ y ∈ dropA A mark, y.t.length ≤ 1073741824) ∧ (dropA A mark).length ≤ 10000) := ⟨fun y hy => HG.out y (List.mem_filter.1 hy).1, fun y hy => HS.out y (List.mem_filter.1 hy).1, Nat.le_trans (List.length_filter_le _ _) (by rw [← HN.out]; omega)⟩
        have BZ : Hid (∀ w', Below WZ.heap.size WZ w' → Below WZ.heap.size WZ w' ∧ w'.cell? ⟨w1.heap.size, 0, none⟩ = some (.slice la m lc)) := fun w' hb => ⟨hb, u1cell (ukeep hb (urow_lt RZ.out) RZ.out)⟩
        obtain ⟨_, e7⟩ := BZ.out _ (Below.refl _ _)
        go_wp2_with fail
        refine (CD.out _ (Below.refl _ _)).mono ?_
        rintro e w20 ⟨s20, rfl, hs20, b20⟩
        have J20 := Lib.hid b20
        obtain ⟨da, dc, rfl⟩ := Rk.Rows.is_slice hs20
        have CPD := Lib.hid (splain_any w20 hs20 DG.out.1 DG.out.2.1 DG.out.2.2)
        obtain ⟨dn, hdn⟩ : ∃ z, z = (dropA A mark).length := ⟨_, rfl⟩
        rw [← hdn] at CPD ⊢
        clear hdn hs20 b20 e7
        go_wp2_with fail
        refine CPD.out.mono ?_
        rintro e w21 ⟨v21, rfl, hu21, b21⟩
        obtain ⟨pa, pc, rfl, _, _, _⟩ := hu21.open_
        have J21 := Lib.hid (below_more J20.out b21)
        have HU21 : Hid (∀ w', Below w21.heap.size w21 w' → Us w' (.slice pa (dropA A mark).length pc) (dropA A mark)) := fun w' hb => hu21.below hb (Nat.le_refl _)
        clear hu21 b21 CPD
        obtain ⟨pn, hpn⟩ : ∃ z, z = (dropA A mark).length := ⟨_, rfl⟩
        rw [← hpn] at HU21 ⊢
        clear hpn
        go_wp2_with fail
        refine (CRD.out _ J21.out).mono ?_
        rintro e w22 ⟨v22, rfl, hu22, b22⟩
        obtain ⟨ra, rc, rfl, _, _, _⟩ := hu22.open_
        have J22 := Lib.hid (below_more J21.out b22)
        have CS := Lib.hid (usame_any w22 (HU21.out _ b22) hu22)
        obtain ⟨rn, hrn⟩ : ∃ z, z = (dropA A mark).length := ⟨_, rfl⟩
        rw [← hrn] at CS ⊢
        clear hrn hu22 b22 HU21 CRD
        go_wp2_with fail
        refine CS.out.mono ?_
        rintro e w23 ⟨rfl, b23⟩
        have J23 := Lib.hid (below_more J22.out b23)
        clear b23 CS
        obtain ⟨_, e7⟩ := BZ.out _ J23.out
        go_wp2_with fail
        refine (CP2.out _ J23.out).mono ?_
        rintro e w24 ⟨v24, rfl, hu24, b24⟩
        obtain ⟨qa, qc, rfl, _, _, _⟩ := hu24.open_
        have J24 := Lib.hid (below_more J23.out b24)
        have CS := Lib.hid (usame_any w24 hu24 (HU.out _ (KZ.out _ J24.out)))
        obtain ⟨qn, hqn⟩ : ∃ z, z = A.length := ⟨_, rfl⟩
        rw [← hqn] at CS ⊢
        clear hqn hu24 b24 e7
        go_wp2_with fail
        refine CS.out.mono ?_
        rintro e w25 ⟨rfl, b25⟩
        have J25 := Lib.hid (below_more J24.out b25)
        clear b25 CS
        go_wp2_with fail
        go_ret
        exact ⟨ret_bool (by simp), KZ.out _ J25.out⟩
      | some y =>
        rw [hO] at ho10 CR
        have HY10 : Hid (ThV w10 o10 y) := ho10
        obtain ⟨t10, q10, rfl⟩ := HY10.out.iface
        have hyl := HS.out y (last_mem hO)
        unfold valO at CR
        simp only [Option.isSome_some] at CR ⊢
        obtain ⟨yk, yd, ym, yl, yt⟩ := y
        unfold U.val at CR
        simp only at CR
        go_wp2_with fail
        refine CR.out.mono ?_
        rintro e w11 ⟨rfl, b11⟩
        obtain ⟨B12, R12, L12⟩ := ubox w11 #[.int .i64 yk, .int .i64 yd, .int .i64 ym, .int .i64 yl, .string (Let.mk yt)] 88
        obtain ⟨W12, hW12⟩ : ∃ W12, W12 = w11.alloc (.cells #[.int .i64 yk, .int .i64 yd, .int .i64 ym, .int .i64 yl, .string (Let.mk yt)] 88) := ⟨_, rfl⟩
        rw [← hW12] at B12 R12 L12
        have b12 := below_more b11 B12
        have K12 := Lib.hid (below_more K10.out b12)
        have R712 := Lib.hid (ukeep b12 (urow_lt R710.out) R710.out)
        have H12 := Lib.hid (H10.out.below b12)
        have R15 := Lib.hid R12
        have CB2 := Lib.hid (lplain_any _ W12 (HY10.out.below b12 (Nat.le_refl _)) hyl)
        have HW12 := Lib.hid hW12
        clear hW12 B12 R12 L12 b11 b12 R710 H10 CR
        go_upto_region 11 with fail
        rw [← HW12.out]
        go_wp2_with fail
        refine CB2.out.mono ?_
        rintro e w13 ⟨rfl, b13⟩
        unfold U.val
        obtain ⟨B14, R14, L14⟩ := ubox w13 #[.int .i64 yk, .int .i64 yd, .int .i64 ym, .int .i64 yl, .string (Let.mk yt)] 88
        obtain ⟨W14, hW14⟩ : ∃ W14, W14 = w13.alloc (.cells #[.int .i64 yk, .int .i64 yd, .int .i64 ym, .int .i64 yl, .string (Let.mk yt)] 88) := ⟨_, rfl⟩
        rw [← hW14] at B14 R14 L14
        have b14 := below_more b13 B14
        have K14 := Lib.hid (below_more K12.out b14)
        have R714 := Lib.hid (ukeep b14 (urow_lt R712.out) R712.out)
        have H14 := Lib.hid (H12.out.below b14)
        have R154 := ukeep b14 (urow_lt R15.out) R15.out
        obtain ⟨p0, p1, p2, p3, p4⟩ := u5cells R14
        obtain ⟨q0, q1, q2, q3, q4⟩ := u5cells R154
        have NE := neq_undo yk yd ym yl (Let.mk yt)
        have GU := guard_undo
        have HW14 := Lib.hid hW14
        clear hW14 B14 R14 L14 b13 b14 R712 H12 R15 R154 CB2 HW12
        go_upto_region 12 with fail
        rw [← HW14.out]
        obtain ⟨WZ, hWZ⟩ : ∃ WZ, WZ = W14 := ⟨_, rfl⟩
        rw [← hWZ] at R714 K14 H14 p0 p1 p2 p3 p4 q0 q1 q2 q3 q4 ⊢
        have RZ := Lib.hid R714.out
        have KZ : Hid (∀ w', Below WZ.heap.size WZ w' → Below w.heap.size w w') := fun w' hb => below_more K14.out hb
        have HZ : Hid (∀ w', Below WZ.heap.size WZ w' → Stk w' (.slice la m lc) A) := fun w' hb => H14.out.below hb
        clear hWZ R714 H14 HW14
        go_upto_region 14 with fail
        clear p0 p1 p2 p3 p4 q0 q1 q2 q3 q4 NE
        have CD : Hid (∀ w', Below WZ.heap.size WZ w' → Calls Tryd.prog 61 #[.agg #[.slice la m lc], .int .i64 mark] w' fun e w'' => ∃ s', e = .returned (.agg #[s']) ∧ Stk w'' s' (dropA A mark) ∧ Below w'.heap.size w' w'') := fun w' hb => sdrop_any mark w' (HZ.out _ hb) (by rw [← HN.out]; omega)
        have CRD : Hid (∀ w', Below WZ.heap.size WZ w' → Calls Tryd.prog 62 #[.slice a n cap, .int .i64 mark] w' fun e w'' => ∃ v', e = .returned v' ∧ Us w'' v' (dropA A mark) ∧ Below w'.heap.size w' w'') := fun w' hb => rdrop_any mark w' (HU.out _ (KZ.out _ hb)) (by rw [← HN.out]; omega)
        have CP2 : Hid (∀ w', Below WZ.heap.size WZ w' → Calls Tryd.prog 51 #[.agg #[.slice la m lc]] w' fun e w'' => ∃ v, e = .returned v ∧ Us w'' v A ∧ Below w'.heap.size w' w'') := fun w' hb => splain_any w' (HZ.out _ hb) HG.out HS.out (by rw [← HN.out]; omega)
        have DG : Hid ((∀ y ∈ dropA A mark, y.good) ∧ (∀ y ∈ dropA A mark, y.t.length ≤ 1073741824) ∧ (dropA A mark).length ≤ 10000) := ⟨fun y hy => HG.out y (List.mem_filter.1 hy).1, fun y hy => HS.out y (List.mem_filter.1 hy).1, Nat.le_trans (List.length_filter_le _ _) (by rw [← HN.out]; omega)⟩
        have BZ : Hid (∀ w', Below WZ.heap.size WZ w' → Below WZ.heap.size WZ w' ∧ w'.cell? ⟨w1.heap.size, 0, none⟩ = some (.slice la m lc)) := fun w' hb => ⟨hb, u1cell (ukeep hb (urow_lt RZ.out) RZ.out)⟩
        obtain ⟨_, e7⟩ := BZ.out _ (Below.refl _ _)
        go_wp2_with fail
        refine (CD.out _ (Below.refl _ _)).mono ?_
        rintro e w20 ⟨s20, rfl, hs20, b20⟩
        have J20 := Lib.hid b20
        obtain ⟨da, dc, rfl⟩ := Rk.Rows.is_slice hs20
        have CPD := Lib.hid (splain_any w20 hs20 DG.out.1 DG.out.2.1 DG.out.2.2)
        obtain ⟨dn, hdn⟩ : ∃ z, z = (dropA A mark).length := ⟨_, rfl⟩
        rw [← hdn] at CPD ⊢
        clear hdn hs20 b20 e7
        go_wp2_with fail
        refine CPD.out.mono ?_
        rintro e w21 ⟨v21, rfl, hu21, b21⟩
        obtain ⟨pa, pc, rfl, _, _, _⟩ := hu21.open_
        have J21 := Lib.hid (below_more J20.out b21)
        have HU21 : Hid (∀ w', Below w21.heap.size w21 w' → Us w' (.slice pa (dropA A mark).length pc) (dropA A mark)) := fun w' hb => hu21.below hb (Nat.le_refl _)
        clear hu21 b21 CPD
        obtain ⟨pn, hpn⟩ : ∃ z, z = (dropA A mark).length := ⟨_, rfl⟩
        rw [← hpn] at HU21 ⊢
        clear hpn
        go_wp2_with fail
        refine (CRD.out _ J21.out).mono ?_
        rintro e w22 ⟨v22, rfl, hu22, b22⟩
        obtain ⟨ra, rc, rfl, _, _, _⟩ := hu22.open_
        have J22 := Lib.hid (below_more J21.out b22)
        have CS := Lib.hid (usame_any w22 (HU21.out _ b22) hu22)
        obtain ⟨rn, hrn⟩ : ∃ z, z = (dropA A mark).length := ⟨_, rfl⟩
        rw [← hrn] at CS ⊢
        clear hrn hu22 b22 HU21 CRD
        go_wp2_with fail
        refine CS.out.mono ?_
        rintro e w23 ⟨rfl, b23⟩
        have J23 := Lib.hid (below_more J22.out b23)
        clear b23 CS
        obtain ⟨_, e7⟩ := BZ.out _ J23.out
        go_wp2_with fail
        refine (CP2.out _ J23.out).mono ?_
        rintro e w24 ⟨v24, rfl, hu24, b24⟩
        obtain ⟨qa, qc, rfl, _, _, _⟩ := hu24.open_
        have J24 := Lib.hid (below_more J23.out b24)
        have CS := Lib.hid (usame_any w24 hu24 (HU.out _ (KZ.out _ J24.out)))
        obtain ⟨qn, hqn⟩ : ∃ z, z = A.length := ⟨_, rfl⟩
        rw [← hqn] at CS ⊢
        clear hqn hu24 b24 e7
        go_wp2_with fail
        refine CS.out.mono ?_
        rintro e w25 ⟨rfl, b25⟩
        have J25 := Lib.hid (below_more J24.out b25)
        clear b25 CS
        go_wp2_with fail
        go_ret
        exact ⟨ret_bool (by simp), KZ.out _ J25.out⟩

theorem acc_eq : Rows.laid_unicode_utf8_acceptRanges = Lib.acceptData := by kernel_rfl

set_option maxRecDepth 100000 in
theorem lifted (os : Os) (started : os.Started) (H : Type) (enc : TypeId × Value → H) :
    ReturnsInHanded {} Tryd.checked os 10 .any (fun w args => (Rows.undoFindsSpec.pre enc Tryd.prog Tryd.f10 [] false w args ∧ laidMetH Tryd.prog Rows.undoFindsRow.laid w) ∧ sizedMet enc Tryd.prog Tryd.f10 (OpenSpec.ofChange Rows.undoFindsSpec) false w args) (Rows.undoFindsSpec.post enc Tryd.prog Tryd.f10 false true false false) := by
  refine returnsInHanded_of_change_and (C := Tryd.checked) (X := fun w _ => laidMetH Tryd.prog Rows.undoFindsRow.laid w) (fun _ _ _ hh h => h.of_heap hh) own started (by kernel_rfl) Tryd.func10
    (ChangeSpec.witness_shaped (enc := enc) (C := Tryd.checked) (os := os) (X := fun w _ => laidMetH Tryd.prog Rows.undoFindsRow.laid w) false (World.laidAll Tryd.prog os Rows.undoFindsRow.laid) #[.slice none 0 0, .int .i64 0, .int .i64 0] 8 (World.laidAll_os _ _ _)
      (World.shaped_of_ZipB (by kernel_rfl) (by kernel_rfl)) (by kernel_rfl) (by kernel_rfl) (by kernel_rfl)
      (by rw [MakeChecks.laidMetH_plain _ _ _ (by kernel_rfl)]; exact laidMet_laidAll _ (by kernel_rfl) (by kernel_rfl))) ?_
  intro W base args ds gs before hval0 hW _ hWt hL _
  have hval : ∀ (j : Nat) t v, Tryd.f10.params[j]? = some t → args[j]? = some v → Value.okWide Tryd.prog W .any base t v := hval0
  have hread : ∀ t ∈ Tryd.f10.params.toList, Tryd.prog.readableRec t = true ∧ t < Tryd.prog.types.size := by
    have : (Tryd.f10.params.toList.all fun t => Tryd.prog.readableRec t && decide (t < Tryd.prog.types.size)) = true := by kernel_rfl
    intro t ht
    have := List.all_eq_true.1 this t ht
    simpa using this
  rw [MakeChecks.laidMetH_plain _ _ _ (by kernel_rfl)] at hL
  have hT : Tabs W := utf8Tabs_of_readsT (U8Types.of196 Tryd.lays196) ⟨by kernel_rfl, by kernel_rfl, by kernel_rfl, by kernel_rfl, by kernel_rfl, by kernel_rfl, by kernel_rfl⟩ (Pinned.utf8First_eq ▸ Lib.laidMet.reads hL (.tail _ (.head _))) (acc_eq ▸ Lib.laidMet.reads hL (.head _))
  refine law_contract (P := Tryd.prog) (s := Rows.undoFindsSpec) (fn := Tryd.f10) (tb := 4) laidOut rfl hread rfl Tryd.underlying4 (fun W' => okWide_bool_mk Tryd.underlying4 _) ?_ hW ?_
  · intro ds hds
    rw [Tryd.params10] at hds
    match ds, hds with
    | [d0, d1, d2], _ => rfl
  intro pl hA
  rw [Tryd.params10] at hA hval hWt
  obtain ⟨v0, vs0, d0, ds0, p0, q0, hargs, rfl, hp0, h0, r0⟩ := trodAll_cons hA
  obtain ⟨v1, vs1, d1, ds1, p1, q1, rfl, rfl, hp1, h1, r1⟩ := trodAll_cons r0
  obtain ⟨v2, vs2, d2, ds2, p2, q2, rfl, rfl, hp2, h2, r2⟩ := trodAll_cons r1
  obtain ⟨rfl, rfl, hpe⟩ := trodAll_nil r2
  obtain rfl : args = #[v0, v1, v2] := by cases args; simp_all
  have hwt0 : (d0.weights Tryd.prog 81).all (· ≤ reachBytes) = true := List.all_eq_true.2 fun n hn => List.all_eq_true.1 hWt n (DataW.weights_mem_each (j := 0) (t := 81) (d := d0) rfl rfl n hn)
  obtain ⟨Al, hGl⟩ := Und.open_undos (hval 0 81 v0 rfl rfl) h0 hwt0
  obtain ⟨doc, rfl, rfl, _, hw1⟩ := open_int Tryd.underlying3 (hval 1 3 v1 rfl rfl) h1
  have hb1 : -9223372036854775808 ≤ doc ∧ doc ≤ 9223372036854775807 := by simpa [Lit.wf, IntKind.min, IntKind.max, IntKind.signed, IntKind.bits] using hw1
  obtain ⟨mark, rfl, rfl, _, hw2⟩ := open_int Tryd.underlying3 (hval 2 3 v2 rfl rfl) h2
  have hb2 : -9223372036854775808 ≤ mark ∧ mark ≤ 9223372036854775807 := by simpa [Lit.wf, IntKind.min, IntKind.max, IntKind.signed, IntKind.bits] using hw2
  exact walk W hT hGl doc hb1.1 hb1.2 mark hb2.1 hb2.2 

theorem over : Rows.undoFindsRow.holds Tryd.pinned (OpenSpec.ofChange Rows.undoFindsSpec) :=
  OpenClaim.holds_of_wide 10 Tryd.f10 rfl rfl rfl rfl rfl rfl rfl ⟨rfl, rfl, rfl, rfl, rfl⟩ rfl rfl rfl rfl rfl (by kernel_rfl) Tryd.func10 (by kernel_rfl)
    (of_decide_eq_true (by kernel_rfl)) (by unfold Func.isWrapper; first | (rw [if_pos (by decide +kernel)]; kernel_rfl) | (rw [if_neg (by decide +kernel)]; exact ⟨rfl, rfl⟩))
    (fun os started H enc _ => lifted os started H enc)

/-- The statement. -/
theorem proved : Rows.UndoFindsCardSaid :=
  Claim7.holds_tied_plain_at .later [] [.data, .pinned] true (true, "3a977cad1127ddb1e8b4d38ffec3cb5556e3c2924b6afded30eded5dffa0be69") true over (fun _ h => by cases h) (by kernel_rfl) (fun _ h => by cases h) undoFinds_row_tie rfl ⟨rfl, rfl⟩ (by kernel_rfl) rfl
    (fun f fn hf hfn => by
      obtain rfl : f = 10 := Option.some.inj ((show Tryd.prog.funcNamed Rows.undoFindsRow.func = some 10 by kernel_rfl).symm.trans hf) |>.symm
      obtain rfl : fn = Tryd.f10 := (Option.some.inj (Tryd.func10.symm.trans hfn)).symm
      exact ⟨by kernel_rfl, fun j t ht => by
        rw [Tryd.params10] at ht
        have hm : t ∈ [81, 3, 3] := by simpa using Array.mem_of_getElem? ht
        have hall : ([81, 3, 3].all fun u => !Tryd.prog.wantsStandIn u) = true := by kernel_rfl
        exact (show Tryd.prog.wantsStandIn t = false by simpa using List.all_eq_true.1 hall t hm)⟩)
    (by kernel_rfl)
#print axioms proved
end Go.Proofs.YtoejjicgnhndfaaDoor.undoFinds
