/- For every list of plain values, every plain value and every depth: UndoPushes answers true, and its arguments read behind the call as before. No condition. THE TIED CARD: unicode/utf8's two tables start as the program's text lays them. -/
import Derived.Test.YtoejjicgnhndfaaDoorRows
import Derived.Test.YtoejjicgnhndfaaDoorTie
import Derived.Test.YtoejjicgnhndfaaDoorCards
import Derived.Test.YtoejjicgnhndfaaDoorLift
import Derived.ProofKit
import Derived.Lib.LaidU8T
import Derived.PinnedBridge
import Derived.Lay
import Derived.LaidOnce
import Derived.SevenTiedAt
import Derived.Test.YtoejjicgnhndfaaDoorUx
import Derived.Test.YtoejjicgnhndfaaDoorUo2
import Derived.SizedLaws
import Derived.Deep.RegionHeld3
import Derived.Deep.DeepCutAuto
import Derived.Deep.CutBlock
set_option linter.unusedVariables false
namespace Go.Proofs.YtoejjicgnhndfaaDoor.undoPushes
open Go.ChangeShapes Go.WideShapes Go.ChangeAt Go.RowKit Go.Lib Go.Shelf Go.Proofs.YtoejjicgnhndfaaDoor.Lift Go.Proofs.YtoejjicgnhndfaaDoor.Rk Go.Proofs.YtoejjicgnhndfaaDoor.Rig Go.Proofs.YtoejjicgnhndfaaDoor.Und
open Go.ChangeMaps (open_string shut_string)

theorem own : ownKnob Tryd.prog.godebug = none := by kernel_rfl
theorem laidOut : laidOutB Tryd.prog = true := by kernel_rfl

def yp : U := ⟨1, 0, 3, 0, []⟩
theorem yp_good : ∀ y ∈ [yp], y.good := fun y hy => by
  simp at hy
  subst hy
  exact ⟨⟨by decide, by decide⟩, ⟨by decide, by decide⟩, ⟨by decide, by decide⟩, ⟨by decide, by decide⟩, by decide⟩
theorem yp_push : pushA [] yp 2 = [yp] := by
  unfold pushA
  rw [if_neg (by decide)]
  rfl
theorem small_len {A : List U} (h : smallU A = true) : (∀ y ∈ A, y.t.length ≤ 1073741824) ∧ A.length ≤ 60 := by
  obtain ⟨h1, h2⟩ : sumT A ≤ 2000 ∧ A.length ≤ 60 := of_decide_eq_true h
  refine ⟨fun y hy => ?_, by omega⟩
  obtain ⟨j, hj, rfl⟩ := List.getElem_of_mem hy
  have e1 := sumT_take A hj
  have e2 := sumT_le A (j + 1)
  omega
theorem pushA_mem {A : List U} {y z : U} {d : Int} (h : z ∈ pushA A y d) : z ∈ A ∨ z = y := by
  unfold pushA at h
  split at h
  · rcases List.mem_append.1 h with h | h
    · exact .inl (List.mem_of_mem_tail h)
    · exact .inr (by simpa using h)
  · rcases List.mem_append.1 h with h | h
    · exact .inl h
    · exact .inr (by simpa using h)
theorem pushA_len (A : List U) (y : U) (d : Int) : (pushA A y d).length ≤ A.length + 1 := by
  unfold pushA
  split
  · simp
  · simp
theorem pushO_mem {A : List U} {z : U} {d : Int} (h : pushO A d = some z) : z ∈ A := by
  unfold pushO at h
  split at h
  · exact List.mem_of_mem_head? h
  · cases h
set_option maxRecDepth 100000 in
set_option maxHeartbeats 16000000 in
theorem walk (w : World) (hT : Tabs w) {v : Value} {A : List U} (h : Us w v A) (y : U) (hg : y.good) (dd : Int) (hd1 : -9223372036854775808 ≤ dd) (hd2 : dd ≤ 9223372036854775807) :
    Calls Tryd.prog 9 #[v, y.val, .int .i64 dd] w fun e w' => e = .returned (.bool true) ∧ Below w.heap.size w w' := by
  have HG := Lib.hid h.2
  obtain ⟨a, cap, rfl, hcap, hmax, _⟩ := h.open_
  obtain ⟨n, hn⟩ : ∃ n, n = A.length := ⟨_, rfl⟩
  rw [← hn] at h hcap ⊢
  have HN := Lib.hid hn
  have HU : Hid (∀ w', Below w.heap.size w w' → Us w' (.slice a n cap) A) := fun w' hb => h.below hb (Nat.le_refl _)
  have HT : Hid (∀ w', Below w.heap.size w w' → Tabs w') := fun w' hb => hT.below hb
  have HYG := Lib.hid hg
  have CQ : Hid (∀ w', Calls Tryd.prog 55 #[.agg #[.slice none 0 0], .iface 95 (.agg #[.int .i64 0, .int .i64 3, .int .i64 0]), .int .i64 2] w' fun e w'' => ∃ s' o, e = .returned (.tuple #[.agg #[s'], o]) ∧ Stk w'' s' [yp] ∧ OutV w'' o (pushO [] 2) ∧ Below w'.heap.size w' w'') := fun w' => by
    have := push_any (s := .slice none 0 0) (v := putV 0 3 0) (A := []) (y := yp) 2 w' (Rk.Rows.nil_ _ _ _) (.inl ⟨rfl, rfl, rfl⟩) (by simp) (by omega) (by omega)
    rwa [yp_push] at this
  obtain ⟨yk, hyk⟩ : ∃ z, z = y.k := ⟨_, rfl⟩
  obtain ⟨yd, hyd⟩ : ∃ z, z = y.d := ⟨_, rfl⟩
  obtain ⟨ym, hym⟩ : ∃ z, z = y.m := ⟨_, rfl⟩
  obtain ⟨yl, hyl⟩ : ∃ z, z = y.l := ⟨_, rfl⟩
  obtain ⟨yt, hyt⟩ : ∃ z, z = y.t := ⟨_, rfl⟩
  have EV : Hid (y.val = .agg #[.int .i64 yk, .int .i64 yd, .int .i64 ym, .int .i64 yl, .string (Let.mk yt)]) := by rw [hyk, hyd, hym, hyl, hyt]; rfl
  have EC : Hid (y.cells = [.int .i64 yk, .int .i64 yd, .int .i64 ym, .int .i64 yl, .string (Let.mk yt)]) := by rw [hyk, hyd, hym, hyl, hyt]; rfl
  have EL : Hid (yt = y.t) := hyt
  rw [EV.out]
  have hyb : yt.length ≤ 140737488355328 := by rw [hyt]; exact hg.2.2.2.2
  have ms : (Let.mk yt).size = yt.length := Let.mk_size yt
  have RY : Hid (∀ (w' : World) (b : Nat), w'.heap[b]? = some (.cells #[.int .i64 yk, .int .i64 yd, .int .i64 ym, .int .i64 yl, .string (Let.mk yt)] 88 (0, 0)) → Us w' (.slice (some ⟨b, 0, none⟩) 1 1) [y]) := fun w' b hb => ⟨by show RowK _ _ _ [y.cells]; rw [EC.out]; exact row_one (y := [.int .i64 yk, .int .i64 yd, .int .i64 ym, .int .i64 yl, .string (Let.mk yt)]) hb rfl, fun z hz => by simp at hz; rw [hz]; exact HYG.out⟩
  obtain ⟨B0, R0, L0⟩ := ubox w #[.int .i64 yk, .int .i64 yd, .int .i64 ym, .int .i64 yl, .string (Let.mk yt)] 88
  obtain ⟨W0, hW0⟩ : ∃ W0, W0 = w.alloc (.cells #[.int .i64 yk, .int .i64 yd, .int .i64 ym, .int .i64 yl, .string (Let.mk yt)] 88) := ⟨_, rfl⟩
  rw [← hW0] at B0 R0 L0
  have BX : Hid (∀ w', Below W0.heap.size W0 w' → w'.cell? ⟨w.heap.size, 0, none⟩ = some (.int .i64 yk) ∧ w'.cell? ⟨w.heap.size, 1, none⟩ = some (.int .i64 yd) ∧ w'.cell? ⟨w.heap.size, 2, none⟩ = some (.int .i64 ym) ∧ w'.cell? ⟨w.heap.size, 3, none⟩ = some (.int .i64 yl) ∧ w'.cell? ⟨w.heap.size, 4, none⟩ = some (.string (Let.mk yt))) := fun w' hb => u5cells (ukeep hb (urow_lt R0) R0)
  have KB : Hid (∀ w', Below W0.heap.size W0 w' → Below w.heap.size w w') := fun w' hb => below_more B0 hb
  have HW0 := Lib.hid hW0
  unfold maxLen at hmax
  clear h hT hn hg hyk hyd hym hyl hyt hW0 B0 R0 L0
  go_enter Tryd.func9, Tryd.ntmps9
  go_upto_region 1 with fail
  rw [← HW0.out]
  go_wp2_with fail
  refine (CQ.out _).mono ?_
  rintro e w1 ⟨s1, o1, rfl, hs1, ho1, b1⟩
  obtain ⟨sa, sc, rfl⟩ := Rk.Rows.is_slice hs1
  obtain rfl : o1 = .nilIface := by
    have : pushO [] 2 = none := by decide +kernel
    rw [this] at ho1
    exact ho1
  have K1 : Hid (Below W0.heap.size W0 w1) := b1
  have CP1 : Hid (∀ w', Below w1.heap.size w1 w' → Calls Tryd.prog 51 #[.agg #[.slice sa [yp].length sc]] w' fun e w'' => ∃ v, e = .returned v ∧ Us w'' v [yp] ∧ Below w'.heap.size w' w'') := fun w' hb => splain_any w' (hs1.below hb) yp_good (by intro y hy; simp at hy; subst hy; decide) (by decide)
  have FB1 : Hid (∀ o, Below w1.heap.size w1 (w1.alloc o)) := fun o => (Below.refl _ _).alloc (Nat.le_refl _) o
  clear hs1 b1 ho1 CQ
  go_wp2_with fail
  refine (CP1.out _ (FB1.out _)).mono ?_
  rintro e w2 ⟨v2, rfl, hu2, b2⟩
  obtain ⟨a2, c2, rfl, _, _, _⟩ := hu2.open_
  have K2 := Lib.hid (below_more K1.out (below_more (FB1.out _) b2))
  clear hu2 b2 CP1 FB1
  simp only [List.length_cons, List.length_nil]
  go_wp2_with fail
  refine (usmall_any w2 (HU.out _ (KB.out _ K2.out))).mono ?_
  rintro e w3 ⟨rfl, b3⟩
  have K3 := Lib.hid (below_more K2.out b3)
  clear b3
  cases hs : smallU A with
  | false =>
    go_wp2_with fail
    go_ret
    exact ⟨rfl, KB.out _ K3.out⟩
  | true =>
    obtain ⟨s1, s2⟩ := small_len hs
    have HS := Lib.hid s1
    have s3 : n ≤ 60 := by rw [HN.out]; exact s2
    clear s1 s2 hs
    go_wp2_with fail
    refine (uright_any w3 (HU.out _ (KB.out _ K3.out))).mono ?_
    rintro e w4 ⟨rfl, b4⟩
    have K4 := Lib.hid (below_more K3.out b4)
    clear b4
    cases hr : rightU A with
    | false =>
      go_wp2_with fail
      go_ret
      exact ⟨rfl, KB.out _ K4.out⟩
    | true =>
      have HR := Lib.hid hr
      clear hr
      obtain ⟨x0, x1, x2, x3, x4⟩ := BX.out _ K4.out
      obtain ⟨B5, R5, L5⟩ := ubox w4 #[.int .i64 yk, .int .i64 yd, .int .i64 ym, .int .i64 yl, .string (Let.mk yt)] 88
      obtain ⟨W5, hW5⟩ : ∃ W5, W5 = w4.alloc (.cells #[.int .i64 yk, .int .i64 yd, .int .i64 ym, .int .i64 yl, .string (Let.mk yt)] 88) := ⟨_, rfl⟩
      rw [← hW5] at B5 R5 L5
      have CU := Lib.hid (uright_any W5 (RY.out _ _ R5))
      have K5 := Lib.hid (below_more K4.out B5)
      have HW5 := Lib.hid hW5
      clear hW5 B5 R5 L5
      go_wp2_with fail
      rw [← HW5.out]
      refine CU.out.mono ?_
      rintro e w6 ⟨rfl, b6⟩
      have K6 := Lib.hid (below_more K5.out b6)
      clear b6 CU x0 x1 x2 x3 x4
      cases hu : rightU [y] with
      | false =>
        go_wp2_with fail
        go_ret
        exact ⟨rfl, KB.out _ K6.out⟩
      | true =>
      have HOK : Hid (ok1 y = true) := by
        show ok1 y = true
        unfold rightU at hu
        simpa using hu
      clear hu
      obtain ⟨x0, x1, x2, x3, x4⟩ := BX.out _ K6.out
      by_cases h2000 : 2000 < yt.length
      · have d1 : decide (2000 < (yt.length : Int)) = true := decide_eq_true (by omega)
        go_wp2_with fail
        go_ret
        exact ⟨rfl, KB.out _ K6.out⟩
      have d1 : decide (2000 < (yt.length : Int)) = false := decide_eq_false (by omega)
      have HYL : Hid (y.t.length ≤ 1073741824) := by show _ ≤ _; rw [← EL.out]; omega
      have CL := Lib.hid (uload_yes w6 (HU.out _ (KB.out _ K6.out)) HR.out HS.out (by rw [← HN.out]; omega) (HT.out _ (KB.out _ K6.out)))
      go_wp2_with fail
      refine CL.out.mono ?_
      rintro e w7 ⟨s7, rfl, hs7, b7⟩
      obtain ⟨la, lc, rfl⟩ := Rk.Rows.is_slice hs7
      obtain ⟨m, hm⟩ : ∃ m, m = A.length := ⟨_, rfl⟩
      rw [← hm] at hs7 ⊢
      obtain ⟨B8, R8, L8⟩ := ubox w7 #[.slice la m lc] 84
      obtain ⟨W8, hW8⟩ : ∃ W8, W8 = w7.alloc (.cells #[.slice la m lc] 84) := ⟨_, rfl⟩
      rw [← hW8] at B8 R8 L8
      have K8 := Lib.hid (below_more (below_more K6.out b7) B8)
      have ST : Hid (∀ w', Below W8.heap.size W8 w' → Stk w' (.slice la m lc) A) := fun w' hb => (hs7.below B8).below hb
      have BS : Hid (∀ w', Below W8.heap.size W8 w' → Below W8.heap.size W8 w' ∧ w'.cell? ⟨w7.heap.size, 0, none⟩ = some (.slice la m lc) ∧ w'.cell? ⟨w.heap.size, 0, none⟩ = some (.int .i64 yk) ∧ w'.cell? ⟨w.heap.size, 1, none⟩ = some (.int .i64 yd) ∧ w'.cell? ⟨w.heap.size, 2, none⟩ = some (.int .i64 ym) ∧ w'.cell? ⟨w.heap.size, 3, none⟩ = some (.int .i64 yl) ∧ w'.cell? ⟨w.heap.size, 4, none⟩ = some (.string (Let.mk yt))) := fun w' hb => ⟨hb, u1cell (ukeep hb (urow_lt R8) R8), BX.out _ (below_more K8.out hb)⟩
      have KB8 : Hid (∀ w', Below W8.heap.size W8 w' → Below w.heap.size w w') := fun w' hb => KB.out _ (below_more K8.out hb)
      have CT : Hid (∀ w', Below W8.heap.size W8 w' → Calls Tryd.prog 56 #[.agg #[.int .i64 yk, .int .i64 yd, .int .i64 ym, .int .i64 yl, .string (Let.mk yt)]] w' fun e w'' => ∃ v, e = .returned v ∧ ThV w'' v y ∧ Below w'.heap.size w' w'') := fun w' hb => by
        have := thing_any y w' HOK.out HYL.out (HT.out _ (KB8.out _ hb))
        rwa [EV.out] at this
      have CP : Hid (∀ w' v', Below W8.heap.size W8 w' → ThV w' v' y → Calls Tryd.prog 55 #[.agg #[.slice la m lc], v', .int .i64 dd] w' fun e w'' => ∃ s' o, e = .returned (.tuple #[.agg #[s'], o]) ∧ Stk w'' s' (pushA A y dd) ∧ OutV w'' o (pushO A dd) ∧ Below w'.heap.size w' w'') := fun w' v' hb hv => push_any dd w' (ST.out _ hb) hv (by rw [← HN.out]; omega) hd1 hd2
      have HW8 := Lib.hid hW8
      have KS := Lib.hid (Below.refl W8.heap.size W8)
      clear hW8 B8 R8 L8 hs7 b7 hm CL x0 x1 x2 x3 x4
      go_upto_region 7 with fail
      rw [← HW8.out]
      go_cut [11, 12] from 57 to 64 (fun x z wx => ∃ (NB : Nat) (ta : Option Addr) (tm tc : Nat), x = .pointer (some ⟨NB, 0, none⟩) ∧ Hid (FilQ W8 wx NB (.slice ta tm tc) z (pushA A y dd) (pushO A dd)))
      case first =>
        obtain ⟨_, e0, x0, x1, x2, x3, x4⟩ := BS.out _ KS.out
        go_region_held3 (fun w' => Below W8.heap.size W8 w' ∧ w'.cell? ⟨w7.heap.size, 0, none⟩ = some (.slice la m lc) ∧ w'.cell? ⟨w.heap.size, 0, none⟩ = some (.int .i64 yk) ∧ w'.cell? ⟨w.heap.size, 1, none⟩ = some (.int .i64 yd) ∧ w'.cell? ⟨w.heap.size, 2, none⟩ = some (.int .i64 ym) ∧ w'.cell? ⟨w.heap.size, 3, none⟩ = some (.int .i64 yl) ∧ w'.cell? ⟨w.heap.size, 4, none⟩ = some (.string (Let.mk yt)))
          ((refine BS.out _ ?_; focus ((repeat first | with_reducible assumption | with_reducible exact KS.out | with_reducible apply Below.drew | with_reducible apply below_drews | with_reducible apply below_al | (with_reducible refine Below.setCell (p := _) ?_ ?_ _)); done)))
          (first
            | (go_at_call 56; (with_reducible refine (CT.out _ ?_).mono ?_); (focus ((repeat first | with_reducible assumption | with_reducible exact KS.out | with_reducible apply Below.drew | with_reducible apply below_drews | with_reducible apply below_al); done)); rintro e w10 ⟨v10, rfl, hv10, b10⟩; have jj10 := fun h => below_more (B := W8.heap.size) (w := W8) h b10; replace jj10 := jj10 (by (repeat first | with_reducible assumption | with_reducible exact KS.out | with_reducible apply Below.drew | with_reducible apply below_drews | with_reducible apply below_al)); first | (with_reducible (have zk := fun hk => zq_new (W := W8) hk b10); replace zk := zk (by (repeat first | with_reducible assumption | with_reducible exact KS.out | with_reducible apply Below.drew | with_reducible apply below_drews | with_reducible apply below_al))) | (with_reducible (have zk := fun hk => zq_newd (W := W8) hk b10); replace zk := zk (by (repeat first | with_reducible assumption | with_reducible exact KS.out | with_reducible apply Below.drew | with_reducible apply below_drews | with_reducible apply below_al))) | skip)
            | (go_at_call 55; (with_reducible refine (CP.out _ _ ?_ ?_).mono ?_); (focus ((repeat first | with_reducible assumption | with_reducible exact KS.out | with_reducible apply Below.drew | with_reducible apply below_drews | with_reducible apply below_al); done)); (focus (first | exact hv10 | exact hv10.below (Below.refl _ _).drew (Nat.le_refl _) | exact hv10.below ((Below.refl _ _).alloc (Nat.le_refl _) _) (Nat.le_refl _) | exact hv10.below ((Below.refl _ _).alloc (Nat.le_refl _) _).drew (Nat.le_refl _) | exact hv10.below (((Below.refl _ _).drew).alloc (Nat.le_refl _) _) (Nat.le_refl _))); rintro e w11 ⟨s11, o11, rfl, hs11, ho11, b11⟩; obtain ⟨ta, tc, rfl⟩ := Rk.Rows.is_slice hs11; obtain ⟨tm, htm⟩ : ∃ z, z = (pushA A y dd).length := ⟨_, rfl⟩; rw [← htm] at hs11 ⊢; clear htm; have jj11 := fun h => below_more (B := W8.heap.size) (w := W8) h b11; replace jj11 := jj11 (by (repeat first | with_reducible assumption | with_reducible exact KS.out | with_reducible apply Below.drew | with_reducible apply below_drews | with_reducible apply below_al)); first | (have zk := ZQ.below zk b11; have FN := fil_set zk hs11 ho11 jj11; have k0 := u1cell zk.z; have f0 := ublock_frozen (j := 0) zk.z; have s0 := zk.s) | (have zk := ZQ.belowd zk b11; have FN := fil_set zk hs11 ho11 jj11; have k0 := u1cell zk.z; have f0 := ublock_frozen (j := 0) zk.z; have s0 := zk.s) | (with_reducible (have zk := fun hk => zq_new (W := W8) hk b11); replace zk := zk (by (repeat first | with_reducible assumption | with_reducible exact KS.out | with_reducible apply Below.drew | with_reducible apply below_drews | with_reducible apply below_al)); have FN := fil_set zk hs11 ho11 jj11; have k0 := u1cell zk.z; have f0 := ublock_frozen (j := 0) zk.z; have s0 := zk.s) | (with_reducible (have zk := fun hk => zq_newd (W := W8) hk b11); replace zk := zk (by (repeat first | with_reducible assumption | with_reducible exact KS.out | with_reducible apply Below.drew | with_reducible apply below_drews | with_reducible apply below_al)); have FN := fil_set zk hs11 ho11 jj11; have k0 := u1cell zk.z; have f0 := ublock_frozen (j := 0) zk.z; have s0 := zk.s) | (have FN := fil_new hs11 ho11 jj11)))
        all_goals go_wp2_with fail
        all_goals go_meet
        all_goals first | exact ⟨_, _, _, _, rfl, FN⟩ | exact ⟨_, _, _, _, rfl, FN.drew⟩
      case rest =>
        obtain ⟨NB, ta, tm, tc, rfl, HF⟩ := hcut
        obtain ⟨F1, F2, F3, F4⟩ := HF.out
        have KC : Hid (∀ w', Below wc.heap.size wc w' → Below W8.heap.size W8 w') := fun w' hb => below_more F4 hb
        have CPA : Hid (∀ w', Below wc.heap.size wc w' → Calls Tryd.prog 51 #[.agg #[.slice la m lc]] w' fun e w'' => ∃ v, e = .returned v ∧ Us w'' v A ∧ Below w'.heap.size w' w'') := fun w' hb => splain_any w' (ST.out _ (KC.out _ hb)) HG.out HS.out (by rw [← HN.out]; omega)
        have CPN : Hid (∀ w', Below wc.heap.size wc w' → Calls Tryd.prog 51 #[.agg #[.slice ta tm tc]] w' fun e w'' => ∃ v, e = .returned v ∧ Us w'' v (pushA A y dd) ∧ Below w'.heap.size w' w'') := fun w' hb => splain_any w' (F2.below hb) (fun z hz => by rcases pushA_mem hz with h | h; exact HG.out z h; rw [h]; exact HYG.out) (fun z hz => by rcases pushA_mem hz with h | h; exact HS.out z h; rw [h]; exact HYL.out) (by have := pushA_len A y dd; rw [← HN.out] at this; omega)
        have BC : Hid (∀ w', Below wc.heap.size wc w' → w'.cell? ⟨w7.heap.size, 0, none⟩ = some (.slice la m lc) ∧ w'.cell? ⟨NB, 0, none⟩ = some (.slice ta tm tc)) := fun w' hb => ⟨(BS.out _ (KC.out _ hb)).2.1, u1cell (ukeep hb (urow_lt F1) F1)⟩
        have KW : Hid (∀ w', Below wc.heap.size wc w' → Below w.heap.size w w') := fun w' hb => KB8.out _ (KC.out _ hb)
        have CRP : Hid (∀ w', Below wc.heap.size wc w' → Calls Tryd.prog 57 #[.slice a n cap, .agg #[.int .i64 yk, .int .i64 yd, .int .i64 ym, .int .i64 yl, .string (Let.mk yt)], .int .i64 dd] w' fun e w'' => ∃ v1 v2, e = .returned (.tuple #[v1, v2]) ∧ Us w'' v1 (pushA A y dd) ∧ Us w'' v2 (pushO A dd).toList ∧ Below w'.heap.size w' w'') := fun w' hb => by
          have := rpush_any y dd w' (HU.out _ (KW.out _ hb)) HYG.out (by rw [← HN.out]; omega) hd1 hd2
          rwa [EV.out, (rpush_same A y dd).1, (rpush_same A y dd).2] at this
        have CNO : Hid (∀ w', Calls Tryd.prog 55 #[.agg #[.slice la m lc], .iface 9 (.string (ByteArray.mk #[110, 111, 32, 116, 104, 105, 110, 103])), .int .i64 dd] w' fun e w'' => e = .returned (.tuple #[.agg #[.slice la m lc], .nilIface]) ∧ Below w'.heap.size w' w'') := fun w' => push_no dd w' (Nums.other _ _ (by decide) (by decide))
        have CNI : Hid (∀ w', Calls Tryd.prog 55 #[.agg #[.slice la m lc], .nilIface, .int .i64 dd] w' fun e w'' => e = .returned (.tuple #[.agg #[.slice la m lc], .nilIface]) ∧ Below w'.heap.size w' w'') := fun w' => push_no dd w' Nums.nil_
        have KT := Lib.hid (Below.refl wc.heap.size wc)
        have GU := guard_undo
        have HFO := Lib.hid F3
        clear F1 F2 F4 HF CT CP KS HW8
        cases hO : pushO A dd with
        | none =>
          rw [hO] at CRP F3
          obtain rfl := F3
          clear HFO
          obtain ⟨x0, x1, x2, x3, x4⟩ := (BS.out _ (KC.out _ KT.out)).2.2
          go_wp2_with fail
          refine (CRP.out _ KT.out).mono ?_
          rintro e w20 ⟨v1, v2, rfl, hv1, hv2, b20⟩
          have J20 : Hid (Below wc.heap.size wc w20) := b20
          clear b20 x0 x1 x2 x3 x4 CRP
          obtain ⟨a2, c2, rfl, _, _, _⟩ := hv2.open_
          clear hv2
          simp only [Option.toList, List.length_nil]
          go_wp2_with fail
          refine (lplain_nil w20).mono ?_
          rintro e w21 ⟨rfl, b21⟩
          have J21 := Lib.hid (below_more J20.out b21)
          obtain ⟨B22, R22, L22⟩ := ubox w21 #[.int .i64 0, .int .i64 0, .int .i64 0, .int .i64 0, .string (ByteArray.mk #[])] 88
          obtain ⟨W22, hW22⟩ : ∃ W22, W22 = w21.alloc (.cells #[.int .i64 0, .int .i64 0, .int .i64 0, .int .i64 0, .string (ByteArray.mk #[])] 88) := ⟨_, rfl⟩
          rw [← hW22] at B22 R22 L22
          have J22 := Lib.hid (below_more J21.out B22)
          have HV1 := Lib.hid (hv1.below (below_more b21 B22) (Nat.le_refl _))
          have HW22 := Lib.hid hW22
          clear hW22 b21 B22 R22 L22 hv1
          go_upto_region 10 with fail
          rw [← HW22.out]
          go_quiet (fail)
          obtain ⟨W23, hW23⟩ : ∃ W23, W23 = W22.drewN nq := ⟨_, rfl⟩
          rw [← hW23]
          have b23 : Below W22.heap.size W22 W23 := by rw [hW23]; exact below_drews (Below.refl _ _) _
          have J23 := Lib.hid (below_more J22.out b23)
          have HV2 := Lib.hid (HV1.out.below b23 (Nat.le_refl _))
          obtain ⟨vb1, cb1, rfl, _, _, _⟩ := HV2.out.open_
          obtain ⟨mp, hmp⟩ : ∃ z, z = (pushA A y dd).length := ⟨_, rfl⟩
          rw [← hmp] at HV2 ⊢
          clear hW23 b23 HV1 HW22 hmp
          obtain ⟨c9, cN⟩ := BC.out _ J23.out
          go_wp2_with fail
          refine (CNO.out _).mono ?_
          rintro e w24 ⟨rfl, b24⟩
          obtain ⟨B25, R25, L25⟩ := ubox w24 #[.slice la m lc] 84
          obtain ⟨W25, hW25⟩ : ∃ W25, W25 = w24.alloc (.cells #[.slice la m lc] 84) := ⟨_, rfl⟩
          rw [← hW25] at B25 R25 L25
          have b25 := below_more b24 B25
          have J25 := Lib.hid (below_more J23.out b25)
          have HV3 := Lib.hid (HV2.out.below b25 (Nat.le_refl _))
          have H17 : Hid (∀ w', Below W25.heap.size W25 w' → w'.cell? ⟨w24.heap.size, 0, none⟩ = some (.slice la m lc)) := fun w' hb => u1cell (ukeep hb (urow_lt R25) R25)
          have HW25 := Lib.hid hW25
          clear hW25 B25 R25 L25 b24 b25 c9 cN HV2
          go_upto_region 13 with fail
          rw [← HW25.out]
          obtain ⟨c9, cN⟩ := BC.out _ J25.out
          go_wp2_with fail
          refine (CNI.out _).mono ?_
          rintro e w26 ⟨rfl, b26⟩
          obtain ⟨B27, R27, L27⟩ := ubox w26 #[.slice la m lc] 84
          obtain ⟨W27, hW27⟩ : ∃ W27, W27 = w26.alloc (.cells #[.slice la m lc] 84) := ⟨_, rfl⟩
          rw [← hW27] at B27 R27 L27
          have b27 := below_more b26 B27
          have J27 := Lib.hid (below_more J25.out b27)
          have HV4 : Hid (∀ w', Below W27.heap.size W27 w' → Us w' (.slice vb1 mp cb1) (pushA A y dd)) := fun w' hb => (HV3.out.below b27 (Nat.le_refl _)).below hb (Nat.le_refl _)
          have H17' : Hid (∀ w', Below W27.heap.size W27 w' → w'.cell? ⟨w24.heap.size, 0, none⟩ = some (.slice la m lc)) := fun w' hb => H17.out _ (below_more b27 hb)
          have H19 : Hid (∀ w', Below W27.heap.size W27 w' → w'.cell? ⟨w26.heap.size, 0, none⟩ = some (.slice la m lc)) := fun w' hb => u1cell (ukeep hb (urow_lt R27) R27)
          have JJ : Hid (∀ w', Below W27.heap.size W27 w' → Below wc.heap.size wc w') := fun w' hb => below_more J27.out hb
          have HW27 := Lib.hid hW27
          clear hW27 B27 R27 L27 b26 b27 c9 cN HV3 H17
          go_upto_region 14 with fail
          rw [← HW27.out]
          have Q0 := Lib.hid (Below.refl W27.heap.size W27)
          clear HW27 HW25 CNO CNI
          obtain ⟨c9, cN⟩ := BC.out _ (JJ.out _ Q0.out)
          go_wp2_with fail
          refine (CPN.out _ (JJ.out _ Q0.out)).mono ?_
          rintro e wp0 ⟨vp0, rfl, hp0, bp0⟩
          have P0 := Lib.hid (below_more Q0.out bp0)
          obtain ⟨ap0, cp0, rfl, _, _, _⟩ := hp0.open_
          have CS0 := Lib.hid (usame_any wp0 hp0 (HV4.out _ P0.out))
          obtain ⟨lp0, hlp0⟩ : ∃ z, z = (pushA A y dd).length := ⟨_, rfl⟩
          rw [← hlp0] at CS0 ⊢
          clear hp0 bp0 hlp0 c9 cN
          go_wp2_with fail
          refine CS0.out.mono ?_
          rintro e wq0 ⟨rfl, bq0⟩
          have Q1 := Lib.hid (below_more P0.out bq0)
          clear bq0 CS0
          obtain ⟨c9, cN⟩ := BC.out _ (JJ.out _ Q1.out)
          have c17 := H17'.out _ Q1.out
          have c19 := H19.out _ Q1.out
          go_wp2_with fail
          refine (CPA.out _ (JJ.out _ Q1.out)).mono ?_
          rintro e wp1 ⟨vp1, rfl, hp1, bp1⟩
          have P1 := Lib.hid (below_more Q1.out bp1)
          obtain ⟨ap1, cp1, rfl, _, _, _⟩ := hp1.open_
          have CS1 := Lib.hid (usame_any wp1 hp1 (HU.out _ <| KW.out _ <| JJ.out _ P1.out))
          obtain ⟨lp1, hlp1⟩ : ∃ z, z = (A).length := ⟨_, rfl⟩
          rw [← hlp1] at CS1 ⊢
          clear hp1 bp1 hlp1 c9 cN c17 c19
          go_wp2_with fail
          refine CS1.out.mono ?_
          rintro e wq1 ⟨rfl, bq1⟩
          have Q2 := Lib.hid (below_more P1.out bq1)
          clear bq1 CS1
          obtain ⟨c9, cN⟩ := BC.out _ (JJ.out _ Q2.out)
          have c17 := H17'.out _ Q2.out
          have c19 := H19.out _ Q2.out
          go_wp2_with fail
          refine (CPA.out _ (JJ.out _ Q2.out)).mono ?_
          rintro e wp2 ⟨vp2, rfl, hp2, bp2⟩
          have P2 := Lib.hid (below_more Q2.out bp2)
          obtain ⟨ap2, cp2, rfl, _, _, _⟩ := hp2.open_
          have CS2 := Lib.hid (usame_any wp2 hp2 (HU.out _ <| KW.out _ <| JJ.out _ P2.out))
          obtain ⟨lp2, hlp2⟩ : ∃ z, z = (A).length := ⟨_, rfl⟩
          rw [← hlp2] at CS2 ⊢
          clear hp2 bp2 hlp2 c9 cN c17 c19
          go_wp2_with fail
          refine CS2.out.mono ?_
          rintro e wq2 ⟨rfl, bq2⟩
          have Q3 := Lib.hid (below_more P2.out bq2)
          clear bq2 CS2
          obtain ⟨c9, cN⟩ := BC.out _ (JJ.out _ Q3.out)
          have c17 := H17'.out _ Q3.out
          have c19 := H19.out _ Q3.out
          go_wp2_with fail
          refine (CPA.out _ (JJ.out _ Q3.out)).mono ?_
          rintro e wp3 ⟨vp3, rfl, hp3, bp3⟩
          have P3 := Lib.hid (below_more Q3.out bp3)
          obtain ⟨ap3, cp3, rfl, _, _, _⟩ := hp3.open_
          have CS3 := Lib.hid (usame_any wp3 hp3 (HU.out _ <| KW.out _ <| JJ.out _ P3.out))
          obtain ⟨lp3, hlp3⟩ : ∃ z, z = (A).length := ⟨_, rfl⟩
          rw [← hlp3] at CS3 ⊢
          clear hp3 bp3 hlp3 c9 cN c17 c19
          go_wp2_with fail
          refine CS3.out.mono ?_
          rintro e wq3 ⟨rfl, bq3⟩
          have Q4 := Lib.hid (below_more P3.out bq3)
          clear bq3 CS3
          obtain ⟨c9, cN⟩ := BC.out _ (JJ.out _ Q4.out)
          have c17 := H17'.out _ Q4.out
          have c19 := H19.out _ Q4.out
          go_wp2_with fail
          go_ret
          exact ⟨rfl, KW.out _ (JJ.out _ Q4.out)⟩
        | some u =>
          rw [hO] at CRP F3
          have hu := pushO_mem hO
          obtain ⟨t12, q12, rfl⟩ := ThV.iface F3
          have CLP : Hid (∀ w', Below wc.heap.size wc w' → Calls Tryd.prog 58 #[.iface t12 q12] w' fun e w'' => e = .returned (.tuple #[u.val, .bool true]) ∧ Below w'.heap.size w' w'') := fun w' hb => lplain_any u w' (ThV.below F3 hb (Nat.le_refl _)) (HS.out u hu)
          clear HFO F3 hu
          obtain ⟨x0, x1, x2, x3, x4⟩ := (BS.out _ (KC.out _ KT.out)).2.2
          go_wp2_with fail
          refine (CRP.out _ KT.out).mono ?_
          rintro e w20 ⟨v1, v2, rfl, hv1, hv2, b20⟩
          have J20 : Hid (Below wc.heap.size wc w20) := b20
          clear b20 x0 x1 x2 x3 x4 CRP
          obtain ⟨a2, c2, rfl, hl2, hm2, hel2⟩ := hv2.open_
          obtain ⟨b, off, rfl, hbw, _, p0, p1, p2, p3, p4⟩ := hel2 0 (by simp)
          simp only [Option.toList, List.getElem_cons_zero, Nat.zero_mul, Nat.add_zero, List.length_cons, List.length_nil] at p0 p1 p2 p3 p4 hl2 hm2
          simp only [Option.toList, List.length_cons, List.length_nil]
          clear hv2 hel2
          obtain ⟨zk, zd, zm, zl, zt⟩ := u
          unfold U.val at CLP
          simp only at CLP p0 p1 p2 p3 p4
          unfold maxLen at hm2
          have HP : Hid (∀ w', Below w20.heap.size w20 w' → w'.cell? ⟨b, off, none⟩ = some (.int .i64 zk) ∧ w'.cell? ⟨b, off + 1, none⟩ = some (.int .i64 zd) ∧ w'.cell? ⟨b, off + 2, none⟩ = some (.int .i64 zm) ∧ w'.cell? ⟨b, off + 3, none⟩ = some (.int .i64 zl) ∧ w'.cell? ⟨b, off + 4, none⟩ = some (.string (Let.mk zt))) := fun w' hb => ⟨below_cell hb hbw p0, below_cell hb hbw p1, below_cell hb hbw p2, below_cell hb hbw p3, below_cell hb hbw p4⟩
          clear p0 p1 p2 p3 p4 hbw
          go_wp2_with fail
          refine (CLP.out _ J20.out).mono ?_
          rintro e w21 ⟨rfl, b21⟩
          have J21 := Lib.hid (below_more J20.out b21)
          obtain ⟨B22, R22, L22⟩ := ubox w21 #[.int .i64 zk, .int .i64 zd, .int .i64 zm, .int .i64 zl, .string (Let.mk zt)] 88
          obtain ⟨W22, hW22⟩ : ∃ W22, W22 = w21.alloc (.cells #[.int .i64 zk, .int .i64 zd, .int .i64 zm, .int .i64 zl, .string (Let.mk zt)] 88) := ⟨_, rfl⟩
          rw [← hW22] at B22 R22 L22
          have J22 := Lib.hid (below_more J21.out B22)
          have HV1 := Lib.hid (hv1.below (below_more b21 B22) (Nat.le_refl _))
          have HW22 := Lib.hid hW22
          obtain ⟨p0, p1, p2, p3, p4⟩ := HP.out _ (below_more b21 B22)
          obtain ⟨g0, g1, g2, g3, g4⟩ := u5cells R22
          have NE := neq_undo zk zd zm zl (Let.mk zt)
          clear hW22 b21 B22 R22 L22 hv1
          go_upto_region 10 with fail
          rw [← HW22.out]
          go_quiet (fail)
          obtain ⟨W23, hW23⟩ : ∃ W23, W23 = W22.drewN nq := ⟨_, rfl⟩
          rw [← hW23]
          have b23 : Below W22.heap.size W22 W23 := by rw [hW23]; exact below_drews (Below.refl _ _) _
          have J23 := Lib.hid (below_more J22.out b23)
          have HV2 := Lib.hid (HV1.out.below b23 (Nat.le_refl _))
          obtain ⟨vb1, cb1, rfl, _, _, _⟩ := HV2.out.open_
          obtain ⟨mp, hmp⟩ : ∃ z, z = (pushA A y dd).length := ⟨_, rfl⟩
          rw [← hmp] at HV2 ⊢
          clear hW23 b23 HV1 HW22 hmp
          obtain ⟨c9, cN⟩ := BC.out _ J23.out
          go_wp2_with fail
          refine (CNO.out _).mono ?_
          rintro e w24 ⟨rfl, b24⟩
          obtain ⟨B25, R25, L25⟩ := ubox w24 #[.slice la m lc] 84
          obtain ⟨W25, hW25⟩ : ∃ W25, W25 = w24.alloc (.cells #[.slice la m lc] 84) := ⟨_, rfl⟩
          rw [← hW25] at B25 R25 L25
          have b25 := below_more b24 B25
          have J25 := Lib.hid (below_more J23.out b25)
          have HV3 := Lib.hid (HV2.out.below b25 (Nat.le_refl _))
          have H17 : Hid (∀ w', Below W25.heap.size W25 w' → w'.cell? ⟨w24.heap.size, 0, none⟩ = some (.slice la m lc)) := fun w' hb => u1cell (ukeep hb (urow_lt R25) R25)
          have HW25 := Lib.hid hW25
          clear hW25 B25 R25 L25 b24 b25 c9 cN HV2
          go_upto_region 13 with fail
          rw [← HW25.out]
          obtain ⟨c9, cN⟩ := BC.out _ J25.out
          go_wp2_with fail
          refine (CNI.out _).mono ?_
          rintro e w26 ⟨rfl, b26⟩
          obtain ⟨B27, R27, L27⟩ := ubox w26 #[.slice la m lc] 84
          obtain ⟨W27, hW27⟩ : ∃ W27, W27 = w26.alloc (.cells #[.slice la m lc] 84) := ⟨_, rfl⟩
          rw [← hW27] at B27 R27 L27
          have b27 := below_more b26 B27
          have J27 := Lib.hid (below_more J25.out b27)
          have HV4 : Hid (∀ w', Below W27.heap.size W27 w' → Us w' (.slice vb1 mp cb1) (pushA A y dd)) := fun w' hb => (HV3.out.below b27 (Nat.le_refl _)).below hb (Nat.le_refl _)
          have H17' : Hid (∀ w', Below W27.heap.size W27 w' → w'.cell? ⟨w24.heap.size, 0, none⟩ = some (.slice la m lc)) := fun w' hb => H17.out _ (below_more b27 hb)
          have H19 : Hid (∀ w', Below W27.heap.size W27 w' → w'.cell? ⟨w26.heap.size, 0, none⟩ = some (.slice la m lc)) := fun w' hb => u1cell (ukeep hb (urow_lt R27) R27)
          have JJ : Hid (∀ w', Below W27.heap.size W27 w' → Below wc.heap.size wc w') := fun w' hb => below_more J27.out hb
          have HW27 := Lib.hid hW27
          clear hW27 B27 R27 L27 b26 b27 c9 cN HV3 H17
          go_upto_region 14 with fail
          rw [← HW27.out]
          have Q0 := Lib.hid (Below.refl W27.heap.size W27)
          clear HW27 HW25 CNO CNI
          obtain ⟨c9, cN⟩ := BC.out _ (JJ.out _ Q0.out)
          go_wp2_with fail
          refine (CPN.out _ (JJ.out _ Q0.out)).mono ?_
          rintro e wp0 ⟨vp0, rfl, hp0, bp0⟩
          have P0 := Lib.hid (below_more Q0.out bp0)
          obtain ⟨ap0, cp0, rfl, _, _, _⟩ := hp0.open_
          have CS0 := Lib.hid (usame_any wp0 hp0 (HV4.out _ P0.out))
          obtain ⟨lp0, hlp0⟩ : ∃ z, z = (pushA A y dd).length := ⟨_, rfl⟩
          rw [← hlp0] at CS0 ⊢
          clear hp0 bp0 hlp0 c9 cN
          go_wp2_with fail
          refine CS0.out.mono ?_
          rintro e wq0 ⟨rfl, bq0⟩
          have Q1 := Lib.hid (below_more P0.out bq0)
          clear bq0 CS0
          obtain ⟨c9, cN⟩ := BC.out _ (JJ.out _ Q1.out)
          have c17 := H17'.out _ Q1.out
          have c19 := H19.out _ Q1.out
          go_wp2_with fail
          refine (CPA.out _ (JJ.out _ Q1.out)).mono ?_
          rintro e wp1 ⟨vp1, rfl, hp1, bp1⟩
          have P1 := Lib.hid (below_more Q1.out bp1)
          obtain ⟨ap1, cp1, rfl, _, _, _⟩ := hp1.open_
          have CS1 := Lib.hid (usame_any wp1 hp1 (HU.out _ <| KW.out _ <| JJ.out _ P1.out))
          obtain ⟨lp1, hlp1⟩ : ∃ z, z = (A).length := ⟨_, rfl⟩
          rw [← hlp1] at CS1 ⊢
          clear hp1 bp1 hlp1 c9 cN c17 c19
          go_wp2_with fail
          refine CS1.out.mono ?_
          rintro e wq1 ⟨rfl, bq1⟩
          have Q2 := Lib.hid (below_more P1.out bq1)
          clear bq1 CS1
          obtain ⟨c9, cN⟩ := BC.out _ (JJ.out _ Q2.out)
          have c17 := H17'.out _ Q2.out
          have c19 := H19.out _ Q2.out
          go_wp2_with fail
          refine (CPA.out _ (JJ.out _ Q2.out)).mono ?_
          rintro e wp2 ⟨vp2, rfl, hp2, bp2⟩
          have P2 := Lib.hid (below_more Q2.out bp2)
          obtain ⟨ap2, cp2, rfl, _, _, _⟩ := hp2.open_
          have CS2 := Lib.hid (usame_any wp2 hp2 (HU.out _ <| KW.out _ <| JJ.out _ P2.out))
          obtain ⟨lp2, hlp2⟩ : ∃ z, z = (A).length := ⟨_, rfl⟩
          rw [← hlp2] at CS2 ⊢
          clear hp2 bp2 hlp2 c9 cN c17 c19
          go_wp2_with fail
          refine CS2.out.mono ?_
          rintro e wq2 ⟨rfl, bq2⟩
          have Q3 := Lib.hid (below_more P2.out bq2)
          clear bq2 CS2
          obtain ⟨c9, cN⟩ := BC.out _ (JJ.out _ Q3.out)
          have c17 := H17'.out _ Q3.out
          have c19 := H19.out _ Q3.out
          go_wp2_with fail
          refine (CPA.out _ (JJ.out _ Q3.out)).mono ?_
          rintro e wp3 ⟨vp3, rfl, hp3, bp3⟩
          have P3 := Lib.hid (below_more Q3.out bp3)
          obtain ⟨ap3, cp3, rfl, _, _, _⟩ := hp3.open_
          have CS3 := Lib.hid (usame_any wp3 hp3 (HU.out _ <| KW.out _ <| JJ.out _ P3.out))
          obtain ⟨lp3, hlp3⟩ : ∃ z, z = (A).length := ⟨_, rfl⟩
          rw [← hlp3] at CS3 ⊢
          clear hp3 bp3 hlp3 c9 cN c17 c19
          go_wp2_with fail
          refine CS3.out.mono ?_
          rintro e wq3 ⟨rfl, bq3⟩
          have Q4 := Lib.hid (below_more P3.out bq3)
          clear bq3 CS3
          obtain ⟨c9, cN⟩ := BC.out _ (JJ.out _ Q4.out)
          have c17 := H17'.out _ Q4.out
          have c19 := H19.out _ Q4.out
          go_wp2_with fail
          go_ret
          exact ⟨rfl, KW.out _ (JJ.out _ Q4.out)⟩

theorem acc_eq : Rows.laid_unicode_utf8_acceptRanges = Lib.acceptData := by kernel_rfl

set_option maxRecDepth 100000 in
theorem lifted (os : Os) (started : os.Started) (H : Type) (enc : TypeId × Value → H) :
    ReturnsInHanded {} Tryd.checked os 9 .any (fun w args => (Rows.undoPushesSpec.pre enc Tryd.prog Tryd.f9 [] false w args ∧ laidMetH Tryd.prog Rows.undoPushesRow.laid w) ∧ sizedMet enc Tryd.prog Tryd.f9 (OpenSpec.ofChange Rows.undoPushesSpec) false w args) (Rows.undoPushesSpec.post enc Tryd.prog Tryd.f9 false true false false) := by
  refine returnsInHanded_of_change_and (C := Tryd.checked) (X := fun w _ => laidMetH Tryd.prog Rows.undoPushesRow.laid w) (fun _ _ _ hh h => h.of_heap hh) own started (by kernel_rfl) Tryd.func9
    (ChangeSpec.witness_shaped (enc := enc) (C := Tryd.checked) (os := os) (X := fun w _ => laidMetH Tryd.prog Rows.undoPushesRow.laid w) false (World.laidAll Tryd.prog os Rows.undoPushesRow.laid) #[.slice none 0 0, .agg #[.int .i64 0, .int .i64 0, .int .i64 0, .int .i64 0, .string ByteArray.empty], .int .i64 0] 8 (World.laidAll_os _ _ _)
      (World.shaped_of_ZipB (by kernel_rfl) (by kernel_rfl)) (by kernel_rfl) (by kernel_rfl) (by kernel_rfl)
      (by rw [MakeChecks.laidMetH_plain _ _ _ (by kernel_rfl)]; exact laidMet_laidAll _ (by kernel_rfl) (by kernel_rfl))) ?_
  intro W base args ds gs before hval0 hW _ hWt hL _
  have hval : ∀ (j : Nat) t v, Tryd.f9.params[j]? = some t → args[j]? = some v → Value.okWide Tryd.prog W .any base t v := hval0
  have hread : ∀ t ∈ Tryd.f9.params.toList, Tryd.prog.readableRec t = true ∧ t < Tryd.prog.types.size := by
    have : (Tryd.f9.params.toList.all fun t => Tryd.prog.readableRec t && decide (t < Tryd.prog.types.size)) = true := by kernel_rfl
    intro t ht
    have := List.all_eq_true.1 this t ht
    simpa using this
  rw [MakeChecks.laidMetH_plain _ _ _ (by kernel_rfl)] at hL
  have hT : Tabs W := utf8Tabs_of_readsT (U8Types.of196 Tryd.lays196) ⟨by kernel_rfl, by kernel_rfl, by kernel_rfl, by kernel_rfl, by kernel_rfl, by kernel_rfl, by kernel_rfl⟩ (Pinned.utf8First_eq ▸ Lib.laidMet.reads hL (.tail _ (.head _))) (acc_eq ▸ Lib.laidMet.reads hL (.head _))
  refine law_contract (P := Tryd.prog) (s := Rows.undoPushesSpec) (fn := Tryd.f9) (tb := 4) laidOut rfl hread rfl Tryd.underlying4 (fun W' => okWide_bool_mk Tryd.underlying4 _) ?_ hW ?_
  · intro ds hds
    rw [Tryd.params9] at hds
    match ds, hds with
    | [d0, d1, d2], _ => rfl
  intro pl hA
  rw [Tryd.params9] at hA hval hWt
  obtain ⟨v0, vs0, d0, ds0, p0, q0, hargs, rfl, hp0, h0, r0⟩ := trodAll_cons hA
  obtain ⟨v1, vs1, d1, ds1, p1, q1, rfl, rfl, hp1, h1, r1⟩ := trodAll_cons r0
  obtain ⟨v2, vs2, d2, ds2, p2, q2, rfl, rfl, hp2, h2, r2⟩ := trodAll_cons r1
  obtain ⟨rfl, rfl, hpe⟩ := trodAll_nil r2
  obtain rfl : args = #[v0, v1, v2] := by cases args; simp_all
  have hwt0 : (d0.weights Tryd.prog 81).all (· ≤ reachBytes) = true := List.all_eq_true.2 fun n hn => List.all_eq_true.1 hWt n (DataW.weights_mem_each (j := 0) (t := 81) (d := d0) rfl rfl n hn)
  obtain ⟨Al, hGl⟩ := Und.open_undos (hval 0 81 v0 rfl rfl) h0 hwt0
  have hwt1 : (d1.weights Tryd.prog 88).all (· ≤ reachBytes) = true := List.all_eq_true.2 fun n hn => List.all_eq_true.1 hWt n (DataW.weights_mem_each (j := 1) (t := 88) (d := d1) rfl rfl n hn)
  obtain ⟨x, rfl, hGx⟩ := Und.open_undo (hval 1 88 v1 rfl rfl) h1 hwt1
  obtain ⟨dd, rfl, rfl, _, hw2⟩ := open_int Tryd.underlying3 (hval 2 3 v2 rfl rfl) h2
  have hb2 : -9223372036854775808 ≤ dd ∧ dd ≤ 9223372036854775807 := by simpa [Lit.wf, IntKind.min, IntKind.max, IntKind.signed, IntKind.bits] using hw2
  exact walk W hT hGl x hGx dd hb2.1 hb2.2 

theorem over : Rows.undoPushesRow.holds Tryd.pinned (OpenSpec.ofChange Rows.undoPushesSpec) :=
  OpenClaim.holds_of_wide 9 Tryd.f9 rfl rfl rfl rfl rfl rfl rfl ⟨rfl, rfl, rfl, rfl, rfl⟩ rfl rfl rfl rfl rfl (by kernel_rfl) Tryd.func9 (by kernel_rfl)
    (of_decide_eq_true (by kernel_rfl)) (by unfold Func.isWrapper; first | (rw [if_pos (by decide +kernel)]; kernel_rfl) | (rw [if_neg (by decide +kernel)]; exact ⟨rfl, rfl⟩))
    (fun os started H enc _ => lifted os started H enc)

/-- The statement. -/
theorem proved : Rows.UndoPushesCardSaid :=
  Claim7.holds_tied_plain_at .later [] [.data, .pinned] true (true, "3a977cad1127ddb1e8b4d38ffec3cb5556e3c2924b6afded30eded5dffa0be69") true over (fun _ h => by cases h) (by kernel_rfl) (fun _ h => by cases h) undoPushes_row_tie rfl ⟨rfl, rfl⟩ (by kernel_rfl) rfl
    (fun f fn hf hfn => by
      obtain rfl : f = 9 := Option.some.inj ((show Tryd.prog.funcNamed Rows.undoPushesRow.func = some 9 by kernel_rfl).symm.trans hf) |>.symm
      obtain rfl : fn = Tryd.f9 := (Option.some.inj (Tryd.func9.symm.trans hfn)).symm
      exact ⟨by kernel_rfl, fun j t ht => by
        rw [Tryd.params9] at ht
        have hm : t ∈ [81, 88, 3] := by simpa using Array.mem_of_getElem? ht
        have hall : ([81, 88, 3].all fun u => !Tryd.prog.wantsStandIn u) = true := by kernel_rfl
        exact (show Tryd.prog.wantsStandIn t = false by simpa using List.all_eq_true.1 hall t hm)⟩)
    (by kernel_rfl)
#print axioms proved
end Go.Proofs.YtoejjicgnhndfaaDoor.undoPushes
