/- For every list of labels, every user and every case (entries and a page of them): AuditSees answers true, and its arguments read behind the call as before. No condition. -/
import Derived.Test.YtfahfjhibffdkaaRows
import Derived.Test.YtfahfjhibffdkaaLift
import Derived.Test.YtfahfjhibffdkaaEp
import Derived.Deep.RegionHeld3
import Derived.OrdersHeld
import Derived.Deep.RegionHeld
set_option linter.unusedVariables false
namespace Go.Proofs.Ytfahfjhibffdkaa.auditSees
open Go.ChangeShapes Go.WideShapes Go.ChangeAt Go.RowKit Go.Lib Go.Proofs.Ytfahfjhibffdkaa.Lift Go.Proofs.Ytfahfjhibffdkaa.Rt Go.Proofs.Ytfahfjhibffdkaa.Rig Go.Proofs.Ytfahfjhibffdkaa.Bx Go.Proofs.Ytfahfjhibffdkaa.Aud
open Go.ChangeMaps (open_string shut_string)

theorem own : ownKnob Try.prog.godebug = none := by kernel_rfl
theorem laidOut : laidOutB Try.prog = true := by kernel_rfl

theorem page_one : pageE (seesB someL 1) someE 0 9 = [⟨1, 0, 0, [], [0]⟩] := rfl
theorem page_some {la ea : Option Addr} (w : World) (h1 : Labs w (.slice la 1 1) someL) (h2 : EnsP (· < w.heap.size) w (.slice ea 2 2) someE) : Calls Try.prog 12 #[.slice la 1 1, .int .i64 1, .slice ea 2 2, .int .i64 0, .int .i64 9] w fun e w' => ∃ b off c, e = .returned (.slice (some ⟨b, off, none⟩) 1 c) ∧ 1 ≤ c ∧ c ≤ maxLen ∧ w'.cell? ⟨b, off, none⟩ = some (.int .i64 1) ∧ Below w.heap.size w w' := by
  refine (page_at 1 0 9 w h1 ⟨by decide, by decide⟩ h2 (fun _ h => h) (by decide) ⟨by decide, by decide⟩ ⟨by decide, by decide⟩ short_some).mono ?_
  rintro e w' ⟨s, rfl, h, hb⟩
  rw [page_one] at h
  obtain ⟨a, c, rfl, h3, h4⟩ := h.is_slice
  obtain ⟨b, off, sa, sn, sc, la, ln, lc, rfl, _, _, c0, _⟩ := h.get (show 0 < [(⟨1, 0, 0, [], [0]⟩ : En)].length by decide)
  exact ⟨b, off, c, rfl, h3, h4, by simpa using c0, hb⟩
set_option maxRecDepth 100000 in
set_option maxHeartbeats 16000000 in
theorem walk {w : World} (v : Value) (M : List Lb) (hL : Labs w v M) (u : Int) (u1 : -9223372036854775808 ≤ u) (u2 : u ≤ 9223372036854775807) (lv : Value) (A : List En) (f nn : Int) (hA : EnsP (· < w.heap.size) w lv A) (hf : i64 f) (hnn : i64 nn) :
    Calls Try.prog 4 #[v, .int .i64 u, .agg #[lv, .int .i64 f, .int .i64 nn]] w fun e w' => e = .returned (.bool true) ∧ Below w.heap.size w w' := by
  obtain ⟨a, cap, rfl, hl, hm⟩ := hA.is_slice
  have hL' := hL
  obtain ⟨va, vc, rfl, _⟩ := hL'
  obtain ⟨n, hn⟩ : ∃ n, n = A.length := ⟨_, rfl⟩
  obtain ⟨nM, hnM⟩ : ∃ nM, nM = M.length := ⟨_, rfl⟩
  obtain ⟨B0, R0, L0⟩ := box1 w #[.slice a A.length cap, .int .i64 f, .int .i64 nn] 33
  obtain ⟨W0, hW0⟩ : ∃ W0, W0 = w.alloc (.cells #[.slice a A.length cap, .int .i64 f, .int .i64 nn] 33) := ⟨_, rfl⟩
  rw [← hW0] at B0 R0 L0
  have HU : Hid (i64 u) := ⟨u1, u2⟩
  have HFN : Hid (i64 f ∧ i64 nn) := ⟨hf, hnn⟩
  have HE : Hid (∀ w', Below W0.heap.size W0 w' → EnsP (· < w.heap.size) w' (.slice a n cap) A) := fun w' hb => by rw [hn]; exact hA.below (below_more B0 hb)
  have HLb : Hid (∀ w', Below W0.heap.size W0 w' → Labs w' (.slice va nM vc) M) := fun w' hb => by rw [hnM]; exact hL.below (below_more B0 hb) (Nat.le_refl _)
  have HWS : Hid (∀ w', Below W0.heap.size W0 w' → w.heap.size ≤ w'.heap.size) := fun w' hb => Nat.le_trans B0.size hb.size
  rw [← hn] at hl hW0 R0 ⊢
  rw [← hnM]
  have HB0 := Lib.hid B0
  have HW0 := Lib.hid hW0
  have HN := Lib.hid hn
  have HNM := Lib.hid hnM
  obtain ⟨b5, hb5⟩ : ∃ b5, b5 = w.heap.size := ⟨_, rfl⟩
  rw [← hb5] at R0 L0
  have HL5 : Hid (b5 < W0.heap.size) := by show _ < _; omega
  have BX : Hid (∀ w', Below W0.heap.size W0 w' → Below W0.heap.size W0 w' ∧ w'.cell? ⟨b5, 0, none⟩ = some (.slice a n cap) ∧ w'.cell? ⟨b5, 1, none⟩ = some (.int .i64 f) ∧ w'.cell? ⟨b5, 2, none⟩ = some (.int .i64 nn)) := fun w' hb => ⟨hb, three_cells ((hb.block _ HL5.out).trans R0)⟩
  have KZ : Hid (Below W0.heap.size W0 W0) := Below.refl _ _
  have CSm : Hid (∀ w', Below W0.heap.size W0 w' → Calls Try.prog 13 #[.slice va nM vc] w' fun e w'' => e = .returned (.bool (smallB M)) ∧ Below w'.heap.size w' w'') := fun w' hb => Rig.small_any w' (HLb.out w' hb)
  have CEs : Hid (∀ w', Below W0.heap.size W0 w' → Calls Try.prog 8 #[.slice a n cap] w' fun e w'' => e = .returned (.bool (smallE A)) ∧ Below w'.heap.size w' w'') := fun w' hb => esmall_any w' (HE.out w' hb)
  unfold maxLen at hm
  clear hL hA hn hnM hW0 B0 R0 L0 u1 u2 hf hnn
  go_enter Try.func4, Try.ntmps4
  go_upto_region 1 with fail
  rw [← hb5, ← HW0.out]
  clear hb5
  go_wp2_with fail
  refine (some_any W0).mono ?_
  rintro e w1 ⟨xa, ea, rfl, hx1, hx2, b1⟩
  have K1 := Lib.hid b1
  have C2 := Lib.hid (page_some w1 hx1 hx2)
  clear b1 hx1 hx2
  go_wp2_with fail
  refine (C2.out).mono ?_
  rintro e w2 ⟨pb, po, pc, rfl, pc1, pc2, pe0, b2⟩
  have K2 := Lib.hid (below_more K1.out b2)
  unfold maxLen at pc2
  have C3 := Lib.hid (CSm.out w2 K2.out)
  clear b2 C2
  go_wp2_with fail
  refine (C3.out).mono ?_
  rintro e w3 ⟨rfl, b3⟩
  have K3 := Lib.hid (below_more K2.out b3)
  clear b3 C3 pe0
  cases hsm : smallB M with
  | false =>
    clear hsm
    go_wp2_with fail
    go_ret
    exact ⟨by simp, below_more HB0.out K3.out⟩
  | true =>
    have HSB := Lib.hid hsm
    clear hsm
    obtain ⟨_, z0, z1, z2⟩ := BX.out w3 K3.out
    have C4 := Lib.hid (CEs.out w3 K3.out)
    go_wp2_with fail
    refine (C4.out).mono ?_
    rintro e w4 ⟨rfl, b4⟩
    have K4 := Lib.hid (below_more K3.out b4)
    clear b4 C4 z0 z1 z2
    cases hse : smallE A with
    | false =>
      clear hse
      go_wp2_with fail
      go_ret
      exact ⟨by simp, below_more HB0.out K4.out⟩
    | true =>
      have HS : Hid (n ≤ 300) := by show _ ≤ _; rw [HN.out]; exact (of_decide_eq_true hse).2
      have HSH : Hid (Short A) := short_small hse
      clear hse CSm CEs
      obtain ⟨_, z0, z1, z2⟩ := BX.out w4 K4.out
      go_wp2_with fail
      clear z0 z1 z2
      go_loopg [41] n (fun g i wr => ∃ k : Nat, k ≤ n ∧ n - k ≤ g ∧ i = .int .i64 k ∧ Below W0.heap.size W0 wr)
      case atStart => exact ⟨0, Nat.zero_le _, by omega, rfl, K4.out⟩
      case round =>
        obtain ⟨k, hk, hg, rfl, hbel⟩ := hrel
        have HB := Lib.hid hbel
        by_cases hlt : k < n
        · have hkl : k < A.length := by rw [← HN.out]; exact hlt
          obtain ⟨b, off, sa, sn, sc, la, ln, lc, rfl, hb, hv, c0, c1, c2, c3, c4, q1, q2⟩ := (HE.out _ hbel).get hkl
          clear q1 q2
          generalize A[k] = y at *
          obtain ⟨yu, yo, ys, yS, yL⟩ := y
          simp only at c0 c1 c2 c3 c4
          obtain ⟨B1, R1, L1⟩ := box1 wr #[.int .i64 yu, .int .i64 yo, .int .i64 ys, .slice sa sn sc, .slice la ln lc] 25
          obtain ⟨W1, hW1⟩ : ∃ W1, W1 = wr.alloc (.cells #[.int .i64 yu, .int .i64 yo, .int .i64 ys, .slice sa sn sc, .slice la ln lc] 25) := ⟨_, rfl⟩
          rw [← hW1] at B1 R1 L1
          have HW1 := Lib.hid hW1
          have HB1 := Lib.hid (below_more hbel B1)
          have HV := Lib.hid (hv.below B1)
          obtain ⟨b11, hb11⟩ : ∃ b11, b11 = wr.heap.size := ⟨_, rfl⟩
          rw [← hb11] at R1 L1
          have HL11 : Hid (b11 < W1.heap.size) := by show _ < _; omega
          have BY : Hid (∀ w', Below W1.heap.size W1 w' → Below W1.heap.size W1 w' ∧ w'.cell? ⟨b11, 0, none⟩ = some (.int .i64 yu) ∧ w'.cell? ⟨b11, 1, none⟩ = some (.int .i64 yo) ∧ w'.cell? ⟨b11, 2, none⟩ = some (.int .i64 ys) ∧ w'.cell? ⟨b11, 3, none⟩ = some (.slice sa sn sc) ∧ w'.cell? ⟨b11, 4, none⟩ = some (.slice la ln lc)) := fun w' hb => ⟨hb, five_cells ((hb.block _ HL11.out).trans R1)⟩
          obtain ⟨q, hq⟩ : ∃ q, q = seesB M u ⟨yu, yo, ys, yS, yL⟩ := ⟨_, rfl⟩
          have CA : Hid (∀ w', Below W1.heap.size W1 w' → Calls Try.prog 14 #[.slice va nM vc, .int .i64 u, .agg #[.int .i64 yu, .int .i64 yo, .int .i64 ys, .slice sa sn sc, .slice la ln lc]] w' fun e w'' => e = .returned (.bool q) ∧ Below w'.heap.size w' w'') := fun w' hb => by
            rw [hq]
            exact sees_any (y := ⟨yu, yo, ys, yS, yL⟩) u w' (HLb.out w' (below_more HB1.out hb)) HU.out (HV.out.below hb)
          have CB : Hid (∀ w', Below W1.heap.size W1 w' → Calls Try.prog 15 #[.slice va nM vc, .int .i64 u, .agg #[.int .i64 yu, .int .i64 yo, .int .i64 ys, .slice sa sn sc, .slice la ln lc]] w' fun e w'' => e = .returned (.bool q) ∧ Below w'.heap.size w' w'') := fun w' hb => by
            rw [hq]
            exact rsees_any (y := ⟨yu, yo, ys, yS, yL⟩) u w' (HLb.out w' (below_more HB1.out hb)) HU.out (HV.out.below hb)
          have jq : (q != q) = false := by simp
          have KX : Hid (Below W1.heap.size W1 W1) := Below.refl _ _
          have i1 : (k : Int) < (n : Int) := by omega
          clear hbel hv hW1 B1 R1 L1 hq
          go_upto_region 10 with fail
          rw [← hb11, ← HW1.out]
          clear c0 c1 c2 c3 c4 hb11
          go_cut [53] from 45 to 54 (fun x wx => x = .bool false ∧ Hid (Below W1.heap.size W1 wx))
          case first =>
            go_region_held3 (fun w' => Below W1.heap.size W1 w' ∧ w'.cell? ⟨b11, 0, none⟩ = some (.int .i64 yu) ∧ w'.cell? ⟨b11, 1, none⟩ = some (.int .i64 yo) ∧ w'.cell? ⟨b11, 2, none⟩ = some (.int .i64 ys) ∧ w'.cell? ⟨b11, 3, none⟩ = some (.slice sa sn sc) ∧ w'.cell? ⟨b11, 4, none⟩ = some (.slice la ln lc))
              ((refine BY.out _ ?_; focus ((repeat first | with_reducible assumption | with_reducible exact KX.out | with_reducible apply Below.drew | with_reducible apply below_drews | with_reducible apply below_al); done)))
              (first
                | (go_at_call 14; (with_reducible refine (CA.out _ ?_).mono ?_); (focus ((repeat first | with_reducible assumption | with_reducible exact KX.out | with_reducible apply Below.drew | with_reducible apply below_drews | with_reducible apply below_al); done)); rintro e wi ⟨rfl, bi⟩; have ki := fun h => below_more (w := W1) h bi; replace ki := ki (by (repeat first | with_reducible assumption | with_reducible exact KX.out | with_reducible apply Below.drew | with_reducible apply below_drews | with_reducible apply below_al)); clear bi)
                | (go_at_call 15; (with_reducible refine (CB.out _ ?_).mono ?_); (focus ((repeat first | with_reducible assumption | with_reducible exact KX.out | with_reducible apply Below.drew | with_reducible apply below_drews | with_reducible apply below_al); done)); rintro e wj ⟨rfl, bj⟩; have kj := fun h => below_more (w := W1) h bj; replace kj := kj (by (repeat first | with_reducible assumption | with_reducible exact KX.out | with_reducible apply Below.drew | with_reducible apply below_drews | with_reducible apply below_al)); clear bj))
            all_goals go_wp2_with fail
            all_goals go_meet
            all_goals (refine ⟨by simp, Lib.hid ?_⟩; (repeat first | with_reducible assumption | with_reducible exact KX.out | with_reducible apply Below.drew | with_reducible apply below_drews | with_reducible apply below_al))
          case rest =>
            obtain ⟨rfl, K9⟩ := hcut
            go_wp2_with fail
            go_roundg (n - (k + 1))
            case measure => omega
            case rel => exact ⟨k + 1, by omega, Nat.le_refl _, by go_num, below_more HB1.out K9.out⟩
        · obtain rfl : n = k := by omega
          have i1 : ¬ (n : Int) < (n : Int) := by omega
          have KY : Hid (Below W0.heap.size W0 wr) := hbel
          clear hbel HB
          obtain ⟨R, hR⟩ : ∃ R, R = pageE (seesB M u) A f nn := ⟨_, rfl⟩
          have CPA : Hid (∀ w', Below W0.heap.size W0 w' → Calls Try.prog 12 #[.slice va nM vc, .int .i64 u, .slice a n cap, .int .i64 f, .int .i64 nn] w' fun e w'' => ∃ s, e = .returned s ∧ EnsP (fun _ => True) w'' s R ∧ Below w'.heap.size w' w'') := fun w' hb => by
            rw [hR]
            refine (page_at u f nn w' (HLb.out w' hb) HU.out (HE.out w' hb) (fun b h => Nat.lt_of_lt_of_le h (HWS.out w' hb)) (by rw [← HN.out]; have := HS.out; omega) HFN.out.1 HFN.out.2 HSH.out).mono ?_
            rintro e w'' ⟨s, rfl, h, hb'⟩
            exact ⟨s, rfl, h.mono fun _ _ _ => trivial, hb'⟩
          have CPB : Hid (∀ w', Below W0.heap.size W0 w' → Calls Try.prog 16 #[.slice va nM vc, .int .i64 u, .slice a n cap, .int .i64 f, .int .i64 nn] w' fun e w'' => ∃ s, e = .returned s ∧ EnsP (fun _ => True) w'' s R ∧ Below w'.heap.size w' w'') := fun w' hb => by
            rw [hR]
            refine (rpage_any u f nn w' (HLb.out w' hb) HU.out (HE.out w' hb) (fun b h => Nat.lt_of_lt_of_le h (HWS.out w' hb)) (by rw [← HN.out]; have := HS.out; omega) HFN.out.1 HFN.out.2).mono ?_
            rintro e w'' ⟨s, rfl, h, hb'⟩
            exact ⟨s, rfl, h.mono fun _ _ _ => trivial, hb'⟩
          have CSa : Hid (∀ w' s1 s2, EnsP (fun _ => True) w' s1 R → EnsP (fun _ => True) w' s2 R → Calls Try.prog 10 #[s1, s2] w' fun e w'' => e = .returned (.bool true) ∧ Below w'.heap.size w' w'') := fun w' s1 s2 h1 h2 => esame_any w' h1 h2
          clear hR
          go_upto_region 13 with fail
          go_cut [6] from 55 to 74 (fun x wx => x = .bool true ∧ Hid (Below W0.heap.size W0 wx))
          case first =>
            go_region_held3 (fun w' => Below W0.heap.size W0 w' ∧ w'.cell? ⟨b5, 0, none⟩ = some (.slice a n cap) ∧ w'.cell? ⟨b5, 1, none⟩ = some (.int .i64 f) ∧ w'.cell? ⟨b5, 2, none⟩ = some (.int .i64 nn))
              ((refine BX.out _ ?_; focus ((repeat first | with_reducible assumption | with_reducible exact KY.out | with_reducible apply Below.drew | with_reducible apply below_drews | with_reducible apply below_al); done)))
              (first
                | (go_at_call 10; (with_reducible refine (CSa.out _ _ _ (HI.out _ ?_) (HJ.out _ ?_)).mono ?_); (focus ((repeat first | with_reducible assumption | with_reducible exact KI.out | with_reducible apply Below.drew | with_reducible apply below_drews | with_reducible apply below_al); done)); (focus ((repeat first | with_reducible assumption | with_reducible exact KJ.out | with_reducible apply Below.drew | with_reducible apply below_drews | with_reducible apply below_al); done)); rintro e wk ⟨rfl, bk⟩; have kk := fun h => below_more (w := W0) h bk; replace kk := kk (by (repeat first | with_reducible assumption | with_reducible exact KY.out | with_reducible apply Below.drew | with_reducible apply below_drews | with_reducible apply below_al)); clear bk)
                | (go_at_call 12; (with_reducible refine (CPA.out _ ?_).mono ?_); (focus ((repeat first | with_reducible assumption | with_reducible exact KY.out | with_reducible apply Below.drew | with_reducible apply below_drews | with_reducible apply below_al); done)); rintro e wi ⟨s1, rfl, hi, bi⟩; have ki := fun h => below_more (w := W0) h bi; replace ki := ki (by (repeat first | with_reducible assumption | with_reducible exact KY.out | with_reducible apply Below.drew | with_reducible apply below_drews | with_reducible apply below_al)); have HI : Hid (∀ w', Below wi.heap.size wi w' → EnsP (fun _ => True) w' s1 R) := (fun w' hb => hi.below hb); have KI := Lib.hid (Below.refl wi.heap.size wi); clear bi hi)
                | (go_at_call 16; (with_reducible refine (CPB.out _ ?_).mono ?_); (focus ((repeat first | with_reducible assumption | with_reducible exact KY.out | with_reducible apply Below.drew | with_reducible apply below_drews | with_reducible apply below_al); done)); rintro e wj ⟨s2, rfl, hj, bj⟩; have kj := fun h => below_more (w := W0) h bj; replace kj := kj (by (repeat first | with_reducible assumption | with_reducible exact KY.out | with_reducible apply Below.drew | with_reducible apply below_drews | with_reducible apply below_al)); have kI := fun h => below_more (w := wi) h bj; replace kI := kI (by (repeat first | with_reducible assumption | with_reducible exact KI.out | with_reducible apply Below.drew | with_reducible apply below_drews | with_reducible apply below_al)); have HJ : Hid (∀ w', Below wj.heap.size wj w' → EnsP (fun _ => True) w' s2 R) := (fun w' hb => hj.below hb); have KJ := Lib.hid (Below.refl wj.heap.size wj); clear bj hj))
            all_goals go_wp2_with fail
            all_goals go_meet
            all_goals (refine ⟨rfl, Lib.hid ?_⟩; (repeat first | with_reducible assumption | with_reducible exact KY.out | with_reducible apply Below.drew | with_reducible apply below_drews | with_reducible apply below_al))
          case rest =>
            obtain ⟨rfl, K30⟩ := hcut
            go_wp2_with fail
            go_ret
            exact ⟨by simp, below_more HB0.out K30.out⟩

set_option maxRecDepth 100000 in
theorem lifted (os : Os) (started : os.Started) (H : Type) (enc : TypeId × Value → H) :
    ReturnsInHanded {} Try.checked os 4 .any (Rows.auditSeesSpec.pre6 enc Try.prog Try.f4 Rows.auditSeesRow.domain false) (Rows.auditSeesSpec.post enc Try.prog Try.f4 false true false false) := by
  refine returnsInHanded_of_change (C := Try.checked) own started (by kernel_rfl) Try.func4
    (ChangeSpec.witness6 (enc := enc) (C := Try.checked) false ⟨#[], #[.slice none 0 0, .int .i64 0, .agg #[.slice none 0 0, .int .i64 0, .int .i64 0]], []⟩ 8 (by kernel_rfl) (by kernel_rfl) (by kernel_rfl) (by kernel_rfl)) ?_
  intro W base args ds gs before hval0 hW hcnd _
  have hval : ∀ (j : Nat) t v, Try.f4.params[j]? = some t → args[j]? = some v → Value.okWide Try.prog W .any base t v := hval0
  have hread : ∀ t ∈ Try.f4.params.toList, Try.prog.readableRec t = true ∧ t < Try.prog.types.size := by
    have : (Try.f4.params.toList.all fun t => Try.prog.readableRec t && decide (t < Try.prog.types.size)) = true := by kernel_rfl
    intro t ht
    have := List.all_eq_true.1 this t ht
    simpa using this
  refine law_contract (P := Try.prog) (s := Rows.auditSeesSpec) (fn := Try.f4) (tb := 4) laidOut rfl hread rfl Try.underlying4 (fun W' => okWide_bool_mk Try.underlying4 _) ?_ hW ?_
  · intro ds hds
    rw [Try.params4] at hds
    match ds, hds with
    | [d0, d1, d2], _ => rfl
  intro pl hA
  rw [Try.params4] at hA hval
  obtain ⟨v0, vs0, d0, ds0, p0, q0, hargs, rfl, hp0, h0, r0⟩ := trodAll_cons hA
  obtain ⟨v1, vs1, d1, ds1, p1, q1, rfl, rfl, hp1, h1, r1⟩ := trodAll_cons r0
  obtain ⟨v2, vs2, d2, ds2, p2, q2, rfl, rfl, hp2, h2, r2⟩ := trodAll_cons r1
  obtain ⟨rfl, rfl, hpe⟩ := trodAll_nil r2
  obtain rfl : args = #[v0, v1, v2] := by cases args; simp_all
  obtain ⟨M, hL0⟩ := open_labels (hval 0 31 v0 rfl rfl) h0
  obtain ⟨u, rfl, rfl, _, hw1⟩ := open_int Try.underlying3 (hval 1 3 v1 rfl rfl) h1
  have hb1 : -9223372036854775808 ≤ u ∧ u ≤ 9223372036854775807 := by simpa [Lit.wf, IntKind.min, IntKind.max, IntKind.signed, IntKind.bits] using hw1
  obtain ⟨lv2, A2, f2, n2, rfl, hC2, hf2, hn2⟩ := open_ecase (hval 2 33 v2 rfl rfl) h2
  exact walk v0 M hL0 u hb1.1 hb1.2 lv2 A2 f2 n2 hC2 hf2 hn2

theorem over : Rows.auditSeesRow.holds Try.pinned (OpenSpec.ofChange Rows.auditSeesSpec) :=
  OpenClaim.holds_of_wide 4 Try.f4 rfl rfl rfl rfl rfl rfl rfl ⟨rfl, rfl, rfl, rfl, rfl⟩ rfl rfl rfl rfl rfl (by kernel_rfl) Try.func4 (by kernel_rfl)
    (of_decide_eq_true (by kernel_rfl)) (by unfold Func.isWrapper; first | (rw [if_pos (by decide +kernel)]; kernel_rfl) | (rw [if_neg (by decide +kernel)]; exact ⟨rfl, rfl⟩))
    (fun os started H enc _ => lifted os started H enc)

/-- The statement. -/
theorem proved : Rows.AuditSeesSaid :=
  over
#print axioms proved
end Go.Proofs.Ytfahfjhibffdkaa.auditSees
