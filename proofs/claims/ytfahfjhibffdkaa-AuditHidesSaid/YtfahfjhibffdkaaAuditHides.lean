/- For every list of labels, every user and every case (entries and a page of them): AuditHides answers true, and its arguments read behind the call as before. No condition. -/
import Derived.Test.YtfahfjhibffdkaaRows
import Derived.Test.YtfahfjhibffdkaaLift
import Derived.Test.YtfahfjhibffdkaaEp
import Derived.Deep.RegionHeld3
import Derived.OrdersHeld
import Derived.Deep.RegionHeld
set_option linter.unusedVariables false
namespace Go.Proofs.Ytfahfjhibffdkaa.auditHides
open Go.ChangeShapes Go.WideShapes Go.ChangeAt Go.RowKit Go.Lib Go.Proofs.Ytfahfjhibffdkaa.Lift Go.Proofs.Ytfahfjhibffdkaa.Rt Go.Proofs.Ytfahfjhibffdkaa.Rig Go.Proofs.Ytfahfjhibffdkaa.Bx Go.Proofs.Ytfahfjhibffdkaa.Aud
open Go.ChangeMaps (open_string shut_string)

theorem own : ownKnob Try.prog.godebug = none := by kernel_rfl
theorem laidOut : laidOutB Try.prog = true := by kernel_rfl

theorem page_one : pageE (seesB someL 1) someE 0 9 = [⟨1, 0, 0, [], [0]⟩] := rfl
theorem page_some {la ea : Option Addr} (w : World) (h1 : Labs w (.slice la 1 1) someL) (h2 : EnsP (· < w.heap.size) w (.slice ea 2 2) someE) : Calls Try.prog 12 #[.slice la 1 1, .int .i64 1, .slice ea 2 2, .int .i64 0, .int .i64 9] w fun e w' => ∃ b off c, e = .returned (.slice (some ⟨b, off, none⟩) 1 c) ∧ 1 ≤ c ∧ c ≤ maxLen ∧ w'.cell? ⟨b, off, none⟩ = some (.int .i64 1) ∧ Below w.heap.size w w' := by
  refine (page_at 1 0 9 w h1 ⟨by decide, by decide⟩ h2 (fun _ h => h) (by decide) ⟨by decide, by decide⟩ ⟨by decide, by decide⟩ short_some).mono ?_
  rintro e w' ⟨s, rfl, h, hb⟩
  rw [page_one] at h
  obtain ⟨a, c, rfl, h3, h4⟩ := h.is_slice
  obtain ⟨b, off, sa, sn, sc, la, ln, lc, rfl, _, _, c0, _⟩ := h.get (show 0 < [(⟨1, 0, 0, [], [0]⟩ : En)].length by decide)
  exact ⟨b, off, c, rfl, h3, h4, by simpa using c0, hb⟩
/-- The entries with others in the hidden ones' place. -/
def mixE (u h : Int) (y : En) : En := if (y.u == u) = false ∧ hasB y.L h = true then ⟨y.u, 7, IntKind.i64.wrap (y.s + 1), [1, 2, 3], y.L⟩ else y
theorem short_mix {u h : Int} {A : List En} (hs : Short A) : Short (A.map (mixE u h)) := fun y hy => by
  obtain ⟨z, hz, rfl⟩ := List.mem_map.1 hy
  have := hs z hz
  unfold mixE
  split
  · exact ⟨by simp, this.2⟩
  · exact this
theorem mix_sees {M : List Lb} {u h : Int} (hh : mayB M u h false = false) (y : En) : seesB M u (mixE u h y) = seesB M u y ∧ (seesB M u y = true → mixE u h y = y) := by
  unfold mixE
  split
  · rename_i q
    refine ⟨rfl, fun hs => ?_⟩
    exfalso
    unfold seesB at hs
    rw [q.1, Bool.false_or, List.all_eq_true] at hs
    obtain ⟨j, hj, e⟩ := of_decide_eq_true q.2
    have h1 := hs _ (at_mem hj)
    rw [e, hh] at h1
    cases h1
  · exact ⟨rfl, fun _ => rfl⟩
theorem mix_filter {M : List Lb} {u h : Int} (hh : mayB M u h false = false) : ∀ A : List En, (A.map (mixE u h)).filter (seesB M u) = A.filter (seesB M u)
  | [] => rfl
  | y :: r => by
    obtain ⟨h1, h2⟩ := mix_sees hh y
    rw [List.map_cons, List.filter_cons, List.filter_cons, h1, mix_filter hh r]
    cases hs : seesB M u y with
    | true => rw [h2 hs]
    | false => rfl
theorem mix_page {M : List Lb} {u h : Int} (hh : mayB M u h false = false) (A : List En) (f n : Int) : pageE (seesB M u) (A.map (mixE u h)) f n = pageE (seesB M u) A f n := by
  unfold pageE
  rw [mix_filter hh]
theorem map_take {f : En → En} (A : List En) {k : Nat} (hk : k < A.length) : (A.take (k + 1)).map f = (A.take k).map f ++ [f A[k]] := by
  rw [List.take_succ_eq_append_getElem hk, List.map_append]
  rfl
theorem three_ints {w : World} {b : Nat} (h : w.heap[b]? = some (.cells #[.int .i64 1, .int .i64 2, .int .i64 3] 3 (0, 0))) : Ints w (.slice (some ⟨b, 0, none⟩) 3 3) [1, 2, 3] := by
  refine ⟨fun x hx => ?_, some ⟨b, 0, none⟩, 3, rfl, Nat.le_refl _, by unfold maxLen; omega, .inr ⟨b, 0, rfl, (Array.getElem?_eq_some_iff.1 h).1, fun j hj => ?_⟩⟩
  · simp at hx
    unfold i64
    omega
  · have hj : j < 3 := hj
    rw [cell_of_row _ _ _ _ _ _ h]
    match j, hj with
    | 0, _ => rfl
    | 1, _ => rfl
    | 2, _ => rfl
theorem i64_7 : i64 7 := ⟨by decide, by decide⟩
set_option maxRecDepth 100000 in
set_option maxHeartbeats 16000000 in
theorem walk {w : World} (v : Value) (M : List Lb) (hL : Labs w v M) (u : Int) (u1 : -9223372036854775808 ≤ u) (u2 : u ≤ 9223372036854775807) (lv : Value) (A : List En) (f nn : Int) (hA : EnsP (· < w.heap.size) w lv A) (hf : i64 f) (hnn : i64 nn) :
    Calls Try.prog 5 #[v, .int .i64 u, .agg #[lv, .int .i64 f, .int .i64 nn]] w fun e w' => e = .returned (.bool true) ∧ Below w.heap.size w w' := by
  obtain ⟨a, cap, rfl, hl, hm⟩ := hA.is_slice
  have hL' := hL
  obtain ⟨va, vc, rfl, _⟩ := hL'
  obtain ⟨n, hn⟩ : ∃ n, n = A.length := ⟨_, rfl⟩
  obtain ⟨nM, hnM⟩ : ∃ nM, nM = M.length := ⟨_, rfl⟩
  obtain ⟨B0, R0, L0⟩ := box1 w #[.slice a A.length cap, .int .i64 f, .int .i64 nn] 33
  obtain ⟨W0, hW0⟩ : ∃ W0, W0 = w.alloc (.cells #[.slice a A.length cap, .int .i64 f, .int .i64 nn] 33) := ⟨_, rfl⟩
  rw [← hW0] at B0 R0 L0
  have HU : Hid (i64 u) := ⟨u1, u2⟩
  have HFN : Hid (i64 f ∧ i64 nn) := ⟨hf, hnn⟩
  have HE : Hid (∀ w', Below W0.heap.size W0 w' → EnsP (· < w.heap.size) w' (.slice a n cap) A) := fun w' hb => by rw [hn]; exact hA.below (below_more B0 hb)
  have HLb : Hid (∀ w', Below W0.heap.size W0 w' → Labs w' (.slice va nM vc) M) := fun w' hb => by rw [hnM]; exact hL.below (below_more B0 hb) (Nat.le_refl _)
  have HWS : Hid (∀ w', Below W0.heap.size W0 w' → w.heap.size ≤ w'.heap.size) := fun w' hb => Nat.le_trans B0.size hb.size
  rw [← hn] at hl hW0 R0 ⊢
  rw [← hnM]
  have HB0 := Lib.hid B0
  have HW0 := Lib.hid hW0
  have HN := Lib.hid hn
  have HNM := Lib.hid hnM
  obtain ⟨b5, hb5⟩ : ∃ b5, b5 = w.heap.size := ⟨_, rfl⟩
  rw [← hb5] at R0 L0
  have HL5 : Hid (b5 < W0.heap.size) := by show _ < _; omega
  have BX : Hid (∀ w', Below W0.heap.size W0 w' → Below W0.heap.size W0 w' ∧ w'.cell? ⟨b5, 0, none⟩ = some (.slice a n cap) ∧ w'.cell? ⟨b5, 1, none⟩ = some (.int .i64 f) ∧ w'.cell? ⟨b5, 2, none⟩ = some (.int .i64 nn)) := fun w' hb => ⟨hb, three_cells ((hb.block _ HL5.out).trans R0)⟩
  have KZ : Hid (Below W0.heap.size W0 W0) := Below.refl _ _
  have CSm : Hid (∀ w', Below W0.heap.size W0 w' → Calls Try.prog 13 #[.slice va nM vc] w' fun e w'' => e = .returned (.bool (smallB M)) ∧ Below w'.heap.size w' w'') := fun w' hb => Rig.small_any w' (HLb.out w' hb)
  have CEs : Hid (∀ w', Below W0.heap.size W0 w' → Calls Try.prog 8 #[.slice a n cap] w' fun e w'' => e = .returned (.bool (smallE A)) ∧ Below w'.heap.size w' w'') := fun w' hb => esmall_any w' (HE.out w' hb)
  unfold maxLen at hm
  clear hL hA hn hnM hW0 B0 R0 L0 u1 u2 hf hnn
  go_enter Try.func5, Try.ntmps5
  go_upto_region 1 with fail
  rw [← hb5, ← HW0.out]
  clear hb5
  go_wp2_with fail
  refine (some_any W0).mono ?_
  rintro e w1 ⟨xa, ea, rfl, hx1, hx2, b1⟩
  have K1 := Lib.hid b1
  have C2 := Lib.hid (page_some w1 hx1 hx2)
  clear b1 hx1 hx2
  go_wp2_with fail
  refine (C2.out).mono ?_
  rintro e w2 ⟨pb, po, pc, rfl, pc1, pc2, pe0, b2⟩
  have K2 := Lib.hid (below_more K1.out b2)
  unfold maxLen at pc2
  have C3 := Lib.hid (CSm.out w2 K2.out)
  clear b2 C2
  go_wp2_with fail
  refine (C3.out).mono ?_
  rintro e w3 ⟨rfl, b3⟩
  have K3 := Lib.hid (below_more K2.out b3)
  clear b3 C3 pe0
  cases hsm : smallB M with
  | false =>
    clear hsm
    go_wp2_with fail
    go_ret
    exact ⟨by simp, below_more HB0.out K3.out⟩
  | true =>
    have HSB := Lib.hid hsm
    clear hsm
    obtain ⟨_, z0, z1, z2⟩ := BX.out w3 K3.out
    have C4 := Lib.hid (CEs.out w3 K3.out)
    go_wp2_with fail
    refine (C4.out).mono ?_
    rintro e w4 ⟨rfl, b4⟩
    have K4 := Lib.hid (below_more K3.out b4)
    clear b4 C4 z0 z1 z2
    cases hse : smallE A with
    | false =>
      clear hse
      go_wp2_with fail
      go_ret
      exact ⟨by simp, below_more HB0.out K4.out⟩
    | true =>
      have HS : Hid (n ≤ 300) := by show _ ≤ _; rw [HN.out]; exact (of_decide_eq_true hse).2
      have HSH : Hid (Short A) := short_small hse
      clear hse CSm CEs
      obtain ⟨_, z0, z1, z2⟩ := BX.out w4 K4.out
      have HMY : Hid (∀ (k : Nat) (w' : World), k < nM → Below W0.heap.size W0 w' → Calls Try.prog 17 #[.slice va nM vc, .int .i64 u, .int .i64 k, .bool false] w' fun e w'' => e = .returned (.bool (mayB M u k false)) ∧ Below w'.heap.size w' w'') := fun k w' hk hb => rmay_any u k false w' (HLb.out w' hb) HU.out (by have := HSB.out; have := (of_decide_eq_true this).1; have := HNM.out; unfold i64; omega)
      have HNB : Hid (nM ≤ 100) := by show _ ≤ _; have := (of_decide_eq_true HSB.out).1; have := HNM.out; omega
      clear z0 z1 z2
      go_wp2_with fail
      go_loopg [10, 36] nM (fun g hh i wr => ∃ (k : Nat) (h : Int), k ≤ nM ∧ nM - k ≤ g ∧ i = .int .i64 k ∧ hh = .int .i64 h ∧ (h = -1 ∨ (0 ≤ h ∧ h < k)) ∧ Hid (0 ≤ h → mayB M u h false = false) ∧ Below W0.heap.size W0 wr)
      case atStart => exact ⟨0, -1, Nat.zero_le _, by omega, rfl, rfl, .inl rfl, fun h => absurd h (by decide), K4.out⟩
      case round =>
        obtain ⟨k, h, hk, hg, rfl, rfl, hh, HH, hbel⟩ := hrel
        have HB := Lib.hid hbel
        have hnb := HNB.out
        by_cases hlt : k < nM
        · have CM1 := Lib.hid (HMY.out k wr hlt hbel)
          have i1 : (k : Int) < (nM : Int) := by omega
          by_cases h0 : h < 0
          · have j0 : decide (h < 0) = true := decide_eq_true h0
            obtain ⟨mb, hmb⟩ : ∃ mb, mb = mayB M u k false := ⟨_, rfl⟩
            rw [← hmb] at CM1
            have HMB := Lib.hid hmb
            clear hbel hmb
            go_wp2_with fail
            refine (CM1.out).mono ?_
            rintro e w8 ⟨rfl, b8⟩
            have K8 := Lib.hid (below_more HB.out b8)
            clear b8 CM1
            cases mb with
            | true =>
              go_wp2_with fail
              go_roundg (nM - (k + 1))
              case measure => omega
              case rel => exact ⟨k + 1, h, by omega, Nat.le_refl _, by go_num, rfl, by omega, HH, K8.out⟩
            | false =>
              have HH2 : Hid (0 ≤ (k : Int) → mayB M u k false = false) := fun _ => HMB.out.symm
              go_wp2_with fail
              go_roundg (nM - (k + 1))
              case measure => omega
              case rel => exact ⟨k + 1, k, by omega, Nat.le_refl _, by go_num, rfl, by omega, HH2, K8.out⟩
          · have j0 : decide (h < 0) = false := decide_eq_false h0
            clear hbel CM1
            go_wp2_with fail
            go_roundg (nM - (k + 1))
            case measure => omega
            case rel => exact ⟨k + 1, h, by omega, Nat.le_refl _, by go_num, rfl, by omega, HH, HB.out⟩
        · obtain rfl : nM = k := by omega
          have i1 : ¬ (nM : Int) < (nM : Int) := by omega
          by_cases h0 : h < 0
          · have j0 : decide (h < 0) = true := decide_eq_true h0
            clear hbel
            go_wp2_with fail
            go_ret
            exact ⟨by simp, below_more HB0.out HB.out⟩
          · have j0 : decide (h < 0) = false := decide_eq_false h0
            have HMh := Lib.hid (HH.out (by omega))
            have HIh : Hid (i64 h) := by unfold i64; show _ ∧ _; omega
            obtain ⟨w4, hw4⟩ : ∃ w4, w4 = wr := ⟨_, rfl⟩
            rw [← hw4] at HB ⊢
            have K4 := HB
            obtain ⟨_, z0, z1, z2⟩ := BX.out w4 K4.out
            clear hbel hw4 HB HH hh K3 K1 K2 HMY
            go_wp2_with fail
            clear z0 z1 z2
            go_loopg [12, 55] n (fun g t i wr => ∃ k : Nat, k ≤ n ∧ n - k ≤ g ∧ i = .int .i64 k ∧ Hid (OEn (fun _ => True) w4.heap.size wr t ((A.take k).map (mixE u h))) ∧ Below w4.heap.size w4 wr)
            case atStart => exact ⟨0, Nat.zero_le _, by omega, rfl, OEn.nil_ _ _ _, Below.refl _ _⟩
            case round =>
              obtain ⟨k, hk, hg, rfl, HO, hbel⟩ := hrel
              have HB := Lib.hid hbel
              have HBw := Lib.hid (below_more K4.out hbel)
              obtain ⟨ao, co, rfl⟩ := HO.out.is_slice
              by_cases hlt : k < n
              · have hkl : k < A.length := by rw [← HN.out]; exact hlt
                obtain ⟨b, off, sa, sn, sc, la, ln, lc, rfl, hb, hv, c0, c1, c2, c3, c4, q1, q2⟩ := (HE.out _ HBw.out).get hkl
                have EQ := Lib.hid (map_take (f := mixE u h) A hkl)
                clear q1 q2
                generalize A[k] = y at *
                obtain ⟨yu, yo, ys, yS, yL⟩ := y
                simp only at c0 c1 c2 c3 c4
                have HOW : Hid (∀ b, b < w4.heap.size → some b ≠ (Value.slice ao ((A.take k).map (mixE u h)).length co).ownBlock) := fun b hb e => by
                  have := (HO.out.own b e.symm).1
                  omega
                have HOL : Hid (∀ b, wr.heap.size ≤ b → some b ≠ (Value.slice ao ((A.take k).map (mixE u h)).length co).ownBlock) := fun b hb e => by
                  have := (HO.out.own b e.symm).2
                  omega
                obtain ⟨mk, hmk⟩ : ∃ mk, mk = ((A.take k).map (mixE u h)).length := ⟨_, rfl⟩
                rw [← hmk] at HO HOW HOL ⊢
                have HW4 : Hid (w.heap.size ≤ w4.heap.size) := HWS.out w4 K4.out
                obtain ⟨B1, R1, L1⟩ := box1 wr #[.int .i64 yu, .int .i64 yo, .int .i64 ys, .slice sa sn sc, .slice la ln lc] 25
                obtain ⟨W1, hW1⟩ : ∃ W1, W1 = wr.alloc (.cells #[.int .i64 yu, .int .i64 yo, .int .i64 ys, .slice sa sn sc, .slice la ln lc] 25) := ⟨_, rfl⟩
                rw [← hW1] at B1 R1 L1
                have HW1 := Lib.hid hW1
                have KW1 := Lib.hid B1
                have HU1 : Hid (EnP (fun b => some b ≠ (Value.slice ao mk co).ownBlock) W1 [Value.int .i64 yu, .int .i64 yo, .int .i64 ys, .slice sa sn sc, .slice la ln lc] ⟨yu, yo, ys, yS, yL⟩) := (hv.below B1).mono fun b _ hb => HOW.out b (by have := HW4.out; omega)
                have HIL : Hid (Ints W1 (.slice la ln lc) yL) := by
                  obtain ⟨_, _, e, _, _, h2⟩ := HU1.out
                  obtain ⟨rfl, rfl⟩ : _ ∧ _ := by simpa using e
                  exact h2.1
                have HUr : Hid (IntsP (fun b => some b ≠ (Value.slice ao mk co).ownBlock) wr (.slice la ln lc) yL) := by
                  obtain ⟨_, _, e, _, _, h2⟩ := hv
                  obtain ⟨rfl, rfl⟩ : _ ∧ _ := by simpa using e
                  exact h2.mono fun b _ hb => HOW.out b (by have := HW4.out; omega)
                have HSz : Hid (wr.heap.size ≤ W1.heap.size) := B1.size
                obtain ⟨b14, hb14⟩ : ∃ b14, b14 = wr.heap.size := ⟨_, rfl⟩
                rw [← hb14] at R1 L1
                have HG14 : Hid (wr.heap.size ≤ b14) := by show _ ≤ _; omega
                have HR14 := Lib.hid R1
                obtain ⟨d0, d1, d2, d3, d4⟩ := five_cells R1
                have i1 : (k : Int) < (n : Int) := by omega
                have hub : ∃ q, q = (yu == u) := ⟨_, rfl⟩
                obtain ⟨q, hq⟩ := hub
                have CH : Hid (Calls Try.prog 18 #[.slice la ln lc, .int .i64 h] W1 fun e w' => e = .returned (.bool (hasB yL h)) ∧ w' = W1) := (has_any h W1 HIL.out HIh.out).mono fun e w' h => ⟨h.1, h.2.symm⟩
                have MY : Hid ((yu == u) = false → hasB yL h = true → mixE u h ⟨yu, yo, ys, yS, yL⟩ = ⟨yu, 7, IntKind.i64.wrap (ys + 1), [1, 2, 3], yL⟩) := fun h1 h2 => by unfold mixE; rw [if_pos ⟨h1, h2⟩]
                have MN : Hid ((yu == u) = true ∨ hasB yL h = false → mixE u h ⟨yu, yo, ys, yS, yL⟩ = ⟨yu, yo, ys, yS, yL⟩) := fun h1 => by
                  unfold mixE
                  rw [if_neg]
                  rintro ⟨h2, h3⟩
                  rcases h1 with h1 | h1
                  · rw [h1] at h2; cases h2
                  · rw [h1] at h3; cases h3
                rw [← hq] at MY MN
                clear hbel hv hW1 B1 R1 L1 hmk
                go_upto_region 20 with fail
                rw [← hb14, ← HW1.out]
                clear c0 c1 c2 c3 c4 hb14
                cases q with
                | true =>
                  replace EQ : Hid ((A.take (k + 1)).map (mixE u h) = (A.take k).map (mixE u h) ++ [⟨yu, yo, ys, yS, yL⟩]) := by show _ = _; rw [EQ.out, MN.out (.inl rfl)]
                  have nq : (yu != u) = false := by simp only [bne, ← hq]; rfl
                  clear MY MN CH hq
                  have HB5 := Lib.hid (below_more HB.out KW1.out)
                  obtain ⟨xs, hxl, A1, K0'⟩ := (HO.out.below (below_al KW1.out (.cells #[Value.int .i64 yu, .int .i64 yo, .int .i64 ys, .slice sa sn sc, .slice la ln lc] 25))).row
                  replace A1 := Lib.hid A1
                  have KR := Lib.hid K0'
                  have A2 : Hid (Rk.RowK 5 (W1.alloc (.cells #[Value.int .i64 yu, .int .i64 yo, .int .i64 ys, .slice sa sn sc, .slice la ln lc] 25)) (.slice (some ⟨W1.heap.size, 0, none⟩) 1 1) [[Value.int .i64 yu, .int .i64 yo, .int .i64 ys, .slice sa sn sc, .slice la ln lc]]) := Rk.row_one (e := 25) (heap_alloc_new _ _) rfl
                  have HUA := Lib.hid (HU1.out.below (below_al (Below.refl W1.heap.size W1) (.cells #[Value.int .i64 yu, .int .i64 yo, .int .i64 ys, .slice sa sn sc, .slice la ln lc] 25)))
                  have HBY : Hid (Below w4.heap.size w4 (W1.alloc (.cells #[Value.int .i64 yu, .int .i64 yo, .int .i64 ys, .slice sa sn sc, .slice la ln lc] 25))) := below_al HB5.out _
                  have A4 : Hid (w4.heap.size ≤ (W1.alloc (.cells #[Value.int .i64 yu, .int .i64 yo, .int .i64 ys, .slice sa sn sc, .slice la ln lc] 25)).heap.size) := HBY.out.size
                  have A3 : Hid (xs.length + 1 ≤ 100000) := by show _ ≤ _; rw [hxl, List.length_map, List.length_take]; have := HS.out; omega
                  have HYO : Hid (∀ z ∈ [[Value.int .i64 yu, .int .i64 yo, .int .i64 ys, .slice sa sn sc, .slice la ln lc]], ∀ q ∈ z, q.oneCell' = true) := fun z hz => by
                    simp only [List.mem_singleton] at hz
                    subst hz
                    exact HUA.out.one
                  clear K0' hxl
                  go_wp2_with (at_builtin; refine Rk.wpList_append_rowk rfl _ _ 22 25 5 72 _ Try.underlying22 infoEn rfl (by decide) (by decide) rfl w4.heap.size _ _ xs _ rfl rfl A1.out A2.out HYO.out A3.out A4.out ?_)
                  intro v6 w9 h5 g5 k5
                  have K9 : Hid (OEn (fun _ => True) w4.heap.size w9 v6 ((A.take (k + 1)).map (mixE u h))) := by
                    show OEn _ _ _ _ _
                    rw [EQ.out]
                    exact KR.out [(_, _)] _ _ h5 g5 (by simpa using k5) (fun x hx => by
                      simp only [List.mem_singleton] at hx
                      subst hx
                      exact HUA.out.mono fun b _ hb => ⟨trivial, hb⟩)
                  have HB6 := Lib.hid (A1.out.belowOf HBY.out (Nat.le_refl _) A4.out g5)
                  clear h5 g5 k5 A1 A2 A3 A4 HBY EQ KR HUA HYO
                  obtain ⟨a6, c6, rfl⟩ := K9.out.is_slice
                  generalize ((A.take (k + 1)).map (mixE u h)).length = m6 at *
                  go_wp2_with fail
                  go_roundg (n - (k + 1))
                  case measure => omega
                  case rel => exact ⟨k + 1, by omega, Nat.le_refl _, by go_num, K9, HB6.out⟩
                | false =>
                  have nq : (yu != u) = true := by simp only [bne, ← hq]; rfl
                  obtain ⟨hb2, hhb⟩ : ∃ hb2, hb2 = hasB yL h := ⟨_, rfl⟩
                  rw [← hhb] at CH MY MN
                  clear hq hhb
                  go_wp2_with fail
                  refine (CH.out).mono ?_
                  rintro e w8 ⟨rfl, hw8⟩
                  rw [hw8]
                  clear hw8 CH
                  cases hb2 with
                  | false =>
                    replace EQ : Hid ((A.take (k + 1)).map (mixE u h) = (A.take k).map (mixE u h) ++ [⟨yu, yo, ys, yS, yL⟩]) := by show _ = _; rw [EQ.out, MN.out (.inr rfl)]
                    clear MY MN
                    have HB5 := Lib.hid (below_more HB.out KW1.out)
                    obtain ⟨xs, hxl, A1, K0'⟩ := (HO.out.below (below_al KW1.out (.cells #[Value.int .i64 yu, .int .i64 yo, .int .i64 ys, .slice sa sn sc, .slice la ln lc] 25))).row
                    replace A1 := Lib.hid A1
                    have KR := Lib.hid K0'
                    have A2 : Hid (Rk.RowK 5 (W1.alloc (.cells #[Value.int .i64 yu, .int .i64 yo, .int .i64 ys, .slice sa sn sc, .slice la ln lc] 25)) (.slice (some ⟨W1.heap.size, 0, none⟩) 1 1) [[Value.int .i64 yu, .int .i64 yo, .int .i64 ys, .slice sa sn sc, .slice la ln lc]]) := Rk.row_one (e := 25) (heap_alloc_new _ _) rfl
                    have HUA := Lib.hid (HU1.out.below (below_al (Below.refl W1.heap.size W1) (.cells #[Value.int .i64 yu, .int .i64 yo, .int .i64 ys, .slice sa sn sc, .slice la ln lc] 25)))
                    have HBY : Hid (Below w4.heap.size w4 (W1.alloc (.cells #[Value.int .i64 yu, .int .i64 yo, .int .i64 ys, .slice sa sn sc, .slice la ln lc] 25))) := below_al HB5.out _
                    have A4 : Hid (w4.heap.size ≤ (W1.alloc (.cells #[Value.int .i64 yu, .int .i64 yo, .int .i64 ys, .slice sa sn sc, .slice la ln lc] 25)).heap.size) := HBY.out.size
                    have A3 : Hid (xs.length + 1 ≤ 100000) := by show _ ≤ _; rw [hxl, List.length_map, List.length_take]; have := HS.out; omega
                    have HYO : Hid (∀ z ∈ [[Value.int .i64 yu, .int .i64 yo, .int .i64 ys, .slice sa sn sc, .slice la ln lc]], ∀ q ∈ z, q.oneCell' = true) := fun z hz => by
                      simp only [List.mem_singleton] at hz
                      subst hz
                      exact HUA.out.one
                    clear K0' hxl
                    go_wp2_with (at_builtin; refine Rk.wpList_append_rowk rfl _ _ 22 25 5 72 _ Try.underlying22 infoEn rfl (by decide) (by decide) rfl w4.heap.size _ _ xs _ rfl rfl A1.out A2.out HYO.out A3.out A4.out ?_)
                    intro v6 w9 h5 g5 k5
                    have K9 : Hid (OEn (fun _ => True) w4.heap.size w9 v6 ((A.take (k + 1)).map (mixE u h))) := by
                      show OEn _ _ _ _ _
                      rw [EQ.out]
                      exact KR.out [(_, _)] _ _ h5 g5 (by simpa using k5) (fun x hx => by
                        simp only [List.mem_singleton] at hx
                        subst hx
                        exact HUA.out.mono fun b _ hb => ⟨trivial, hb⟩)
                    have HB6 := Lib.hid (A1.out.belowOf HBY.out (Nat.le_refl _) A4.out g5)
                    clear h5 g5 k5 A1 A2 A3 A4 HBY EQ KR HUA HYO
                    obtain ⟨a6, c6, rfl⟩ := K9.out.is_slice
                    generalize ((A.take (k + 1)).map (mixE u h)).length = m6 at *
                    go_wp2_with fail
                    go_roundg (n - (k + 1))
                    case measure => omega
                    case rel => exact ⟨k + 1, by omega, Nat.le_refl _, by go_num, K9, HB6.out⟩
                  | true =>
                    obtain ⟨s1, hs1⟩ : ∃ s1, s1 = IntKind.i64.wrap (ys + 1) := ⟨_, rfl⟩
                    have HI1 : Hid (i64 s1) := by rw [hs1]; exact int_bounds (wf_wrap .i64 (ys + 1))
                    replace EQ : Hid ((A.take (k + 1)).map (mixE u h) = (A.take k).map (mixE u h) ++ [⟨yu, 7, s1, [1, 2, 3], yL⟩]) := by show _ = _; rw [EQ.out, MY.out (by first | rfl | trivial) (by first | rfl | trivial), hs1]
                    have HS1 : Hid (s1 = wrap64 (ys + 1)) := by show _ = _; rw [hs1]; exact IntWalk.i64_left _
                    have R2 : Hid ((W1.alloc (.cells #[.int .i64 1, .int .i64 2, .int .i64 3] 3)).heap[b14]? = some (.cells #[.int .i64 yu, .int .i64 yo, .int .i64 ys, .slice sa sn sc, .slice la ln lc] 25 (0, 0))) := by
                      show _ = _
                      rw [Below.heap_alloc _ _ _ (Array.getElem?_eq_some_iff.1 HR14.out).1]
                      exact HR14.out
                    have KW2 := below_al KW1.out (.cells #[.int .i64 1, .int .i64 2, .int .i64 3] 3)
                    obtain ⟨W2, hW2⟩ : ∃ W2, W2 = W1.alloc (.cells #[.int .i64 1, .int .i64 2, .int .i64 3] 3) := ⟨_, rfl⟩
                    have R3 : W2.heap[W1.heap.size]? = some (.cells #[.int .i64 1, .int .i64 2, .int .i64 3] 3 (0, 0)) := by rw [hW2]; exact heap_alloc_new _ _
                    obtain ⟨e0, e1, e2, e3, e4⟩ := five_cells R2.out
                    have f1 := free_at (i := 1) R2.out
                    have f2 := free_at (i := 2) R2.out
                    have f3 := free_at (i := 3) R2.out
                    have G1 := set_block (i := 2) (u := .int .i64 s1) R2.out
                    have G2 := set_block (i := 1) (u := .int .i64 7) G1
                    have G3 := set_block (i := 3) (u := .slice (some ⟨W1.heap.size, 0, none⟩) 3 3) G2
                    simp at G3
                    obtain ⟨W3, hW3⟩ : ∃ W3, W3 = (((W1.alloc (.cells #[.int .i64 1, .int .i64 2, .int .i64 3] 3)).setCell ⟨b14, 2, none⟩ (.int .i64 s1)).setCell ⟨b14, 1, none⟩ (.int .i64 7)).setCell ⟨b14, 3, none⟩ (.slice (some ⟨W1.heap.size, 0, none⟩) 3 3) := ⟨_, rfl⟩
                    rw [← hW3] at G3
                    have KW3 : Hid (Below wr.heap.size wr W3) := by show Below _ _ _; rw [hW3]; exact below_put (below_put (below_put KW2 HG14.out _) HG14.out _) HG14.out _
                    have hne : b14 ≠ W1.heap.size := by have := (Array.getElem?_eq_some_iff.1 HR14.out).1; omega
                    have R4 : W3.heap[W1.heap.size]? = some (.cells #[.int .i64 1, .int .i64 2, .int .i64 3] 3 (0, 0)) := by
                      rw [hW3, Below.heap_setCell _ _ _ _ (fun e => hne e.symm), Below.heap_setCell _ _ _ _ (fun e => hne e.symm), Below.heap_setCell _ _ _ _ (fun e => hne e.symm), ← hW2]
                      exact R3
                    have HU3 : Hid (EnP (fun b => some b ≠ (Value.slice ao mk co).ownBlock) W3 [Value.int .i64 yu, .int .i64 7, .int .i64 s1, .slice (some ⟨W1.heap.size, 0, none⟩) 3 3, .slice la ln lc] ⟨yu, 7, s1, [1, 2, 3], yL⟩) := by
                      obtain ⟨_, _, e, ⟨t1, t2, t3⟩, h1, h2⟩ := HU1.out
                      obtain ⟨rfl, rfl⟩ : _ ∧ _ := by simpa using e
                      have h3 : IntsP (fun b => some b ≠ (Value.slice ao mk co).ownBlock) wr (.slice la ln lc) yL := HUr.out
                      exact ⟨_, _, rfl, ⟨t1, i64_7, HI1.out⟩, ⟨three_ints R4, .inr ⟨_, _, _, _, rfl, HOL.out _ HSz.out⟩⟩, h3.below KW3.out⟩
                    have HR3 : Hid (W3.heap[b14]? = some (.cells #[Value.int .i64 yu, .int .i64 7, .int .i64 s1, .slice (some ⟨W1.heap.size, 0, none⟩) 3 3, .slice la ln lc] 25 (0, 0))) := G3
                    have HW3 := Lib.hid hW3
                    clear MY MN KW2 hW2 R3 G1 G2 G3 R4 hs1 hW3 hne
                    go_upto_region 22 with fail
                    rw [← HS1.out, ← HW3.out]
                    clear d0 d1 d2 d3 d4 e0 e1 e2 e3 e4 f1 f2 f3 HS1
                    obtain ⟨d0, d1, d2, d3, d4⟩ := five_cells HR3.out
                    have HB5 := Lib.hid (below_more HB.out KW3.out)
                    obtain ⟨xs, hxl, A1, K0'⟩ := (HO.out.below (below_al KW3.out (.cells #[Value.int .i64 yu, .int .i64 7, .int .i64 s1, .slice (some ⟨W1.heap.size, 0, none⟩) 3 3, .slice la ln lc] 25))).row
                    replace A1 := Lib.hid A1
                    have KR := Lib.hid K0'
                    have A2 : Hid (Rk.RowK 5 (W3.alloc (.cells #[Value.int .i64 yu, .int .i64 7, .int .i64 s1, .slice (some ⟨W1.heap.size, 0, none⟩) 3 3, .slice la ln lc] 25)) (.slice (some ⟨W3.heap.size, 0, none⟩) 1 1) [[Value.int .i64 yu, .int .i64 7, .int .i64 s1, .slice (some ⟨W1.heap.size, 0, none⟩) 3 3, .slice la ln lc]]) := Rk.row_one (e := 25) (heap_alloc_new _ _) rfl
                    have HUA := Lib.hid (HU3.out.below (below_al (Below.refl W3.heap.size W3) (.cells #[Value.int .i64 yu, .int .i64 7, .int .i64 s1, .slice (some ⟨W1.heap.size, 0, none⟩) 3 3, .slice la ln lc] 25)))
                    have HBY : Hid (Below w4.heap.size w4 (W3.alloc (.cells #[Value.int .i64 yu, .int .i64 7, .int .i64 s1, .slice (some ⟨W1.heap.size, 0, none⟩) 3 3, .slice la ln lc] 25))) := below_al HB5.out _
                    have A4 : Hid (w4.heap.size ≤ (W3.alloc (.cells #[Value.int .i64 yu, .int .i64 7, .int .i64 s1, .slice (some ⟨W1.heap.size, 0, none⟩) 3 3, .slice la ln lc] 25)).heap.size) := HBY.out.size
                    have A3 : Hid (xs.length + 1 ≤ 100000) := by show _ ≤ _; rw [hxl, List.length_map, List.length_take]; have := HS.out; omega
                    have HYO : Hid (∀ z ∈ [[Value.int .i64 yu, .int .i64 7, .int .i64 s1, .slice (some ⟨W1.heap.size, 0, none⟩) 3 3, .slice la ln lc]], ∀ q ∈ z, q.oneCell' = true) := fun z hz => by
                      simp only [List.mem_singleton] at hz
                      subst hz
                      exact HUA.out.one
                    clear K0' hxl
                    go_wp2_with (at_builtin; refine Rk.wpList_append_rowk rfl _ _ 22 25 5 72 _ Try.underlying22 infoEn rfl (by decide) (by decide) rfl w4.heap.size _ _ xs _ rfl rfl A1.out A2.out HYO.out A3.out A4.out ?_)
                    intro v6 w9 h5 g5 k5
                    have K9 : Hid (OEn (fun _ => True) w4.heap.size w9 v6 ((A.take (k + 1)).map (mixE u h))) := by
                      show OEn _ _ _ _ _
                      rw [EQ.out]
                      exact KR.out [(_, _)] _ _ h5 g5 (by simpa using k5) (fun x hx => by
                        simp only [List.mem_singleton] at hx
                        subst hx
                        exact HUA.out.mono fun b _ hb => ⟨trivial, hb⟩)
                    have HB6 := Lib.hid (A1.out.belowOf HBY.out (Nat.le_refl _) A4.out g5)
                    clear h5 g5 k5 A1 A2 A3 A4 HBY EQ KR HUA HYO
                    obtain ⟨a6, c6, rfl⟩ := K9.out.is_slice
                    generalize ((A.take (k + 1)).map (mixE u h)).length = m6 at *
                    go_wp2_with fail
                    go_roundg (n - (k + 1))
                    case measure => omega
                    case rel => exact ⟨k + 1, by omega, Nat.le_refl _, by go_num, K9, HB6.out⟩
              · obtain rfl : n = k := by omega
                have i1 : ¬ (n : Int) < (n : Int) := by omega
                have et : A.take n = A := by rw [HN.out, List.take_length]
                rw [et] at HO ⊢
                obtain ⟨no, hno⟩ : ∃ no, no = (A.map (mixE u h)).length := ⟨_, rfl⟩
                rw [← hno] at HO ⊢
                have KY : Hid (Below W0.heap.size W0 wr) := HBw.out
                have HOT : Hid (∀ w', Below wr.heap.size wr w' → EnsP (· < w'.heap.size) w' (.slice ao no co) (A.map (mixE u h))) := fun w' hb => ((HO.out.below hb).ens).mono fun b hb _ => hb
                have HNO : Hid ((A.map (mixE u h)).length = n) := by show _ = _; rw [List.length_map, HN.out]
                obtain ⟨wo, hwo⟩ : ∃ wo, wo = wr := ⟨_, rfl⟩
                rw [← hwo] at KY HOT ⊢
                have BXo : Hid (∀ w', Below wo.heap.size wo w' → Below wo.heap.size wo w' ∧ w'.cell? ⟨b5, 0, none⟩ = some (.slice a n cap) ∧ w'.cell? ⟨b5, 1, none⟩ = some (.int .i64 f) ∧ w'.cell? ⟨b5, 2, none⟩ = some (.int .i64 nn)) := fun w' hb => ⟨hb, (BX.out w' (below_more KY.out hb)).2⟩
                have KV : Hid (Below wo.heap.size wo wo) := Below.refl _ _
                clear hbel HB et hwo HO hno
                obtain ⟨R, hR⟩ : ∃ R, R = pageE (seesB M u) A f nn := ⟨_, rfl⟩
                have CPA : Hid (∀ w', Below wo.heap.size wo w' → Calls Try.prog 12 #[.slice va nM vc, .int .i64 u, .slice a n cap, .int .i64 f, .int .i64 nn] w' fun e w'' => ∃ s, e = .returned s ∧ EnsP (fun _ => True) w'' s R ∧ Below w'.heap.size w' w'') := fun w' hb => by
                  rw [hR]
                  refine (page_at u f nn w' (HLb.out w' (below_more KY.out hb)) HU.out (HE.out w' (below_more KY.out hb)) (fun b h => Nat.lt_of_lt_of_le h (HWS.out w' (below_more KY.out hb))) (by rw [← HN.out]; have := HS.out; omega) HFN.out.1 HFN.out.2 HSH.out).mono ?_
                  rintro e w'' ⟨s, rfl, h, hb'⟩
                  exact ⟨s, rfl, h.mono fun _ _ _ => trivial, hb'⟩
                have CPB : Hid (∀ w', Below wo.heap.size wo w' → Calls Try.prog 12 #[.slice va nM vc, .int .i64 u, .slice ao no co, .int .i64 f, .int .i64 nn] w' fun e w'' => ∃ s, e = .returned s ∧ EnsP (fun _ => True) w'' s R ∧ Below w'.heap.size w' w'') := fun w' hb => by
                  rw [hR, ← mix_page HMh.out]
                  refine (page_at u f nn w' (HLb.out w' (below_more KY.out hb)) HU.out (HOT.out w' hb) (fun b h => h) (by rw [HNO.out]; have := HS.out; omega) HFN.out.1 HFN.out.2 (short_mix HSH.out)).mono ?_
                  rintro e w'' ⟨s, rfl, h, hb'⟩
                  exact ⟨s, rfl, h.mono fun _ _ _ => trivial, hb'⟩
                have CSa : Hid (∀ w' s1 s2, EnsP (fun _ => True) w' s1 R → EnsP (fun _ => True) w' s2 R → Calls Try.prog 10 #[s1, s2] w' fun e w'' => e = .returned (.bool true) ∧ Below w'.heap.size w' w'') := fun w' s1 s2 h1 h2 => esame_any w' h1 h2
                clear hR
                go_upto_region 24 with fail
                go_cut [6] from 81 to 99 (fun x wx => x = .bool true ∧ Hid (Below wo.heap.size wo wx))
                case first =>
                  go_region_held3 (fun w' => Below wo.heap.size wo w' ∧ w'.cell? ⟨b5, 0, none⟩ = some (.slice a n cap) ∧ w'.cell? ⟨b5, 1, none⟩ = some (.int .i64 f) ∧ w'.cell? ⟨b5, 2, none⟩ = some (.int .i64 nn))
                    ((refine BXo.out _ ?_; focus ((repeat first | with_reducible assumption | with_reducible exact KV.out | with_reducible apply Below.drew | with_reducible apply below_drews | with_reducible apply below_al); done)))
                    (first
                      | (go_at_call 10; (with_reducible refine (CSa.out _ _ _ (HI.out _ ?_) (HJ.out _ ?_)).mono ?_); (focus ((repeat first | with_reducible assumption | with_reducible exact KI.out | with_reducible apply Below.drew | with_reducible apply below_drews | with_reducible apply below_al); done)); (focus ((repeat first | with_reducible assumption | with_reducible exact KJ.out | with_reducible apply Below.drew | with_reducible apply below_drews | with_reducible apply below_al); done)); rintro e wk ⟨rfl, bk⟩; have kk := fun h => below_more (w := wo) h bk; replace kk := kk (by (repeat first | with_reducible assumption | with_reducible exact KV.out | with_reducible apply Below.drew | with_reducible apply below_drews | with_reducible apply below_al)); clear bk)
                      | (go_at_call 12; (with_reducible refine (CPA.out _ ?_).mono ?_); (focus ((repeat first | with_reducible assumption | with_reducible exact KV.out | with_reducible apply Below.drew | with_reducible apply below_drews | with_reducible apply below_al); done)); rintro e wi ⟨s1, rfl, hi, bi⟩; have ki := fun h => below_more (w := wo) h bi; replace ki := ki (by (repeat first | with_reducible assumption | with_reducible exact KV.out | with_reducible apply Below.drew | with_reducible apply below_drews | with_reducible apply below_al)); have HI : Hid (∀ w', Below wi.heap.size wi w' → EnsP (fun _ => True) w' s1 R) := (fun w' hb => hi.below hb); have KI := Lib.hid (Below.refl wi.heap.size wi); clear bi hi)
                      | (go_at_call 12; (with_reducible refine (CPB.out _ ?_).mono ?_); (focus ((repeat first | with_reducible assumption | with_reducible exact KV.out | with_reducible apply Below.drew | with_reducible apply below_drews | with_reducible apply below_al); done)); rintro e wj ⟨s2, rfl, hj, bj⟩; have kj := fun h => below_more (w := wo) h bj; replace kj := kj (by (repeat first | with_reducible assumption | with_reducible exact KV.out | with_reducible apply Below.drew | with_reducible apply below_drews | with_reducible apply below_al)); have kI := fun h => below_more (w := wi) h bj; replace kI := kI (by (repeat first | with_reducible assumption | with_reducible exact KI.out | with_reducible apply Below.drew | with_reducible apply below_drews | with_reducible apply below_al)); have HJ : Hid (∀ w', Below wj.heap.size wj w' → EnsP (fun _ => True) w' s2 R) := (fun w' hb => hj.below hb); have KJ := Lib.hid (Below.refl wj.heap.size wj); clear bj hj))
                  all_goals go_wp2_with fail
                  all_goals go_meet
                  all_goals (refine ⟨rfl, Lib.hid ?_⟩; (repeat first | with_reducible assumption | with_reducible exact KV.out | with_reducible apply Below.drew | with_reducible apply below_drews | with_reducible apply below_al))
                case rest =>
                  obtain ⟨rfl, K30⟩ := hcut
                  go_wp2_with fail
                  go_ret
                  exact ⟨by simp, below_more HB0.out (below_more KY.out K30.out)⟩

set_option maxRecDepth 100000 in
theorem lifted (os : Os) (started : os.Started) (H : Type) (enc : TypeId × Value → H) :
    ReturnsInHanded {} Try.checked os 5 .any (Rows.auditHidesSpec.pre6 enc Try.prog Try.f5 Rows.auditHidesRow.domain false) (Rows.auditHidesSpec.post enc Try.prog Try.f5 false true false false) := by
  refine returnsInHanded_of_change (C := Try.checked) own started (by kernel_rfl) Try.func5
    (ChangeSpec.witness6 (enc := enc) (C := Try.checked) false ⟨#[], #[.slice none 0 0, .int .i64 0, .agg #[.slice none 0 0, .int .i64 0, .int .i64 0]], []⟩ 8 (by kernel_rfl) (by kernel_rfl) (by kernel_rfl) (by kernel_rfl)) ?_
  intro W base args ds gs before hval0 hW hcnd _
  have hval : ∀ (j : Nat) t v, Try.f5.params[j]? = some t → args[j]? = some v → Value.okWide Try.prog W .any base t v := hval0
  have hread : ∀ t ∈ Try.f5.params.toList, Try.prog.readableRec t = true ∧ t < Try.prog.types.size := by
    have : (Try.f5.params.toList.all fun t => Try.prog.readableRec t && decide (t < Try.prog.types.size)) = true := by kernel_rfl
    intro t ht
    have := List.all_eq_true.1 this t ht
    simpa using this
  refine law_contract (P := Try.prog) (s := Rows.auditHidesSpec) (fn := Try.f5) (tb := 4) laidOut rfl hread rfl Try.underlying4 (fun W' => okWide_bool_mk Try.underlying4 _) ?_ hW ?_
  · intro ds hds
    rw [Try.params5] at hds
    match ds, hds with
    | [d0, d1, d2], _ => rfl
  intro pl hA
  rw [Try.params5] at hA hval
  obtain ⟨v0, vs0, d0, ds0, p0, q0, hargs, rfl, hp0, h0, r0⟩ := trodAll_cons hA
  obtain ⟨v1, vs1, d1, ds1, p1, q1, rfl, rfl, hp1, h1, r1⟩ := trodAll_cons r0
  obtain ⟨v2, vs2, d2, ds2, p2, q2, rfl, rfl, hp2, h2, r2⟩ := trodAll_cons r1
  obtain ⟨rfl, rfl, hpe⟩ := trodAll_nil r2
  obtain rfl : args = #[v0, v1, v2] := by cases args; simp_all
  obtain ⟨M, hL0⟩ := open_labels (hval 0 31 v0 rfl rfl) h0
  obtain ⟨u, rfl, rfl, _, hw1⟩ := open_int Try.underlying3 (hval 1 3 v1 rfl rfl) h1
  have hb1 : -9223372036854775808 ≤ u ∧ u ≤ 9223372036854775807 := by simpa [Lit.wf, IntKind.min, IntKind.max, IntKind.signed, IntKind.bits] using hw1
  obtain ⟨lv2, A2, f2, n2, rfl, hC2, hf2, hn2⟩ := open_ecase (hval 2 33 v2 rfl rfl) h2
  exact walk v0 M hL0 u hb1.1 hb1.2 lv2 A2 f2 n2 hC2 hf2 hn2

theorem over : Rows.auditHidesRow.holds Try.pinned (OpenSpec.ofChange Rows.auditHidesSpec) :=
  OpenClaim.holds_of_wide 5 Try.f5 rfl rfl rfl rfl rfl rfl rfl ⟨rfl, rfl, rfl, rfl, rfl⟩ rfl rfl rfl rfl rfl (by kernel_rfl) Try.func5 (by kernel_rfl)
    (of_decide_eq_true (by kernel_rfl)) (by unfold Func.isWrapper; first | (rw [if_pos (by decide +kernel)]; kernel_rfl) | (rw [if_neg (by decide +kernel)]; exact ⟨rfl, rfl⟩))
    (fun os started H enc _ => lifted os started H enc)

/-- The statement. -/
theorem proved : Rows.AuditHidesSaid :=
  over
#print axioms proved
end Go.Proofs.Ytfahfjhibffdkaa.auditHides
