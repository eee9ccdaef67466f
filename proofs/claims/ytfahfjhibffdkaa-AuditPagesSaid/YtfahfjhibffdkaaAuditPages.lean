/- For every list of labels, every user and every list of entries: AuditPages answers true, and its arguments read behind the call as before. No condition. -/
import Derived.Test.YtfahfjhibffdkaaRows
import Derived.Test.YtfahfjhibffdkaaLift
import Derived.Test.YtfahfjhibffdkaaEp
import Derived.Deep.RegionHeld3
import Derived.OrdersHeld
import Derived.Deep.RegionHeld
set_option linter.unusedVariables false
namespace Go.Proofs.Ytfahfjhibffdkaa.auditPages
open Go.ChangeShapes Go.WideShapes Go.ChangeAt Go.RowKit Go.Lib Go.Proofs.Ytfahfjhibffdkaa.Lift Go.Proofs.Ytfahfjhibffdkaa.Rt Go.Proofs.Ytfahfjhibffdkaa.Rig Go.Proofs.Ytfahfjhibffdkaa.Bx Go.Proofs.Ytfahfjhibffdkaa.Aud
open Go.ChangeMaps (open_string shut_string)

theorem own : ownKnob Try.prog.godebug = none := by kernel_rfl
theorem laidOut : laidOutB Try.prog = true := by kernel_rfl

theorem page_one : pageE (seesB someL 1) someE 0 9 = [⟨1, 0, 0, [], [0]⟩] := rfl
theorem page_some {la ea : Option Addr} (w : World) (h1 : Labs w (.slice la 1 1) someL) (h2 : EnsP (· < w.heap.size) w (.slice ea 2 2) someE) : Calls Try.prog 12 #[.slice la 1 1, .int .i64 1, .slice ea 2 2, .int .i64 0, .int .i64 9] w fun e w' => ∃ b off c, e = .returned (.slice (some ⟨b, off, none⟩) 1 c) ∧ 1 ≤ c ∧ c ≤ maxLen ∧ w'.cell? ⟨b, off, none⟩ = some (.int .i64 1) ∧ Below w.heap.size w w' := by
  refine (page_at 1 0 9 w h1 ⟨by decide, by decide⟩ h2 (fun _ h => h) (by decide) ⟨by decide, by decide⟩ ⟨by decide, by decide⟩ short_some).mono ?_
  rintro e w' ⟨s, rfl, h, hb⟩
  rw [page_one] at h
  obtain ⟨a, c, rfl, h3, h4⟩ := h.is_slice
  obtain ⟨b, off, sa, sn, sc, la, ln, lc, rfl, _, _, c0, _⟩ := h.get (show 0 < [(⟨1, 0, 0, [], [0]⟩ : En)].length by decide)
  exact ⟨b, off, c, rfl, h3, h4, by simpa using c0, hb⟩
theorem page_next (f : En → Bool) (A : List En) (c : Nat) : pageE f A c 7 = ((A.filter f).drop c).take 7 := by
  unfold pageE
  rw [show max (c : Int) 0 = c by omega, show min (7 : Int) 10 = 7 by decide]
  rfl
theorem page_end (f : En → Bool) (A : List En) : pageE f A ((A.filter f).length : Nat) 9 = [] := by
  unfold pageE
  rw [show max (((A.filter f).length : Nat) : Int) 0 = ((A.filter f).length : Nat) by omega, Int.toNat_natCast, List.drop_length]
  rfl
theorem take_more {α : Type} (F : List α) (c : Nat) : F.take (c + 7) = F.take c ++ (F.drop c).take 7 := List.take_add
theorem filter_take' (f : En → Bool) (A : List En) {k : Nat} (hk : k < A.length) : (A.take (k + 1)).filter f = (A.take k).filter f ++ (if f A[k] = true then [A[k]] else []) := filter_take f A hk
set_option maxRecDepth 100000 in
set_option maxHeartbeats 16000000 in
theorem walk {w : World} (v : Value) (M : List Lb) (hL : Labs w v M) (u : Int) (u1 : -9223372036854775808 ≤ u) (u2 : u ≤ 9223372036854775807) (sv : Value) (A : List En) (hA : EnsP (· < w.heap.size) w sv A) :
    Calls Try.prog 6 #[v, .int .i64 u, sv] w fun e w' => e = .returned (.bool true) ∧ Below w.heap.size w w' := by
  obtain ⟨a, cap, rfl, hl, hm⟩ := hA.is_slice
  have hL' := hL
  obtain ⟨va, vc, rfl, hx⟩ := hL'
  clear hx
  obtain ⟨n, hn⟩ : ∃ n, n = A.length := ⟨_, rfl⟩
  obtain ⟨nM, hnM⟩ : ∃ nM, nM = M.length := ⟨_, rfl⟩
  have HU : Hid (i64 u) := ⟨u1, u2⟩
  have HE : Hid (∀ w', Below w.heap.size w w' → EnsP (· < w.heap.size) w' (.slice a n cap) A) := fun w' hb => by rw [hn]; exact hA.below hb
  have HLb : Hid (∀ w', Below w.heap.size w w' → Labs w' (.slice va nM vc) M) := fun w' hb => by rw [hnM]; exact hL.below hb (Nat.le_refl _)
  rw [← hn] at hl ⊢
  rw [← hnM]
  have HN := Lib.hid hn
  have CSm : Hid (∀ w', Below w.heap.size w w' → Calls Try.prog 13 #[.slice va nM vc] w' fun e w'' => e = .returned (.bool (smallB M)) ∧ Below w'.heap.size w' w'') := fun w' hb => Rig.small_any w' (HLb.out w' hb)
  have CEs : Hid (∀ w', Below w.heap.size w w' → Calls Try.prog 8 #[.slice a n cap] w' fun e w'' => e = .returned (.bool (smallE A)) ∧ Below w'.heap.size w' w'') := fun w' hb => esmall_any w' (HE.out w' hb)
  unfold maxLen at hm
  clear hL hA hn hnM u1 u2
  go_enter Try.func6, Try.ntmps6
  go_wp2_with fail
  refine (some_any w).mono ?_
  rintro e w1 ⟨xa, ea, rfl, hx1, hx2, b1⟩
  have K1 := Lib.hid b1
  have C2 := Lib.hid (page_some w1 hx1 hx2)
  clear b1 hx1 hx2
  go_wp2_with fail
  refine (C2.out).mono ?_
  rintro e w2 ⟨pb, po, pc, rfl, pc1, pc2, pe0, b2⟩
  have K2 := Lib.hid (below_more K1.out b2)
  unfold maxLen at pc2
  have C3 := Lib.hid (CSm.out w2 K2.out)
  clear b2 C2
  go_wp2_with fail
  refine (C3.out).mono ?_
  rintro e w3 ⟨rfl, b3⟩
  have K3 := Lib.hid (below_more K2.out b3)
  clear b3 C3 pe0
  cases hsm : smallB M with
  | false =>
    clear hsm
    go_wp2_with fail
    go_ret
    exact ⟨by simp, K3.out⟩
  | true =>
    clear hsm
    have C4 := Lib.hid (CEs.out w3 K3.out)
    go_wp2_with fail
    refine (C4.out).mono ?_
    rintro e w4 ⟨rfl, b4⟩
    have K4 := Lib.hid (below_more K3.out b4)
    clear b4 C4
    cases hse : smallE A with
    | false =>
      clear hse
      go_wp2_with fail
      go_ret
      exact ⟨by simp, K4.out⟩
    | true =>
      have HS : Hid (n ≤ 300) := by show _ ≤ _; rw [HN.out]; exact (of_decide_eq_true hse).2
      have HSH : Hid (Short A) := short_small hse
      clear hse CSm CEs K1 K2 K3
      go_wp2_with fail
      obtain ⟨f, hf⟩ : ∃ f, f = seesB M u := ⟨_, rfl⟩
      have CSe : Hid (∀ (y : En) (s l : Value) (w' : World), Below w.heap.size w w' → EnP (· < w.heap.size) w' [.int .i64 y.u, .int .i64 y.o, .int .i64 y.s, s, l] y → Calls Try.prog 14 #[.slice va nM vc, .int .i64 u, .agg #[.int .i64 y.u, .int .i64 y.o, .int .i64 y.s, s, l]] w' fun e w'' => e = .returned (.bool (f y)) ∧ Below w'.heap.size w' w'') := fun y s l w' hb hy => by
        rw [hf]
        exact sees_any (y := y) u w' (HLb.out w' hb) HU.out hy
      have CPg : Hid (∀ (c d : Int) (w' : World), i64 c → i64 d → Below w.heap.size w w' → Calls Try.prog 12 #[.slice va nM vc, .int .i64 u, .slice a n cap, .int .i64 c, .int .i64 d] w' (GivePg (· < w.heap.size) (pageE f A c d) w')) := fun c d w' hc hd hb => by
        rw [hf]
        exact page_at u c d w' (HLb.out w' hb) HU.out (HE.out w' hb) (fun b h => Nat.lt_of_lt_of_le h hb.size) (by rw [← HN.out]; have := HS.out; omega) hc hd HSH.out
      clear hf
      go_loopg [10, 35] n (fun g t i wr => ∃ k : Nat, k ≤ n ∧ n - k ≤ g ∧ i = .int .i64 k ∧ Hid (OEn (· < w.heap.size) w4.heap.size wr t ((A.take k).filter f)) ∧ Below w4.heap.size w4 wr)
      case atStart => exact ⟨0, Nat.zero_le _, by omega, rfl, OEn.nil_ _ _ _, Below.refl _ _⟩
      case round =>
        obtain ⟨k, hk, hg, rfl, HO, hbel⟩ := hrel
        have HB := Lib.hid hbel
        have HBw := Lib.hid (below_more K4.out hbel)
        obtain ⟨ao, co, rfl⟩ := HO.out.is_slice
        have LK := filter_len f A k
        by_cases hlt : k < n
        · have hkl : k < A.length := by rw [← HN.out]; exact hlt
          obtain ⟨b, off, sa, sn, sc, la, ln, lc, rfl, hb, hv, c0, c1, c2, c3, c4, q1, q2⟩ := (HE.out _ HBw.out).get hkl
          clear q1 q2
          have EQ := Lib.hid (filter_take' f A hkl)
          have CS0 := Lib.hid (fun w' (hw : Below wr.heap.size wr w') => CSe.out A[k] _ _ w' (below_more HBw.out hw) (hv.below hw))
          have HV := Lib.hid hv
          obtain ⟨fy, hfy⟩ : ∃ fy, fy = f A[k] := ⟨_, rfl⟩
          rw [← hfy] at CS0 EQ
          clear hfy
          generalize A[k] = y at *
          obtain ⟨yu, yo, ys, yS, yL⟩ := y
          simp only at c0 c1 c2 c3 c4 CS0 HV
          obtain ⟨mk, hmk⟩ : ∃ mk, mk = ((A.take k).filter f).length := ⟨_, rfl⟩
          rw [← hmk] at HO LK ⊢
          obtain ⟨B1, R1, L1⟩ := box1 wr #[.int .i64 yu, .int .i64 yo, .int .i64 ys, .slice sa sn sc, .slice la ln lc] 25
          obtain ⟨W1, hW1⟩ : ∃ W1, W1 = wr.alloc (.cells #[.int .i64 yu, .int .i64 yo, .int .i64 ys, .slice sa sn sc, .slice la ln lc] 25) := ⟨_, rfl⟩
          rw [← hW1] at B1 R1 L1
          have HW1 := Lib.hid hW1
          have KW1 := Lib.hid B1
          obtain ⟨b13, hb13⟩ : ∃ b13, b13 = wr.heap.size := ⟨_, rfl⟩
          rw [← hb13] at R1 L1
          have HL13 : Hid (b13 < W1.heap.size) := by show _ < _; omega
          have HR13 := Lib.hid R1
          obtain ⟨d0, d1, d2, d3, d4⟩ := five_cells R1
          have CS1 := Lib.hid (CS0.out W1 KW1.out)
          have i1 : (k : Int) < (n : Int) := by omega
          clear hbel hv hmk hW1 B1 R1 L1 CS0
          go_upto_region 11 with fail
          rw [← hb13, ← HW1.out]
          clear c0 c1 c2 c3 c4 hb13
          go_wp2_with fail
          refine (CS1.out).mono ?_
          rintro e w8 ⟨rfl, b8⟩
          have K8 := Lib.hid (below_more KW1.out b8)
          have R8 := (b8.block _ HL13.out).trans HR13.out
          clear b8 CS1 d0 d1 d2 d3 d4
          obtain ⟨d0, d1, d2, d3, d4⟩ := five_cells R8
          clear R8
          cases fy with
          | false =>
            have EQ2 : Hid ((A.take (k + 1)).filter f = (A.take k).filter f) := by show _ = _; rw [EQ.out]; simp
            have HO2 := Lib.hid (HO.out.below K8.out)
            have HB8 := Lib.hid (below_more HB.out K8.out)
            clear EQ HO
            go_wp2_with fail
            go_roundg (n - (k + 1))
            case measure => omega
            case rel => exact ⟨k + 1, by omega, Nat.le_refl _, by go_num, by rw [EQ2.out]; exact HO2, HB8.out⟩
          | true =>
            have EQ2 : Hid ((A.take (k + 1)).filter f = (A.take k).filter f ++ [⟨yu, yo, ys, yS, yL⟩]) := by show _ = _; rw [EQ.out]; simp
            clear EQ
            have HB8 := Lib.hid (below_more HB.out K8.out)
            obtain ⟨xs, hxl, A1, K0'⟩ := (HO.out.below (below_al K8.out (.cells #[.int .i64 yu, .int .i64 yo, .int .i64 ys, .slice sa sn sc, .slice la ln lc] 25))).row
            replace A1 := Lib.hid A1
            have KR := Lib.hid K0'
            have HUA : Hid (EnP (· < w.heap.size) (w8.alloc (.cells #[.int .i64 yu, .int .i64 yo, .int .i64 ys, .slice sa sn sc, .slice la ln lc] 25)) [Value.int .i64 yu, .int .i64 yo, .int .i64 ys, .slice sa sn sc, .slice la ln lc] ⟨yu, yo, ys, yS, yL⟩) := HV.out.below (below_al K8.out _)
            have A2 : Hid (Rk.RowK 5 (w8.alloc (.cells #[.int .i64 yu, .int .i64 yo, .int .i64 ys, .slice sa sn sc, .slice la ln lc] 25)) (.slice (some ⟨w8.heap.size, 0, none⟩) 1 1) [[Value.int .i64 yu, .int .i64 yo, .int .i64 ys, .slice sa sn sc, .slice la ln lc]]) := Rk.row_one (e := 25) (heap_alloc_new _ _) rfl
            have HBY : Hid (Below w4.heap.size w4 (w8.alloc (.cells #[.int .i64 yu, .int .i64 yo, .int .i64 ys, .slice sa sn sc, .slice la ln lc] 25))) := below_al HB8.out _
            have A4 : Hid (w4.heap.size ≤ (w8.alloc (.cells #[.int .i64 yu, .int .i64 yo, .int .i64 ys, .slice sa sn sc, .slice la ln lc] 25)).heap.size) := HBY.out.size
            have A3 : Hid (xs.length + 1 ≤ 100000) := by show _ ≤ _; rw [hxl]; have := filter_len f A k; have := HS.out; omega
            have HYO : Hid (∀ z ∈ [[Value.int .i64 yu, .int .i64 yo, .int .i64 ys, .slice sa sn sc, .slice la ln lc]], ∀ q ∈ z, q.oneCell' = true) := fun z hz => by
              simp only [List.mem_singleton] at hz
              subst hz
              exact HUA.out.one
            have HOW : Hid (∀ b, b < w.heap.size → some b ≠ (Value.slice ao mk co).ownBlock) := fun b hb e => by
              have := (HO.out.own b e.symm).1
              have := K4.out.size
              omega
            clear K0' hxl
            go_wp2_with (at_builtin; refine Rk.wpList_append_rowk rfl _ _ 22 25 5 72 _ Try.underlying22 infoEn rfl (by decide) (by decide) rfl w4.heap.size _ _ xs _ rfl rfl A1.out A2.out HYO.out A3.out A4.out ?_)
            intro v6 w9 h5 g5 k5
            have K9 : Hid (OEn (· < w.heap.size) w4.heap.size w9 v6 ((A.take (k + 1)).filter f)) := by
              show OEn _ _ _ _ _
              rw [EQ2.out]
              exact KR.out [(_, ⟨yu, yo, ys, yS, yL⟩)] _ _ h5 g5 (by simpa using k5) (fun x hx => by
                simp only [List.mem_singleton] at hx
                subst hx
                exact HUA.out.mono fun b _ h => ⟨h, HOW.out b h⟩)
            have HB6 := Lib.hid (A1.out.belowOf HBY.out (Nat.le_refl _) A4.out g5)
            clear h5 g5 k5 A1 A2 A3 A4 HBY EQ2 KR HUA HYO HOW
            obtain ⟨a6, c6, rfl⟩ := K9.out.is_slice
            generalize ((A.take (k + 1)).filter f).length = m6 at *
            go_wp2_with fail
            go_roundg (n - (k + 1))
            case measure => omega
            case rel => exact ⟨k + 1, by omega, Nat.le_refl _, by go_num, K9, HB6.out⟩
        · obtain rfl : n = k := by omega
          have i1 : ¬ (n : Int) < (n : Int) := by omega
          have et : A.take n = A := by rw [HN.out, List.take_length]
          rw [et] at HO LK ⊢
          have HPN : Hid (∀ c : Nat, pageE f A c 7 = ((A.filter f).drop c).take 7) := fun c => page_next f A c
          have HPE := Lib.hid (page_end f A)
          obtain ⟨F, hF⟩ : ∃ F, F = A.filter f := ⟨_, rfl⟩
          rw [← hF] at HO LK HPN HPE ⊢
          obtain ⟨m, hm2⟩ : ∃ m, m = F.length := ⟨_, rfl⟩
          have HMF := Lib.hid hm2
          rw [← hm2] at HO LK HPE ⊢
          have HS3 := HS.out
          obtain ⟨wo, hwo⟩ : ∃ wo, wo = wr := ⟨_, rfl⟩
          have HWa : Hid (∀ w', Below wr.heap.size wr w' → EnsP (· < w.heap.size) w' (.slice ao m co) F) := fun w' hb => (HO.out.below hb).ens
          rw [← hwo] at HBw HWa ⊢
          have HSO : Hid (w.heap.size ≤ wo.heap.size) := HBw.out.size
          clear hbel HB hwo hF hm2 HO et
          go_wp2_with fail
          go_loopg [11, 14] (m + 7) (fun g t i wr => ∃ c : Nat, c ≤ m + 6 ∧ m + 7 - c ≤ g ∧ i = .int .i64 c ∧ Hid (OEn (fun _ => True) wo.heap.size wr t (F.take c)) ∧ Below wo.heap.size wo wr)
          case atStart => exact ⟨0, by omega, by omega, rfl, OEn.nil_ _ _ _, Below.refl _ _⟩
          case round =>
            obtain ⟨c, hc, hg, rfl, HO, hbel⟩ := hrel
            have HB := Lib.hid hbel
            have HB2 := Lib.hid (below_more HBw.out hbel)
            obtain ⟨ao2, co2, rfl⟩ := HO.out.is_slice
            by_cases hlt : c < m
            · have i2 : (c : Int) < (m : Int) := by omega
              have CP := Lib.hid (CPg.out c 7 wr ⟨by omega, by omega⟩ ⟨by decide, by decide⟩ HB2.out)
              rw [HPN.out c] at CP
              obtain ⟨X, hX⟩ : ∃ X, X = (F.drop c).take 7 := ⟨_, rfl⟩
              rw [← hX] at CP
              have EQ : Hid (F.take (c + 7) = F.take c ++ X) := by show _ = _; rw [hX]; exact take_more F c
              have HXl : Hid (X.length ≤ 7) := by show _ ≤ _; rw [hX, List.length_take]; omega
              have HTl : Hid ((F.take c).length ≤ 300) := by show _ ≤ _; rw [List.length_take, ← HMF.out]; omega
              have HOW : Hid (∀ b, (b < w.heap.size ∨ wr.heap.size ≤ b) → some b ≠ (Value.slice ao2 (F.take c).length co2).ownBlock) := fun b hb e => by
                have h1 := HO.out.own b e.symm
                have := HSO.out
                omega
              obtain ⟨mk, hmk⟩ : ∃ mk, mk = (F.take c).length := ⟨_, rfl⟩
              rw [← hmk] at HO HOW ⊢
              clear hbel hX hmk
              go_wp2_with fail
              refine (CP.out).mono ?_
              rintro e w8 ⟨s8, rfl, h8, b8⟩
              obtain ⟨a8, c8, rfl, h81, h82⟩ := h8.is_slice
              obtain ⟨p8, hp81, hp82, hp83⟩ := h8
              have HB8 := Lib.hid (below_more HB.out b8)
              obtain ⟨xs, hxl, A1, K0'⟩ := (HO.out.below b8).row
              replace A1 := Lib.hid A1
              have KR := Lib.hid K0'
              have A2 := Lib.hid hp82
              have HPX := Lib.hid hp83
              have HP1 := Lib.hid hp81
              have A4 : Hid (wo.heap.size ≤ w8.heap.size) := HB8.out.size
              have A3 : Hid (xs.length + (p8.map Prod.fst).length ≤ 100000) := by
                show _ ≤ _
                have h1 : p8.length = X.length := by rw [← hp81, List.length_map]
                rw [hxl, List.length_map, h1]
                have := HXl.out
                have := HTl.out
                omega
              have HYO : Hid (∀ z ∈ p8.map Prod.fst, ∀ q ∈ z, q.oneCell' = true) := fun z hz => by
                obtain ⟨x, hx, rfl⟩ := List.mem_map.1 hz
                exact (hp83 x hx).one
              obtain ⟨n8, hn8⟩ : ∃ n8, n8 = X.length := ⟨_, rfl⟩
              rw [← hn8] at h81 A2 ⊢
              clear K0' hxl b8 CP hp81 hp82 hp83 hn8 h81 h82
              go_wp2_with (at_builtin; refine Rk.wpList_append_rowk rfl _ _ 22 25 5 72 _ Try.underlying22 infoEn rfl (by decide) (by decide) rfl wo.heap.size _ _ xs _ rfl rfl A1.out A2.out HYO.out A3.out A4.out ?_)
              intro v6 w9 h5 g5 k5
              have K9 : Hid (OEn (fun _ => True) wo.heap.size w9 v6 (F.take (c + 7))) := by
                show OEn _ _ _ _ _
                rw [EQ.out, ← HP1.out]
                exact KR.out p8 _ _ h5 g5 k5 (fun x hx => (HPX.out x hx).mono fun b _ hb => ⟨trivial, HOW.out b hb⟩)
              have HB6 := Lib.hid (A1.out.belowOf HB8.out (Nat.le_refl _) A4.out g5)
              clear h5 g5 k5 A1 A2 A3 A4 EQ KR HYO HOW HPX HP1
              obtain ⟨a6, c6, rfl⟩ := K9.out.is_slice
              generalize (F.take (c + 7)).length = m6 at *
              have HC7 : Hid (((c + 7 : Nat) : Int) = (c : Int) + 7) := by show _ = _; omega
              go_wp2_with fail
              go_roundg (m + 7 - (c + 7))
              case measure => omega
              case rel => exact ⟨c + 7, by omega, by omega, by first | rfl | rw [HC7.out] | go_num, K9, HB6.out⟩
            · have i2 : ¬ (c : Int) < (m : Int) := by omega
              have et : F.take c = F := List.take_of_length_le (by rw [← HMF.out]; omega)
              rw [et] at HO ⊢
              rw [← HMF.out] at HO ⊢
              have CSa := Lib.hid (esame_any wr HO.out.ens (HWa.out wr hbel))
              have CP : Hid (∀ w', Below w.heap.size w w' → Calls Try.prog 12 #[.slice va nM vc, .int .i64 u, .slice a n cap, .int .i64 (m : Nat), .int .i64 9] w' fun e w'' => ∃ a' c', e = .returned (.slice a' 0 c') ∧ Below w'.heap.size w' w'') := fun w' hb => by
                refine (CPg.out m 9 w' ⟨by omega, by omega⟩ ⟨by decide, by decide⟩ hb).mono ?_
                rintro e w'' ⟨s, rfl, h, hb'⟩
                rw [HPE.out] at h
                obtain ⟨a', c', rfl, _⟩ := h.is_slice
                exact ⟨a', c', rfl, hb'⟩
              clear hbel HO et
              go_wp2_with fail
              refine (CSa.out).mono ?_
              rintro e w8 ⟨rfl, b8⟩
              have K8 := Lib.hid (below_more HB2.out b8)
              have CP1 := Lib.hid (CP.out w8 K8.out)
              clear b8 CSa
              go_wp2_with fail
              refine (CP1.out).mono ?_
              rintro e w9 ⟨a9, c9, rfl, b9⟩
              have K9 := Lib.hid (below_more K8.out b9)
              clear b9 CP1
              go_wp2_with fail
              go_ret
              exact ⟨by simp, K9.out⟩

set_option maxRecDepth 100000 in
theorem lifted (os : Os) (started : os.Started) (H : Type) (enc : TypeId × Value → H) :
    ReturnsInHanded {} Try.checked os 6 .any (Rows.auditPagesSpec.pre6 enc Try.prog Try.f6 Rows.auditPagesRow.domain false) (Rows.auditPagesSpec.post enc Try.prog Try.f6 false true false false) := by
  refine returnsInHanded_of_change (C := Try.checked) own started (by kernel_rfl) Try.func6
    (ChangeSpec.witness6 (enc := enc) (C := Try.checked) false ⟨#[], #[.slice none 0 0, .int .i64 0, .slice none 0 0], []⟩ 8 (by kernel_rfl) (by kernel_rfl) (by kernel_rfl) (by kernel_rfl)) ?_
  intro W base args ds gs before hval0 hW hcnd _
  have hval : ∀ (j : Nat) t v, Try.f6.params[j]? = some t → args[j]? = some v → Value.okWide Try.prog W .any base t v := hval0
  have hread : ∀ t ∈ Try.f6.params.toList, Try.prog.readableRec t = true ∧ t < Try.prog.types.size := by
    have : (Try.f6.params.toList.all fun t => Try.prog.readableRec t && decide (t < Try.prog.types.size)) = true := by kernel_rfl
    intro t ht
    have := List.all_eq_true.1 this t ht
    simpa using this
  refine law_contract (P := Try.prog) (s := Rows.auditPagesSpec) (fn := Try.f6) (tb := 4) laidOut rfl hread rfl Try.underlying4 (fun W' => okWide_bool_mk Try.underlying4 _) ?_ hW ?_
  · intro ds hds
    rw [Try.params6] at hds
    match ds, hds with
    | [d0, d1, d2], _ => rfl
  intro pl hA
  rw [Try.params6] at hA hval
  obtain ⟨v0, vs0, d0, ds0, p0, q0, hargs, rfl, hp0, h0, r0⟩ := trodAll_cons hA
  obtain ⟨v1, vs1, d1, ds1, p1, q1, rfl, rfl, hp1, h1, r1⟩ := trodAll_cons r0
  obtain ⟨v2, vs2, d2, ds2, p2, q2, rfl, rfl, hp2, h2, r2⟩ := trodAll_cons r1
  obtain ⟨rfl, rfl, hpe⟩ := trodAll_nil r2
  obtain rfl : args = #[v0, v1, v2] := by cases args; simp_all
  obtain ⟨M, hL0⟩ := open_labels (hval 0 31 v0 rfl rfl) h0
  obtain ⟨u, rfl, rfl, _, hw1⟩ := open_int Try.underlying3 (hval 1 3 v1 rfl rfl) h1
  have hb1 : -9223372036854775808 ≤ u ∧ u ≤ 9223372036854775807 := by simpa [Lit.wf, IntKind.min, IntKind.max, IntKind.signed, IntKind.bits] using hw1
  obtain ⟨A, hL2⟩ := open_entries (hval 2 22 v2 rfl rfl) h2
  exact walk v0 M hL0 u hb1.1 hb1.2 v2 A hL2

theorem over : Rows.auditPagesRow.holds Try.pinned (OpenSpec.ofChange Rows.auditPagesSpec) :=
  OpenClaim.holds_of_wide 6 Try.f6 rfl rfl rfl rfl rfl rfl rfl ⟨rfl, rfl, rfl, rfl, rfl⟩ rfl rfl rfl rfl rfl (by kernel_rfl) Try.func6 (by kernel_rfl)
    (of_decide_eq_true (by kernel_rfl)) (by unfold Func.isWrapper; first | (rw [if_pos (by decide +kernel)]; kernel_rfl) | (rw [if_neg (by decide +kernel)]; exact ⟨rfl, rfl⟩))
    (fun os started H enc _ => lifted os started H enc)

/-- The statement. -/
theorem proved : Rows.AuditPagesSaid :=
  over
#print axioms proved
end Go.Proofs.Ytfahfjhibffdkaa.auditPages
