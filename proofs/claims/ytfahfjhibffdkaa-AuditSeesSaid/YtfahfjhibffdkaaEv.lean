/- Audit: Page of the plain text. -/
import Derived.Test.YtfahfjhibffdkaaEs
set_option linter.unusedVariables false
set_option linter.unusedSimpArgs false
set_option maxRecDepth 100000
namespace Go.Proofs.Ytfahfjhibffdkaa.Aud
open Go.RowKit Go.Lib Go.Proofs.Ytfahfjhibffdkaa.Rig Go.Proofs.Ytfahfjhibffdkaa.Rt Go.Proofs.Ytfahfjhibffdkaa.Bx

/-! a page -/
def pageE (f : En → Bool) (A : List En) (fr nn : Int) : List En := ((A.filter f).drop (max fr 0).toNat).take (min nn 10).toNat
def GiveEn (P : Nat → Prop) (A : List En) (w : World) (e : Ending) (w' : World) : Prop := ∃ s, e = .returned s ∧ EnsP P w' s A ∧ Below w.heap.size w w'
theorem filter_take (f : En → Bool) (A : List En) {k : Nat} (hk : k < A.length) : (A.take (k + 1)).filter f = (A.take k).filter f ++ (if f A[k] = true then [A[k]] else []) := by
  rw [List.take_succ_eq_append_getElem hk, List.filter_append]
  congr 1
  cases h : f A[k] <;> simp [h]
theorem filter_len (f : En → Bool) (A : List En) (k : Nat) : ((A.take k).filter f).length ≤ k := Nat.le_trans (List.length_filter_le _ _) (by rw [List.length_take]; omega)
set_option maxHeartbeats 16000000 in
theorem rpage_any {v sv : Value} {M : List Lb} {A : List En} {P : Nat → Prop} (u fr nn : Int) (w : World) (h : Labs w v M) (hu : i64 u) (hA : EnsP P w sv A) (hP : ∀ b, P b → b < w.heap.size) (hn : A.length ≤ 10000) (r1 : i64 fr) (r2 : i64 nn) :
    Calls Try.prog 16 #[v, .int .i64 u, sv, .int .i64 fr, .int .i64 nn] w (GiveEn P (pageE (seesB M u) A fr nn) w) := by
  obtain ⟨a, cap, rfl, hl, hm⟩ := hA.is_slice
  obtain ⟨n, hnA⟩ : ∃ n, n = A.length := ⟨_, rfl⟩
  have HE : Hid (∀ w', Below w.heap.size w w' → EnsP P w' (.slice a n cap) A) := fun w' hb => by rw [hnA]; exact hA.below hb
  rw [← hnA] at hl hn ⊢
  unfold maxLen at hm
  have HN := Lib.hid hnA
  have HP := Lib.hid hP
  obtain ⟨f, hf⟩ : ∃ f, f = seesB M u := ⟨_, rfl⟩
  have CSe : Hid (∀ (y : En) (s l : Value) (w' : World), Below w.heap.size w w' → EnP P w' [.int .i64 y.u, .int .i64 y.o, .int .i64 y.s, s, l] y → Calls Try.prog 15 #[v, .int .i64 u, .agg #[.int .i64 y.u, .int .i64 y.o, .int .i64 y.s, s, l]] w' fun e w'' => e = .returned (.bool (f y)) ∧ Below w'.heap.size w' w'') := fun y s l w' hb hy => by
    rw [hf]
    exact rsees_any u w' (h.below hb (Nat.le_refl _)) hu hy
  rw [← hf]
  obtain ⟨f0, hf0⟩ : ∃ f0, f0 = max fr 0 := ⟨_, rfl⟩
  obtain ⟨n0, hn0⟩ : ∃ n0, n0 = min nn 10 := ⟨_, rfl⟩
  unfold i64 at r1 r2
  have f0b : 0 ≤ f0 ∧ f0 ≤ 9223372036854775807 := by omega
  have n0b : -9223372036854775808 ≤ n0 ∧ n0 ≤ 10 := by omega
  have HF0 := Lib.hid hf0
  have HN0 := Lib.hid hn0
  have HPG : Hid (pageE f A fr nn = ((A.filter f).drop f0.toNat).take n0.toNat) := by show _ = _; unfold pageE; rw [← hf0, ← hn0]
  obtain ⟨va, vc, rfl, _⟩ := h
  obtain ⟨nM, hnM⟩ : ∃ nM, nM = M.length := ⟨_, rfl⟩
  rw [← hnM] at CSe ⊢
  clear hA hP hnA hf hu hf0 hn0 hnM
  go_enter Try.func16, Try.ntmps16
  go_wp2_with fail
  go_loopg [11, 12] n (fun g t i wr => ∃ k : Nat, k ≤ n ∧ n - k ≤ g ∧ i = .int .i64 k ∧ Hid (OEn P w.heap.size wr t ((A.take k).filter f)) ∧ Below w.heap.size w wr)
  case atStart => exact ⟨0, Nat.zero_le _, by omega, rfl, OEn.nil_ _ _ _, Below.refl _ _⟩
  case round =>
    obtain ⟨k, hk, hg, rfl, HO, hbel⟩ := hrel
    have HB := Lib.hid hbel
    obtain ⟨ao, co, rfl⟩ := HO.out.is_slice
    have LK := filter_len f A k
    by_cases hlt : k < n
    · have hkl : k < A.length := by rw [← HN.out]; exact hlt
      obtain ⟨b, off, sa, sn, sc, la', ln, lc, rfl, hb, hv, c0, c1, c2, c3, c4, q1, q2⟩ := (HE.out _ hbel).get hkl
      clear q1 q2
      have EQ := Lib.hid (filter_take f A hkl)
      have CS1 := Lib.hid (CSe.out _ _ _ wr hbel hv)
      have HV := Lib.hid hv
      obtain ⟨fy, hfy⟩ : ∃ fy, fy = f A[k] := ⟨_, rfl⟩
      rw [← hfy] at CS1 EQ
      clear hfy
      generalize A[k] = y at *
      obtain ⟨yu, yo, ys, S, L⟩ := y
      simp only at c0 c1 c2 c3 c4 CS1 HV
      obtain ⟨mk, hmk⟩ : ∃ mk, mk = ((A.take k).filter f).length := ⟨_, rfl⟩
      rw [← hmk] at HO LK ⊢
      have i1 : (k : Int) < (n : Int) := by omega
      clear hbel hv hmk
      go_wp2_with fail
      refine (CS1.out).mono ?_
      rintro e w2 ⟨rfl, b2⟩
      have K2 := Lib.hid b2
      have HB2 := Lib.hid (below_more HB.out b2)
      replace c0 := vcell b2 hb c0
      replace c1 := vcell b2 hb c1
      replace c2 := vcell b2 hb c2
      replace c3 := vcell b2 hb c3
      replace c4 := vcell b2 hb c4
      clear b2 CS1
      cases fy with
      | false =>
        have EQ2 : Hid ((A.take (k + 1)).filter f = (A.take k).filter f) := by show _ = _; rw [EQ.out]; simp
        have HO2 := Lib.hid (HO.out.below K2.out)
        clear EQ HO
        go_wp2_with fail
        go_roundg (n - (k + 1))
        case measure => omega
        case rel => exact ⟨k + 1, by omega, Nat.le_refl _, by go_num, by rw [EQ2.out]; exact HO2, HB2.out⟩
      | true =>
        have EQ2 : Hid ((A.take (k + 1)).filter f = (A.take k).filter f ++ [⟨yu, yo, ys, S, L⟩]) := by show _ = _; rw [EQ.out]; simp
        clear EQ
        obtain ⟨xs, hxl, A1, K0'⟩ := (HO.out.below (below_al K2.out (.cells #[.int .i64 yu, .int .i64 yo, .int .i64 ys, .slice sa sn sc, .slice la' ln lc] 25))).row
        replace A1 := Lib.hid A1
        have KR := Lib.hid K0'
        have HU : Hid (EnP P (w2.alloc (.cells #[.int .i64 yu, .int .i64 yo, .int .i64 ys, .slice sa sn sc, .slice la' ln lc] 25)) [.int .i64 yu, .int .i64 yo, .int .i64 ys, .slice sa sn sc, .slice la' ln lc] ⟨yu, yo, ys, S, L⟩) := HV.out.below (below_al K2.out _)
        have A2 : Hid (Rk.RowK 5 (w2.alloc (.cells #[.int .i64 yu, .int .i64 yo, .int .i64 ys, .slice sa sn sc, .slice la' ln lc] 25)) (.slice (some ⟨w2.heap.size, 0, none⟩) 1 1) [[.int .i64 yu, .int .i64 yo, .int .i64 ys, .slice sa sn sc, .slice la' ln lc]]) := Rk.row_one (e := 25) (heap_alloc_new _ _) rfl
        have HBY : Hid (Below w.heap.size w (w2.alloc (.cells #[.int .i64 yu, .int .i64 yo, .int .i64 ys, .slice sa sn sc, .slice la' ln lc] 25))) := below_al HB2.out _
        have A4 : Hid (w.heap.size ≤ (w2.alloc (.cells #[.int .i64 yu, .int .i64 yo, .int .i64 ys, .slice sa sn sc, .slice la' ln lc] 25)).heap.size) := HBY.out.size
        have A3 : Hid (xs.length + 1 ≤ 100000) := by show _ ≤ _; rw [hxl]; have := filter_len f A k; omega
        have HYO : Hid (∀ z ∈ [[Value.int .i64 yu, .int .i64 yo, .int .i64 ys, .slice sa sn sc, .slice la' ln lc]], ∀ q ∈ z, q.oneCell' = true) := fun z hz => by
          simp only [List.mem_singleton] at hz
          subst hz
          exact HU.out.one
        have HOW : Hid (∀ b, P b → some b ≠ (Value.slice ao mk co).ownBlock) := fun b hb e => by
          have := (HO.out.own b e.symm).1
          have := HP.out b hb
          omega
        clear K0' hxl
        go_wp2_with (at_builtin; refine Rk.wpList_append_rowk rfl _ _ 22 25 5 72 _ Try.underlying22 infoEn rfl (by decide) (by decide) rfl w.heap.size _ _ xs _ rfl rfl A1.out A2.out HYO.out A3.out A4.out ?_)
        intro v6 w9 h5 g5 k5
        have K9 : Hid (OEn P w.heap.size w9 v6 ((A.take (k + 1)).filter f)) := by
          show OEn _ _ _ _ _
          rw [EQ2.out]
          exact KR.out [(_, ⟨yu, yo, ys, S, L⟩)] _ _ h5 g5 (by simpa using k5) (fun x hx => by
            simp only [List.mem_singleton] at hx
            subst hx
            exact HU.out.mono fun b _ h => ⟨h, HOW.out b h⟩)
        have HB6 := Lib.hid (A1.out.belowOf HBY.out (Nat.le_refl _) A4.out g5)
        clear h5 g5 k5 A1 A2 A3 A4 HBY EQ2 KR HU HYO HOW
        obtain ⟨a6, c6, rfl⟩ := K9.out.is_slice
        generalize ((A.take (k + 1)).filter f).length = m6 at *
        go_wp2_with fail
        go_roundg (n - (k + 1))
        case measure => omega
        case rel => exact ⟨k + 1, by omega, Nat.le_refl _, by go_num, K9, HB6.out⟩
    · obtain rfl : k = n := by omega
      have i1 : ¬ (k : Int) < (k : Int) := by omega
      have et : A.take k = A := by rw [HN.out, List.take_length]
      rw [et] at HO LK ⊢
      have HAl : Hid (∀ w', Below wr.heap.size wr w' → EnsP P w' (.slice ao (A.filter f).length co) (A.filter f)) := fun w' hb => (HO.out.below hb).ens
      obtain ⟨F, hF⟩ : ∃ F, F = A.filter f := ⟨_, rfl⟩
      rw [← hF] at HAl HPG LK ⊢
      obtain ⟨_, _, e3, hc1, hm1⟩ := (HAl.out wr (Below.refl _ _)).is_slice
      injection e3 with y1 y2 e3
      rw [← e3] at hc1 hm1
      clear y1 y2
      obtain ⟨m, hmF⟩ : ∃ m, m = F.length := ⟨_, rfl⟩
      have HMF := Lib.hid hmF
      rw [← hmF] at HAl hc1 LK ⊢
      unfold maxLen at hm1
      obtain ⟨wo, hwo⟩ : ∃ wo, wo = wr := ⟨_, rfl⟩
      rw [← hwo] at HB HAl ⊢
      have KO : Hid (w.heap.size ≤ wo.heap.size) := HB.out.size
      clear hbel HO et hF hmF hwo e3 HE HN i1
      go_upto_region 8 with fail
      go_cut [14] from 35 to 37 (fun x wx => x = .int .i64 f0 ∧ Hid (Below wo.heap.size wo wx))
      case first =>
        by_cases hfr : fr < 0
        · have e : Hid (f0 = 0) := by show _ = _; rw [HF0.out]; omega
          go_wp2_with fail
          go_meet
          exact ⟨by rw [e.out], Lib.hid (Below.refl _ _)⟩
        · have e : Hid (f0 = fr) := by show _ = _; rw [HF0.out]; omega
          go_wp2_with fail
          go_meet
          exact ⟨by rw [e.out], Lib.hid (Below.refl _ _)⟩
      case rest =>
        obtain ⟨rfl, K8⟩ := hcut
        have KO8 : Hid (w.heap.size ≤ wc.heap.size) := Nat.le_trans KO.out K8.out.size
        clear HF0
        by_cases g10 : 10 < nn
        · obtain rfl : n0 = 10 := by have := HN0.out; omega
          go_wp2_with fail
          go_loopg [13, 14] m (fun g t i wr => ∃ k : Nat, k ≤ m ∧ m - k ≤ g ∧ i = .int .i64 (f0 + k) ∧ Hid (OEn P wc.heap.size wr t ((F.drop f0.toNat).take k)) ∧ (k : Int) ≤ max 10 0 ∧ (0 < k → f0 + k ≤ m) ∧ Below wc.heap.size wc wr)
          case atStart => exact ⟨0, Nat.zero_le _, by omega, by simp, OEn.nil_ _ _ _, by omega, by omega, Below.refl _ _⟩
          case round =>
            obtain ⟨k, hk, hg, rfl, HO, hkn, hkm, hbel⟩ := hrel
            have HBc := Lib.hid hbel
            have HB2 := Lib.hid (below_more HB.out (below_more K8.out hbel))
            obtain ⟨ao2, co2, rfl⟩ := HO.out.is_slice
            obtain ⟨mk, hmk⟩ : ∃ mk, mk = ((F.drop f0.toNat).take k).length := ⟨_, rfl⟩
            have hmk2 : mk = k := by
              rw [hmk, List.length_take, List.length_drop, ← HMF.out]
              omega
            rw [← hmk, hmk2] at HO ⊢
            clear hmk hmk2 mk
            by_cases hf : f0 + k < m
            · have zi : IntKind.i64.wrap (f0 + k + 1) = f0 + k + 1 := IntWalk.i64_in _ (by omega)
              have i1 : decide (f0 + (k : Int) < (m : Int)) = true := decide_eq_true hf
              by_cases hkn2 : (k : Int) < 10
              · have i2 : decide ((k : Int) < 10) = true := decide_eq_true hkn2
                have hfn : f0 = (f0.toNat : Nat) := by omega
                obtain ⟨q, hq⟩ : ∃ q, q = f0.toNat + k := ⟨_, rfl⟩
                have hqm : q < F.length := by rw [← HMF.out]; omega
                have hfk : f0 + k = (q : Nat) := by omega
                have EQ : Hid ((F.drop f0.toNat).take (k + 1) = (F.drop f0.toNat).take k ++ [F[q]]) := by
                  show _ = _
                  have hk' : k < (F.drop f0.toNat).length := by rw [List.length_drop]; omega
                  rw [List.take_succ_eq_append_getElem hk']
                  congr 2
                  rw [List.getElem_drop]
                  congr 1
                  exact hq.symm
                obtain ⟨b, off, sa, sn, sc, la', ln, lc, rfl, hb, hv, c0, c1, c2, c3, c4, q1, q2⟩ := (HAl.out _ (below_more K8.out hbel)).get hqm
                clear q1 q2
                have HV := Lib.hid hv
                generalize F[q] = y at *
                obtain ⟨yu, yo, ys, S, L⟩ := y
                simp only at c0 c1 c2 c3 c4 HV
                obtain ⟨xs, hxl, A1, K0'⟩ := (HO.out.below (below_al (Below.refl _ _) (.cells #[.int .i64 yu, .int .i64 yo, .int .i64 ys, .slice sa sn sc, .slice la' ln lc] 25))).row
                replace A1 := Lib.hid A1
                have KR := Lib.hid K0'
                have HU : Hid (EnP P (wr.alloc (.cells #[.int .i64 yu, .int .i64 yo, .int .i64 ys, .slice sa sn sc, .slice la' ln lc] 25)) [.int .i64 yu, .int .i64 yo, .int .i64 ys, .slice sa sn sc, .slice la' ln lc] ⟨yu, yo, ys, S, L⟩) := HV.out.below (below_al (Below.refl _ _) _)
                have A2 : Hid (Rk.RowK 5 (wr.alloc (.cells #[.int .i64 yu, .int .i64 yo, .int .i64 ys, .slice sa sn sc, .slice la' ln lc] 25)) (.slice (some ⟨wr.heap.size, 0, none⟩) 1 1) [[.int .i64 yu, .int .i64 yo, .int .i64 ys, .slice sa sn sc, .slice la' ln lc]]) := Rk.row_one (e := 25) (heap_alloc_new _ _) rfl
                have HBY : Hid (Below wc.heap.size wc (wr.alloc (.cells #[.int .i64 yu, .int .i64 yo, .int .i64 ys, .slice sa sn sc, .slice la' ln lc] 25))) := below_al HBc.out _
                have A4 : Hid (wc.heap.size ≤ (wr.alloc (.cells #[.int .i64 yu, .int .i64 yo, .int .i64 ys, .slice sa sn sc, .slice la' ln lc] 25)).heap.size) := HBY.out.size
                have A3 : Hid (xs.length + 1 ≤ 100000) := by show _ ≤ _; rw [hxl, List.length_take]; omega
                have HYO : Hid (∀ z ∈ [[Value.int .i64 yu, .int .i64 yo, .int .i64 ys, .slice sa sn sc, .slice la' ln lc]], ∀ q ∈ z, q.oneCell' = true) := fun z hz => by
                  simp only [List.mem_singleton] at hz
                  subst hz
                  exact HU.out.one
                have HOW : Hid (∀ b, P b → some b ≠ (Value.slice ao2 k co2).ownBlock) := fun b hb e => by
                  have := (HO.out.own b e.symm).1
                  have := KO8.out
                  have := HP.out b hb
                  omega
                have HBO : Hid (Below wo.heap.size wo (wr.alloc (.cells #[.int .i64 yu, .int .i64 yo, .int .i64 ys, .slice sa sn sc, .slice la' ln lc] 25))) := below_al (below_more K8.out hbel) _
                have hz : f0 + ((k + 1 : Nat) : Int) = f0 + k + 1 := by omega
                have HZ := Lib.hid hz
                have hk3 : k + 1 ≤ m := by omega
                rw [hfk] at i1 zi HZ ⊢
                rw [show ((q : Nat) : Int) + 1 = (q : Int) + 1 from rfl] at zi
                have iq : q < m := by omega
                clear K0' hxl hv hfn hq hz hfk hf hkm
                go_wp2_with (at_builtin; refine Rk.wpList_append_rowk rfl _ _ 22 25 5 72 _ Try.underlying22 infoEn rfl (by decide) (by decide) rfl wc.heap.size _ _ xs _ rfl rfl A1.out A2.out HYO.out A3.out A4.out ?_)
                intro v6 w9 h5 g5 k5
                have K9 : Hid (OEn P wc.heap.size w9 v6 ((F.drop f0.toNat).take (k + 1))) := by
                  show OEn _ _ _ _ _
                  rw [EQ.out]
                  exact KR.out [(_, ⟨yu, yo, ys, S, L⟩)] _ _ h5 g5 (by simpa using k5) (fun x hx => by
                    simp only [List.mem_singleton] at hx
                    subst hx
                    exact HU.out.mono fun b _ h => ⟨h, HOW.out b h⟩)
                have HB6 : Hid (Below wc.heap.size wc w9) := Lib.hid (A1.out.belowOf HBY.out (Nat.le_refl _) A4.out g5)
                clear h5 g5 k5 A1 A2 A3 A4 HBY EQ KR HU HYO HOW
                obtain ⟨a6, c6, rfl⟩ := K9.out.is_slice
                generalize ((F.drop f0.toNat).take (k + 1)).length = m6 at *
                go_wp2_with fail
                go_roundg (m - (k + 1))
                case measure => omega
                case rel => exact ⟨k + 1, hk3, Nat.le_refl _, by rw [HZ.out], K9, by omega, by have := HZ.out; omega, HB6.out⟩
              · have i2 : decide ((k : Int) < 10) = false := decide_eq_false hkn2
                have e : Hid ((F.drop f0.toNat).take k = pageE f A fr nn) := by show _ = _; rw [HPG.out]; congr 1; omega
                have FN : Hid (EnsP P wr (.slice ao2 k co2) (pageE f A fr nn)) := by
                  show EnsP _ _ _ _
                  rw [← e.out]
                  exact HO.out.ens
                clear hbel HO e
                go_wp2_with fail
                go_ret
                exact ⟨_, rfl, FN.out, HB2.out⟩
            · have i1 : decide (f0 + (k : Int) < (m : Int)) = false := decide_eq_false hf
              have e : Hid ((F.drop f0.toNat).take k = pageE f A fr nn) := by
                show _ = _
                rw [HPG.out, List.take_of_length_le (by rw [List.length_drop, ← HMF.out]; omega), List.take_of_length_le (by rw [List.length_drop, ← HMF.out]; omega)]
              have FN : Hid (EnsP P wr (.slice ao2 k co2) (pageE f A fr nn)) := by
                show EnsP _ _ _ _
                rw [← e.out]
                exact HO.out.ens
              clear hbel HO e
              go_wp2_with fail
              go_ret
              exact ⟨_, rfl, FN.out, HB2.out⟩
        · obtain rfl : nn = n0 := by have := HN0.out; omega
          go_wp2_with fail
          go_loopg [13, 14] m (fun g t i wr => ∃ k : Nat, k ≤ m ∧ m - k ≤ g ∧ i = .int .i64 (f0 + k) ∧ Hid (OEn P wc.heap.size wr t ((F.drop f0.toNat).take k)) ∧ (k : Int) ≤ max nn 0 ∧ (0 < k → f0 + k ≤ m) ∧ Below wc.heap.size wc wr)
          case atStart => exact ⟨0, Nat.zero_le _, by omega, by simp, OEn.nil_ _ _ _, by omega, by omega, Below.refl _ _⟩
          case round =>
            obtain ⟨k, hk, hg, rfl, HO, hkn, hkm, hbel⟩ := hrel
            have HBc := Lib.hid hbel
            have HB2 := Lib.hid (below_more HB.out (below_more K8.out hbel))
            obtain ⟨ao2, co2, rfl⟩ := HO.out.is_slice
            obtain ⟨mk, hmk⟩ : ∃ mk, mk = ((F.drop f0.toNat).take k).length := ⟨_, rfl⟩
            have hmk2 : mk = k := by
              rw [hmk, List.length_take, List.length_drop, ← HMF.out]
              omega
            rw [← hmk, hmk2] at HO ⊢
            clear hmk hmk2 mk
            by_cases hf : f0 + k < m
            · have zi : IntKind.i64.wrap (f0 + k + 1) = f0 + k + 1 := IntWalk.i64_in _ (by omega)
              have i1 : decide (f0 + (k : Int) < (m : Int)) = true := decide_eq_true hf
              by_cases hkn2 : (k : Int) < nn
              · have i2 : decide ((k : Int) < nn) = true := decide_eq_true hkn2
                have hfn : f0 = (f0.toNat : Nat) := by omega
                obtain ⟨q, hq⟩ : ∃ q, q = f0.toNat + k := ⟨_, rfl⟩
                have hqm : q < F.length := by rw [← HMF.out]; omega
                have hfk : f0 + k = (q : Nat) := by omega
                have EQ : Hid ((F.drop f0.toNat).take (k + 1) = (F.drop f0.toNat).take k ++ [F[q]]) := by
                  show _ = _
                  have hk' : k < (F.drop f0.toNat).length := by rw [List.length_drop]; omega
                  rw [List.take_succ_eq_append_getElem hk']
                  congr 2
                  rw [List.getElem_drop]
                  congr 1
                  exact hq.symm
                obtain ⟨b, off, sa, sn, sc, la', ln, lc, rfl, hb, hv, c0, c1, c2, c3, c4, q1, q2⟩ := (HAl.out _ (below_more K8.out hbel)).get hqm
                clear q1 q2
                have HV := Lib.hid hv
                generalize F[q] = y at *
                obtain ⟨yu, yo, ys, S, L⟩ := y
                simp only at c0 c1 c2 c3 c4 HV
                obtain ⟨xs, hxl, A1, K0'⟩ := (HO.out.below (below_al (Below.refl _ _) (.cells #[.int .i64 yu, .int .i64 yo, .int .i64 ys, .slice sa sn sc, .slice la' ln lc] 25))).row
                replace A1 := Lib.hid A1
                have KR := Lib.hid K0'
                have HU : Hid (EnP P (wr.alloc (.cells #[.int .i64 yu, .int .i64 yo, .int .i64 ys, .slice sa sn sc, .slice la' ln lc] 25)) [.int .i64 yu, .int .i64 yo, .int .i64 ys, .slice sa sn sc, .slice la' ln lc] ⟨yu, yo, ys, S, L⟩) := HV.out.below (below_al (Below.refl _ _) _)
                have A2 : Hid (Rk.RowK 5 (wr.alloc (.cells #[.int .i64 yu, .int .i64 yo, .int .i64 ys, .slice sa sn sc, .slice la' ln lc] 25)) (.slice (some ⟨wr.heap.size, 0, none⟩) 1 1) [[.int .i64 yu, .int .i64 yo, .int .i64 ys, .slice sa sn sc, .slice la' ln lc]]) := Rk.row_one (e := 25) (heap_alloc_new _ _) rfl
                have HBY : Hid (Below wc.heap.size wc (wr.alloc (.cells #[.int .i64 yu, .int .i64 yo, .int .i64 ys, .slice sa sn sc, .slice la' ln lc] 25))) := below_al HBc.out _
                have A4 : Hid (wc.heap.size ≤ (wr.alloc (.cells #[.int .i64 yu, .int .i64 yo, .int .i64 ys, .slice sa sn sc, .slice la' ln lc] 25)).heap.size) := HBY.out.size
                have A3 : Hid (xs.length + 1 ≤ 100000) := by show _ ≤ _; rw [hxl, List.length_take]; omega
                have HYO : Hid (∀ z ∈ [[Value.int .i64 yu, .int .i64 yo, .int .i64 ys, .slice sa sn sc, .slice la' ln lc]], ∀ q ∈ z, q.oneCell' = true) := fun z hz => by
                  simp only [List.mem_singleton] at hz
                  subst hz
                  exact HU.out.one
                have HOW : Hid (∀ b, P b → some b ≠ (Value.slice ao2 k co2).ownBlock) := fun b hb e => by
                  have := (HO.out.own b e.symm).1
                  have := KO8.out
                  have := HP.out b hb
                  omega
                have HBO : Hid (Below wo.heap.size wo (wr.alloc (.cells #[.int .i64 yu, .int .i64 yo, .int .i64 ys, .slice sa sn sc, .slice la' ln lc] 25))) := below_al (below_more K8.out hbel) _
                have hz : f0 + ((k + 1 : Nat) : Int) = f0 + k + 1 := by omega
                have HZ := Lib.hid hz
                have hk3 : k + 1 ≤ m := by omega
                rw [hfk] at i1 zi HZ ⊢
                rw [show ((q : Nat) : Int) + 1 = (q : Int) + 1 from rfl] at zi
                have iq : q < m := by omega
                clear K0' hxl hv hfn hq hz hfk hf hkm
                go_wp2_with (at_builtin; refine Rk.wpList_append_rowk rfl _ _ 22 25 5 72 _ Try.underlying22 infoEn rfl (by decide) (by decide) rfl wc.heap.size _ _ xs _ rfl rfl A1.out A2.out HYO.out A3.out A4.out ?_)
                intro v6 w9 h5 g5 k5
                have K9 : Hid (OEn P wc.heap.size w9 v6 ((F.drop f0.toNat).take (k + 1))) := by
                  show OEn _ _ _ _ _
                  rw [EQ.out]
                  exact KR.out [(_, ⟨yu, yo, ys, S, L⟩)] _ _ h5 g5 (by simpa using k5) (fun x hx => by
                    simp only [List.mem_singleton] at hx
                    subst hx
                    exact HU.out.mono fun b _ h => ⟨h, HOW.out b h⟩)
                have HB6 : Hid (Below wc.heap.size wc w9) := Lib.hid (A1.out.belowOf HBY.out (Nat.le_refl _) A4.out g5)
                clear h5 g5 k5 A1 A2 A3 A4 HBY EQ KR HU HYO HOW
                obtain ⟨a6, c6, rfl⟩ := K9.out.is_slice
                generalize ((F.drop f0.toNat).take (k + 1)).length = m6 at *
                go_wp2_with fail
                go_roundg (m - (k + 1))
                case measure => omega
                case rel => exact ⟨k + 1, hk3, Nat.le_refl _, by rw [HZ.out], K9, by omega, by have := HZ.out; omega, HB6.out⟩
              · have i2 : decide ((k : Int) < nn) = false := decide_eq_false hkn2
                have e : Hid ((F.drop f0.toNat).take k = pageE f A fr nn) := by show _ = _; rw [HPG.out]; congr 1; omega
                have FN : Hid (EnsP P wr (.slice ao2 k co2) (pageE f A fr nn)) := by
                  show EnsP _ _ _ _
                  rw [← e.out]
                  exact HO.out.ens
                clear hbel HO e
                go_wp2_with fail
                go_ret
                exact ⟨_, rfl, FN.out, HB2.out⟩
            · have i1 : decide (f0 + (k : Int) < (m : Int)) = false := decide_eq_false hf
              have e : Hid ((F.drop f0.toNat).take k = pageE f A fr nn) := by
                show _ = _
                rw [HPG.out, List.take_of_length_le (by rw [List.length_drop, ← HMF.out]; omega), List.take_of_length_le (by rw [List.length_drop, ← HMF.out]; omega)]
              have FN : Hid (EnsP P wr (.slice ao2 k co2) (pageE f A fr nn)) := by
                show EnsP _ _ _ _
                rw [← e.out]
                exact HO.out.ens
              clear hbel HO e
              go_wp2_with fail
              go_ret
              exact ⟨_, rfl, FN.out, HB2.out⟩
end Go.Proofs.Ytfahfjhibffdkaa.Aud
