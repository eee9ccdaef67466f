/- Plate: the plain text's Fall. -/
import Derived.Test.YtegnpkolmnmeiaaY16ba
set_option linter.unusedVariables false
set_option linter.unusedSimpArgs false
set_option maxRecDepth 100000
namespace Go.Proofs.Ytegnpkolmnmeiaa.Plt
open Go.RowKit Go.Lib Go.Proofs.Ytegnpkolmnmeiaa.Bx

section
variable {base R M1 M2 c : Nat} {w w' : World} {f1 f2 : Lit → Option Value} {u : Nat → Value} {D : DK}
def fallF (P : Nat → PL) (L : List Nat) (pk : List Int) : Nat → Nat → PL
  | 0 => P
  | k + 1 => upd (fallF P L pk k) (L.getD k 0) ⟨(P (L.getD k 0)).held (pk.getD k 0), (P (L.getD k 0)).l⟩
theorem fallF_other {P : Nat → PL} {L : List Nat} {pk : List Int} {j : Nat} : ∀ k, (∀ i, i < k → L.getD i 0 ≠ j) → fallF P L pk k j = P j
  | 0, _ => rfl
  | k + 1, h => by
    show upd _ _ _ _ = _
    rw [upd_other _ _ (fun e => h k (by omega) e.symm)]
    exact fallF_other k (fun i hi => h i (by omega))
theorem fallF_at {P : Nat → PL} {L : List Nat} {pk : List Int} (hn : L.Nodup) {i : Nat} : ∀ k, k ≤ L.length → i < k → fallF P L pk k (L.getD i 0) = ⟨(P (L.getD i 0)).held (pk.getD i 0), (P (L.getD i 0)).l⟩
  | 0, _, h => absurd h (by omega)
  | k + 1, hk, h => by
    show upd _ _ _ _ = _
    by_cases e : i = k
    · subst e
      rw [upd_same]
    · rw [upd_other _ _ (fun e1 => e (getD_inj hn (by omega) (by omega) e1))]
      exact fallF_at hn k (by omega) (by omega)
theorem fallF_all (D : DK) (pk : List Int) (k : Nat) (hk1 : k ≤ (looseL D).length) (hk2 : k < (looseL D).length → pk.length ≤ k) (j : Nat) (hj : j < D.n) : (⟨(fallF D.P (looseL D) pk k j).f, []⟩ : PL) = (fallD D pk).P j := by
  show _ = fallP D.P (looseL D) pk (looseL D).length j
  by_cases hl : (D.P j).l = []
  · rw [fallF_other _ (fun i hi => loose_none hl i (by omega)), fallP_other _ (loose_none hl), ← hl]
  · obtain ⟨i, hi, e⟩ := getD_of_mem ((loose_mem D j).2 ⟨hj, hl⟩)
    rw [← e, fallP_at (loose_nodup D) _ (Nat.le_refl _) hi]
    by_cases hik : i < k
    · rw [fallF_at (loose_nodup D) _ hk1 hik]
    · rw [fallF_other _ (fun q hq e1 => by have := getD_inj (loose_nodup D) (by omega) hi e1; omega)]
      have h0 : pk.getD i 0 = 0 := by
        rw [List.getD_eq_getElem?_getD, List.getElem?_eq_none (by have := hk2 (by omega); omega)]
        rfl
      rw [h0, held_zero]
theorem tmod_fix (x : Int) (m : Nat) : (x.tmod ((m : Int) + 1) < 0 ∧ x.tmod ((m : Int) + 1) + (m : Int) + 1 = x % ((m : Int) + 1)) ∨ (¬ x.tmod ((m : Int) + 1) < 0 ∧ x.tmod ((m : Int) + 1) = x % ((m : Int) + 1)) := by
  have hm : (0 : Int) < (m : Int) + 1 := by omega
  have h1 := Int.lt_tmod_of_pos x hm
  have h2 := Int.tmod_lt_of_pos x hm
  have h3 := mod_twice x hm
  by_cases h : x.tmod ((m : Int) + 1) < 0
  · refine .inl ⟨h, ?_⟩
    rw [Int.tmod_eq_of_lt (by omega) (by omega)] at h3
    omega
  · refine .inr ⟨h, ?_⟩
    rw [Int.tmod_eq_emod_of_nonneg (by omega), Int.add_emod_right, Int.emod_eq_of_lt (by omega) h2] at h3
    exact h3
theorem held_is (p : PL) (x : Int) {e : Nat} (h : x % ((p.l.length : Int) + 1) = (e : Int)) : p.held x = p.pick e := by
  show p.pick (x % ((p.l.length + 1 : Nat) : Int)).toNat = _
  rw [Int.natCast_add, Int.natCast_one, h]
  rfl
set_option maxHeartbeats 32000000 in
theorem rfall_any {pv : Value} (pk : List Int) (hp : Rk.RowK 1 w pv (cellsZ pk)) (hz : ∀ x ∈ pk, -9223372036854775808 ≤ x ∧ x ≤ 9223372036854775807) (hpb : pk ≠ [] → ∀ b, pv.ownBlock = some b → ¬ RFt R M1 M2 u D.n b) (hd : Rm base w R M1 M2 c f1 f2 u D) (hcc : c ≤ 10000000) (hl : ∀ j, j < D.n → (D.P j).l.length ≤ 90000) : Calls Try.prog 18 #[.pointer (some ⟨R, 0, none⟩), pv] w (RBarred base w R M1 c D.n (RFt R M1 M2 u D.n) (fallD D pk) (.tuple #[])) := by
  obtain ⟨pa, pc, rfl, hpl, hpc⟩ := row_z hp
  have CL := Lib.hid (rloose_any hd)
  have HD := Lib.hid hd
  have HB := Lib.hid (fallF_all D pk)
  have HLL := Lib.hid (fun k (h : k < (looseL D).length) => loose_lt D h)
  have HLN := Lib.hid (loose_nodup D)
  have HLE : Hid ((looseL D).length ≤ D.n) := looseN_len D D.n
  have HFD : Hid ((fallD D pk).n = D.n ∧ (fallD D pk).off = false ∧ (fallD D pk).left = -1) := ⟨rfl, rfl, rfl⟩
  obtain ⟨D9, hD9⟩ : ∃ D9, D9 = fallD D pk := ⟨_, rfl⟩
  rw [← hD9] at HB HFD ⊢
  generalize looseL D = LL at *
  obtain ⟨n, P, off, left⟩ := D
  simp only at HLL HLE hl HB HFD ⊢
  obtain ⟨m, hm⟩ : ∃ m, m = LL.length := ⟨_, rfl⟩
  obtain ⟨q, hq⟩ : ∃ q, q = pk.length := ⟨_, rfl⟩
  have HM := Lib.hid hm
  have HQ := Lib.hid hq
  have HP := Lib.hid hp
  have HZ := Lib.hid hz
  have HPB := Lib.hid hpb
  have HL := Lib.hid hl
  rw [← hq] at HP hpl ⊢
  clear hd hp hz hpb hl hm hq hD9
  go_enter Try.func18, Try.ntmps18
  go_wp2_with fail
  refine CL.out.mono ?_
  rintro e w2 ⟨v2, rfl, r2, s2, b2⟩
  obtain ⟨va, vc, hv, hvc, hvm, _⟩ := row_ints r2
  subst hv
  rw [← HM.out] at hvc r2 s2 ⊢
  have R2 := Lib.hid r2
  have S2 : Hid (∀ b, (Value.slice va m vc).ownBlock = some b → w.heap.size ≤ b) := s2
  have B2 := Lib.hid b2
  have D2 := Lib.hid (HD.out.below b2)
  clear r2 s2 b2 CL
  go_wp2_with fail
  go_loopg [5, 6, 7] m (fun g i_ _ _ wr => ∃ (t : Nat) (f1t : Lit → Option Value), t ≤ m ∧ m - t ≤ g ∧ i_ = .int .i64 t ∧ Hid (Rm base wr R M1 M2 (c + t) f1t f2 u ⟨n, fallF P LL pk t, off, left⟩) ∧ Hid (Chg (Three R M1 M2) w2 wr))
  case atStart => exact ⟨0, f1, by omega, by omega, rfl, D2.out, Chg.refl _ _⟩
  case round =>
    obtain ⟨t, f1t, ht, hg, rfl, DX, HC⟩ := hrel
    by_cases hlt : t < m ∧ t < q
    · obtain ⟨hlt, hlq⟩ := hlt
      have htl : t < LL.length := by rw [← HM.out]; exact hlt
      have iw : (t : Int) < (m : Nat) := by omega
      have iq : (t : Int) < (q : Nat) := by omega
      have n0 : (0 : Int) ≤ (t : Nat) := by omega
      obtain ⟨b, of1, rfl, hb, hcl0⟩ := row_ints_at R2.out htl
      have hcl := (World.cell?_of_block (w := w2) (w' := wr) (a := ⟨b, of1 + t, none⟩) (HC.out.block b hb (fun hF => by
        have h1 := S2.out b rfl
        have h2 : b < w.heap.size := (HD.out.lt b (by rcases hF with h | h | h; exact .inl h; exact .inr (.inl h); exact .inr (.inr (.inl h)))).2
        omega))).trans hcl0
      obtain ⟨pb, po, hpa, hpb2, hpcell⟩ := row_z_at HP.out (j := t) (by rw [← HQ.out]; exact hlq)
      subst hpa
      have hpc2 := (World.cell?_of_block (w := w2) (w' := wr) (a := ⟨pb, po + t, none⟩) (HC.out.block pb (Nat.lt_of_lt_of_le hpb2 B2.out.size) (fun hF => HPB.out (fun e => by have := HQ.out; rw [e] at this; simp at this; omega) pb rfl (by rcases hF with h | h | h; exact .inl h; exact .inr (.inl h); exact .inr (.inr (.inl h)))))).trans (vcell B2.out hpb2 hpcell)
      have hx1 : -9223372036854775808 ≤ pk.getD t 0 ∧ pk.getD t 0 ≤ 9223372036854775807 := by
        rw [List.getD_eq_getElem?_getD, List.getElem?_eq_getElem (by rw [← HQ.out]; exact hlq)]
        exact HZ.out _ (List.getElem_mem _)
      have hk : LL.getD t 0 < n := (HLL.out t htl).1
      have hne : (P (LL.getD t 0)).l ≠ [] := (HLL.out t htl).2
      have hP : fallF P LL pk t (LL.getD t 0) = P (LL.getD t 0) := fallF_other t (fun i hi e => by have := getD_inj HLN.out (by omega) htl e; omega)
      have LK0 : ∀ w', Below wr.heap.size wr w' → (Instr.lookup 40 (.map (some M2)) (.int .i64 ((LL.getD t 0 : Nat) : Int)) false).run Try.prog w' = .ok (u (LL.getD t 0)) w' := fun w' hb => look2 (DX.out.below hb) hk
      have hrow := (DX.out.k2 _ hk).2
      simp only at hrow
      rw [hP] at hrow
      obtain ⟨a, cc, hu, hlc, hcm, hx⟩ := rowr_at hrow
      rw [hu] at LK0
      have hl9 := HL.out _ hk
      have FS : Hid (∀ w', Below wr.heap.size wr w' → ∃ w9, (Instr.mapUpdate 39 (.map (some M1)) (.int .i64 ((LL.getD t 0 : Nat) : Int)) (.string ((P (LL.getD t 0)).held (pk.getD t 0)))).run Try.prog w' = .ok () w9 ∧ Hid (Rm base w9 R M1 M2 (c + (t + 1)) (putO f1t (keyL (LL.getD t 0)) (.string ((P (LL.getD t 0)).held (pk.getD t 0)))) f2 u ⟨n, fallF P LL pk (t + 1), off, left⟩ ∧ Chg (Three R M1 M2) w2 w9)) := fun w' hb => by
        have hct : t ≤ 16384 := Nat.le_trans ht (by rw [HM.out]; exact Nat.le_trans HLE.out HD.out.n2)
        obtain ⟨w9, hr, q1, q2⟩ := (DX.out.below hb).firmSet (by omega) hk ((P (LL.getD t 0)).held (pk.getD t 0))
        refine ⟨w9, hr, ?_, ?_⟩
        · simp only [hP] at q1
          exact q1
        · exact (HC.out.trans (Chg.of_below (F := Three R M1 M2) hb) (fun g h => .inl h)).trans q2 (fun g h => .inl h)
      have FZ : Hid ((P (LL.getD t 0)).held (pk.getD t 0) = (P (LL.getD t 0)).f → ∀ w', Below wr.heap.size wr w' → Rm base w' R M1 M2 (c + (t + 1)) f1t f2 u ⟨n, fallF P LL pk (t + 1), off, left⟩ ∧ Chg (Three R M1 M2) w2 w') := fun e w' hb => by
        refine ⟨((DX.out.below hb).congr (P' := fallF P LL pk (t + 1)) (fun i hi => ?_)).mono (by omega), HC.out.trans (Chg.of_below (F := Three R M1 M2) hb) (fun g h => .inl h)⟩
        show upd _ _ _ i = _
        by_cases ei : i = LL.getD t 0
        · rw [ei, upd_same]
          show _ = fallF P LL pk t (LL.getD t 0)
          rw [hP, e]
        · rw [upd_other _ _ ei]
      obtain ⟨x0, x1, x2, x3, x4, _⟩ := DX.out.cells
      have k0 : (0 : Int) ≤ ((LL.getD t 0 : Nat) : Int) := by omega
      obtain ⟨p, hpe⟩ : ∃ p, p = (P (LL.getD t 0)).l.length := ⟨_, rfl⟩
      have HI := fun e (h : (pk.getD t 0) % (((P (LL.getD t 0)).l.length : Int) + 1) = ((e : Nat) : Int)) => held_is (P (LL.getD t 0)) (pk.getD t 0) h
      have HXL := Lib.hid hx
      rw [← hpe] at LK0 hlc hl9 HI
      have LK := Lib.hid LK0
      have lk1 := LK0 wr.drew (Below.drew (Below.refl _ _))
      generalize pk.getD t 0 = x at *
      have hm0 : (0 : Int) < (p : Int) + 1 := by omega
      have hp1 := Int.lt_tmod_of_pos x hm0
      have hp2 := Int.tmod_lt_of_pos x hm0
      have hp3 := Int.emod_nonneg x (show (p : Int) + 1 ≠ 0 by omega)
      have hp4 := Int.emod_lt_of_pos x hm0
      have hqz : ¬ ((p : Int) + 1 = 0) := by omega
      obtain ⟨e9, he9⟩ : ∃ e9 : Nat, x % ((p : Int) + 1) = (e9 : Int) := ⟨(x % ((p : Int) + 1)).toNat, by omega⟩
      have HH := Lib.hid (HI e9 he9)
      have hfix := tmod_fix x p
      rw [he9] at hfix hp3 hp4
      have HPE := Lib.hid hpe
      clear hP htl hk hb hlt hne hrow hu hx LK0 x0 x1 x2 hcl0 hpcell hpb2 HI he9 hpe
      generalize LL.getD t 0 = k at *
      by_cases h0 : e9 = 0
      · subst h0
        have HZ9 : Hid (Rm base wr.drew R M1 M2 (c + (t + 1)) f1t f2 u ⟨n, fallF P LL pk (t + 1), off, left⟩ ∧ Chg (Three R M1 M2) w2 wr.drew) := FZ.out (by rw [HH.out]; rfl) wr.drew (Below.drew (Below.refl _ _))
        rcases hfix with ⟨hf1, hf2⟩ | ⟨hf1, hf2⟩
        · omega
        · clear FS FZ HH HXL LK hp3 hp4
          go_upto_region 4 with fail
          go_region
          go_wp2_with fail
          go_roundg (m - (t + 1))
          case measure => omega
          case rel => exact ⟨t + 1, _, by omega, Nat.le_refl _, by go_num, HZ9.out.1, HZ9.out.2⟩
      · obtain ⟨d, rfl⟩ : ∃ d, e9 = d + 1 := ⟨e9 - 1, by omega⟩
        have hdp : d < (P k).l.length := by rw [← HPE.out]; omega
        obtain ⟨xb, xo, rfl, hxb, hxc⟩ := HXL.out d hdp
        have HVL : (P k).held x = (P k).l.getD d ByteArray.empty := by
          rw [HH.out]
          show (if d + 1 = 0 then _ else (P k).l.getD (d + 1 - 1) (P k).f) = _
          rw [if_neg (by omega), Nat.add_sub_cancel, List.getD_eq_getElem?_getD, List.getD_eq_getElem?_getD, List.getElem?_eq_getElem hdp]
          rfl
        rw [← HVL] at hxc
        have d0 : (0 : Int) ≤ (d : Nat) := by omega
        have d1 : ((d + 1 : Nat) : Int) - 1 = (d : Nat) := by omega
        have d2 : (d : Int) < (p : Nat) := by have := HPE.out; omega
        have d3 : (0 : Int) < ((d + 1 : Nat) : Int) := by omega
        have d4 : ¬ ((d + 1 : Nat) : Int) < 0 := by omega
        obtain ⟨w9, hr, HX9⟩ := FS.out wr.drew.drew (Below.drew (Below.drew (Below.refl _ _)))
        generalize (P k).held x = r at *
        clear HVL hdp HH FS FZ HXL LK hp3 hp4 h0
        rcases hfix with ⟨hf1, hf2⟩ | ⟨hf1, hf2⟩
        all_goals (
          go_upto_region 4 with fail
          go_region
          go_upto_region 9 with fail
          go_region
          go_wp2_with fail
          go_roundg (m - (t + 1)))
        all_goals first
          | (case measure => omega)
          | (case rel => exact ⟨t + 1, _, by omega, Nat.le_refl _, by go_num, HX9.out.1, HX9.out.2⟩)
    · have hmq : t = m ∨ (t < m ∧ q ≤ t) := by omega
      have hk2 : t < LL.length → pk.length ≤ t := fun h => by
        have h1 := HM.out
        have h2 := HQ.out
        omega
      have hk1 : t ≤ LL.length := by rw [← HM.out]; exact ht
      have y1 := DX.out.clear_.1
      have y2 := DX.out.clear_.2
      have hmk : ∀ w : World, (Instr.makeMap 40 none).run Try.prog w = .ok (.map (some w.heap.size)) (w.alloc (.map #[] 0)) := fun w => rfl
      have FN : Hid (RBarred base w R M1 c n (RFt R M1 M2 u n) D9 (.tuple #[]) (.returned (.tuple #[])) ((((wr.alloc (.map #[] 0)).setCell ⟨R, 4, none⟩ (.map (some wr.heap.size))).setCell ⟨R, 2, none⟩ (.bool false)).setCell ⟨R, 1, none⟩ (.int .i64 (-1)))) := by
        have hct : c + t ≤ c + n := by have := HLE.out; omega
        obtain ⟨n9, P9, o9, l9⟩ := D9
        obtain ⟨e1, e2, e3⟩ := HFD.out
        simp only at e1 e2 e3
        subst e1 e2 e3
        have s1 := y1.set 2 (.bool false) false left DX.out.left1 DX.out.left2 rfl
        have s2 := s1.set 1 (.int .i64 (-1)) false (-1) (by omega) (by omega) rfl
        refine ⟨rfl, wr.heap.size, _, _, _, (s2.congr (P' := P9) (fun i hi => ?_)).mono hct, ?_, ?_⟩
        · exact (HB.out t hk1 hk2 i hi).symm
        · have h2 := (Chg.of_below (F := RFt R M1 M2 u n9) B2.out).trans HC.out (fun g e => .inl (by rcases e with e | e | e; exact .inl e; exact .inr (.inl e); exact .inr (.inr (.inl e))))
          exact ((h2.trans y2 (fun g e => .inl (.inl e))).set (.inl (.inl rfl)) _).set (.inl (.inl rfl)) _
        · rintro g (e | e | e | ⟨i, hi, e⟩)
          · exact .inl (.inl e)
          · exact .inl (.inr (.inl e))
          · refine .inr ?_
            rw [e]
            exact Nat.le_trans B2.out.size HC.out.size
          · cases e
      obtain ⟨x0, x1, x2, x3, x4, z1, z2, z4⟩ := DX.out.cells
      obtain ⟨x0', x1', x2', x3', x4', z1', z2', z4'⟩ := (DX.out.below (below_al (Below.refl _ _) (.map #[] 0))).cells
      clear y1 y2 hk1 hk2 hlt
      rcases hmq with hmq | ⟨hm1, hm2⟩
      · subst hmq
        have iw : ¬ ((t : Int) < (t : Nat)) := by omega
        go_wp2_with fail
        exact bodyPost_end (v := .tuple #[]) (by simp [results, Try.results18, go_sem]) rfl FN.out
      · have iw : (t : Int) < (m : Nat) := by omega
        have iq : ¬ (t : Int) < (q : Nat) := by omega
        have iq2 : ¬ t < q := by omega
        go_wp2_with fail
        exact bodyPost_end (v := .tuple #[]) (by simp [results, Try.results18, go_sem]) rfl FN.out
end
end Go.Proofs.Ytegnpkolmnmeiaa.Plt
