/- Plate: the plain text's Barrier. -/
import Derived.Test.YtegnpkolmnmeiaaY16z
set_option linter.unusedVariables false
set_option linter.unusedSimpArgs false
set_option maxRecDepth 100000
namespace Go.Proofs.Ytegnpkolmnmeiaa.Plt
open Go.RowKit Go.Lib Go.Proofs.Ytegnpkolmnmeiaa.Bx

section
variable {base R M1 M2 c : Nat} {w w' : World} {f1 f2 : Lit → Option Value} {u : Nat → Value} {D : DK}
/-- Behind a store into the map of what is firm. -/
theorem Rm.firmSet (h : Rm base w R M1 M2 c f1 f2 u D) (hc : c ≤ 100000000) {k : Nat} (hk : k < D.n) (s : ByteArray) :
    ∃ w', (Instr.mapUpdate 39 (.map (some M1)) (.int .i64 (k : Nat)) (.string s)).run Try.prog w = .ok () w' ∧ Hid (Rm base w' R M1 M2 (c + 1) (putO f1 (keyL k) (.string s)) f2 u ⟨D.n, upd D.P k ⟨s, (D.P k).l⟩, D.off, D.left⟩ ∧ Chg (Three R M1 M2) w w') := by
  obtain ⟨w', hr, q1, q2, q3⟩ := h.m1.put klawI Try.underlying39 (by unfold maxLen; omega) (.string s) (keyI' hk h.n2) (isKeyI _)
  have hs : ∀ g, g < w.heap.size → g ≠ M1 → w'.heap[g]? = w.heap[g]? := fun g hg hne => q2.block g hg (fun e => hne (by injection e))
  have hlt := h.lt
  refine ⟨w', hr, ⟨h.hR, h.h1, h.h2, h.ne, ?_, q1, ?_, ?_, ?_, ?_, h.n1, h.n2, h.left1, h.left2⟩, ?_⟩
  · rw [hs R (hlt R (.inl rfl)).2 h.neR.1]; exact h.blk
  · exact (h.m2.same (hs M2 h.m2.lt (fun e => h.ne e.symm))).mono (Nat.le_succ c)
  · intro i hi
    by_cases e : i = k
    · subst e; rw [putO_same]; simp only [upd_same]; first | exact .inl rfl | exact .inl trivial
    · rw [putO_other _ _ (fun q => e (keyL_inj q))]; simp only [upd_other _ _ e]; exact h.k1 i hi
  · intro i hi
    have := h.k2 i hi
    have hrow : Rk.RowK 1 w' (u i) (cellsT (D.P i).l) := rowk_same this.2 (Nat.le_of_eq q3.symm) (fun b eb => hs b (h.hu i hi b eb).2.2.2.2 (h.hu i hi b eb).2.1)
    by_cases e : i = k
    · subst e; simp only [upd_same]; exact ⟨this.1, hrow⟩
    · simp only [upd_other _ _ e]; exact ⟨this.1, hrow⟩
  · intro i hi b eb
    rw [q3]
    exact h.hu i hi b eb
  · exact ⟨q2.os, q2.tape, q2.output, q2.size, fun g hg hn => hs g hg (fun e => hn (.inr (.inl e)))⟩
/-- With a new map of what was laid. -/
theorem Rm.clear_ (h : Rm base w R M1 M2 c f1 f2 u D) : Rm base ((w.alloc (.map #[] 0)).setCell ⟨R, 4, none⟩ (.map (some w.heap.size))) R M1 w.heap.size c f1 (fun _ => none) (fun _ => nilV) ⟨D.n, fun i => ⟨(D.P i).f, []⟩, D.off, D.left⟩ ∧ Chg (OneB R) w ((w.alloc (.map #[] 0)).setCell ⟨R, 4, none⟩ (.map (some w.heap.size))) := by
  have hlt := h.lt
  have hR := (hlt R (.inl rfl)).2
  have hs : ∀ g, g < w.heap.size → g ≠ R → ((w.alloc (.map #[] 0)).setCell ⟨R, 4, none⟩ (.map (some w.heap.size))).heap[g]? = w.heap[g]? := fun g hg hn => (Below.heap_setCell _ _ _ _ hn).trans (Below.heap_alloc _ _ _ hg)
  have hz : ((w.alloc (.map #[] 0)).setCell ⟨R, 4, none⟩ (.map (some w.heap.size))).heap.size = w.heap.size + 1 := by simp [World.setCell]
  have hb : (w.alloc (.map #[] 0)).heap[R]? = _ := (Below.heap_alloc w (.map #[] 0) R hR).trans h.blk
  refine ⟨⟨h.hR, h.h1, by have := h.hR; omega, by have := h.m1.lt; omega, ?_, h.m1.same (hs _ h.m1.lt (fun e => h.neR.1 e.symm)), ?_, h.k1, fun i hi => ⟨rfl, Rk.RowK.nil_ _ _⟩, fun i hi b e => (by cases e), h.n1, h.n2, h.left1, h.left2⟩, ?_⟩
  · rw [set_block hb]; rfl
  · have hm := MapF.made Try.prog 3 w
    exact (hm.same (Below.heap_setCell _ _ _ _ (by show w.heap.size ≠ R; omega))).mono (Nat.zero_le _)
  · exact (Chg.of_below (F := OneB R) (below_al (Below.refl _ _) _)).set (.inl rfl) _
theorem Rm.congr {P' : Nat → PL} {f1 f2 : Lit → Option Value} {u : Nat → Value} (h : Rm base w R M1 M2 c f1 f2 u D) (hP : ∀ i, i < D.n → P' i = D.P i) : Rm base w R M1 M2 c f1 f2 u ⟨D.n, P', D.off, D.left⟩ :=
  ⟨h.hR, h.h1, h.h2, h.ne, h.blk, h.m1, h.m2, fun i hi => by show _ = some (Value.string (P' i).f) ∨ (_ ∧ (P' i).f = _); rw [hP i hi]; exact h.k1 i hi, fun i hi => by show _ ∧ Rk.RowK _ _ _ (cellsT (P' i).l); rw [hP i hi]; exact h.k2 i hi, h.hu, h.n1, h.n2, h.left1, h.left2⟩
def barF (P : Nat → PL) (L : List Nat) : Nat → Nat → PL
  | 0 => P
  | k + 1 => upd (barF P L k) (L.getD k 0) ⟨(P (L.getD k 0)).last, (P (L.getD k 0)).l⟩
theorem barF_other {P : Nat → PL} {L : List Nat} {j : Nat} : ∀ k, (∀ i, i < k → L.getD i 0 ≠ j) → barF P L k j = P j
  | 0, _ => rfl
  | k + 1, h => by
    show upd _ _ _ _ = _
    rw [upd_other _ _ (fun e => h k (by omega) e.symm)]
    exact barF_other k (fun i hi => h i (by omega))
theorem barF_at {P : Nat → PL} {L : List Nat} (hn : L.Nodup) {i : Nat} : ∀ k, k ≤ L.length → i < k → barF P L k (L.getD i 0) = ⟨(P (L.getD i 0)).last, (P (L.getD i 0)).l⟩
  | 0, _, h => absurd h (by omega)
  | k + 1, hk, h => by
    show upd _ _ _ _ = _
    by_cases e : i = k
    · subst e
      rw [upd_same]
    · rw [upd_other _ _ (fun e1 => e (getD_inj hn (by omega) (by omega) e1))]
      exact barF_at hn k (by omega) (by omega)
theorem barF_all (D : DK) (j : Nat) (hj : j < D.n) : (⟨(barF D.P (looseL D) (looseL D).length j).f, []⟩ : PL) = (D.P j).settle := by
  by_cases hl : (D.P j).l = []
  · rw [settle_nil hl, barF_other _ (loose_none hl), ← hl]
  · obtain ⟨i, hi, e⟩ := getD_of_mem ((loose_mem D j).2 ⟨hj, hl⟩)
    rw [← e, barF_at (loose_nodup D) _ (Nat.le_refl _) hi]
    rfl
theorem rbar_no (hd : Rm base w R M1 M2 c f1 f2 u D) (hc : D.off = true) : Calls Try.prog 15 #[.pointer (some ⟨R, 0, none⟩)] w fun e w' => e = .returned (.bool false) ∧ w = w' := by
  obtain ⟨c0, c1, c2, c3, c4, g1, g2, g4⟩ := hd.cells
  rw [hc] at c2
  clear hd c1 c3 c4 g1 g2 g4 hc
  go_enter Try.func15, Try.ntmps15
  go_wp2_with fail
  go_ret
  exact ⟨rfl, rfl⟩
theorem rbar_off (hd : Rm base w R M1 M2 c f1 f2 u D) (hc : D.off = false) (h0 : D.left = 0) : Calls Try.prog 15 #[.pointer (some ⟨R, 0, none⟩)] w (RStepped base w R M1 M2 c f1 f2 u ⟨D.n, D.P, true, D.left⟩ false) := by
  obtain ⟨c0, c1, c2, c3, c4, g1, g2, g4⟩ := hd.cells
  have CS := Lib.hid (rstep_ko hd h0)
  rw [hc] at c2
  clear hd c1 c3 c4 g1 g2 g4 hc h0
  go_enter Try.func15, Try.ntmps15
  go_wp2_with fail
  refine CS.out.mono ?_
  rintro e w1 ⟨rfl, d1, g1⟩
  have D1 := Lib.hid d1
  have G1 := Lib.hid g1
  clear d1 g1 CS
  go_wp2_with fail
  go_ret
  exact ⟨rfl, D1.out, G1.out⟩
def RBarred (base : Nat) (w : World) (R M1 c n : Nat) (F : Nat → Prop) (D' : DK) (r : Value) : Ending → World → Prop := fun e w' =>
  e = .returned r ∧ ∃ M2' f1' f2' u', Rm base w' R M1 M2' (c + n) f1' f2' u' D' ∧ Chg F w w' ∧ ∀ g, RFt R M1 M2' u' n g → F g ∨ w.heap.size ≤ g
set_option maxHeartbeats 16000000 in
theorem rbar_yes (hd : Rm base w R M1 M2 c f1 f2 u D) (hcc : c ≤ 10000000) (hc : D.off = false) (h0 : D.left ≠ 0) : Calls Try.prog 15 #[.pointer (some ⟨R, 0, none⟩)] w (RBarred base w R M1 c D.n (RFt R M1 M2 u D.n) ⟨D.n, fun j => (D.P j).settle, D.off, dec D.left⟩ (.bool true)) := by
  obtain ⟨n, P, off, left⟩ := D
  obtain ⟨c0, c1, c2, c3, c4, g1, g2, g4⟩ := hd.cells
  have CS := Lib.hid (rstep_ok hd h0)
  simp only at hc c0 c2 CS ⊢
  subst hc
  clear hd c1 c3 c4 g1 g2 g4 h0
  go_enter Try.func15, Try.ntmps15
  go_wp2_with fail
  refine CS.out.mono ?_
  rintro e w1 ⟨rfl, d1, g1⟩
  have D1 := Lib.hid d1
  have G1 := Lib.hid g1
  have CL := Lib.hid (rloose_any d1)
  have HB := Lib.hid (barF_all ⟨n, P, false, dec left⟩)
  have HLL := Lib.hid (fun k (h : k < (looseL ⟨n, P, false, dec left⟩).length) => loose_lt ⟨n, P, false, dec left⟩ h)
  have HLN := Lib.hid (loose_nodup ⟨n, P, false, dec left⟩)
  have HLE : Hid ((looseL ⟨n, P, false, dec left⟩).length ≤ n) := looseN_len ⟨n, P, false, dec left⟩ n
  generalize looseL ⟨n, P, false, dec left⟩ = LL at *
  clear d1 g1 CS c0 c2
  go_wp2_with fail
  refine CL.out.mono ?_
  rintro e w2 ⟨v2, rfl, r2, s2, b2⟩
  obtain ⟨va, vc, hv, hvc, hvm, _⟩ := row_ints r2
  subst hv
  obtain ⟨m, hm⟩ : ∃ m, m = LL.length := ⟨_, rfl⟩
  have HM := Lib.hid hm
  rw [← hm] at hvc r2 s2
  have R2 := Lib.hid r2
  have S2 := Lib.hid s2
  have B2 := Lib.hid b2
  have D2 := Lib.hid (D1.out.below b2)
  rw [← HM.out]
  clear r2 s2 b2 CL hm
  go_wp2_with fail
  go_loopg [4, 5] m (fun g i_ _ wr => ∃ (t : Nat) (f1t : Lit → Option Value), t ≤ m ∧ m - t ≤ g ∧ i_ = .int .i64 t ∧ Hid (Rm base wr R M1 M2 (c + t) f1t f2 u ⟨n, barF P LL t, false, dec left⟩) ∧ Hid (Chg (Three R M1 M2) w2 wr))
  case atStart => exact ⟨0, f1, by omega, by omega, rfl, D2.out, Chg.refl _ _⟩
  case round =>
    obtain ⟨t, f1t, ht, hg, rfl, DX, HC⟩ := hrel
    by_cases hlt : t < m
    · have htl : t < LL.length := by rw [← HM.out]; exact hlt
      have iw : (t : Int) < (m : Nat) := by omega
      have n0 : (0 : Int) ≤ (t : Nat) := by omega
      obtain ⟨b, of1, rfl, hb, hcl0⟩ := row_ints_at R2.out htl
      have hcl := (World.cell?_of_block (w := w2) (w' := wr) (a := ⟨b, of1 + t, none⟩) (HC.out.block b hb (fun hF => by
        have h1 := S2.out b rfl
        have h2 : b < w1.heap.size := (D1.out.lt b (by rcases hF with h | h | h; exact .inl h; exact .inr (.inl h); exact .inr (.inr (.inl h)))).2
        omega))).trans hcl0
      have hk : LL.getD t 0 < n := (HLL.out t htl).1
      have hne : (P (LL.getD t 0)).l ≠ [] := (HLL.out t htl).2
      have hP : barF P LL t (LL.getD t 0) = P (LL.getD t 0) := barF_other t (fun i hi e => by have := getD_inj HLN.out (by omega) htl e; omega)
      have LK0 : ∀ w', Below wr.heap.size wr w' → (Instr.lookup 40 (.map (some M2)) (.int .i64 ((LL.getD t 0 : Nat) : Int)) false).run Try.prog w' = .ok (u (LL.getD t 0)) w' := fun w' hb => look2 (DX.out.below hb) hk
      have hrow := (DX.out.k2 _ hk).2
      simp only at hrow
      rw [hP] at hrow
      obtain ⟨a, cc, hu, hlc, hcm, hx⟩ := rowr_at hrow
      have hlen : (P (LL.getD t 0)).l.length ≠ 0 := fun e => hne (List.eq_nil_of_length_eq_zero e)
      have HV := last_at hlen
      obtain ⟨bb, off, rfl, hbb, hxc⟩ := hx ((P (LL.getD t 0)).l.length - 1) (by omega)
      rw [← HV] at hxc
      obtain ⟨p, hp⟩ : ∃ p, (P (LL.getD t 0)).l.length = p + 1 := ⟨(P (LL.getD t 0)).l.length - 1, by omega⟩
      rw [hp, Nat.add_sub_cancel] at hxc
      rw [hp] at hu hlc
      rw [hu] at LK0
      have FS : Hid (∀ w', Below wr.heap.size wr w' → ∃ w9, (Instr.mapUpdate 39 (.map (some M1)) (.int .i64 ((LL.getD t 0 : Nat) : Int)) (.string (P (LL.getD t 0)).last)).run Try.prog w' = .ok () w9 ∧ Hid (Rm base w9 R M1 M2 (c + (t + 1)) (putO f1t (keyL (LL.getD t 0)) (.string (P (LL.getD t 0)).last)) f2 u ⟨n, barF P LL (t + 1), false, dec left⟩ ∧ Chg (Three R M1 M2) w2 w9)) := fun w' hb => by
        have hct : t ≤ 16384 := Nat.le_trans ht (by rw [HM.out]; exact Nat.le_trans HLE.out D1.out.n2)
        obtain ⟨w9, hr, q1, q2⟩ := (DX.out.below hb).firmSet (by omega) hk (P (LL.getD t 0)).last
        refine ⟨w9, hr, ?_, ?_⟩
        · simp only [hP] at q1
          exact q1
        · exact (HC.out.trans (Chg.of_below (F := Three R M1 M2) hb) (fun g h => .inl h)).trans q2 (fun g h => .inl h)
      obtain ⟨x0, x1, x2, x3, x4, _⟩ := DX.out.cells
      have k0 : (0 : Int) ≤ ((LL.getD t 0 : Nat) : Int) := by omega
      have p0 : (0 : Int) ≤ (p : Nat) := by omega
      have p1 : ((p + 1 : Nat) : Int) - 1 = (p : Nat) := by omega
      have p2 : (p : Int) < (p + 1 : Nat) := by omega
      have LK := Lib.hid LK0
      generalize (P (LL.getD t 0)).last = r at *
      generalize LL.getD t 0 = k at *
      clear hP htl hk hb hlt hne hrow hu hx hlen HV hp LK0 x0 x1 x2
      have lk1 := LK.out wr.drew (Below.drew (Below.refl _ _))
      go_upto_region 7 with fail
      go_region
      obtain ⟨w9, hr, HX9⟩ := FS.out wr.drew.drew (Below.drew (Below.drew (Below.refl _ _)))
      go_wp2_with fail
      go_region
      go_wp2_with fail
      go_roundg (m - (t + 1))
      case measure => omega
      case rel => exact ⟨t + 1, _, by omega, Nat.le_refl _, by go_num, HX9.out.1, HX9.out.2⟩
    · obtain rfl : t = m := by omega
      have iw : ¬ ((t : Int) < (t : Nat)) := by omega
      obtain ⟨y1, y2⟩ := DX.out.clear_
      have hmk : ∀ w : World, (Instr.makeMap 40 none).run Try.prog w = .ok (.map (some w.heap.size)) (w.alloc (.map #[] 0)) := fun w => rfl
      have FN : Hid (RBarred base w R M1 c n (RFt R M1 M2 u n) ⟨n, fun j => (P j).settle, false, dec left⟩ (.bool true) (.returned (.bool true)) ((wr.alloc (.map #[] 0)).setCell ⟨R, 4, none⟩ (.map (some wr.heap.size)))) := by
        have hct : c + t ≤ c + n := by rw [HM.out]; have := HLE.out; omega
        refine ⟨rfl, wr.heap.size, _, _, _, (y1.congr (P' := fun j => (P j).settle) (fun i hi => ?_)).mono hct, ?_, ?_⟩
        · show (P i).settle = ⟨(barF P LL t i).f, []⟩
          rw [HM.out]
          exact (HB.out i hi).symm
        · have h1 : Chg (RFt R M1 M2 u n) w w2 := (G1.out.mono (fun g e => .inl e)).trans (Chg.of_below (F := OneB R) B2.out) (fun g e => .inl (.inl e))
          have h2 := h1.trans HC.out (fun g e => .inl (by rcases e with e | e | e; exact .inl e; exact .inr (.inl e); exact .inr (.inr (.inl e))))
          exact h2.trans y2 (fun g e => .inl (.inl e))
        · rintro g (e | e | e | ⟨i, hi, e⟩)
          · exact .inl (.inl e)
          · exact .inl (.inr (.inl e))
          · refine .inr ?_
            rw [e]
            exact Nat.le_trans G1.out.size (Nat.le_trans B2.out.size HC.out.size)
          · cases e
      obtain ⟨x0, x1, x2, x3, x4, z1, z2, z4⟩ := DX.out.cells
      obtain ⟨x0', x1', x2', x3', x4', z1', z2', z4'⟩ := (DX.out.below (below_al (Below.refl _ _) (.map #[] 0))).cells
      clear y1 y2 x1 x2 x3 z1 z2 x1' x2' x3' z1' z2'
      go_wp2_with fail
      go_ret
      exact FN.out
end
end Go.Proofs.Ytegnpkolmnmeiaa.Plt
