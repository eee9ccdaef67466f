/- Plate: the program's Barrier. -/
import Derived.Test.YtffejfpbeimngaaDoorY16f
set_option linter.unusedVariables false
set_option linter.unusedSimpArgs false
set_option maxRecDepth 100000
namespace Go.Proofs.YtffejfpbeimngaaDoor.Plt
open Go.RowKit Go.Lib Go.Proofs.YtffejfpbeimngaaDoor.Bx

section
variable {base B G : Nat} {w w' : World} {v : Value} {u : Nat → Value} {L : List Nat} {D : DK} {M : Nat → Prop}
def nilV : Value := .slice none 0 0
/-- A plate settled in memory. -/
theorem Dx.settle (h : Dx base w B G v u L D M) {i : Nat} (hi : i < D.n) (s : ByteArray) : Dx base ((w.setCell ⟨G, i * 2, none⟩ (.string s)).setCell ⟨G, i * 2 + 1, none⟩ (.slice none 0 0)) B G v (upd u i nilV) L ⟨D.n, upd D.P i ⟨s, []⟩, D.off, D.left⟩ M := by
  have hc : ∀ q, q ≠ G → ((w.setCell ⟨G, i * 2, none⟩ (.string s)).setCell ⟨G, i * 2 + 1, none⟩ (.slice none 0 0)).heap[q]? = w.heap[q]? := fun q hq => (Below.heap_setCell _ _ _ _ hq).trans (Below.heap_setCell _ _ _ _ hq)
  refine ⟨h.hB, h.hG, by rw [hc B h.neBG]; exact h.blk, h.pl.set2 hi s _ _, h.n1, h.n2, h.left1, h.left2, own_same h.own (fun g e => hc g (fun e' => h.neGv (by rw [e, e']))), h.nod, h.mem, ?_, ?_⟩
  · intro j hj
    by_cases e : j = i
    · subst e
      simp only [upd_same]
      exact Rk.OwnK.nil_ _ _ _ _
    · simp only [upd_other _ _ e]
      exact own_same (h.row j hj) (fun g e1 => hc g (fun e' => h.neGu hj (by rw [e1, e'])))
  · intro a b ha hb hne g e1
    by_cases ea : a = i
    · subst ea
      rw [upd_same] at e1
      cases e1
    · rw [upd_other _ _ ea] at e1
      by_cases eb : b = i
      · subst eb
        rw [upd_same]
        intro e2
        cases e2
      · rw [upd_other _ _ eb]
        exact h.apart a b ha hb hne g e1
theorem chg_set2 (w : World) (G a b : Nat) (x y : Value) : Chg (OneB G) w ((w.setCell ⟨G, a, none⟩ x).setCell ⟨G, b, none⟩ y) := ((Chg.refl (OneB G) w).set (.inl rfl) x).set (.inl rfl) y
theorem Ft_nil {n i : Nat} : ∀ g, Ft B G v (upd u i nilV) n g → Ft B G v u n g := by
  rintro g (h | h | h | ⟨j, hj, h⟩)
  · exact .inl h
  · exact .inr (.inl h)
  · exact .inr (.inr (.inl h))
  · by_cases e : j = i
    · subst e
      rw [upd_same] at h
      cases h
    · rw [upd_other _ _ e] at h
      exact .inr (.inr (.inr ⟨j, hj, h⟩))
theorem Ft_G {n : Nat} : ∀ g, OneB G g → Ft B G v u n g := fun g e => .inr (.inl e)
/-- Plates that differ only where there are none. -/
theorem Dm.congr {P' : Nat → PL} (h : Dm base w B G v u L D) (hP : ∀ i, i < D.n → P' i = D.P i) : Dm base w B G v u L ⟨D.n, P', D.off, D.left⟩ := by
  obtain ⟨cs, h1, h2, h3⟩ := h.pl
  refine ⟨h.hB, h.hG, h.blk, ⟨cs, h1, h2, fun i hi => ?_⟩, h.n1, h.n2, h.left1, h.left2, h.own, h.nod, fun i => ?_, fun i hi => ?_, h.apart⟩
  · show _ = some (Value.string (P' i).f) ∧ _
    rw [hP i hi]
    exact h3 i hi
  · rw [h.mem i]
    unfold Loo
    constructor
    · rintro ⟨a, b⟩
      exact ⟨a, by show (P' i).l ≠ []; rw [hP i a]; exact b⟩
    · rintro ⟨a, b⟩
      refine ⟨a, ?_⟩
      have b' : (P' i).l ≠ [] := b
      rw [hP i a] at b'
      exact b'
  · show Rk.OwnK _ _ _ _ _ (cellsT (P' i).l)
    rw [hP i hi]
    exact h.row i hi
def barP (P : Nat → PL) (L : List Nat) : Nat → Nat → PL
  | 0 => P
  | k + 1 => upd (barP P L k) (L.getD k 0) ⟨(P (L.getD k 0)).last, []⟩
theorem barP_other {P : Nat → PL} {L : List Nat} {j : Nat} : ∀ k, (∀ i, i < k → L.getD i 0 ≠ j) → barP P L k j = P j
  | 0, _ => rfl
  | k + 1, h => by
    show upd _ _ _ _ = _
    rw [upd_other _ _ (fun e => h k (by omega) e.symm)]
    exact barP_other k (fun i hi => h i (by omega))
theorem getD_inj {L : List Nat} (hn : L.Nodup) {i k : Nat} (hi : i < L.length) (hk : k < L.length) (e : L.getD i 0 = L.getD k 0) : i = k := by
  rw [List.getD_eq_getElem?_getD, List.getD_eq_getElem?_getD, List.getElem?_eq_getElem hi, List.getElem?_eq_getElem hk] at e
  exact (List.getElem_inj hn).1 e
theorem barP_at {P : Nat → PL} {L : List Nat} (hn : L.Nodup) {i : Nat} : ∀ k, k ≤ L.length → i < k → barP P L k (L.getD i 0) = (P (L.getD i 0)).settle
  | 0, _, h => absurd h (by omega)
  | k + 1, hk, h => by
    show upd _ _ _ _ = _
    by_cases e : i = k
    · subst e
      rw [upd_same]
      rfl
    · rw [upd_other _ _ (fun e1 => e (getD_inj hn (by omega) (by omega) e1))]
      exact barP_at hn k (by omega) (by omega)
theorem getD_of_mem {L : List Nat} {j : Nat} (h : j ∈ L) : ∃ i, i < L.length ∧ L.getD i 0 = j := by
  obtain ⟨i, hi, e⟩ := List.getElem_of_mem h
  refine ⟨i, hi, ?_⟩
  rw [List.getD_eq_getElem?_getD, List.getElem?_eq_getElem hi]
  exact e
theorem mem_of_getD {L : List Nat} {i : Nat} (h : i < L.length) : L.getD i 0 ∈ L := by
  rw [List.getD_eq_getElem?_getD, List.getElem?_eq_getElem h]
  exact List.getElem_mem h
theorem barP_all (h : Dm base w B G v u L D) (j : Nat) (hj : j < D.n) : barP D.P L L.length j = (D.P j).settle := by
  by_cases hl : (D.P j).l = []
  · rw [settle_nil hl]
    refine barP_other _ fun i hi e => ?_
    exact ((h.mem _).1 (mem_of_getD hi)).2 (by rw [e]; exact hl)
  · obtain ⟨i, hi, e⟩ := getD_of_mem ((h.mem j).2 ⟨hj, hl⟩)
    rw [← e]
    exact barP_at h.nod _ (Nat.le_refl _) hi
theorem bar_no (hd : Dm base w B G v u L D) (hc : D.off = true) : Calls Tryd.prog 35 #[.pointer (some ⟨B, 0, none⟩)] w fun e w' => e = .returned (.bool false) ∧ w = w' := by
  obtain ⟨c0, c1, c2, c3, _⟩ := Dx.cells hd
  have CO := Lib.hid (on_any w c2)
  rw [hc, Bool.not_true] at CO
  clear hd c0 c1 c2 c3 hc
  go_enter Tryd.func35, Tryd.ntmps35
  go_wp2_with (refine CO.out.mono ?_; rintro e w1 ⟨rfl, rfl⟩)
  go_ret
  exact ⟨rfl, rfl⟩
theorem bar_nil (w : World) : Calls Tryd.prog 35 #[.pointer none] w fun e w' => e = .returned (.bool false) ∧ w = w' := by
  have CO := Lib.hid (on_nil w)
  go_enter Tryd.func35, Tryd.ntmps35
  go_wp2_with (refine CO.out.mono ?_; rintro e w1 ⟨rfl, rfl⟩)
  go_ret
  exact ⟨rfl, rfl⟩
theorem bar_off (hd : Dm base w B G v u L D) (hc : D.off = false) (h0 : D.left = 0) : Calls Tryd.prog 35 #[.pointer (some ⟨B, 0, none⟩)] w (Stepped base w B G v u L ⟨D.n, D.P, true, D.left⟩ false) := by
  obtain ⟨c0, c1, c2, c3, _⟩ := Dx.cells hd
  have CO := Lib.hid (on_any w c2)
  have CS := Lib.hid (step_ko hd h0)
  rw [hc, Bool.not_false] at CO
  clear hd c0 c1 c2 c3 hc h0
  go_enter Tryd.func35, Tryd.ntmps35
  go_wp2_with (first | (refine CO.out.mono ?_; rintro e w1 ⟨rfl, rfl⟩) | (refine CS.out.mono ?_; rintro e w1 ⟨rfl, d1, g1⟩; have D1 := Lib.hid d1; have G1 := Lib.hid g1; clear d1 g1 CS CO))
  go_ret
  exact ⟨rfl, D1.out, G1.out⟩
set_option maxHeartbeats 8000000 in
theorem bar_yes (hd : Dm base w B G v u L D) (hc : D.off = false) (h0 : D.left ≠ 0) : Calls Tryd.prog 35 #[.pointer (some ⟨B, 0, none⟩)] w (Laid base w B G v u D ⟨D.n, fun j => (D.P j).settle, D.off, dec D.left⟩) := by
  obtain ⟨n, P, off, left⟩ := D
  obtain ⟨c0, c1, c2, c3, _⟩ := Dx.cells hd
  have CO := Lib.hid (on_any w c2)
  have CS := Lib.hid (step_ok hd h0)
  simp only at hc CO CS ⊢
  subst hc
  rw [Bool.not_false] at CO
  clear hd c0 c1 c2 c3 h0
  go_enter Tryd.func35, Tryd.ntmps35
  go_wp2_with fail
  refine CO.out.mono ?_
  rintro e w1 ⟨rfl, rfl⟩
  go_wp2_with fail
  refine CS.out.mono ?_
  rintro e w1 ⟨rfl, d1, g1⟩
  have D1 := Lib.hid d1
  have G1 := Lib.hid g1
  clear d1 g1 CS CO
  obtain ⟨e0, e1, _⟩ := Dx.cells D1.out
  obtain ⟨va, vc, hv, hvc, hvm, hvx⟩ := row_ints D1.out.own.row
  subst hv
  obtain ⟨m, hm⟩ : ∃ m, m = L.length := ⟨_, rfl⟩
  rw [← hm] at hvc
  have HX := Lib.hid hvx
  have HM := Lib.hid hm
  simp only at e0
  rw [← hm] at e1
  clear hvx hm
  go_wp2_with fail
  go_loopg [4, 18] m (fun g _ i_ wr => ∃ (t : Nat) (ut : Nat → Value), t ≤ m ∧ m - t ≤ g ∧ i_ = .int .i64 t ∧ Hid (Dx base wr B G (.slice va L.length vc) ut L ⟨n, barP P L t, false, dec left⟩ (Loo ⟨n, P, false, dec left⟩)) ∧ Hid (Chg (Ft B G (.slice va L.length vc) u n) w1 wr) ∧ Hid (∀ g, Ft B G (.slice va L.length vc) ut n g → Ft B G (.slice va L.length vc) u n g))
  case atStart => exact ⟨0, u, by omega, by omega, rfl, D1.out, Chg.refl _ _, fun g h => h⟩
  case round =>
    obtain ⟨t, ut, ht, hg, rfl, DX, HC, HN⟩ := hrel
    by_cases hlt : t < m
    · have htl : t < L.length := by rw [← HM.out]; exact hlt
      have iw : (t : Int) < (m : Nat) := by omega
      have n0 : (0 : Int) ≤ (t : Nat) := by omega
      obtain ⟨b, off, rfl, hb, hcl⟩ := row_ints_at DX.out.own.row htl
      have hk : L.getD t 0 < n := ((DX.out.mem _).1 (mem_of_getD htl)).1
      have hP : barP P L t (L.getD t 0) = P (L.getD t 0) := barP_other t (fun i hi e => by have := getD_inj D1.out.nod (by omega) htl e; omega)
      obtain ⟨x0, _⟩ := Dx.cells DX.out
      simp only at x0
      have LS : Hid (∀ w', Below wr.heap.size wr w' → Calls Tryd.prog 21 #[.pointer (some ⟨G, L.getD t 0 * 2, none⟩)] w' fun e w'' => e = .returned (.string (P (L.getD t 0)).last) ∧ w' = w'') := fun w' hb' => by
        have DW := DX.out.below hb'
        obtain ⟨z0, z1, _, _⟩ := DW.pl.cells hk
        have h1 := DW.row _ hk
        simp only at z0 z1 h1
        rw [hP] at z0 h1
        exact last_any w' z0 z1 h1
      have SS : Hid (∀ w', Below wr.heap.size wr w' → Calls Tryd.prog 29 #[.pointer (some ⟨G, L.getD t 0 * 2, none⟩), .string (P (L.getD t 0)).last] w' fun e w'' => e = .returned (.tuple #[]) ∧ Hid (Dx base w'' B G (.slice (some ⟨b, off, none⟩) L.length vc) (upd ut (L.getD t 0) nilV) L ⟨n, barP P L (t + 1), false, dec left⟩ (Loo ⟨n, P, false, dec left⟩) ∧ Chg (Ft B G (.slice (some ⟨b, off, none⟩) L.length vc) u n) w1 w'' ∧ ∀ g, Ft B G (.slice (some ⟨b, off, none⟩) L.length vc) (upd ut (L.getD t 0) nilV) n g → Ft B G (.slice (some ⟨b, off, none⟩) L.length vc) u n g)) := fun w' hb' => by
        have DW := DX.out.below hb'
        obtain ⟨z0, z1, y0, y1⟩ := DW.pl.cells hk
        refine (settle_any w' z0 z1 y0 y1).mono ?_
        rintro e w'' ⟨rfl, rfl⟩
        refine ⟨rfl, DW.settle hk _, ?_, fun g h => HN.out g (Ft_nil g h)⟩
        exact (HC.out.trans (Chg.of_below (F := OneB G) hb') (fun g h => .inl (Ft_G g h))).trans (chg_set2 w' G _ _ _ _) (fun g h => .inl (Ft_G g h))
      have k0 : (0 : Int) ≤ ((L.getD t 0 : Nat) : Int) := by omega
      have kn : ((L.getD t 0 : Nat) : Int) < (n : Nat) := by omega
      generalize (P (L.getD t 0)).last = r at *
      generalize L.getD t 0 = k at *
      clear hP htl hk hb hlt
      go_upto_region 6 with fail
      go_region_law (first
        | (refine step_call rfl 21 _ _ rfl (enters_of Tryd.func21 (by kernel_rfl) rfl) [.pointer (some ⟨G, k * 2, none⟩)] rfl _ (LS.out _ (by first | exact Below.refl _ _ | exact Below.drew (Below.refl _ _))) ?_; rintro e w5 ⟨rfl, rfl⟩; refine ⟨_, rfl, ?_⟩)
        | (refine step_call rfl 29 _ _ rfl (enters_of Tryd.func29 (by kernel_rfl) rfl) [.pointer (some ⟨G, k * 2, none⟩), .string r] rfl _ (SS.out _ (by first | exact Below.refl _ _ | exact Below.drew (Below.refl _ _))) ?_; rintro e w5 ⟨rfl, QX⟩; refine ⟨_, rfl, ?_⟩))
      all_goals (
        clear LS SS
        go_wp2_with fail
        go_roundg (m - (t + 1)))
      all_goals first
        | (case measure => omega)
        | (case rel => exact ⟨t + 1, _, by omega, Nat.le_refl _, by go_num, QX.out.1, QX.out.2.1, QX.out.2.2⟩)
    · obtain rfl : t = m := by omega
      have iw : ¬ ((t : Int) < (t : Nat)) := by omega
      obtain ⟨x0, x1, x2, x3, y0, y1, y2, y3⟩ := Dx.cells DX.out
      have hall : ∀ i, i < n → barP P L t i = (P i).settle := fun i hi => by
        rw [HM.out]
        exact barP_all D1.out i hi
      have FN : Hid (Laid base w B G (.slice va L.length vc) u ⟨n, P, false, left⟩ ⟨n, fun j => (P j).settle, false, dec left⟩ (.returned (.bool true)) (wr.setCell ⟨B, 1, none⟩ (.slice none 0 0))) := by
        have h1 : Dm base (wr.setCell ⟨B, 1, none⟩ (.slice none 0 0)) B G (.slice none 0 0) ut [] ⟨n, barP P L t, false, dec left⟩ :=
          DX.out.set 1 (.slice none 0 0) (.slice none 0 0) ⟨n, barP P L t, false, dec left⟩ rfl rfl DX.out.left1 DX.out.left2 [] _ (by simp) (fun i => by
            constructor
            · intro h
              simp at h
            · rintro ⟨hi, h⟩
              have h' : (barP P L t i).l ≠ [] := h
              rw [hall i hi] at h'
              exact absurd rfl h') rfl (Rk.OwnK.nil_ _ _ _ _) (fun e => by cases e)
        refine ⟨rfl, .slice none 0 0, ut, [], h1.congr (fun i hi => (hall i hi).symm), ?_, ?_⟩
        · exact (G1.out.mono Ft_one).trans (HC.out.set (.inl (.inl rfl)) _) (fun g h => .inl h)
        · rintro g (h | h | h | h)
          · exact .inl (.inl h)
          · exact .inl (.inr (.inl h))
          · cases h
          · exact .inl (HN.out g (.inr (.inr (.inr h))))
      clear hall y0 y2 y3 x2 x3
      go_wp2_with fail
      go_ret
      exact FN.out
end
end Go.Proofs.YtffejfpbeimngaaDoor.Plt
