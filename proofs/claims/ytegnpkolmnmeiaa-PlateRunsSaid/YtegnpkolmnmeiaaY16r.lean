/- Plate: what PlateFirm knows of the disk, from act to act (no program). -/
import Derived.Test.YtegnpkolmnmeiaaY16p
set_option linter.unusedVariables false
set_option linter.unusedSimpArgs false
set_option maxRecDepth 100000
namespace Go.Proofs.Ytegnpkolmnmeiaa.Plt
open Go.RowKit Go.Lib Go.Proofs.Ytegnpkolmnmeiaa.Bx

structure Inv (D : DK) (f l : Nat → ByteArray) (H : Nat → List ByteArray) (c : Nat) : Prop where
  n9 : D.n = 9
  fi : ∀ k, k < 9 → (D.P k).f = f k
  la : ∀ k, k < 9 → (D.P k).last = l k
  he : ∀ k, k < 9 → ∀ s, (s = (D.P k).f ∨ s ∈ (D.P k).l) → s ∈ H k
  sz : ∀ k, k < 9 → ∀ s, s ∈ H k → s.size = 128
  sh : ∀ k, k < 9 → (D.P k).l.length ≤ c
theorem Inv.short {D : DK} {f l : Nat → ByteArray} {H : Nat → List ByteArray} {c : Nat} (h : Inv D f l H c) (hc : c ≤ 90000) : Short D 90000 := fun j hj => Nat.le_trans (h.sh j (by rw [← h.n9]; exact hj)) hc
theorem blank_size : blank.size = 128 := by kernel_rfl
theorem inv_start : Inv (newD 9) (begS 9) (begS 9) (fun _ => [blank]) 0 := by
  refine ⟨rfl, fun k hk => ?_, fun k hk => ?_, fun k hk s hs => ?_, fun k hk s hs => ?_, fun k hk => Nat.zero_le _⟩
  · unfold begS; rw [if_pos hk]; rfl
  · unfold begS; rw [if_pos hk]; rfl
  · rcases hs with rfl | hs
    · exact List.mem_cons_self
    · simp [newD] at hs
  · simp at hs
    subst hs
    exact blank_size
section
variable {D : DK} {f l : Nat → ByteArray} {H : Nat → List ByteArray} {c : Nat}
theorem Inv.same (h : Inv D f l H c) {D' : DK} (hn : D'.n = D.n) (hP : ∀ k, k < 9 → D'.P k = D.P k) {c' : Nat} (hc : c ≤ c') : Inv D' f l H c' :=
  ⟨hn.trans h.n9, fun k hk => by rw [hP k hk]; exact h.fi k hk, fun k hk => by rw [hP k hk]; exact h.la k hk, fun k hk s hs => h.he k hk s (by rw [hP k hk] at hs; exact hs), h.sz, fun k hk => by rw [hP k hk]; exact Nat.le_trans (h.sh k hk) hc⟩
theorem last_app (p : PL) (x : ByteArray) : PL.last ⟨p.f, p.l ++ [x]⟩ = x := by
  show (p.l ++ [x]).getD ((p.l ++ [x]).length - 1) p.f = x
  rw [List.length_append, List.length_singleton, Nat.add_sub_cancel, List.getD_eq_getElem?_getD, List.getElem?_append_right (Nat.le_refl _), Nat.sub_self]
  rfl
theorem inv_lay_no (i : Int) (s : ByteArray) (h : Inv D f l H c) (hb : layB D i s = false) : Inv (layD D i s) f l H (c + 1) := by
  have : (layD D i s).P = D.P ∧ (layD D i s).n = D.n := by
    unfold layD
    unfold layB at hb
    cases hc : canLay D i s with
    | false => exact ⟨rfl, rfl⟩
    | true =>
      rw [hc, Bool.true_and] at hb
      have : D.left = 0 := by simpa using hb
      rw [if_pos rfl, if_pos this]
      exact ⟨rfl, rfl⟩
  exact h.same this.2 (fun k _ => by rw [this.1]) (by omega)
theorem inv_lay_yes (i : Int) (s : ByteArray) (h : Inv D f l H c) (hb : layB D i s = true) : ∃ k : Nat, i = (k : Int) ∧ k < 9 ∧ s.size ≤ 128 ∧ getB (layD D i s) i = true ∧ getS (layD D i s) i = fullB s ∧ Inv (layD D i s) f (upd l k (fullB s)) (upd H k (fullB s :: H k)) (c + 1) := by
  unfold layB at hb
  rw [Bool.and_eq_true] at hb
  obtain ⟨hc, h0⟩ := hb
  have h0 : D.left ≠ 0 := by simpa using h0
  have e : layD D i s = ⟨D.n, laidP D i.toNat s, D.off, dec D.left⟩ := by unfold layD; rw [hc, if_pos rfl, if_neg h0]
  obtain ⟨ho, hin, hs⟩ := canLay_yes hc
  have hin' := hin
  obtain ⟨k, rfl, hk⟩ := inB_nat hin
  have hk9 : k < 9 := by rw [← h.n9]; exact hk
  have hg : getB (layD D (k : Nat) s) (k : Nat) = true := by
    rw [e, getB_is]
    show (!D.off && inB (k : Nat) D.n) = true
    rw [ho, hin']
    rfl
  have hP : ∀ j, (layD D (k : Nat) s).P j = upd D.P k ⟨(D.P k).f, (D.P k).l ++ [fullB s]⟩ j := fun j => by rw [e]; rfl
  have hf := full_size hs
  refine ⟨k, rfl, hk9, hs, hg, ?_, ⟨by rw [e]; exact h.n9, fun j hj => ?_, fun j hj => ?_, fun j hj t ht => ?_, fun j hj t ht => ?_, fun j hj => ?_⟩⟩
  · unfold getS
    rw [hg, if_pos rfl, Int.toNat_natCast, hP, upd_same, last_app]
  · rw [hP]
    by_cases q : j = k
    · subst q; rw [upd_same]; exact h.fi j hj
    · rw [upd_other _ _ q]; exact h.fi j hj
  · rw [hP]
    by_cases q : j = k
    · subst q; rw [upd_same, upd_same, last_app]
    · rw [upd_other _ _ q, upd_other _ _ q]; exact h.la j hj
  · rw [hP] at ht
    by_cases q : j = k
    · subst q
      rw [upd_same] at ht ⊢
      rcases ht with ht | ht
      · exact List.mem_cons_of_mem _ (h.he j hj t (.inl ht))
      · rcases List.mem_append.1 ht with ht | ht
        · exact List.mem_cons_of_mem _ (h.he j hj t (.inr ht))
        · simp at ht
          subst ht
          exact List.mem_cons_self
    · rw [upd_other _ _ q] at ht ⊢
      exact h.he j hj t ht
  · by_cases q : j = k
    · subst q
      rw [upd_same] at ht
      rcases List.mem_cons.1 ht with rfl | ht
      · exact hf
      · exact h.sz j hj t ht
    · rw [upd_other _ _ q] at ht
      exact h.sz j hj t ht
  · rw [hP]
    have := h.sh j hj
    by_cases q : j = k
    · subst q; rw [upd_same]; simp; omega
    · rw [upd_other _ _ q]; omega
theorem inv_bar_no (h : Inv D f l H c) (hb : barB D = false) : Inv (barD D) f l H (c + 1) := by
  have : (barD D).P = D.P ∧ (barD D).n = D.n := by
    unfold barD
    unfold barB at hb
    cases ho : D.off with
    | true => exact ⟨rfl, rfl⟩
    | false =>
      rw [ho, Bool.not_false, Bool.true_and] at hb
      have : D.left = 0 := by simpa using hb
      rw [if_neg (by simp), if_pos this]
      exact ⟨rfl, rfl⟩
  exact h.same this.2 (fun k _ => by rw [this.1]) (by omega)
theorem last_mem (p : PL) : p.last = p.f ∨ p.last ∈ p.l := by
  obtain ⟨f, l⟩ := p
  show l.getD (l.length - 1) f = f ∨ l.getD (l.length - 1) f ∈ l
  cases l with
  | nil => exact .inl rfl
  | cons x l =>
    refine .inr ?_
    rw [List.getD_eq_getElem?_getD, List.getElem?_eq_getElem (by simp)]
    exact List.getElem_mem _
theorem inv_bar_yes (h : Inv D f l H c) (hb : barB D = true) : Inv (barD D) l l H (c + 1) := by
  have e : (barD D).P = (fun j => (D.P j).settle) ∧ (barD D).n = D.n := by
    unfold barB at hb
    simp only [Bool.and_eq_true, Bool.not_eq_true', decide_eq_false_iff_not] at hb
    unfold barD
    rw [hb.1, if_neg (by simp), if_neg hb.2]
    exact ⟨rfl, rfl⟩
  refine ⟨e.2.trans h.n9, fun k hk => ?_, fun k hk => ?_, fun k hk s hs => ?_, h.sz, fun k hk => ?_⟩
  · rw [e.1]; exact h.la k hk
  · rw [e.1]; exact h.la k hk
  · rw [e.1] at hs
    rcases hs with hs | hs
    · have h1 : s = (D.P k).last := hs
      rw [h1]
      exact h.he k hk _ (last_mem _)
    · simp [PL.settle] at hs
  · rw [e.1]
    exact Nat.zero_le _
theorem held_mem (p : PL) (x : Int) : p.held x = p.f ∨ p.held x ∈ p.l := by
  obtain ⟨f, l⟩ := p
  show PL.pick ⟨f, l⟩ (x % ((l.length + 1 : Nat) : Int)).toNat = f ∨ PL.pick ⟨f, l⟩ (x % ((l.length + 1 : Nat) : Int)).toNat ∈ l
  have h1 := Int.emod_nonneg x (show ((l.length + 1 : Nat) : Int) ≠ 0 by omega)
  have h2 := Int.emod_lt_of_pos x (show (0 : Int) < ((l.length + 1 : Nat) : Int) by omega)
  generalize x % ((l.length + 1 : Nat) : Int) = y at *
  unfold PL.pick
  by_cases h0 : y.toNat = 0
  · rw [if_pos h0]; exact .inl rfl
  · rw [if_neg h0]
    refine .inr ?_
    show l.getD (y.toNat - 1) f ∈ l
    rw [List.getD_eq_getElem?_getD, List.getElem?_eq_getElem (by omega)]
    exact List.getElem_mem _
theorem held_zero (p : PL) : p.held 0 = p.f := by
  show PL.pick p (0 % ((p.l.length + 1 : Nat) : Int)).toNat = p.f
  rw [Int.zero_emod]
  rfl
theorem fall_at (D : DK) (pk : List Int) (k : Nat) (hk : k < D.n) : ∃ s, (fallD D pk).P k = ⟨s, []⟩ ∧ (s = (D.P k).f ∨ s ∈ (D.P k).l) ∧ (pk = [] → s = (D.P k).f) := by
  by_cases hl : (D.P k).l = []
  · refine ⟨(D.P k).f, ?_, .inl rfl, fun _ => rfl⟩
    show fallP D.P (looseL D) pk (looseL D).length k = _
    rw [fallP_other _ (loose_none hl), ← hl]
  · obtain ⟨i, hi, e⟩ := getD_of_mem ((loose_mem D k).2 ⟨hk, hl⟩)
    refine ⟨(D.P k).held (pk.getD i 0), ?_, held_mem _ _, fun hp => ?_⟩
    · show fallP D.P (looseL D) pk (looseL D).length k = _
      rw [← e]
      exact fallP_at (loose_nodup D) _ (Nat.le_refl _) hi
    · subst hp
      exact held_zero _
theorem fall_get (D : DK) (pk : List Int) (k : Nat) (hk : k < D.n) : getB (fallD D pk) (k : Nat) = true ∧ getS (fallD D pk) (k : Nat) = ((fallD D pk).P k).last := by
  have hg : getB (fallD D pk) (k : Nat) = true := by
    unfold getB fallD
    simp
    omega
  refine ⟨hg, ?_⟩
  unfold getS
  rw [hg, if_pos rfl, Int.toNat_natCast]
theorem inv_fall (h : Inv D f l H c) (pk : List Int) : (∀ k, k < 9 → getB (fallD D pk) (k : Nat) = true ∧ getS (fallD D pk) (k : Nat) ∈ H k) ∧ Inv (fallD D pk) (fun k => if k < 9 then getS (fallD D pk) (k : Nat) else f k) (fun k => if k < 9 then getS (fallD D pk) (k : Nat) else l k) H (c + 1) := by
  refine ⟨fun k hk => ?_, ⟨h.n9, fun k hk => ?_, fun k hk => ?_, fun k hk s hs => ?_, h.sz, fun k hk => ?_⟩⟩
  all_goals (
    obtain ⟨g1, g2⟩ := fall_get D pk k (by rw [h.n9]; exact hk)
    obtain ⟨x, e1, e2, _⟩ := fall_at D pk k (by rw [h.n9]; exact hk))
  · refine ⟨g1, ?_⟩
    rw [g2, e1]
    exact h.he k hk _ e2
  · show _ = if k < 9 then _ else _
    rw [if_pos hk, g2, e1]
    rfl
  · show _ = if k < 9 then _ else _
    rw [if_pos hk, g2]
  · rw [e1] at hs
    rcases hs with hs | hs
    · have h1 : s = x := hs
      rw [h1]
      exact h.he k hk _ e2
    · simp at hs
  · rw [e1]
    exact Nat.zero_le _
theorem inv_end (h : Inv D f l H c) (k : Nat) (hk : k < 9) : getB (fallD D []) (k : Nat) = true ∧ getS (fallD D []) (k : Nat) = f k := by
  obtain ⟨g1, g2⟩ := fall_get D [] k (by rw [h.n9]; exact hk)
  obtain ⟨x, e1, _, e3⟩ := fall_at D [] k (by rw [h.n9]; exact hk)
  refine ⟨g1, ?_⟩
  rw [g2, e1, ← h.fi k hk, ← e3 rfl]
  rfl
end
end Go.Proofs.Ytegnpkolmnmeiaa.Plt
