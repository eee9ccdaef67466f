/- Salt: Right of the plain text; the law's small. -/
import Derived.Test.YtccaiippoephbaaGreatDoorWc
import Derived.Test.YtccaiippoephbaaGreatDoorPri
import Derived.Test.YtccaiippoephbaaGreatDoorWe
import Derived.Test.YtccaiippoephbaaGreatDoorRows
import Derived.Test.YtccaiippoephbaaGreatDoorWd
import Derived.Lib.LaidU8
set_option linter.unusedVariables false
set_option linter.unusedSimpArgs false
set_option maxRecDepth 100000
namespace Go.Proofs.YtccaiippoephbaaGreatDoor.Slt
open Go.RowKit Go.Lib Go.Proofs.YtccaiippoephbaaGreatDoor.Bx

set_option maxHeartbeats 8000000 in
theorem rright_any {v : Value} {A : List Us} (w : World) (h : Users w v A) (hl : ∀ i, i < A.length → (us A i).l.size ≤ 100000) : Calls Tryz.prog 45 #[v] w fun e w' => e = .returned (.bool (rightU A)) ∧ Below w.heap.size w w' := by
  obtain ⟨a, cap, rfl, hl', hm⟩ := h.is_slice
  obtain ⟨n, hn⟩ : ∃ n, n = A.length := ⟨_, rfl⟩
  have HE : Hid (∀ w', Below w.heap.size w w' → ∀ j, j < n → ∃ b off, a = some ⟨b, off, none⟩ ∧ b < w.heap.size ∧ w'.cell? ⟨b, off + j * 3, none⟩ = some (.string (us A j).n) ∧ w'.cell? ⟨b, off + j * 3 + 1, none⟩ = some (.string (us A j).s) ∧ w'.cell? ⟨b, off + j * 3 + 2, none⟩ = some (.string (us A j).l)) := fun w' hb j hj => by
    obtain ⟨b, off, e, hlt, c0, c1, c2, _⟩ := h.get (by rw [← hn]; exact hj)
    exact ⟨b, off, e, hlt, vcell hb hlt c0, vcell hb hlt c1, vcell hb hlt c2⟩
  have HSZ : Hid (∀ j, j < n → (us A j).n.size ≤ 140737488355328 ∧ (us A j).s.size ≤ 140737488355328) := fun j hj => by
    obtain ⟨b, off, e, hlt, c0, c1, c2, h1, h2, h3⟩ := h.get (show j < A.length by rw [← hn]; exact hj)
    exact ⟨h1, h2⟩
  have CSB : Hid (∀ j, j < n → ∀ w', Calls Tryz.prog 67 #[.string (us A j).l] w' fun e w'' => e = .returned (.bool (sealB (bytesN (us A j).l))) ∧ Below w'.heap.size w' w'') := fun j hj w' => rsealb_any _ w' (hl j (by rw [← hn]; exact hj))
  have HNO : Hid (∀ i, i < n → okAt A i = false → rightU A = false) := fun i hi h => right_no (by rw [← hn]; exact hi) h
  have HYE : Hid (1 ≤ n → n ≤ 8 → (∀ i, i < n → okAt A i = true) → rightU A = true) := fun h1 h8 h => right_yes (by omega) (by omega) (fun i hi => h i (by omega))
  have HBD : Hid (¬ (1 ≤ n ∧ n ≤ 8) → rightU A = false) := fun h => by
    unfold rightU
    rw [← hn]
    by_cases h1 : 1 ≤ n
    · rw [decide_eq_false (show ¬ n ≤ 8 by omega), Bool.and_false, Bool.false_and]
    · rw [decide_eq_false h1, Bool.false_and, Bool.false_and]
  rw [← hn] at hl' ⊢
  unfold maxLen at hm
  clear h hl
  obtain ⟨r, hr⟩ : ∃ r, r = rightU A := ⟨_, rfl⟩
  rw [← hr] at HNO HYE HBD ⊢
  clear hr hn
  go_enter Tryz.func45, Tryz.ntmps45
  by_cases h1 : (n : Int) < 1
  · have hr := HBD.out (by omega)
    go_wp2_with fail
    go_ret
    exact ⟨by first | rfl | (rw [hr]; rfl) | (rw [hr]; done), Below.refl _ _⟩
  by_cases h8 : 8 < (n : Int)
  · have hr := HBD.out (by omega)
    go_wp2_with fail
    go_ret
    exact ⟨by first | rfl | (rw [hr]; rfl) | (rw [hr]; done), Below.refl _ _⟩
  replace HYE := Lib.hid (HYE.out (by omega) (by omega))
  clear HBD
  go_wp2_with fail
  go_loopg [3] n (fun g i_ wr => ∃ (i : Nat), i ≤ n ∧ n - i ≤ g ∧ i_ = .int .i64 i ∧ Hid (∀ j, j < i → okAt A j = true) ∧ Below w.heap.size w wr)
  case atStart => exact ⟨0, by omega, by omega, rfl, fun j hj => absurd hj (by omega), Below.refl _ _⟩
  case round =>
    obtain ⟨i, hi, hg, rfl, HH, hbel⟩ := hrel
    have HB := Lib.hid hbel
    by_cases hin : i < n
    · have iw : ((i : Nat) : Int) < (n : Int) := by omega
      have n0 : (0 : Int) ≤ (i : Int) := by omega
      obtain ⟨b, off, rfl, hlt, c0, c1, c2⟩ := HE.out wr hbel i hin
      obtain ⟨m1, m2⟩ := HSZ.out i hin
      have HN := Lib.hid (HNO.out i hin)
      have CS := Lib.hid (CSB.out i hin wr)
      have HU : Hid (badU (us A i) = (decide ((us A i).n.size = 0) || decide (20 < (us A i).n.size) || decide (20 < (us A i).s.size) || !sealB (bytesN (us A i).l))) := rfl
      have HBAD : Hid (badU (us A i) = true → okAt A i = false) := ok_bad
      have HSAM : Hid (∀ k, k < i → (us A k).n = (us A i).n → okAt A i = false) := fun k hk h => ok_same hk h
      have HOK : Hid (badU (us A i) = false → (∀ k, k < i → (us A k).n ≠ (us A i).n) → okAt A i = true) := ok_yes
      have HH2 : Hid (okAt A i = true → ∀ j, j < i + 1 → okAt A j = true) := fun h j hj => by
        by_cases e : j = i
        · subst e; exact h
        · exact HH.out j (by omega)
      have HCK : Hid (∀ w', Below w.heap.size w w' → ∀ k, k < i → w'.cell? ⟨b, off + k * 3, none⟩ = some (.string (us A k).n)) := fun w' hb k hk => by
        obtain ⟨b2, off2, e, _, c, _⟩ := HE.out w' hb k (by omega)
        injection e with e
        injection e with e1 e2
        subst e1 e2
        exact c
      have HC0 : Hid (∀ w', Below w.heap.size w w' → w'.cell? ⟨b, off + i * 3, none⟩ = some (.string (us A i).n)) := fun w' hb => by
        obtain ⟨b2, off2, e, _, c, _⟩ := HE.out w' hb i hin
        injection e with e
        injection e with e1 e2
        subst e1 e2
        exact c
      obtain ⟨y, hy⟩ : ∃ y, y = us A i := ⟨_, rfl⟩
      rw [← hy] at c0 c1 c2 m1 m2 CS HU HBAD HSAM HOK HC0
      have e0 := str_empty y.n
      obtain ⟨yn, ys, yl⟩ := y
      simp only at c0 c1 c2 m1 m2 CS HU HSAM HOK e0 HC0
      clear hbel hy
      by_cases k0 : yn.size = 0
      · rw [decide_eq_true k0] at e0
        have hr := HN.out (HBAD.out (by rw [HU.out, decide_eq_true k0]; rfl))
        clear HBAD HSAM HOK HH2 HN
        go_wp2_with fail
        go_ret
        exact ⟨by first | rfl | (rw [hr]; rfl) | (rw [hr]; done), HB.out⟩
      rw [decide_eq_false k0] at e0
      by_cases k1 : 20 < yn.size
      · have d1 : decide ((20 : Int) < (yn.size : Int)) = true := decide_eq_true (by omega)
        have q1 : (20 : Int) < (yn.size : Int) := by omega
        have hr := HN.out (HBAD.out (by rw [HU.out, decide_eq_true k1]; simp))
        clear HBAD HSAM HOK HH2 HN
        go_wp2_with fail
        go_ret
        exact ⟨by first | rfl | (rw [hr]; rfl) | (rw [hr]; done), HB.out⟩
      have d1 : decide ((20 : Int) < (yn.size : Int)) = false := decide_eq_false (by omega)
      have q1 : ¬ (20 : Int) < (yn.size : Int) := by omega
      by_cases k2 : 20 < ys.size
      · have d2 : decide ((20 : Int) < (ys.size : Int)) = true := decide_eq_true (by omega)
        have q2 : (20 : Int) < (ys.size : Int) := by omega
        have hr := HN.out (HBAD.out (by rw [HU.out, decide_eq_true k2]; simp))
        clear HBAD HSAM HOK HH2 HN
        go_wp2_with fail
        go_ret
        exact ⟨by first | rfl | (rw [hr]; rfl) | (rw [hr]; done), HB.out⟩
      have d2 : decide ((20 : Int) < (ys.size : Int)) = false := decide_eq_false (by omega)
      have q2 : ¬ (20 : Int) < (ys.size : Int) := by omega
      obtain ⟨sb, hsb⟩ : ∃ sb, sb = sealB (bytesN yl) := ⟨_, rfl⟩
      rw [← hsb] at CS HU
      clear hsb
      cases sb with
      | false =>
        have hr := HN.out (HBAD.out (by rw [HU.out]; simp))
        clear HBAD HSAM HOK HH2 HN
        go_wp2_with fail
        refine CS.out.mono ?_
        rintro e w2 ⟨rfl, b2⟩
        have HB2 := Lib.hid (below_on HB.out b2)
        go_wp2_with fail
        go_ret
        exact ⟨by first | rfl | (rw [hr]; rfl) | (rw [hr]; done), HB2.out⟩
      | true =>
        have hbad : badU ⟨yn, ys, yl⟩ = false := by rw [HU.out, decide_eq_false k0, decide_eq_false k1, decide_eq_false k2]; rfl
        replace HOK := Lib.hid (HOK.out hbad)
        clear HBAD
        go_wp2_with fail
        refine CS.out.mono ?_
        rintro e w2 ⟨rfl, b2⟩
        have HB2 := Lib.hid (below_on HB.out b2)
        clear b2 CS c0 c1 c2
        obtain ⟨wo, hwo⟩ : ∃ wo, wo = w2 := ⟨_, rfl⟩
        rw [← hwo] at HB2 ⊢
        clear hwo
        go_wp2_with fail
        go_loopg [4] i (fun g k_ wr => ∃ (k : Nat), k ≤ i ∧ i - k ≤ g ∧ k_ = .int .i64 k ∧ Hid (∀ j, j < k → (us A j).n ≠ yn) ∧ Below wo.heap.size wo wr)
        case atStart => exact ⟨0, by omega, by omega, rfl, fun j hj => absurd hj (by omega), Below.refl _ _⟩
        case round =>
          obtain ⟨k, hk, hg2, rfl, HK, hbel⟩ := hrel
          have HBk := Lib.hid (below_on HB2.out hbel)
          have HBo := Lib.hid hbel
          by_cases hki : k < i
          · have kw : ((k : Nat) : Int) < (i : Int) := by omega
            have n1 : (0 : Int) ≤ (k : Int) := by omega
            have n2 : ((k : Nat) : Int) < (n : Int) := by omega
            have ck := HCK.out wr HBk.out k hki
            have ci := HC0.out wr HBk.out
            have SE := str_eq (us A k).n yn
            have HS1 := Lib.hid (HSAM.out k hki)
            have HK2 : Hid ((us A k).n ≠ yn → ∀ j, j < k + 1 → (us A j).n ≠ yn) := fun h j hj => by
              by_cases e : j = k
              · subst e; exact h
              · exact HK.out j (by omega)
            generalize (us A k).n = z at *
            clear hbel
            by_cases hz : z = yn
            · rw [decide_eq_true hz] at SE
              have hr := HN.out (HS1.out hz)
              clear HN HS1 HK2 HSAM HOK HH2
              go_upto_region 11 with fail
              go_region
              all_goals go_wp2_with fail
              all_goals go_ret
              all_goals exact ⟨by first | rfl | (rw [hr]; rfl) | (rw [hr]; done), by have h := HBk.out; (repeat first | with_reducible exact h | with_reducible apply Below.drew | with_reducible apply below_drews)⟩
            · rw [decide_eq_false hz] at SE
              have HK3 := Lib.hid (HK2.out hz)
              clear HN HS1 HK2 HSAM HOK HH2
              go_upto_region 11 with fail
              go_region
              all_goals go_wp2_with fail
              all_goals go_roundg (i - (k + 1))
              all_goals (first | omega | exact ⟨k + 1, by omega, Nat.le_refl _, by go_num, HK3, by have h := HBo.out; (repeat first | with_reducible exact h | with_reducible apply Below.drew | with_reducible apply below_drews)⟩)
          · obtain rfl : k = i := by omega
            have kw : ¬ ((k : Int) < (k : Int)) := by omega
            have HH3 := Lib.hid (HH2.out (HOK.out HK.out))
            clear hbel HN HSAM HOK HH2 HK
            go_wp2_with fail
            go_roundg (n - (k + 1))
            case measure => omega
            case rel => exact ⟨k + 1, by omega, Nat.le_refl _, by go_num, HH3, HBk.out⟩
    · obtain rfl : i = n := by omega
      have iw : ¬ ((i : Int) < (i : Int)) := by omega
      have hr := HYE.out HH.out
      clear hbel
      go_wp2_with fail
      go_ret
      exact ⟨by first | rfl | (rw [hr]; rfl) | (rw [hr]; done), HB.out⟩
end Go.Proofs.YtccaiippoephbaaGreatDoor.Slt
/- Salt: the program's Find and Right. -/
set_option linter.unusedVariables false
set_option linter.unusedSimpArgs false
set_option maxRecDepth 100000
namespace Go.Proofs.YtccaiippoephbaaGreatDoor.Slt
open Go.RowKit Go.Lib Go.Proofs.YtccaiippoephbaaGreatDoor.Bx

theorem Users.cells {w : World} {a : Option Addr} {n cap : Nat} {A : List Us} (h : Users w (.slice a n cap) A) {m : Nat} (hm : m ≤ A.length) : UsC w a m A := fun w' hb j hj => by
  obtain ⟨b, off, e, hlt, c0, c1, c2, _⟩ := h.get (show j < A.length by omega)
  exact ⟨b, off, e, hlt, vcell hb hlt c0, vcell hb hlt c1, vcell hb hlt c2⟩
theorem UsC.take {w : World} {a : Option Addr} {n m : Nat} {A : List Us} (h : UsC w a n A) (hm : m ≤ n) : UsC w a m A := fun w' hb j hj => h w' hb j (by omega)
set_option maxHeartbeats 4000000 in
theorem pright_any {v : Value} {A : List Us} (w : World) (h : Users w v A) : Calls Tryz.prog 28 #[v] w fun e w' => e = .returned (.bool (rightU A)) ∧ Below w.heap.size w w' := by
  obtain ⟨a, cap, rfl, hl', hm⟩ := h.is_slice
  obtain ⟨n, hn⟩ : ∃ n, n = A.length := ⟨_, rfl⟩
  have HU : Hid (UsC w a n A) := h.cells (by omega)
  have HNO : Hid (∀ i, i < n → okAt A i = false → rightU A = false) := fun i hi h => right_no (by rw [← hn]; exact hi) h
  have HYE : Hid (1 ≤ n → n ≤ 8 → (∀ i, i < n → okAt A i = true) → rightU A = true) := fun h1 h8 h => right_yes (by omega) (by omega) (fun i hi => h i (by omega))
  have HBD : Hid (¬ (1 ≤ n ∧ n ≤ 8) → rightU A = false) := fun h => by
    unfold rightU
    rw [← hn]
    by_cases h1 : 1 ≤ n
    · rw [decide_eq_false (show ¬ n ≤ 8 by omega), Bool.and_false, Bool.false_and]
    · rw [decide_eq_false h1, Bool.false_and, Bool.false_and]
  rw [← hn] at hl' ⊢
  have HM := Lib.hid hm
  unfold maxLen at hm
  clear h
  obtain ⟨r, hr⟩ : ∃ r, r = rightU A := ⟨_, rfl⟩
  rw [← hr] at HNO HYE HBD ⊢
  clear hr hn
  go_enter Tryz.func28, Tryz.ntmps28
  by_cases h1 : (n : Int) < 1
  · have hr := HBD.out (by omega)
    go_wp2_with fail
    go_ret
    exact ⟨by first | rfl | (rw [hr]; rfl) | (rw [hr]; done), Below.refl _ _⟩
  by_cases h8 : 8 < (n : Int)
  · have hr := HBD.out (by omega)
    go_wp2_with fail
    go_ret
    exact ⟨by first | rfl | (rw [hr]; rfl) | (rw [hr]; done), Below.refl _ _⟩
  replace HYE := Lib.hid (HYE.out (by omega) (by omega))
  clear HBD
  go_wp2_with fail
  go_loopg [15] n (fun g i_ wr => ∃ (i : Nat), i ≤ n ∧ n - i ≤ g ∧ i_ = .int .i64 i ∧ Hid (∀ j, j < i → okAt A j = true) ∧ Below w.heap.size w wr)
  case atStart => exact ⟨0, by omega, by omega, rfl, fun j hj => absurd hj (by omega), Below.refl _ _⟩
  case round =>
    obtain ⟨i, hi, hg, rfl, HH, hbel⟩ := hrel
    have HB := Lib.hid hbel
    by_cases hin : i < n
    · have iw : ((i : Nat) : Int) < (n : Int) := by omega
      have n0 : (0 : Int) ≤ (i : Int) := by omega
      obtain ⟨b, off, rfl, hlt, c0, c1, c2⟩ := HU.out wr hbel i hin
      have HN := Lib.hid (HNO.out i hin)
      have HBAD : Hid (badU (us A i) = true → okAt A i = false) := ok_bad
      have HSAM : Hid (∀ k, k < i → (us A k).n = (us A i).n → okAt A i = false) := fun k hk h => ok_same hk h
      have HOK : Hid (badU (us A i) = false → (∀ k, k < i → (us A k).n ≠ (us A i).n) → okAt A i = true) := ok_yes
      have HH2 : Hid (okAt A i = true → ∀ j, j < i + 1 → okAt A j = true) := fun h j hj => by
        by_cases e : j = i
        · subst e; exact h
        · exact HH.out j (by omega)
      generalize us A i = y at *
      obtain ⟨yn, ys, yl⟩ := y
      simp only at c0 c1 c2 HSAM HOK
      have CRU : Hid (∀ w', Calls Tryz.prog 52 #[.agg #[.string yn, .string ys, .string yl]] w' fun e w'' => e = .returned (.bool (!badU ⟨yn, ys, yl⟩)) ∧ Below w'.heap.size w' w'') := fun w' => prightUser_any yn ys yl w'
      obtain ⟨bd, hbd⟩ : ∃ bd, bd = badU ⟨yn, ys, yl⟩ := ⟨_, rfl⟩
      rw [← hbd] at HBAD HOK CRU
      clear hbel hbd
      have CNA : Hid (∀ w', Below w.heap.size w w' → Calls Tryz.prog 53 #[.slice (some ⟨b, off, none⟩) i cap, .string yn] w' fun e w'' => ∃ r : Int, e = .returned (.int .i64 r) ∧ foundU A i yn r ∧ Below w'.heap.size w' w'') := fun w' hb => pnamed_any yn w' ((HU.out.take (by omega)).below hb) (by omega) HM.out
      go_upto_region 6 with fail
      obtain ⟨NB, hNB⟩ : ∃ NB, NB = wr.heap.size := ⟨_, rfl⟩
      obtain ⟨WY, hWY⟩ : ∃ WY, WY = wr.alloc (.cells #[.string yn, .string ys, .string yl] 42) := ⟨_, rfl⟩
      rw [← hWY, ← hNB]
      have BY : Hid (Below w.heap.size w WY) := by rw [hWY]; exact below_al HB.out _
      have PY : Hid (WY.heap[NB]? = some (.cells #[.string yn, .string ys, .string yl] 42 (0, 0))) := by show _ = _; rw [hWY, hNB]; exact heap_alloc_new _ _
      have HC3 : Hid (∀ w', Below WY.heap.size WY w' → w'.cell? ⟨NB, 0, none⟩ = some (.string yn) ∧ w'.cell? ⟨NB, 1, none⟩ = some (.string ys) ∧ w'.cell? ⟨NB, 2, none⟩ = some (.string yl)) := fun w' hb => three_cells ((hb.block _ (Array.getElem?_eq_some_iff.1 PY.out).1).trans PY.out)
      obtain ⟨d0, d1, d2⟩ := three_cells PY.out
      have KV : Hid (Below WY.heap.size WY WY) := Below.refl _ _
      clear hNB hWY c0 c1 c2
      have icap : (i : Int) ≤ (cap : Int) := by omega
      have icap2 : i ≤ cap := by omega
      go_cut [31] from 20 to 32 (fun x wx => ∃ q : Bool, x = .bool q ∧ Hid (okAt A i = !q) ∧ Hid (Below w.heap.size w wx))
      case first =>
        cases bd with
        | true =>
          have hr := HBAD.out rfl
          clear HBAD HOK HSAM HN HNO HYE CNA
          refine wp_region_held_drew (S := fun w' => w'.cell? ⟨NB, 0, none⟩ = some (.string yn) ∧ w'.cell? ⟨NB, 1, none⟩ = some (.string ys) ∧ w'.cell? ⟨NB, 2, none⟩ = some (.string yl)) (by kernel_rfl) ?_ (fun hHeld => ?_)
          focus ((try dsimp only); (refine HC3.out _ ?_; focus ((repeat first | with_reducible assumption | with_reducible exact KV.out | with_reducible apply Below.drew | with_reducible apply p_drews); done)); done)
          refine' wpAnyH_take (i := 0) (v := _) rfl (by kernel_rfl) (by kernel_rfl) (by kernel_rfl) (fun _ _ _ h => h) (Or.inl ⟨by rfl, ?hy1⟩) (by assumption) ?rest1
          case hy1 => (intro w hSw; (try dsimp only at hSw); go_simp; try with_reducible rfl)
          try simp only [Act.put, List.getElem_toArray, List.getElem_cons_zero, List.getElem_cons_succ, List.setIfInBounds_toArray, List.set_cons_zero, List.set_cons_succ]
          refine wpAnyH_ready (rs := [1]) (by kernel_rfl) (by simp) ?_
          refine AllReadyH.cons rfl (fun K hK => ?_) ?_
          · go_simp
            (go_at_call 52; (with_reducible refine (CRU.out _).mono ?_); rintro e wt ⟨rfl, bt⟩; have hkt := fun h => below_on (B := WY.heap.size) (w := WY) h bt (Nat.le_refl _); replace hkt := hkt (by (repeat first | with_reducible assumption | with_reducible exact KV.out | with_reducible apply Below.drew | with_reducible apply p_drews)); clear bt)
            go_wp2_with fail
            refine hK.out _ _ ?_ (fun hHeld => ?_)
            focus ((try dsimp only); (refine HC3.out _ ?_; focus ((repeat first | with_reducible assumption | with_reducible exact KV.out | with_reducible apply Below.drew | with_reducible apply p_drews); done)); done)
            clear hK K
            try simp only [Act.put, List.getElem_toArray, List.getElem_cons_zero, List.getElem_cons_succ, List.setIfInBounds_toArray, List.set_cons_zero, List.set_cons_succ]
            refine' wpAnyH_take (i := 2) (v := _) rfl (by kernel_rfl) (by kernel_rfl) (by kernel_rfl) (fun _ _ _ h => h) (Or.inl ⟨by rfl, ?hy2⟩) (by assumption) ?rest2
            case hy2 => (intro w hSw; (try dsimp only at hSw); go_simp; try with_reducible rfl)
            try simp only [Act.put, List.getElem_toArray, List.getElem_cons_zero, List.getElem_cons_succ, List.setIfInBounds_toArray, List.set_cons_zero, List.set_cons_succ]
            refine' wpAnyH_take (i := 3) (v := _) rfl (by kernel_rfl) (by kernel_rfl) (by kernel_rfl) (fun _ _ _ h => h) (Or.inl ⟨by rfl, ?hy3⟩) (by assumption) ?rest3
            case hy3 => (intro w hSw; (try dsimp only at hSw); go_simp; try with_reducible rfl)
            try simp only [Act.put, List.getElem_toArray, List.getElem_cons_zero, List.getElem_cons_succ, List.setIfInBounds_toArray, List.set_cons_zero, List.set_cons_succ]
            refine wpAnyH_take (i := 4) (v := undef) rfl (by kernel_rfl) (by kernel_rfl) (by kernel_rfl) (fun _ _ _ h => h) (Or.inr ⟨by rfl, rfl⟩) (by assumption) ?_
            try simp only [Act.put, List.getElem_toArray, List.getElem_cons_zero, List.getElem_cons_succ, List.setIfInBounds_toArray, List.set_cons_zero, List.set_cons_succ]
            refine wpAnyH_take (i := 5) (v := undef) rfl (by kernel_rfl) (by kernel_rfl) (by kernel_rfl) (fun _ _ _ h => h) (Or.inr ⟨by rfl, rfl⟩) (by assumption) ?_
            try simp only [Act.put, List.getElem_toArray, List.getElem_cons_zero, List.getElem_cons_succ, List.setIfInBounds_toArray, List.set_cons_zero, List.set_cons_succ]
            refine wpAnyH_take (i := 6) (v := undef) rfl (by kernel_rfl) (by kernel_rfl) (by kernel_rfl) (fun _ _ _ h => h) (Or.inr ⟨by rfl, rfl⟩) (by assumption) ?_
            try simp only [Act.put, List.getElem_toArray, List.getElem_cons_zero, List.getElem_cons_succ, List.setIfInBounds_toArray, List.set_cons_zero, List.set_cons_succ]
            refine wpAnyH_take (i := 7) (v := undef) rfl (by kernel_rfl) (by kernel_rfl) (by kernel_rfl) (fun _ _ _ h => h) (Or.inr ⟨by rfl, rfl⟩) (by assumption) ?_
            try simp only [Act.put, List.getElem_toArray, List.getElem_cons_zero, List.getElem_cons_succ, List.setIfInBounds_toArray, List.set_cons_zero, List.set_cons_succ]
            refine wpAnyH_take (i := 8) (v := undef) rfl (by kernel_rfl) (by kernel_rfl) (by kernel_rfl) (fun _ _ _ h => h) (Or.inr ⟨by rfl, rfl⟩) (by assumption) ?_
            try simp only [Act.put, List.getElem_toArray, List.getElem_cons_zero, List.getElem_cons_succ, List.setIfInBounds_toArray, List.set_cons_zero, List.set_cons_succ]
            refine wpAnyH_take (i := 9) (v := undef) rfl (by kernel_rfl) (by kernel_rfl) (by kernel_rfl) (fun _ _ _ h => h) (Or.inr ⟨by rfl, rfl⟩) (by assumption) ?_
            try simp only [Act.put, List.getElem_toArray, List.getElem_cons_zero, List.getElem_cons_succ, List.setIfInBounds_toArray, List.set_cons_zero, List.set_cons_succ]
            refine wpAnyH_take (i := 10) (v := undef) rfl (by kernel_rfl) (by kernel_rfl) (by kernel_rfl) (fun _ _ _ h => h) (Or.inr ⟨by rfl, rfl⟩) (by assumption) ?_
            try simp only [Act.put, List.getElem_toArray, List.getElem_cons_zero, List.getElem_cons_succ, List.setIfInBounds_toArray, List.set_cons_zero, List.set_cons_succ]
            refine' wpAnyH_take (i := 11) (v := _) rfl (by kernel_rfl) (by kernel_rfl) (by kernel_rfl) (fun _ _ _ h => h) (Or.inl ⟨by rfl, ?hy4⟩) (by assumption) ?rest4
            case hy4 => (intro w hSw; (try dsimp only at hSw); go_simp; try with_reducible rfl)
            try simp only [Act.put, List.getElem_toArray, List.getElem_cons_zero, List.getElem_cons_succ, List.setIfInBounds_toArray, List.set_cons_zero, List.set_cons_succ]
            refine wpAnyH_done (by kernel_rfl) ?_ _
            go_wp2_with fail
            go_meet
            exact ⟨true, by first | rfl | (simp; done), Lib.hid (by rw [hr]; rfl), Lib.hid (below_on BY.out hkt)⟩
          exact AllReadyH.nil
        | false =>
          have HOK2 := Lib.hid (HOK.out rfl)
          clear HBAD HOK HN HNO HYE
          go_region_held3 (fun w' => w'.cell? ⟨NB, 0, none⟩ = some (.string yn) ∧ w'.cell? ⟨NB, 1, none⟩ = some (.string ys) ∧ w'.cell? ⟨NB, 2, none⟩ = some (.string yl))
            ((refine HC3.out _ ?_; focus ((repeat first | with_reducible assumption | with_reducible exact KV.out | with_reducible apply Below.drew | with_reducible apply p_drews); done)))
            (first
              | (go_at_call 52; (with_reducible refine (CRU.out _).mono ?_); rintro e wt ⟨rfl, bt⟩; have hkt := fun h => below_on (B := WY.heap.size) (w := WY) h bt (Nat.le_refl _); replace hkt := hkt (by (repeat first | with_reducible assumption | with_reducible exact KV.out | with_reducible apply Below.drew | with_reducible apply p_drews)); clear bt)
              | (go_at_call 53; (with_reducible refine (CNA.out _ ?hb).mono ?hm); (case hb => (refine below_on BY.out ?_; (repeat first | with_reducible assumption | with_reducible exact KV.out | with_reducible apply Below.drew | with_reducible apply p_drews))); rintro e wu ⟨r, rfl, hf, bu⟩; have hku := fun h => below_on (B := WY.heap.size) (w := WY) h bu (Nat.le_refl _); replace hku := hku (by (repeat first | with_reducible assumption | with_reducible exact KV.out | with_reducible apply Below.drew | with_reducible apply p_drews)); replace hf := Lib.hid hf; clear bu))
          all_goals go_wp2_with fail
          all_goals go_meet
          refine ⟨decide (0 ≤ r), rfl, Lib.hid ?_, Lib.hid (below_on BY.out hku)⟩
          rcases hf.out with ⟨rfl, hno⟩ | ⟨k, rfl, hk, hz, _⟩
          · rw [HOK2.out hno]
            rfl
          · rw [HSAM.out k hk hz, decide_eq_true (by omega)]
            rfl
      case rest =>
        obtain ⟨q, rfl, HQ, HBq⟩ := hcut
        cases q with
        | true =>
          have hr := HN.out HQ.out
          clear HNO HYE HBAD HSAM HOK HH2 HN CRU CNA
          go_wp2_with fail
          go_ret
          exact ⟨by first | rfl | (rw [hr]; rfl) | (rw [hr]; done), HBq.out⟩
        | false =>
          have HH3 := Lib.hid (HH2.out HQ.out)
          clear HNO HYE HBAD HSAM HOK HH2 HN CRU CNA
          go_wp2_with fail
          go_roundg (n - (i + 1))
          case measure => omega
          case rel => exact ⟨i + 1, by omega, Nat.le_refl _, by go_num, HH3, HBq.out⟩
    · obtain rfl : i = n := by omega
      have iw : ¬ ((i : Int) < (i : Int)) := by omega
      have hr := HYE.out HH.out
      clear hbel
      go_wp2_with fail
      go_ret
      exact ⟨by first | rfl | (rw [hr]; rfl) | (rw [hr]; done), HB.out⟩
end Go.Proofs.YtccaiippoephbaaGreatDoor.Slt
/- Salt: the program's table, as the card lays it. -/
set_option linter.unusedVariables false
set_option maxRecDepth 100000
namespace Go.Proofs.YtccaiippoephbaaGreatDoor.Slt
open Go.RowKit Go.Lib Go.Proofs.YtccaiippoephbaaGreatDoor.Bx

def rootsTab : List Int := K0.map fun x : Nat => (x : Int)
theorem laid_is : (Rows.laid_chancel_salt_roots : DataW Unit) = tabData .u32 rootsTab := by kernel_rfl
theorem roots_of {w : World} (h : VarReads Tryz.prog w "chancel/salt.roots" Rows.laid_chancel_salt_roots) : Roots w := by
  rw [laid_is] at h
  obtain ⟨g, t, cs, fuel, p, hg, hty, hvar, hd⟩ := h
  obtain rfl := Option.some.inj ((show Tryz.prog.globalNamed "chancel/salt.roots" = some 0 by kernel_rfl).symm.trans hg)
  obtain rfl := Option.some.inj ((show (Tryz.prog.globals[0]?).map (·.type) = some 153 by kernel_rfl).symm.trans hty)
  have hcs := cells_of_tab Tryz.underlying153 Tryz.underlying84 (by kernel_rfl) (by kernel_rfl) hd
  intro t ht
  have := World.var?_cell hg hvar t
  rw [this, ← Array.getElem?_toList, hcs]
  have hl : K0.length = 64 := rfl
  unfold rootsTab
  rw [List.map_map, List.getElem?_map, List.getD_eq_getElem?_getD, List.getElem?_eq_getElem (by omega)]
  rfl
end Go.Proofs.YtccaiippoephbaaGreatDoor.Slt
