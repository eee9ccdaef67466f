/- Salt: the program's Find and Right. -/
import Derived.Test.YtffepndeegbdoaaGreatDoorPri
import Derived.Test.YtffepndeegbdoaaGreatDoorPbe
import Derived.Test.YtffepndeegbdoaaGreatDoorUf
set_option linter.unusedVariables false
set_option linter.unusedSimpArgs false
set_option maxRecDepth 100000
namespace Go.Proofs.YtffepndeegbdoaaGreatDoor.Slt
open Go.RowKit Go.Lib Go.Proofs.YtffepndeegbdoaaGreatDoor.Bx

theorem Users.cells {w : World} {a : Option Addr} {n cap : Nat} {A : List Us} (h : Users w (.slice a n cap) A) {m : Nat} (hm : m ≤ A.length) : UsC w a m A := fun w' hb j hj => by
  obtain ⟨b, off, e, hlt, c0, c1, c2, _⟩ := h.get (show j < A.length by omega)
  exact ⟨b, off, e, hlt, vcell hb hlt c0, vcell hb hlt c1, vcell hb hlt c2⟩
theorem UsC.take {w : World} {a : Option Addr} {n m : Nat} {A : List Us} (h : UsC w a n A) (hm : m ≤ n) : UsC w a m A := fun w' hb j hj => h w' hb j (by omega)
set_option maxHeartbeats 4000000 in
theorem pright_any {v : Value} {A : List Us} (w : World) (h : Users w v A) : Calls Tryz.prog 17 #[v] w fun e w' => e = .returned (.bool (rightU A)) ∧ Below w.heap.size w w' := by
  obtain ⟨a, cap, rfl, hl', hm⟩ := h.is_slice
  obtain ⟨n, hn⟩ : ∃ n, n = A.length := ⟨_, rfl⟩
  have HU : Hid (UsC w a n A) := h.cells (by omega)
  have HNO : Hid (∀ i, i < n → okAt A i = false → rightU A = false) := fun i hi h => right_no (by rw [← hn]; exact hi) h
  have HYE : Hid (1 ≤ n → n ≤ 8 → (∀ i, i < n → okAt A i = true) → rightU A = true) := fun h1 h8 h => right_yes (by omega) (by omega) (fun i hi => h i (by omega))
  have HBD : Hid (¬ (1 ≤ n ∧ n ≤ 8) → rightU A = false) := fun h => by
    unfold rightU
    rw [← hn]
    by_cases h1 : 1 ≤ n
    · rw [decide_eq_false (show ¬ n ≤ 8 by omega), Bool.and_false, Bool.false_and]
    · rw [decide_eq_false h1, Bool.false_and, Bool.false_and]
  rw [← hn] at hl' ⊢
  have HM := Lib.hid hm
  unfold maxLen at hm
  clear h
  obtain ⟨r, hr⟩ : ∃ r, r = rightU A := ⟨_, rfl⟩
  rw [← hr] at HNO HYE HBD ⊢
  clear hr hn
  go_enter Tryz.func17, Tryz.ntmps17
  by_cases h1 : (n : Int) < 1
  · have hr := HBD.out (by omega)
    go_wp2_with fail
    go_ret
    exact ⟨by first | rfl | (rw [hr]; rfl) | (rw [hr]; done), Below.refl _ _⟩
  by_cases h8 : 8 < (n : Int)
  · have hr := HBD.out (by omega)
    go_wp2_with fail
    go_ret
    exact ⟨by first | rfl | (rw [hr]; rfl) | (rw [hr]; done), Below.refl _ _⟩
  replace HYE := Lib.hid (HYE.out (by omega) (by omega))
  clear HBD
  go_wp2_with fail
  go_loopg [15] n (fun g i_ wr => ∃ (i : Nat), i ≤ n ∧ n - i ≤ g ∧ i_ = .int .i64 i ∧ Hid (∀ j, j < i → okAt A j = true) ∧ Below w.heap.size w wr)
  case atStart => exact ⟨0, by omega, by omega, rfl, fun j hj => absurd hj (by omega), Below.refl _ _⟩
  case round =>
    obtain ⟨i, hi, hg, rfl, HH, hbel⟩ := hrel
    have HB := Lib.hid hbel
    by_cases hin : i < n
    · have iw : ((i : Nat) : Int) < (n : Int) := by omega
      have n0 : (0 : Int) ≤ (i : Int) := by omega
      obtain ⟨b, off, rfl, hlt, c0, c1, c2⟩ := HU.out wr hbel i hin
      have HN := Lib.hid (HNO.out i hin)
      have HBAD : Hid (badU (us A i) = true → okAt A i = false) := ok_bad
      have HSAM : Hid (∀ k, k < i → (us A k).n = (us A i).n → okAt A i = false) := fun k hk h => ok_same hk h
      have HOK : Hid (badU (us A i) = false → (∀ k, k < i → (us A k).n ≠ (us A i).n) → okAt A i = true) := ok_yes
      have HH2 : Hid (okAt A i = true → ∀ j, j < i + 1 → okAt A j = true) := fun h j hj => by
        by_cases e : j = i
        · subst e; exact h
        · exact HH.out j (by omega)
      generalize us A i = y at *
      obtain ⟨yn, ys, yl⟩ := y
      simp only at c0 c1 c2 HSAM HOK
      have CRU : Hid (∀ w', Calls Tryz.prog 43 #[.agg #[.string yn, .string ys, .string yl]] w' fun e w'' => e = .returned (.bool (!badU ⟨yn, ys, yl⟩)) ∧ Below w'.heap.size w' w'') := fun w' => prightUser_any yn ys yl w'
      obtain ⟨bd, hbd⟩ : ∃ bd, bd = badU ⟨yn, ys, yl⟩ := ⟨_, rfl⟩
      rw [← hbd] at HBAD HOK CRU
      clear hbel hbd
      have CNA : Hid (∀ w', Below w.heap.size w w' → Calls Tryz.prog 44 #[.slice (some ⟨b, off, none⟩) i cap, .string yn] w' fun e w'' => ∃ r : Int, e = .returned (.int .i64 r) ∧ foundU A i yn r ∧ Below w'.heap.size w' w'') := fun w' hb => pnamed_any yn w' ((HU.out.take (by omega)).below hb) (by omega) HM.out
      go_upto_region 6 with fail
      obtain ⟨NB, hNB⟩ : ∃ NB, NB = wr.heap.size := ⟨_, rfl⟩
      obtain ⟨WY, hWY⟩ : ∃ WY, WY = wr.alloc (.cells #[.string yn, .string ys, .string yl] 44) := ⟨_, rfl⟩
      rw [← hWY, ← hNB]
      have BY : Hid (Below w.heap.size w WY) := by rw [hWY]; exact below_al HB.out _
      have PY : Hid (WY.heap[NB]? = some (.cells #[.string yn, .string ys, .string yl] 44 (0, 0))) := by show _ = _; rw [hWY, hNB]; exact heap_alloc_new _ _
      have HC3 : Hid (∀ w', Below WY.heap.size WY w' → w'.cell? ⟨NB, 0, none⟩ = some (.string yn) ∧ w'.cell? ⟨NB, 1, none⟩ = some (.string ys) ∧ w'.cell? ⟨NB, 2, none⟩ = some (.string yl)) := fun w' hb => three_cells ((hb.block _ (Array.getElem?_eq_some_iff.1 PY.out).1).trans PY.out)
      obtain ⟨d0, d1, d2⟩ := three_cells PY.out
      have KV : Hid (Below WY.heap.size WY WY) := Below.refl _ _
      clear hNB hWY c0 c1 c2
      have icap : (i : Int) ≤ (cap : Int) := by omega
      have icap2 : i ≤ cap := by omega
      go_cut [31] from 20 to 32 (fun x wx => ∃ q : Bool, x = .bool q ∧ Hid (okAt A i = !q) ∧ Hid (Below w.heap.size w wx))
      case first =>
        cases bd with
        | true =>
          have hr := HBAD.out rfl
          clear HBAD HOK HSAM HN HNO HYE CNA
          refine wp_region_held_drew (S := fun w' => w'.cell? ⟨NB, 0, none⟩ = some (.string yn) ∧ w'.cell? ⟨NB, 1, none⟩ = some (.string ys) ∧ w'.cell? ⟨NB, 2, none⟩ = some (.string yl)) (by kernel_rfl) ?_ (fun hHeld => ?_)
          focus ((try dsimp only); (refine HC3.out _ ?_; focus ((repeat first | with_reducible assumption | with_reducible exact KV.out | with_reducible apply Below.drew | with_reducible apply p_drews); done)); done)
          refine' wpAnyH_take (i := 0) (v := _) rfl (by kernel_rfl) (by kernel_rfl) (by kernel_rfl) (fun _ _ _ h => h) (Or.inl ⟨by rfl, ?hy1⟩) (by assumption) ?rest1
          case hy1 => (intro w hSw; (try dsimp only at hSw); go_simp; try with_reducible rfl)
          try simp only [Act.put, List.getElem_toArray, List.getElem_cons_zero, List.getElem_cons_succ, List.setIfInBounds_toArray, List.set_cons_zero, List.set_cons_succ]
          refine wpAnyH_ready (rs := [1]) (by kernel_rfl) (by simp) ?_
          refine AllReadyH.cons rfl (fun K hK => ?_) ?_
          · go_simp
            (go_at_call 43; (with_reducible refine (CRU.out _).mono ?_); rintro e wt ⟨rfl, bt⟩; have hkt := fun h => below_on (B := WY.heap.size) (w := WY) h bt (Nat.le_refl _); replace hkt := hkt (by (repeat first | with_reducible assumption | with_reducible exact KV.out | with_reducible apply Below.drew | with_reducible apply p_drews)); clear bt)
            go_wp2_with fail
            refine hK.out _ _ ?_ (fun hHeld => ?_)
            focus ((try dsimp only); (refine HC3.out _ ?_; focus ((repeat first | with_reducible assumption | with_reducible exact KV.out | with_reducible apply Below.drew | with_reducible apply p_drews); done)); done)
            clear hK K
            try simp only [Act.put, List.getElem_toArray, List.getElem_cons_zero, List.getElem_cons_succ, List.setIfInBounds_toArray, List.set_cons_zero, List.set_cons_succ]
            refine' wpAnyH_take (i := 2) (v := _) rfl (by kernel_rfl) (by kernel_rfl) (by kernel_rfl) (fun _ _ _ h => h) (Or.inl ⟨by rfl, ?hy2⟩) (by assumption) ?rest2
            case hy2 => (intro w hSw; (try dsimp only at hSw); go_simp; try with_reducible rfl)
            try simp only [Act.put, List.getElem_toArray, List.getElem_cons_zero, List.getElem_cons_succ, List.setIfInBounds_toArray, List.set_cons_zero, List.set_cons_succ]
            refine' wpAnyH_take (i := 3) (v := _) rfl (by kernel_rfl) (by kernel_rfl) (by kernel_rfl) (fun _ _ _ h => h) (Or.inl ⟨by rfl, ?hy3⟩) (by assumption) ?rest3
            case hy3 => (intro w hSw; (try dsimp only at hSw); go_simp; try with_reducible rfl)
            try simp only [Act.put, List.getElem_toArray, List.getElem_cons_zero, List.getElem_cons_succ, List.setIfInBounds_toArray, List.set_cons_zero, List.set_cons_succ]
            refine wpAnyH_take (i := 4) (v := undef) rfl (by kernel_rfl) (by kernel_rfl) (by kernel_rfl) (fun _ _ _ h => h) (Or.inr ⟨by rfl, rfl⟩) (by assumption) ?_
            try simp only [Act.put, List.getElem_toArray, List.getElem_cons_zero, List.getElem_cons_succ, List.setIfInBounds_toArray, List.set_cons_zero, List.set_cons_succ]
            refine wpAnyH_take (i := 5) (v := undef) rfl (by kernel_rfl) (by kernel_rfl) (by kernel_rfl) (fun _ _ _ h => h) (Or.inr ⟨by rfl, rfl⟩) (by assumption) ?_
            try simp only [Act.put, List.getElem_toArray, List.getElem_cons_zero, List.getElem_cons_succ, List.setIfInBounds_toArray, List.set_cons_zero, List.set_cons_succ]
            refine wpAnyH_take (i := 6) (v := undef) rfl (by kernel_rfl) (by kernel_rfl) (by kernel_rfl) (fun _ _ _ h => h) (Or.inr ⟨by rfl, rfl⟩) (by assumption) ?_
            try simp only [Act.put, List.getElem_toArray, List.getElem_cons_zero, List.getElem_cons_succ, List.setIfInBounds_toArray, List.set_cons_zero, List.set_cons_succ]
            refine wpAnyH_take (i := 7) (v := undef) rfl (by kernel_rfl) (by kernel_rfl) (by kernel_rfl) (fun _ _ _ h => h) (Or.inr ⟨by rfl, rfl⟩) (by assumption) ?_
            try simp only [Act.put, List.getElem_toArray, List.getElem_cons_zero, List.getElem_cons_succ, List.setIfInBounds_toArray, List.set_cons_zero, List.set_cons_succ]
            refine wpAnyH_take (i := 8) (v := undef) rfl (by kernel_rfl) (by kernel_rfl) (by kernel_rfl) (fun _ _ _ h => h) (Or.inr ⟨by rfl, rfl⟩) (by assumption) ?_
            try simp only [Act.put, List.getElem_toArray, List.getElem_cons_zero, List.getElem_cons_succ, List.setIfInBounds_toArray, List.set_cons_zero, List.set_cons_succ]
            refine wpAnyH_take (i := 9) (v := undef) rfl (by kernel_rfl) (by kernel_rfl) (by kernel_rfl) (fun _ _ _ h => h) (Or.inr ⟨by rfl, rfl⟩) (by assumption) ?_
            try simp only [Act.put, List.getElem_toArray, List.getElem_cons_zero, List.getElem_cons_succ, List.setIfInBounds_toArray, List.set_cons_zero, List.set_cons_succ]
            refine wpAnyH_take (i := 10) (v := undef) rfl (by kernel_rfl) (by kernel_rfl) (by kernel_rfl) (fun _ _ _ h => h) (Or.inr ⟨by rfl, rfl⟩) (by assumption) ?_
            try simp only [Act.put, List.getElem_toArray, List.getElem_cons_zero, List.getElem_cons_succ, List.setIfInBounds_toArray, List.set_cons_zero, List.set_cons_succ]
            refine' wpAnyH_take (i := 11) (v := _) rfl (by kernel_rfl) (by kernel_rfl) (by kernel_rfl) (fun _ _ _ h => h) (Or.inl ⟨by rfl, ?hy4⟩) (by assumption) ?rest4
            case hy4 => (intro w hSw; (try dsimp only at hSw); go_simp; try with_reducible rfl)
            try simp only [Act.put, List.getElem_toArray, List.getElem_cons_zero, List.getElem_cons_succ, List.setIfInBounds_toArray, List.set_cons_zero, List.set_cons_succ]
            refine wpAnyH_done (by kernel_rfl) ?_ _
            go_wp2_with fail
            go_meet
            exact ⟨true, by first | rfl | (simp; done), Lib.hid (by rw [hr]; rfl), Lib.hid (below_on BY.out hkt)⟩
          exact AllReadyH.nil
        | false =>
          have HOK2 := Lib.hid (HOK.out rfl)
          clear HBAD HOK HN HNO HYE
          go_region_held3 (fun w' => w'.cell? ⟨NB, 0, none⟩ = some (.string yn) ∧ w'.cell? ⟨NB, 1, none⟩ = some (.string ys) ∧ w'.cell? ⟨NB, 2, none⟩ = some (.string yl))
            ((refine HC3.out _ ?_; focus ((repeat first | with_reducible assumption | with_reducible exact KV.out | with_reducible apply Below.drew | with_reducible apply p_drews); done)))
            (first
              | (go_at_call 43; (with_reducible refine (CRU.out _).mono ?_); rintro e wt ⟨rfl, bt⟩; have hkt := fun h => below_on (B := WY.heap.size) (w := WY) h bt (Nat.le_refl _); replace hkt := hkt (by (repeat first | with_reducible assumption | with_reducible exact KV.out | with_reducible apply Below.drew | with_reducible apply p_drews)); clear bt)
              | (go_at_call 44; (with_reducible refine (CNA.out _ ?hb).mono ?hm); (case hb => (refine below_on BY.out ?_; (repeat first | with_reducible assumption | with_reducible exact KV.out | with_reducible apply Below.drew | with_reducible apply p_drews))); rintro e wu ⟨r, rfl, hf, bu⟩; have hku := fun h => below_on (B := WY.heap.size) (w := WY) h bu (Nat.le_refl _); replace hku := hku (by (repeat first | with_reducible assumption | with_reducible exact KV.out | with_reducible apply Below.drew | with_reducible apply p_drews)); replace hf := Lib.hid hf; clear bu))
          all_goals go_wp2_with fail
          all_goals go_meet
          refine ⟨decide (0 ≤ r), rfl, Lib.hid ?_, Lib.hid (below_on BY.out hku)⟩
          rcases hf.out with ⟨rfl, hno⟩ | ⟨k, rfl, hk, hz, _⟩
          · rw [HOK2.out hno]
            rfl
          · rw [HSAM.out k hk hz, decide_eq_true (by omega)]
            rfl
      case rest =>
        obtain ⟨q, rfl, HQ, HBq⟩ := hcut
        cases q with
        | true =>
          have hr := HN.out HQ.out
          clear HNO HYE HBAD HSAM HOK HH2 HN CRU CNA
          go_wp2_with fail
          go_ret
          exact ⟨by first | rfl | (rw [hr]; rfl) | (rw [hr]; done), HBq.out⟩
        | false =>
          have HH3 := Lib.hid (HH2.out HQ.out)
          clear HNO HYE HBAD HSAM HOK HH2 HN CRU CNA
          go_wp2_with fail
          go_roundg (n - (i + 1))
          case measure => omega
          case rel => exact ⟨i + 1, by omega, Nat.le_refl _, by go_num, HH3, HBq.out⟩
    · obtain rfl : i = n := by omega
      have iw : ¬ ((i : Int) < (i : Int)) := by omega
      have hr := HYE.out HH.out
      clear hbel
      go_wp2_with fail
      go_ret
      exact ⟨by first | rfl | (rw [hr]; rfl) | (rw [hr]; done), HB.out⟩
end Go.Proofs.YtffepndeegbdoaaGreatDoor.Slt
