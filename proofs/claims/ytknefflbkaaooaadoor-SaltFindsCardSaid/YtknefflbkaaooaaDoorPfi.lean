/- Salt: the program's Find and Right. -/
import Derived.Test.YtknefflbkaaooaaDoorPri
import Derived.Test.YtknefflbkaaooaaDoorPbe
import Derived.Test.YtknefflbkaaooaaDoorUf
set_option linter.unusedVariables false
set_option linter.unusedSimpArgs false
set_option maxRecDepth 100000
namespace Go.Proofs.YtknefflbkaaooaaDoor.Slt
open Go.RowKit Go.Lib Go.Proofs.YtknefflbkaaooaaDoor.Bx

theorem Users.cells {w : World} {a : Option Addr} {n cap : Nat} {A : List Us} (h : Users w (.slice a n cap) A) {m : Nat} (hm : m ≤ A.length) : UsC w a m A := fun w' hb j hj => by
  obtain ⟨b, off, e, hlt, c0, c1, c2, _⟩ := h.get (show j < A.length by omega)
  exact ⟨b, off, e, hlt, vcell hb hlt c0, vcell hb hlt c1, vcell hb hlt c2⟩
theorem UsC.take {w : World} {a : Option Addr} {n m : Nat} {A : List Us} (h : UsC w a n A) (hm : m ≤ n) : UsC w a m A := fun w' hb j hj => h w' hb j (by omega)
theorem pfind_any {v : Value} {A : List Us} (nm pw : ByteArray) (w : World) (hR : Roots w) (h : Users w v A) (hl : ∀ i, i < A.length → (us A i).s.size ≤ 1000) (hp : pw.size ≤ 1000) : Calls Tryd.prog 11 #[v, .string nm, .string pw] w fun e w' => e = .returned (.tuple #[.int .i64 ((findU A nm pw).1 : Nat), .bool (findU A nm pw).2]) ∧ Below w.heap.size w w' := by
  obtain ⟨a, cap, rfl, hl', hm⟩ := h.is_slice
  obtain ⟨n, hn⟩ : ∃ n, n = A.length := ⟨_, rfl⟩
  have HU : Hid (UsC w a n A) := h.cells (by omega)
  have CSB : Hid (∀ j, j < n → ∀ w', Below w.heap.size w w' → Calls Tryd.prog 6 #[.string (us A j).s, .string pw] w' fun e w'' => ∃ t, e = .returned (.string t) ∧ bytesN t = sealL (bytesN (us A j).s) (bytesN pw) ∧ Below w'.heap.size w' w'') := fun j hj w' hb => pseal_any _ _ w' (by have := hl j (by rw [← hn]; exact hj); omega) (hR.below hb (block_lt_of_cell (hR 0 (by decide))))
  have HSO : Hid (∀ i, i < n → (us A i).n = nm → (∀ j, j < i → (us A j).n ≠ nm) → findU A nm pw = if bytesN (us A i).l = sealL (bytesN (us A i).s) (bytesN pw) then (i, true) else (0, false)) := fun i hi h h' => find_some (by rw [← hn]; exact hi) h h'
  have HNN : Hid ((∀ j, j < n → (us A j).n ≠ nm) → findU A nm pw = (0, false)) := fun h => find_none (fun j hj => h j (by rw [hn]; exact hj))
  rw [← hn] at hl' ⊢
  have CN := Lib.hid (pnamed_any nm w HU.out hl' hm)
  unfold maxLen at hm
  clear h hl hR
  obtain ⟨r, hr⟩ : ∃ r, r = findU A nm pw := ⟨_, rfl⟩
  rw [← hr] at HSO HNN ⊢
  clear hr hn
  obtain ⟨ri, rb⟩ := r
  simp only at ⊢
  go_enter Tryd.func11, Tryd.ntmps11
  go_wp2_with fail
  refine CN.out.mono ?_
  rintro e w1 ⟨r, rfl, hf, b1⟩
  have HB := Lib.hid b1
  clear CN
  rcases hf with ⟨rfl, hno⟩ | ⟨i, rfl, hin, hz, hno⟩
  · have hr := HNN.out hno
    injection hr with hr1 hr2
    subst hr1 hr2
    clear hno HSO b1
    go_upto_region 2 with fail
    go_quiet (fail)
    go_wp2_with fail
    exact bodyPost_ret (v := .tuple #[.int .i64 0, .bool false]) (by simp [results, Tryd.results11, go_sem]) rfl ⟨rfl, p_drews HB.out _⟩
  · have n0 : ¬ ((i : Int) < 0) := by omega
    have n1 : (0 : Int) ≤ (i : Int) := by omega
    have iw : ((i : Nat) : Int) < (n : Int) := by omega
    obtain ⟨b, off, rfl, hlt, c0, c1, c2⟩ := HU.out w1 b1 i hin
    have HC : Hid (∀ w', Below w1.heap.size w1 w' → w'.cell? ⟨b, off + i * 3 + 1, none⟩ = some (.string (us A i).s) ∧ w'.cell? ⟨b, off + i * 3 + 2, none⟩ = some (.string (us A i).l)) := fun w' hb => by
      have h1 := Nat.lt_of_lt_of_le hlt HB.out.size
      exact ⟨vcell hb h1 c1, vcell hb h1 c2⟩
    have CS : Hid (∀ w', Below w1.heap.size w1 w' → Calls Tryd.prog 6 #[.string (us A i).s, .string pw] w' fun e w'' => ∃ t, e = .returned (.string t) ∧ bytesN t = sealL (bytesN (us A i).s) (bytesN pw) ∧ Below w'.heap.size w' w'') := fun w' hb => CSB.out i hin w' (below_on HB.out hb)
    have HS1 := Lib.hid (HSO.out i hin hz hno)
    generalize us A i = y at *
    obtain ⟨yn, ys, yl⟩ := y
    simp only at c0 c1 c2 CS HS1 HC
    have KV : Hid (Below w1.heap.size w1 w1) := Below.refl _ _
    clear hno hz HNN HSO b1 CSB c0 hlt
    go_upto_region 2 with fail
    go_region_held3 (fun w' => w'.cell? ⟨b, off + i * 3 + 1, none⟩ = some (.string ys) ∧ w'.cell? ⟨b, off + i * 3 + 2, none⟩ = some (.string yl))
      (((with_reducible refine HC.out _ ?_); focus ((repeat first | with_reducible assumption | with_reducible exact KV.out | with_reducible apply Below.drew | with_reducible apply p_drews); done)))
      (first
        | (go_at_call 6; (with_reducible refine (CS.out _ ?hb).mono ?hm); (case hb => (repeat first | with_reducible assumption | with_reducible exact KV.out | with_reducible apply Below.drew | with_reducible apply p_drews)); rintro e wr1 ⟨t, rfl, ht, br1⟩; have kr1 := fun h => below_on (B := w1.heap.size) (w := w1) h br1 (Nat.le_refl _); replace kr1 := kr1 (by (repeat first | with_reducible assumption | with_reducible exact KV.out | with_reducible apply Below.drew | with_reducible apply p_drews)); have SE2 := str_eq t yl; have HT := Lib.hid ht; clear br1 ht))
    by_cases hty : t = yl
    · have hr := HS1.out
      rw [if_pos (by rw [← hty]; exact HT.out)] at hr
      injection hr with hr1 hr2
      subst hr1 hr2
      have hq : decide (t = yl) = true := decide_eq_true hty
      have hq0 : decide ((ri : Int) < 0) = false := decide_eq_false (by omega)
      rw [hq, hq0]
      clear hq0
      have HBF := Lib.hid (below_on HB.out kr1)
      subst hty
      clear HS1 kr1 SE2 HT hq
      go_wp2_with fail
      exact bodyPost_ret (v := .tuple #[.int .i64 (ri : Nat), .bool true]) (by simp [results, Tryd.results11, go_sem]) rfl ⟨rfl, HBF.out⟩
    · have hr := HS1.out
      rw [if_neg (fun e => hty (bytesN_inj (HT.out.trans e.symm)))] at hr
      injection hr with hr1 hr2
      subst hr1 hr2
      have hq : decide (t = yl) = false := decide_eq_false hty
      have hq0 : decide ((i : Int) < 0) = false := decide_eq_false (by omega)
      rw [hq, hq0]
      clear hq0
      have HBF := Lib.hid (below_on HB.out kr1)
      clear HS1 kr1 SE2 HT
      go_wp2_with fail
      exact bodyPost_ret (v := .tuple #[.int .i64 0, .bool false]) (by simp [results, Tryd.results11, go_sem]) rfl ⟨rfl, HBF.out⟩
set_option maxHeartbeats 4000000 in
theorem pright_any {v : Value} {A : List Us} (w : World) (h : Users w v A) : Calls Tryd.prog 8 #[v] w fun e w' => e = .returned (.bool (rightU A)) ∧ Below w.heap.size w w' := by
  obtain ⟨a, cap, rfl, hl', hm⟩ := h.is_slice
  obtain ⟨n, hn⟩ : ∃ n, n = A.length := ⟨_, rfl⟩
  have HU : Hid (UsC w a n A) := h.cells (by omega)
  have HNO : Hid (∀ i, i < n → okAt A i = false → rightU A = false) := fun i hi h => right_no (by rw [← hn]; exact hi) h
  have HYE : Hid (1 ≤ n → n ≤ 8 → (∀ i, i < n → okAt A i = true) → rightU A = true) := fun h1 h8 h => right_yes (by omega) (by omega) (fun i hi => h i (by omega))
  have HBD : Hid (¬ (1 ≤ n ∧ n ≤ 8) → rightU A = false) := fun h => by
    unfold rightU
    rw [← hn]
    by_cases h1 : 1 ≤ n
    · rw [decide_eq_false (show ¬ n ≤ 8 by omega), Bool.and_false, Bool.false_and]
    · rw [decide_eq_false h1, Bool.false_and, Bool.false_and]
  rw [← hn] at hl' ⊢
  have HM := Lib.hid hm
  unfold maxLen at hm
  clear h
  obtain ⟨r, hr⟩ : ∃ r, r = rightU A := ⟨_, rfl⟩
  rw [← hr] at HNO HYE HBD ⊢
  clear hr hn
  go_enter Tryd.func8, Tryd.ntmps8
  by_cases h1 : (n : Int) < 1
  · have hr := HBD.out (by omega)
    go_wp2_with fail
    go_ret
    exact ⟨by first | rfl | (rw [hr]; rfl) | (rw [hr]; done), Below.refl _ _⟩
  by_cases h8 : 8 < (n : Int)
  · have hr := HBD.out (by omega)
    go_wp2_with fail
    go_ret
    exact ⟨by first | rfl | (rw [hr]; rfl) | (rw [hr]; done), Below.refl _ _⟩
  replace HYE := Lib.hid (HYE.out (by omega) (by omega))
  clear HBD
  go_wp2_with fail
  go_loopg [15] n (fun g i_ wr => ∃ (i : Nat), i ≤ n ∧ n - i ≤ g ∧ i_ = .int .i64 i ∧ Hid (∀ j, j < i → okAt A j = true) ∧ Below w.heap.size w wr)
  case atStart => exact ⟨0, by omega, by omega, rfl, fun j hj => absurd hj (by omega), Below.refl _ _⟩
  case round =>
    obtain ⟨i, hi, hg, rfl, HH, hbel⟩ := hrel
    have HB := Lib.hid hbel
    by_cases hin : i < n
    · have iw : ((i : Nat) : Int) < (n : Int) := by omega
      have n0 : (0 : Int) ≤ (i : Int) := by omega
      obtain ⟨b, off, rfl, hlt, c0, c1, c2⟩ := HU.out wr hbel i hin
      have HN := Lib.hid (HNO.out i hin)
      have HBAD : Hid (badU (us A i) = true → okAt A i = false) := ok_bad
      have HSAM : Hid (∀ k, k < i → (us A k).n = (us A i).n → okAt A i = false) := fun k hk h => ok_same hk h
      have HOK : Hid (badU (us A i) = false → (∀ k, k < i → (us A k).n ≠ (us A i).n) → okAt A i = true) := ok_yes
      have HH2 : Hid (okAt A i = true → ∀ j, j < i + 1 → okAt A j = true) := fun h j hj => by
        by_cases e : j = i
        · subst e; exact h
        · exact HH.out j (by omega)
      generalize us A i = y at *
      obtain ⟨yn, ys, yl⟩ := y
      simp only at c0 c1 c2 HSAM HOK
      have CRU : Hid (∀ w', Calls Tryd.prog 19 #[.agg #[.string yn, .string ys, .string yl]] w' fun e w'' => e = .returned (.bool (!badU ⟨yn, ys, yl⟩)) ∧ Below w'.heap.size w' w'') := fun w' => prightUser_any yn ys yl w'
      obtain ⟨bd, hbd⟩ : ∃ bd, bd = badU ⟨yn, ys, yl⟩ := ⟨_, rfl⟩
      rw [← hbd] at HBAD HOK CRU
      clear hbel hbd
      have CNA : Hid (∀ w', Below w.heap.size w w' → Calls Tryd.prog 20 #[.slice (some ⟨b, off, none⟩) i cap, .string yn] w' fun e w'' => ∃ r : Int, e = .returned (.int .i64 r) ∧ foundU A i yn r ∧ Below w'.heap.size w' w'') := fun w' hb => pnamed_any yn w' ((HU.out.take (by omega)).below hb) (by omega) HM.out
      go_upto_region 6 with fail
      obtain ⟨NB, hNB⟩ : ∃ NB, NB = wr.heap.size := ⟨_, rfl⟩
      obtain ⟨WY, hWY⟩ : ∃ WY, WY = wr.alloc (.cells #[.string yn, .string ys, .string yl] 27) := ⟨_, rfl⟩
      rw [← hWY, ← hNB]
      have BY : Hid (Below w.heap.size w WY) := by rw [hWY]; exact below_al HB.out _
      have PY : Hid (WY.heap[NB]? = some (.cells #[.string yn, .string ys, .string yl] 27 (0, 0))) := by show _ = _; rw [hWY, hNB]; exact heap_alloc_new _ _
      have HC3 : Hid (∀ w', Below WY.heap.size WY w' → w'.cell? ⟨NB, 0, none⟩ = some (.string yn) ∧ w'.cell? ⟨NB, 1, none⟩ = some (.string ys) ∧ w'.cell? ⟨NB, 2, none⟩ = some (.string yl)) := fun w' hb => three_cells ((hb.block _ (Array.getElem?_eq_some_iff.1 PY.out).1).trans PY.out)
      obtain ⟨d0, d1, d2⟩ := three_cells PY.out
      have KV : Hid (Below WY.heap.size WY WY) := Below.refl _ _
      clear hNB hWY c0 c1 c2
      have icap : (i : Int) ≤ (cap : Int) := by omega
      have icap2 : i ≤ cap := by omega
      go_cut [31] from 20 to 32 (fun x wx => ∃ q : Bool, x = .bool q ∧ Hid (okAt A i = !q) ∧ Hid (Below w.heap.size w wx))
      case first =>
        cases bd with
        | true =>
          have hr := HBAD.out rfl
          clear HBAD HOK HSAM HN HNO HYE CNA
          refine wp_region_held_drew (S := fun w' => w'.cell? ⟨NB, 0, none⟩ = some (.string yn) ∧ w'.cell? ⟨NB, 1, none⟩ = some (.string ys) ∧ w'.cell? ⟨NB, 2, none⟩ = some (.string yl)) (by kernel_rfl) ?_ (fun hHeld => ?_)
          focus ((try dsimp only); (refine HC3.out _ ?_; focus ((repeat first | with_reducible assumption | with_reducible exact KV.out | with_reducible apply Below.drew | with_reducible apply p_drews); done)); done)
          refine' wpAnyH_take (i := 0) (v := _) rfl (by kernel_rfl) (by kernel_rfl) (by kernel_rfl) (fun _ _ _ h => h) (Or.inl ⟨by rfl, ?hy1⟩) (by assumption) ?rest1
          case hy1 => (intro w hSw; (try dsimp only at hSw); go_simp; try with_reducible rfl)
          try simp only [Act.put, List.getElem_toArray, List.getElem_cons_zero, List.getElem_cons_succ, List.setIfInBounds_toArray, List.set_cons_zero, List.set_cons_succ]
          refine wpAnyH_ready (rs := [1]) (by kernel_rfl) (by simp) ?_
          refine AllReadyH.cons rfl (fun K hK => ?_) ?_
          · go_simp
            (go_at_call 19; (with_reducible refine (CRU.out _).mono ?_); rintro e wt ⟨rfl, bt⟩; have hkt := fun h => below_on (B := WY.heap.size) (w := WY) h bt (Nat.le_refl _); replace hkt := hkt (by (repeat first | with_reducible assumption | with_reducible exact KV.out | with_reducible apply Below.drew | with_reducible apply p_drews)); clear bt)
            go_wp2_with fail
            refine hK.out _ _ ?_ (fun hHeld => ?_)
            focus ((try dsimp only); (refine HC3.out _ ?_; focus ((repeat first | with_reducible assumption | with_reducible exact KV.out | with_reducible apply Below.drew | with_reducible apply p_drews); done)); done)
            clear hK K
            try simp only [Act.put, List.getElem_toArray, List.getElem_cons_zero, List.getElem_cons_succ, List.setIfInBounds_toArray, List.set_cons_zero, List.set_cons_succ]
            refine' wpAnyH_take (i := 2) (v := _) rfl (by kernel_rfl) (by kernel_rfl) (by kernel_rfl) (fun _ _ _ h => h) (Or.inl ⟨by rfl, ?hy2⟩) (by assumption) ?rest2
            case hy2 => (intro w hSw; (try dsimp only at hSw); go_simp; try with_reducible rfl)
            try simp only [Act.put, List.getElem_toArray, List.getElem_cons_zero, List.getElem_cons_succ, List.setIfInBounds_toArray, List.set_cons_zero, List.set_cons_succ]
            refine' wpAnyH_take (i := 3) (v := _) rfl (by kernel_rfl) (by kernel_rfl) (by kernel_rfl) (fun _ _ _ h => h) (Or.inl ⟨by rfl, ?hy3⟩) (by assumption) ?rest3
            case hy3 => (intro w hSw; (try dsimp only at hSw); go_simp; try with_reducible rfl)
            try simp only [Act.put, List.getElem_toArray, List.getElem_cons_zero, List.getElem_cons_succ, List.setIfInBounds_toArray, List.set_cons_zero, List.set_cons_succ]
            refine wpAnyH_take (i := 4) (v := undef) rfl (by kernel_rfl) (by kernel_rfl) (by kernel_rfl) (fun _ _ _ h => h) (Or.inr ⟨by rfl, rfl⟩) (by assumption) ?_
            try simp only [Act.put, List.getElem_toArray, List.getElem_cons_zero, List.getElem_cons_succ, List.setIfInBounds_toArray, List.set_cons_zero, List.set_cons_succ]
            refine wpAnyH_take (i := 5) (v := undef) rfl (by kernel_rfl) (by kernel_rfl) (by kernel_rfl) (fun _ _ _ h => h) (Or.inr ⟨by rfl, rfl⟩) (by assumption) ?_
            try simp only [Act.put, List.getElem_toArray, List.getElem_cons_zero, List.getElem_cons_succ, List.setIfInBounds_toArray, List.set_cons_zero, List.set_cons_succ]
            refine wpAnyH_take (i := 6) (v := undef) rfl (by kernel_rfl) (by kernel_rfl) (by kernel_rfl) (fun _ _ _ h => h) (Or.inr ⟨by rfl, rfl⟩) (by assumption) ?_
            try simp only [Act.put, List.getElem_toArray, List.getElem_cons_zero, List.getElem_cons_succ, List.setIfInBounds_toArray, List.set_cons_zero, List.set_cons_succ]
            refine wpAnyH_take (i := 7) (v := undef) rfl (by kernel_rfl) (by kernel_rfl) (by kernel_rfl) (fun _ _ _ h => h) (Or.inr ⟨by rfl, rfl⟩) (by assumption) ?_
            try simp only [Act.put, List.getElem_toArray, List.getElem_cons_zero, List.getElem_cons_succ, List.setIfInBounds_toArray, List.set_cons_zero, List.set_cons_succ]
            refine wpAnyH_take (i := 8) (v := undef) rfl (by kernel_rfl) (by kernel_rfl) (by kernel_rfl) (fun _ _ _ h => h) (Or.inr ⟨by rfl, rfl⟩) (by assumption) ?_
            try simp only [Act.put, List.getElem_toArray, List.getElem_cons_zero, List.getElem_cons_succ, List.setIfInBounds_toArray, List.set_cons_zero, List.set_cons_succ]
            refine wpAnyH_take (i := 9) (v := undef) rfl (by kernel_rfl) (by kernel_rfl) (by kernel_rfl) (fun _ _ _ h => h) (Or.inr ⟨by rfl, rfl⟩) (by assumption) ?_
            try simp only [Act.put, List.getElem_toArray, List.getElem_cons_zero, List.getElem_cons_succ, List.setIfInBounds_toArray, List.set_cons_zero, List.set_cons_succ]
            refine wpAnyH_take (i := 10) (v := undef) rfl (by kernel_rfl) (by kernel_rfl) (by kernel_rfl) (fun _ _ _ h => h) (Or.inr ⟨by rfl, rfl⟩) (by assumption) ?_
            try simp only [Act.put, List.getElem_toArray, List.getElem_cons_zero, List.getElem_cons_succ, List.setIfInBounds_toArray, List.set_cons_zero, List.set_cons_succ]
            refine' wpAnyH_take (i := 11) (v := _) rfl (by kernel_rfl) (by kernel_rfl) (by kernel_rfl) (fun _ _ _ h => h) (Or.inl ⟨by rfl, ?hy4⟩) (by assumption) ?rest4
            case hy4 => (intro w hSw; (try dsimp only at hSw); go_simp; try with_reducible rfl)
            try simp only [Act.put, List.getElem_toArray, List.getElem_cons_zero, List.getElem_cons_succ, List.setIfInBounds_toArray, List.set_cons_zero, List.set_cons_succ]
            refine wpAnyH_done (by kernel_rfl) ?_ _
            go_wp2_with fail
            go_meet
            exact ⟨true, by first | rfl | (simp; done), Lib.hid (by rw [hr]; rfl), Lib.hid (below_on BY.out hkt)⟩
          exact AllReadyH.nil
        | false =>
          have HOK2 := Lib.hid (HOK.out rfl)
          clear HBAD HOK HN HNO HYE
          go_region_held3 (fun w' => w'.cell? ⟨NB, 0, none⟩ = some (.string yn) ∧ w'.cell? ⟨NB, 1, none⟩ = some (.string ys) ∧ w'.cell? ⟨NB, 2, none⟩ = some (.string yl))
            ((refine HC3.out _ ?_; focus ((repeat first | with_reducible assumption | with_reducible exact KV.out | with_reducible apply Below.drew | with_reducible apply p_drews); done)))
            (first
              | (go_at_call 19; (with_reducible refine (CRU.out _).mono ?_); rintro e wt ⟨rfl, bt⟩; have hkt := fun h => below_on (B := WY.heap.size) (w := WY) h bt (Nat.le_refl _); replace hkt := hkt (by (repeat first | with_reducible assumption | with_reducible exact KV.out | with_reducible apply Below.drew | with_reducible apply p_drews)); clear bt)
              | (go_at_call 20; (with_reducible refine (CNA.out _ ?hb).mono ?hm); (case hb => (refine below_on BY.out ?_; (repeat first | with_reducible assumption | with_reducible exact KV.out | with_reducible apply Below.drew | with_reducible apply p_drews))); rintro e wu ⟨r, rfl, hf, bu⟩; have hku := fun h => below_on (B := WY.heap.size) (w := WY) h bu (Nat.le_refl _); replace hku := hku (by (repeat first | with_reducible assumption | with_reducible exact KV.out | with_reducible apply Below.drew | with_reducible apply p_drews)); replace hf := Lib.hid hf; clear bu))
          all_goals go_wp2_with fail
          all_goals go_meet
          refine ⟨decide (0 ≤ r), rfl, Lib.hid ?_, Lib.hid (below_on BY.out hku)⟩
          rcases hf.out with ⟨rfl, hno⟩ | ⟨k, rfl, hk, hz, _⟩
          · rw [HOK2.out hno]
            rfl
          · rw [HSAM.out k hk hz, decide_eq_true (by omega)]
            rfl
      case rest =>
        obtain ⟨q, rfl, HQ, HBq⟩ := hcut
        cases q with
        | true =>
          have hr := HN.out HQ.out
          clear HNO HYE HBAD HSAM HOK HH2 HN CRU CNA
          go_wp2_with fail
          go_ret
          exact ⟨by first | rfl | (rw [hr]; rfl) | (rw [hr]; done), HBq.out⟩
        | false =>
          have HH3 := Lib.hid (HH2.out HQ.out)
          clear HNO HYE HBAD HSAM HOK HH2 HN CRU CNA
          go_wp2_with fail
          go_roundg (n - (i + 1))
          case measure => omega
          case rel => exact ⟨i + 1, by omega, Nat.le_refl _, by go_num, HH3, HBq.out⟩
    · obtain rfl : i = n := by omega
      have iw : ¬ ((i : Int) < (i : Int)) := by omega
      have hr := HYE.out HH.out
      clear hbel
      go_wp2_with fail
      go_ret
      exact ⟨by first | rfl | (rw [hr]; rfl) | (rw [hr]; done), HB.out⟩
end Go.Proofs.YtknefflbkaaooaaDoor.Slt
