/- Audit: Sees of the plain text; the law's small. -/
import Derived.Test.YtfahfjhibffdkaaEn
import Derived.Test.YtfahfjhibffdkaaBx
import Derived.Deep.RegionHeld3
import Derived.Deep.DeepCutAuto
import Derived.Deep.CutBlock
import Derived.Deep.LoopGhost
import Derived.BigQuiet
set_option linter.unusedVariables false
set_option linter.unusedSimpArgs false
set_option maxRecDepth 100000
namespace Go.Proofs.Ytfahfjhibffdkaa.Aud
open Go.RowKit Go.Lib Go.Proofs.Ytfahfjhibffdkaa.Rig Go.Proofs.Ytfahfjhibffdkaa.Rt Go.Proofs.Ytfahfjhibffdkaa.Bx

/-- May a user see an entry? -/
def seesB (M : List Lb) (u : Int) (y : En) : Bool := (y.u == u) || y.L.all fun i => mayB M u i false
theorem all_at {xs : List Int} {f : Int → Bool} (h : ∀ j, j < xs.length → f (at_ xs j) = true) : xs.all f = true := by
  rw [List.all_eq_true]
  intro x hx
  obtain ⟨j, hj, rfl⟩ := List.getElem_of_mem hx
  have := h j hj
  unfold at_ at this
  rw [List.getD_eq_getElem?_getD, List.getElem?_eq_getElem hj] at this
  exact this
theorem all_not {xs : List Int} {f : Int → Bool} {j : Nat} (hj : j < xs.length) (h : f (at_ xs j) = false) : xs.all f = false := by
  rw [Bool.eq_false_iff]
  intro h'
  rw [List.all_eq_true] at h'
  have := h' _ (at_mem hj)
  rw [h] at this
  cases this
set_option maxHeartbeats 8000000 in
theorem rsees_any {v : Value} {M : List Lb} (u : Int) {y : En} {sv ev : Value} {P : Nat → Prop} (w : World) (h : Labs w v M) (hu : i64 u) (hy : EnP P w [.int .i64 y.u, .int .i64 y.o, .int .i64 y.s, sv, ev] y) :
    Calls Try.prog 15 #[v, .int .i64 u, .agg #[.int .i64 y.u, .int .i64 y.o, .int .i64 y.s, sv, ev]] w fun e w' => e = .returned (.bool (seesB M u y)) ∧ Below w.heap.size w w' := by
  obtain ⟨sv', lv', e, ⟨i1, i2, i3⟩, hS, hL⟩ := hy
  obtain ⟨rfl, rfl⟩ : sv = sv' ∧ ev = lv' := by simpa using e
  obtain ⟨sa, sc, rfl⟩ := hS.1.is_slice
  obtain ⟨ia, ic, rfl, il, ib, hI⟩ := hL.1.open_
  obtain ⟨yu, yo, ys, S, L⟩ := y
  simp only at i1 i2 i3 hI il ⊢
  unfold i64 at i1 i2 i3
  obtain ⟨m, hm⟩ : ∃ m, m = L.length := ⟨_, rfl⟩
  obtain ⟨sn, hsn⟩ : ∃ sn, sn = S.length := ⟨_, rfl⟩
  rw [← hm] at il ⊢
  rw [← hsn]
  have HM := Lib.hid hm
  have HLI := Lib.hid hI
  have CM : Hid (∀ (i : Int) (w' : World), i64 i → Below w.heap.size w w' → Calls Try.prog 17 #[v, .int .i64 u, .int .i64 i, .bool false] w' fun e w'' => e = .returned (.bool (mayB M u i false)) ∧ Below w'.heap.size w' w'') := fun i w' hi hb => rmay_any u i false w' (h.below hb (Nat.le_refl _)) hu hi
  have HF : Hid ((yu == u) = true → seesB M u ⟨yu, yo, ys, S, L⟩ = true) := fun h => by unfold seesB; rw [h]; rfl
  have HT : Hid ((yu == u) = false → (∀ j, j < m → mayB M u (at_ L j) false = true) → seesB M u ⟨yu, yo, ys, S, L⟩ = true) := fun h h' => by
    unfold seesB
    rw [h, Bool.false_or]
    exact all_at (fun j hj => h' j (by rw [hm]; exact hj))
  have HN : Hid ((yu == u) = false → ∀ j, j < m → mayB M u (at_ L j) false = false → seesB M u ⟨yu, yo, ys, S, L⟩ = false) := fun h j hj h' => by
    unfold seesB
    rw [h, Bool.false_or]
    exact all_not (by rw [← hm]; exact hj) h'
  obtain ⟨r, hr⟩ : ∃ r, r = seesB M u ⟨yu, yo, ys, S, L⟩ := ⟨_, rfl⟩
  rw [← hr] at HF HT HN ⊢
  obtain ⟨va, vc, rfl, _⟩ := h
  obtain ⟨nM, hnM⟩ : ∃ nM, nM = M.length := ⟨_, rfl⟩
  rw [← hnM] at CM ⊢
  obtain ⟨B0, R0, L0⟩ := box1 w #[.int .i64 yu, .int .i64 yo, .int .i64 ys, .slice sa sn sc, .slice ia m ic] 25
  obtain ⟨W0, hW0⟩ : ∃ W0, W0 = w.alloc (.cells #[.int .i64 yu, .int .i64 yo, .int .i64 ys, .slice sa sn sc, .slice ia m ic] 25) := ⟨_, rfl⟩
  rw [← hW0] at B0 R0 L0
  have HB0 := Lib.hid B0
  have HW0 := Lib.hid hW0
  obtain ⟨b4, hb4⟩ : ∃ b4, b4 = w.heap.size := ⟨_, rfl⟩
  rw [← hb4] at R0 L0
  have HL4 : Hid (b4 < W0.heap.size) := by show _ < _; omega
  have BX : Hid (∀ w', Below W0.heap.size W0 w' → w'.cell? ⟨b4, 0, none⟩ = some (.int .i64 yu) ∧ w'.cell? ⟨b4, 4, none⟩ = some (.slice ia m ic)) := fun w' hb => by
    obtain ⟨h0, _, _, _, h4⟩ := five_cells ((hb.block _ HL4.out).trans R0)
    exact ⟨h0, h4⟩
  clear e hS hL hI hu hm hsn hr hnM hW0 B0 R0 L0
  go_enter Try.func15, Try.ntmps15
  go_upto_region 1 with fail
  rw [← hb4, ← HW0.out]
  clear hb4
  obtain ⟨z0, z4⟩ := BX.out W0 (Below.refl _ _)
  cases hq : (yu == u) with
  | true =>
    have hr := HF.out hq
    go_wp2_with fail
    go_ret
    exact ⟨by first | rfl | (simp [hr]; done) | (simp; done), HB0.out⟩
  | false =>
    replace HT := Lib.hid (HT.out hq)
    replace HN := Lib.hid (HN.out hq)
    clear HF
    go_wp2_with fail
    clear hq z0 z4
    go_loopg [7] m (fun g i wr => ∃ k : Nat, k ≤ m ∧ m - k ≤ g ∧ i = .int .i64 k ∧ Hid (∀ j, j < k → mayB M u (at_ L j) false = true) ∧ Below W0.heap.size W0 wr)
    case atStart => exact ⟨0, Nat.zero_le _, by omega, rfl, fun j hj => absurd hj (by omega), Below.refl _ _⟩
    case round =>
      obtain ⟨k, hk, hg, rfl, OK, hbel⟩ := hrel
      have HB := Lib.hid hbel
      have HBw := Lib.hid (below_more HB0.out hbel)
      obtain ⟨z0, z4⟩ := BX.out wr hbel
      by_cases hlt : k < m
      · have hkl : k < L.length := by rw [← HM.out]; exact hlt
        obtain ⟨ib2, io, rfl, ilt, xi, ci⟩ := HLI.out k hkl
        replace ci := vcell (below_more HB0.out hbel) ilt ci
        have CM1 := Lib.hid (CM.out (at_ L k) wr xi HBw.out)
        have hN := Lib.hid (HN.out k hlt)
        have hY : Hid (mayB M u (at_ L k) false = true → ∀ j, j < k + 1 → mayB M u (at_ L j) false = true) := fun hy j hj => by
          by_cases e : j = k
          · subst e; exact hy
          · exact OK.out j (by omega)
        generalize at_ L k = x at *
        obtain ⟨mb, hmb⟩ : ∃ mb, mb = mayB M u x false := ⟨_, rfl⟩
        rw [← hmb] at CM1 hN hY
        have i1 : (k : Int) < (m : Int) := by omega
        clear hbel HLI hmb
        go_wp2_with fail
        refine (CM1.out).mono ?_
        rintro e w2 ⟨rfl, b2⟩
        have K2 := Lib.hid (below_more HB.out b2)
        clear b2 CM1 z0 z4 ci
        cases mb with
        | false =>
          have hr := hN.out rfl
          clear hN hY
          go_wp2_with fail
          go_ret
          exact ⟨by first | rfl | (simp [hr]; done) | (simp; done), below_more HB0.out K2.out⟩
        | true =>
          have OK2 := Lib.hid (hY.out rfl)
          clear hN hY
          go_wp2_with fail
          go_roundg (m - (k + 1))
          case measure => omega
          case rel => exact ⟨k + 1, by omega, Nat.le_refl _, by go_num, OK2, K2.out⟩
      · obtain rfl : k = m := by omega
        have i1 : ¬ (k : Int) < (k : Int) := by omega
        have hr := HT.out OK.out
        clear hbel OK
        go_wp2_with fail
        go_ret
        exact ⟨by first | rfl | (simp [hr]; done) | (simp; done), HBw.out⟩
def smallE (A : List En) : Bool := decide ((∀ y ∈ A, y.S.length ≤ 20 ∧ y.L.length ≤ 20) ∧ A.length ≤ 300)
set_option maxHeartbeats 8000000 in
theorem esmall_any {v : Value} {A : List En} {P : Nat → Prop} (w : World) (h : EnsP P w v A) :
    Calls Try.prog 8 #[v] w fun e w' => e = .returned (.bool (smallE A)) ∧ Below w.heap.size w w' := by
  obtain ⟨a, cap, rfl, hl, hm⟩ := h.is_slice
  obtain ⟨n, hn⟩ : ∃ n, n = A.length := ⟨_, rfl⟩
  have HE : Hid (∀ w', Below w.heap.size w w' → EnsP P w' (.slice a n cap) A) := fun w' hb => by rw [hn]; exact h.below hb
  rw [← hn] at hl ⊢
  unfold maxLen at hm
  have HN := Lib.hid hn
  have NO : Hid (∀ k (hk : k < A.length), ¬ (A[k].S.length ≤ 20 ∧ A[k].L.length ≤ 20) → smallE A = false) := fun k hk h => decide_eq_false fun hc => h (hc.1 _ (List.getElem_mem hk))
  have YES : Hid ((∀ k (hk : k < A.length), A[k].S.length ≤ 20 ∧ A[k].L.length ≤ 20) → smallE A = decide (n ≤ 300)) := fun h => by
    unfold smallE
    rw [hn]
    refine decide_eq_decide.2 ⟨fun h => h.2, fun h' => ⟨fun y hy => ?_, h'⟩⟩
    obtain ⟨k, hk, rfl⟩ := List.getElem_of_mem hy
    exact h k hk
  obtain ⟨r, hr⟩ : ∃ r, r = smallE A := ⟨_, rfl⟩
  rw [← hr] at NO YES ⊢
  clear h hn hr
  go_enter Try.func8, Try.ntmps8
  go_wp2_with fail
  go_loopg [7] n (fun g i wr => ∃ k : Nat, k ≤ n ∧ n - k ≤ g ∧ i = .int .i64 k ∧ Hid (∀ j (hj : j < A.length), j < k → A[j].S.length ≤ 20 ∧ A[j].L.length ≤ 20) ∧ Below w.heap.size w wr)
  case atStart => exact ⟨0, Nat.zero_le _, by omega, rfl, fun j hj h => absurd h (by omega), Below.refl _ _⟩
  case round =>
    obtain ⟨k, hk, hg, rfl, OK, hbel⟩ := hrel
    have HB := Lib.hid hbel
    by_cases hlt : k < n
    · have hkl : k < A.length := by rw [← HN.out]; exact hlt
      obtain ⟨b, off, sa, sn, sc, la', ln, lc, rfl, hb, hv, c0, c1, c2, c3, c4, hsn, hln⟩ := (HE.out _ hbel).get hkl
      have hN := Lib.hid (NO.out k hkl)
      have hY : Hid (A[k].S.length ≤ 20 ∧ A[k].L.length ≤ 20 → ∀ j (hj : j < A.length), j < k + 1 → A[j].S.length ≤ 20 ∧ A[j].L.length ≤ 20) := fun hy j hj h => by
        by_cases e : j = k
        · subst e; exact hy
        · exact OK.out j hj (by omega)
      rw [← hsn, ← hln] at hN hY
      have hs1 : sn ≤ 9223372036854775807 := by
        obtain ⟨_, _, e, _, h1, h2⟩ := hv
        obtain ⟨rfl, rfl⟩ : _ ∧ _ := by simpa using e
        obtain ⟨_, _, e, h3, h4, _⟩ := h1.1.open_
        injection e with _ e _
        omega
      have hs2 : ln ≤ 9223372036854775807 := by
        obtain ⟨_, _, e, _, h1, h2⟩ := hv
        obtain ⟨rfl, rfl⟩ : _ ∧ _ := by simpa using e
        obtain ⟨_, _, e, h3, h4, _⟩ := h2.1.open_
        injection e with _ e _
        omega
      generalize A[k] = y at *
      obtain ⟨yu, yo, ys, S, L⟩ := y
      simp only at c0 c1 c2 c3 c4
      obtain ⟨B1, R1, L1⟩ := box1 wr #[.int .i64 yu, .int .i64 yo, .int .i64 ys, .slice sa sn sc, .slice la' ln lc] 25
      have HBB := Lib.hid (below_more HB.out B1)
      have i1 : (k : Int) < (n : Int) := by omega
      clear hbel hv hsn hln B1 R1 L1 OK HE
      by_cases q1 : 20 < sn
      · have R := hN.out (by omega)
        clear hN hY
        go_wp2_with fail
        go_ret
        exact ⟨by first | rfl | (simp [R]; done) | (simp; done), HBB.out⟩
      by_cases q2 : 20 < ln
      · have R := hN.out (by omega)
        clear hN hY
        go_wp2_with fail
        go_ret
        exact ⟨by first | rfl | (simp [R]; done) | (simp; done), HBB.out⟩
      have OK2 := Lib.hid (hY.out ⟨by omega, by omega⟩)
      clear hN hY
      go_wp2_with fail
      go_roundg (n - (k + 1))
      case measure => omega
      case rel => exact ⟨k + 1, by omega, Nat.le_refl _, by go_num, OK2, HBB.out⟩
    · obtain rfl : k = n := by omega
      have i1 : ¬ (k : Int) < (k : Int) := by omega
      have R := YES.out fun j hj => OK.out j hj (by rw [HN.out]; exact hj)
      have e : decide (k ≤ 300) = decide ((k : Int) ≤ 300) := decide_eq_decide.2 (by omega)
      rw [e] at R
      have HR := Lib.hid R
      clear hbel OK e R
      go_wp2_with fail
      go_ret
      exact ⟨by first | rfl | (rw [HR.out]; simp; done) | (simp; done), HB.out⟩
end Go.Proofs.Ytfahfjhibffdkaa.Aud
