/- Audit: Add of the program. -/
import Derived.Test.YtfahfjhibffdkaaEq
import Derived.Test.YtfahfjhibffdkaaEx
import Derived.OwnWalk
set_option linter.unusedVariables false
set_option linter.unusedSimpArgs false
set_option maxRecDepth 100000
namespace Go.Proofs.Ytfahfjhibffdkaa.Aud
open Go.RowKit Go.Lib Go.Proofs.Ytfahfjhibffdkaa.Rig Go.Proofs.Ytfahfjhibffdkaa.Rt Go.Proofs.Ytfahfjhibffdkaa.Bx

/-- No entry's lists are long. -/
def Short (A : List En) : Prop := ∀ y ∈ A, y.S.length ≤ 1000 ∧ y.L.length ≤ 1000
/-- A row of the call's own with one entry more, which was made behind the row: what the append asks, and gives. -/
theorem OEn.one {base : Nat} {w2 : World} {v : Value} {A : List En} {y : En} {s l : Value} {N : Nat} (h : OEn (base ≤ ·) base w2 v A) (hy : EnP (N ≤ ·) w2 [.int .i64 y.u, .int .i64 y.o, .int .i64 y.s, s, l] y) (hN : ∀ g, v.ownBlock = some g → g < N) (hbN : base ≤ N) (hA : A.length ≤ 20000) (hs : base ≤ w2.heap.size) :
    ∃ xs : List (List Value), xs.length = A.length ∧ Rk.OwnK 25 5 base (w2.alloc (.cells #[.int .i64 y.u, .int .i64 y.o, .int .i64 y.s, s, l] 25)) v xs ∧
    Rk.RowK 5 (w2.alloc (.cells #[.int .i64 y.u, .int .i64 y.o, .int .i64 y.s, s, l] 25)) (.slice (some ⟨w2.heap.size, 0, none⟩) 1 1) [[.int .i64 y.u, .int .i64 y.o, .int .i64 y.s, s, l]] ∧
    (∀ z ∈ [[Value.int .i64 y.u, .int .i64 y.o, .int .i64 y.s, s, l]], ∀ q ∈ z, q.oneCell' = true) ∧ xs.length + 1 ≤ 100000 ∧ base ≤ (w2.alloc (.cells #[.int .i64 y.u, .int .i64 y.o, .int .i64 y.s, s, l] 25)).heap.size ∧
    ∀ v6 w9, Rk.OwnK 25 5 base w9 v6 (xs ++ [[.int .i64 y.u, .int .i64 y.o, .int .i64 y.s, s, l]]) → (w2.alloc (.cells #[.int .i64 y.u, .int .i64 y.o, .int .i64 y.s, s, l] 25)).grownBy w9 v.ownBlock → (v6.ownBlock = v.ownBlock ∨ v6.ownBlock = some (w2.alloc (.cells #[.int .i64 y.u, .int .i64 y.o, .int .i64 y.s, s, l] 25)).heap.size) →
      OEn (base ≤ ·) base w9 v6 (A ++ [y]) ∧ ∀ W0 : World, W0.heap.size = base → Below W0.heap.size W0 w2 → Below W0.heap.size W0 w9 := by
  obtain ⟨xs, hxl, A1, K0⟩ := (h.below (below_al (Below.refl _ _) (.cells #[.int .i64 y.u, .int .i64 y.o, .int .i64 y.s, s, l] 25))).row
  have hy1 := hy.below (below_al (Below.refl _ _) (.cells #[.int .i64 y.u, .int .i64 y.o, .int .i64 y.s, s, l] 25))
  have hsz : w2.heap.size ≤ (w2.alloc (.cells #[.int .i64 y.u, .int .i64 y.o, .int .i64 y.s, s, l] 25)).heap.size := by simp
  refine ⟨xs, hxl, A1, Rk.row_one (e := 25) (heap_alloc_new _ _) rfl, fun z hz => ?_, by omega, by omega, fun v6 w9 h5 g5 k5 => ⟨?_, fun W0 hW hb => ?_⟩⟩
  · simp only [List.mem_singleton] at hz
    subst hz
    exact hy.one
  · refine K0 [(_, y)] v6 w9 h5 g5 k5 fun x hx => ?_
    simp only [List.mem_singleton] at hx
    subst hx
    exact hy1.mono fun b _ h => ⟨Nat.le_trans hbN h, fun e => by have h' := hN b e.symm; have : N ≤ b := h; omega⟩
  · subst hW
    exact A1.belowOf (below_al hb _) (Nat.le_refl _) (Nat.le_trans hs hsz) g5

set_option maxHeartbeats 8000000 in
theorem add_any {sv : Value} {A : List En} {y : En} {s l : Value} {P : Nat → Prop} (most : Int) (w : World) (hA : EnsP P w sv A) (hy : EnP P w [.int .i64 y.u, .int .i64 y.o, .int .i64 y.s, s, l] y) (hn : A.length ≤ 10000) (r1 : i64 most) (hsA : Short A) (hsy : Short [y]) :
    Calls Try.prog 7 #[sv, .agg #[.int .i64 y.u, .int .i64 y.o, .int .i64 y.s, s, l], .int .i64 most] w (GiveAd A y most w) := by
  have hy0 := hy
  obtain ⟨s', l', e, hi, hS, hL⟩ := hy
  obtain ⟨rfl, rfl⟩ : s = s' ∧ l = l' := by simpa using e
  obtain ⟨sa, sc, rfl⟩ := hS.1.is_slice
  obtain ⟨ia, ic, rfl⟩ := hL.1.is_slice
  obtain ⟨yu, yo, ys, S, L⟩ := y
  simp only at hy0 ⊢
  obtain ⟨sn, hsn⟩ : ∃ sn, sn = S.length := ⟨_, rfl⟩
  obtain ⟨ln, hln⟩ : ∃ ln, ln = L.length := ⟨_, rfl⟩
  rw [← hsn, ← hln] at hy0 ⊢
  obtain ⟨a, cap, rfl, hl, hm⟩ := hA.is_slice
  obtain ⟨n, hnA⟩ : ∃ n, n = A.length := ⟨_, rfl⟩
  obtain ⟨B0, R0, L0⟩ := box1 w #[.int .i64 yu, .int .i64 yo, .int .i64 ys, .slice sa sn sc, .slice ia ln ic] 25
  obtain ⟨W0, hW0⟩ : ∃ W0, W0 = w.alloc (.cells #[.int .i64 yu, .int .i64 yo, .int .i64 ys, .slice sa sn sc, .slice ia ln ic] 25) := ⟨_, rfl⟩
  rw [← hW0] at B0 R0 L0
  have HB0 := Lib.hid B0
  have HW0 := Lib.hid hW0
  obtain ⟨b4, hb4⟩ : ∃ b4, b4 = w.heap.size := ⟨_, rfl⟩
  rw [← hb4] at R0 L0
  have HL4 : Hid (b4 < W0.heap.size) := by show _ < _; omega
  have BX : Hid (∀ w', Below W0.heap.size W0 w' → w'.cell? ⟨b4, 0, none⟩ = some (.int .i64 yu) ∧ w'.cell? ⟨b4, 1, none⟩ = some (.int .i64 yo) ∧ w'.cell? ⟨b4, 2, none⟩ = some (.int .i64 ys) ∧ w'.cell? ⟨b4, 3, none⟩ = some (.slice sa sn sc) ∧ w'.cell? ⟨b4, 4, none⟩ = some (.slice ia ln ic)) := fun w' hb =>
    five_cells ((hb.block _ HL4.out).trans R0)
  have HE : Hid (∀ w', Below W0.heap.size W0 w' → EnsP P w' (.slice a n cap) A) := fun w' hb => by rw [hnA]; exact hA.below (below_more HB0.out hb)
  have CO : Hid (∀ (z : En) (s l : Value) (w' : World), EnP P w' [.int .i64 z.u, .int .i64 z.o, .int .i64 z.s, s, l] z → z.S.length ≤ 1000 → z.L.length ≤ 1000 → Calls Try.prog 19 #[.agg #[.int .i64 z.u, .int .i64 z.o, .int .i64 z.s, s, l]] w' (GiveOne z w')) := fun z s l w' h h1 h2 => own_any w' h h1 h2
  have CY : Hid (∀ w', Below W0.heap.size W0 w' → Calls Try.prog 19 #[.agg #[.int .i64 yu, .int .i64 yo, .int .i64 ys, .slice sa sn sc, .slice ia ln ic]] w' (GiveOne ⟨yu, yo, ys, S, L⟩ w')) := fun w' hb =>
    own_any (y := ⟨yu, yo, ys, S, L⟩) w' (hy0.below (below_more HB0.out hb)) (hsy _ (List.mem_singleton.2 rfl)).1 (hsy _ (List.mem_singleton.2 rfl)).2
  have HSA := Lib.hid hsA
  have KZ : Hid (Below W0.heap.size W0 W0) := Below.refl _ _
  rw [← hnA] at hl hn ⊢
  unfold maxLen at hm
  have HNA := Lib.hid hnA
  obtain ⟨i0, hi0, hz0, hz1, hz2⟩ := info_parts infoEn
  have M1 : Hid (i0.bytes * (n + 1) ≤ 281474976710656) := by show _ ≤ _; rw [hz2]; omega
  have M2 : Hid (n + 1 ≤ maxLen) := by show _ ≤ _; unfold maxLen; omega
  clear e hi hS hL hy0 hsn hln hW0 B0 R0 L0 hnA hA hsA hsy
  go_enter Try.func7, Try.ntmps7
  go_upto_region 1 with fail
  rw [← hb4, ← HW0.out]
  clear hb4
  go_upto_region 2 with fail
  have HR : Hid (decide ((n : Int) < most) = true → (A.length : Int) < most) := fun h => by rw [← HNA.out]; exact of_decide_eq_true h
  have HR' : Hid (decide ((n : Int) < most) = false → ¬ (A.length : Int) < most) := fun h => by rw [← HNA.out]; exact of_decide_eq_false h
  have HRr : Hid (decide ((A.length : Int) < most) = decide ((n : Int) < most)) := by show _ = _; rw [← HNA.out]
  generalize decide ((n : Int) < most) = r at *
  go_wp2_with (at_make; refine wpList_make_own _ rfl _ _ 22 rfl W0.heap.size 25 i0 _ 5 Try.underlying22 hi0 hz0 hz1 .i64 .i64 _ (n + 1) rfl rfl (by first | rfl | (simp; done) | omega) M1.out M2.out (Nat.le_refl _) ?_)
  intro w1 h1 g1
  have K1 : Hid (OEn (W0.heap.size ≤ ·) W0.heap.size w1 (.slice (some ⟨W0.heap.size, 0, none⟩) 0 (n + 1)) []) := ⟨[], rfl, ⟨fun x hx => by simp at hx, h1⟩, fun x hx => by simp at hx⟩
  have BW1 : Hid (Below W0.heap.size W0 w1) := KZ.out.grown g1 (Nat.le_refl _) (fun q e => by simp at e)
  clear h1 g1 M1 M2 hi0 hz0 hz1 hz2
  go_wp2_with fail
  go_loopg [9, 22] n (fun g t i wr => ∃ k : Nat, k ≤ n ∧ n - k ≤ g ∧ i = .int .i64 k ∧ Hid (OEn (W0.heap.size ≤ ·) W0.heap.size wr t (A.take k)) ∧ Below W0.heap.size W0 wr)
  case atStart => exact ⟨0, Nat.zero_le _, by omega, rfl, K1, BW1.out⟩
  case round =>
    obtain ⟨k, hk, hg, rfl, HO, hbel⟩ := hrel
    have HB := Lib.hid hbel
    obtain ⟨ao, co, rfl⟩ := HO.out.is_slice
    obtain ⟨mk, hmk⟩ : ∃ mk, mk = (A.take k).length := ⟨_, rfl⟩
    have LK : Hid (mk ≤ 10000) := by show _ ≤ _; rw [hmk, List.length_take]; omega
    rw [← hmk] at HO ⊢
    clear hmk
    by_cases hlt : k < n
    · have hkl : k < A.length := by rw [← HNA.out]; exact hlt
      obtain ⟨b, off, ta, tn, tc, la', lm, lc, rfl, hb, hv, c0, c1, c2, c3, c4, q1, q2⟩ := (HE.out _ hbel).get hkl
      have EQ : Hid (A.take (k + 1) = A.take k ++ [A[k]]) := List.take_succ_eq_append_getElem hkl
      obtain ⟨z1, z2⟩ := HSA.out _ (List.getElem_mem hkl)
      generalize A[k] = y at *
      obtain ⟨zu, zo, zs, zS, zL⟩ := y
      simp only at c0 c1 c2 c3 c4 hv z1 z2
      have BA := below_al (Below.refl wr.heap.size wr) (.cells #[.int .i64 zu, .int .i64 zo, .int .i64 zs, .slice ta tn tc, .slice la' lm lc] 25)
      obtain ⟨WA, hWA⟩ : ∃ WA, WA = wr.alloc (.cells #[.int .i64 zu, .int .i64 zo, .int .i64 zs, .slice ta tn tc, .slice la' lm lc] 25) := ⟨_, rfl⟩
      have CZ : Hid (Calls Try.prog 19 #[.agg #[.int .i64 zu, .int .i64 zo, .int .i64 zs, .slice ta tn tc, .slice la' lm lc]] WA (GiveOne ⟨zu, zo, zs, zS, zL⟩ WA)) := CO.out ⟨zu, zo, zs, zS, zL⟩ _ _ _ (hWA ▸ hv.below BA) z1 z2
      have RA : WA.heap[wr.heap.size]? = some (.cells #[.int .i64 zu, .int .i64 zo, .int .i64 zs, .slice ta tn tc, .slice la' lm lc] 25 (0, 0)) := by rw [hWA]; exact heap_alloc_new _ _
      rw [← hWA] at BA
      obtain ⟨u0, u1, u2, u3, u4⟩ := five_cells RA
      have HWA := Lib.hid hWA
      have HOA : Hid (OEn (W0.heap.size ≤ ·) W0.heap.size WA (.slice ao mk co) (A.take k)) := HO.out.below BA
      have HBA := Lib.hid (below_more hbel BA)
      have ilt : (k : Int) < (n : Int) := by omega
      have HLt := HOA.out.own
      clear hbel HO BA hWA RA z1 z2 q1 q2 hv
      go_wp2_with fail
      rw [← HWA.out]
      refine CZ.out.mono ?_
      rintro e w2 ⟨sv, lv, rfl, E2, b2⟩
      have E2' := E2
      obtain ⟨_, _, e2, _, e3, e4⟩ := E2'
      obtain ⟨rfl, rfl⟩ : sv = _ ∧ lv = _ := by simpa using e2
      obtain ⟨xa, xc, rfl⟩ := e3.1.is_slice
      obtain ⟨ya, yc, rfl⟩ := e4.1.is_slice
      clear e2 e3 e4
      have HB2 := Lib.hid (below_more HBA.out b2)
      have HLT2 : ∀ g, (Value.slice ao mk co).ownBlock = some g → g < WA.heap.size := fun g h => (HLt g h).2
      obtain ⟨xs, hxl, A1, A2, A3, A4, A5, K0⟩ := (HOA.out.below b2).one E2 HLT2 HBA.out.size (by rw [List.length_take]; omega) HB2.out.size
      replace A1 := Lib.hid A1
      replace A2 := Lib.hid A2
      replace A3 := Lib.hid A3
      replace A4 := Lib.hid A4
      replace A5 := Lib.hid A5
      have KN := Lib.hid K0
      simp only at A1 A2 A3 A5 KN
      clear E2 b2 hxl K0 HLT2 HLt CZ u0 u1 u2 u3 u4 HWA c0 c1 c2 c3 c4 HOA HBA
      generalize zS.length = tn2 at *
      generalize zL.length = lm2 at *
      go_wp2_with (at_builtin; refine Rk.wpList_append_rowk rfl _ _ 22 25 5 72 _ Try.underlying22 infoEn rfl (by decide) (by decide) rfl W0.heap.size _ _ xs _ rfl rfl A1.out A2.out A3.out A4.out A5.out ?_)
      intro v6 w9 h5 g5 k5
      obtain ⟨K9, B9⟩ := KN.out v6 w9 h5 g5 (by simpa using k5)
      rw [← EQ.out] at K9
      replace K9 := Lib.hid K9
      have HB9 := Lib.hid (B9 W0 rfl HB2.out)
      clear h5 g5 k5 A1 A2 A3 A4 A5 KN EQ B9
      obtain ⟨a6, c6, rfl⟩ := K9.out.is_slice
      generalize (A.take (k + 1)).length = m6 at *
      go_wp2_with fail
      go_roundg (n - (k + 1))
      case measure => omega
      case rel => exact ⟨k + 1, by omega, Nat.le_refl _, by go_num, K9, HB9.out⟩
    · obtain rfl : n = k := by omega
      have ilt : ¬ (n : Int) < (n : Int) := by omega
      have et : A.take n = A := by rw [HNA.out, List.take_length]
      rw [et] at HO
      obtain ⟨x0, x1, x2, x3, x4⟩ := BX.out wr hbel
      have HLt := HO.out.own
      have CY1 := Lib.hid (CY.out wr hbel)
      clear hbel et HE CO CY
      cases r with
      | false =>
        have FN : Hid (GiveAd A ⟨yu, yo, ys, S, L⟩ most w (.returned (.tuple #[.slice ao mk co, .bool false])) wr) := by
          have e1 : addE A ⟨yu, yo, ys, S, L⟩ most = A := by unfold addE; rw [if_neg (by have := HR'.out rfl; omega)]
          exact ⟨_, by rw [HRr.out], by rw [e1]; exact HO.out.ens.mono fun _ _ _ => trivial, below_more HB0.out HB.out⟩
        go_wp2_with fail
        exact bodyPost_ret (v := .tuple #[.slice ao mk co, .bool false]) (by simp [results, Try.results7, go_sem]) rfl FN.out
      | true =>
        have e1 : Hid (addE A ⟨yu, yo, ys, S, L⟩ most = A ++ [⟨yu, yo, ys, S, L⟩]) := by show _ = _; unfold addE; rw [if_pos (HR.out rfl)]
        go_wp2_with fail
        refine CY1.out.mono ?_
        rintro e w2 ⟨sv, lv, rfl, E2, b2⟩
        have E2' := E2
        obtain ⟨_, _, e2, _, e3, e4⟩ := E2'
        obtain ⟨rfl, rfl⟩ : sv = _ ∧ lv = _ := by simpa using e2
        obtain ⟨xa, xc, rfl⟩ := e3.1.is_slice
        obtain ⟨ya, yc, rfl⟩ := e4.1.is_slice
        clear e2 e3 e4
        have HB2 := Lib.hid (below_more HB.out b2)
        obtain ⟨xs, hxl, A1, A2, A3, A4, A5, K0⟩ := (HO.out.below b2).one E2 (fun g h => (HLt g h).2) HB.out.size (by rw [← HNA.out]; omega) HB2.out.size
        replace A1 := Lib.hid A1
        replace A2 := Lib.hid A2
        replace A3 := Lib.hid A3
        replace A4 := Lib.hid A4
        replace A5 := Lib.hid A5
        have KN := Lib.hid K0
        simp only at A1 A2 A3 A5 KN
        clear E2 b2 hxl K0 HLt CY1 x0 x1 x2 x3 x4 HO BX
        generalize S.length = tn2 at *
        generalize L.length = lm2 at *
        go_wp2_with (at_builtin; refine Rk.wpList_append_rowk rfl _ _ 22 25 5 72 _ Try.underlying22 infoEn rfl (by decide) (by decide) rfl W0.heap.size _ _ xs _ rfl rfl A1.out A2.out A3.out A4.out A5.out ?_)
        intro v6 w9 h5 g5 k5
        obtain ⟨K9, B9⟩ := KN.out v6 w9 h5 g5 (by simpa using k5)
        obtain ⟨a6, c6, rfl⟩ := h5.is_slice
        have FN : Hid (GiveAd A ⟨yu, yo, ys, S, L⟩ most w (.returned (.tuple #[.slice a6 _ c6, .bool true])) w9) := ⟨_, by rw [HRr.out], by rw [e1.out]; exact K9.ens.mono fun _ _ _ => trivial, below_more HB0.out (B9 W0 rfl HB2.out)⟩
        clear h5 g5 k5 A1 A2 A3 A4 A5 KN K9 B9 e1 HRr
        go_wp2_with fail
        exact bodyPost_ret (v := .tuple #[.slice a6 _ c6, .bool true]) (by simp [results, Try.results7, go_sem]) rfl FN.out
end Go.Proofs.Ytfahfjhibffdkaa.Aud
