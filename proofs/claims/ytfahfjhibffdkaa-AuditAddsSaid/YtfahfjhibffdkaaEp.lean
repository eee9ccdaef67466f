/- Audit: Page of the program. -/
import Derived.Test.YtfahfjhibffdkaaEpa
set_option linter.unusedVariables false
set_option linter.unusedSimpArgs false
set_option maxRecDepth 100000
namespace Go.Proofs.Ytfahfjhibffdkaa.Aud
open Go.RowKit Go.Lib Go.Proofs.Ytfahfjhibffdkaa.Rig Go.Proofs.Ytfahfjhibffdkaa.Rt Go.Proofs.Ytfahfjhibffdkaa.Bx

set_option maxHeartbeats 8000000 in
theorem page_any {v sv : Value} {M : List Lb} {A : List En} {P : Nat → Prop} (u fr nn : Int) (w : World) (h : Labs w v M) (hu : i64 u) (hA : EnsP P w sv A) (hn : A.length ≤ 10000) (r1 : i64 fr) (r2 : i64 nn) (hsA : Short A) :
    Calls Try.prog 12 #[v, .int .i64 u, sv, .int .i64 fr, .int .i64 nn] w (GivePg P (pageE (seesB M u) A fr nn) w) := by
  obtain ⟨a, cap, rfl, hl, hm⟩ := hA.is_slice
  obtain ⟨n, hnA⟩ : ∃ n, n = A.length := ⟨_, rfl⟩
  have HE : Hid (∀ w', Below w.heap.size w w' → EnsP P w' (.slice a n cap) A) := fun w' hb => by rw [hnA]; exact hA.below hb
  rw [← hnA] at hl hn ⊢
  unfold maxLen at hm
  have HNA := Lib.hid hnA
  have HSA := Lib.hid hsA
  obtain ⟨f, hf⟩ : ∃ f, f = seesB M u := ⟨_, rfl⟩
  have CSe : Hid (∀ (y : En) (s l : Value) (w' : World), Below w.heap.size w w' → EnP P w' [.int .i64 y.u, .int .i64 y.o, .int .i64 y.s, s, l] y → Calls Try.prog 14 #[v, .int .i64 u, .agg #[.int .i64 y.u, .int .i64 y.o, .int .i64 y.s, s, l]] w' fun e w'' => e = .returned (.bool (f y)) ∧ Below w'.heap.size w' w'') := fun y s l w' hb hy => by
    rw [hf]
    exact sees_any u w' (h.below hb (Nat.le_refl _)) hu hy
  rw [← hf]
  have CO : Hid (∀ (z : En) (s l : Value) (w' : World), EnP P w' [.int .i64 z.u, .int .i64 z.o, .int .i64 z.s, s, l] z → z.S.length ≤ 1000 → z.L.length ≤ 1000 → Calls Try.prog 19 #[.agg #[.int .i64 z.u, .int .i64 z.o, .int .i64 z.s, s, l]] w' (GiveOne z w')) := fun z s l w' h h1 h2 => own_any w' h h1 h2
  obtain ⟨f0, hf0⟩ : ∃ f0, f0 = (max fr 0).toNat := ⟨_, rfl⟩
  obtain ⟨m0, hm0⟩ : ∃ m0, m0 = min nn 10 := ⟨_, rfl⟩
  obtain ⟨n0, hn0⟩ : ∃ n0, n0 = m0.toNat := ⟨_, rfl⟩
  unfold i64 at r1 r2
  have HPG : Hid (pageE f A fr nn = ((A.filter f).drop f0).take n0) := by show _ = _; unfold pageE; rw [← hf0, ← hm0, ← hn0]
  have HF0 : Hid (max fr 0 = f0) := by show _ = _; rw [hf0]; omega
  have HM0 := Lib.hid hm0
  have HN0 := Lib.hid hn0
  have m0b : -9223372036854775808 ≤ m0 ∧ m0 ≤ 10 := by omega
  have n0b : Hid (n0 ≤ 10) := by show _ ≤ _; omega
  have HFR : Hid (-9223372036854775808 ≤ fr ∧ fr ≤ 9223372036854775807) := r1
  obtain ⟨va, vc, rfl, _⟩ := h
  obtain ⟨nM, hnM⟩ : ∃ nM, nM = M.length := ⟨_, rfl⟩
  rw [← hnM] at CSe ⊢
  have KZ : Hid (Below w.heap.size w w) := Below.refl _ _
  clear hA hnA hf hu hf0 hn0 hnM hsA r1
  go_enter Try.func12, Try.ntmps12
  go_upto_region 1 with fail
  go_cut [11] from 15 to 17 (fun x wx => x = .int .i64 m0 ∧ wx = w)
  case first =>
    clear hm0 m0b
    by_cases g10 : nn < 10
    · have e : min nn 10 = nn := by omega
      have g2 : ¬ 10 < nn := by omega
      have g3 : ¬ 10 ≤ nn := by omega
      go_wp2_with fail
      go_meet
      exact ⟨by first | (rw [HM0.out, e]; done) | (rw [HM0.out]; done) | (simp [HM0.out, e]; done), rfl⟩
    · by_cases g4 : 10 < nn
      · have e : min nn 10 = 10 := by omega
        have g2 : 10 ≤ nn := by omega
        go_wp2_with fail
        go_meet
        exact ⟨by first | (rw [HM0.out, e]; done) | (rw [HM0.out]; done) | (simp [HM0.out, e]; done), rfl⟩
      · obtain rfl : nn = 10 := by omega
        go_wp2_with fail
        go_meet
        exact ⟨by first | (rw [HM0.out]; rfl) | (rw [HM0.out]; done) | (simp [HM0.out]; done), rfl⟩
  case rest =>
    obtain ⟨rfl, rfl⟩ := hcut
    clear hm0 r2
    go_wp2_with fail
    go_loopg [3, 12, 19] n (fun g x t i wr => ∃ (k : Nat) (fx : Int), k ≤ n ∧ n - k ≤ g ∧ i = .int .i64 k ∧ x = .int .i64 fx ∧ (fx ≤ 9223372036854775807 ∧ max fx 0 = (skE f A f0 k : Nat)) ∧ Hid (OEn (wc.heap.size ≤ ·) wc.heap.size wr t (pgE f A f0 n0 k)) ∧ Below wc.heap.size wc wr)
    case atStart => exact ⟨0, fr, Nat.zero_le _, by omega, rfl, rfl, ⟨HFR.out.2, by rw [HF0.out]; simp [skE]⟩, by simp only [pgE, List.take_zero, List.filter_nil, List.drop_nil, List.take_nil]; exact OEn.nil_ _ _ _, KZ.out⟩
    case round =>
      obtain ⟨k, fx, hk, hg, rfl, rfl, ⟨hx1, hx2⟩, HO, hbel⟩ := hrel
      have HB := Lib.hid hbel
      have HX := Lib.hid hx2
      obtain ⟨ao, co, rfl⟩ := HO.out.is_slice
      obtain ⟨mk, hmk⟩ : ∃ mk, mk = (pgE f A f0 n0 k).length := ⟨_, rfl⟩
      have LK : mk ≤ 10 := by rw [hmk]; exact Nat.le_trans (pg_len _ _ _ _ _) n0b.out
      rw [← hmk] at HO ⊢
      have HMK := Lib.hid hmk
      clear hmk
      by_cases hlt : k < n
      · have hkl : k < A.length := by rw [← HNA.out]; exact hlt
        have ilt : (k : Int) < (n : Int) := by omega
        obtain ⟨b, off, ta, tn, tc, la', lm, lc, rfl, hb, hv, c0, c1, c2, c3, c4, q1, q2⟩ := (HE.out _ hbel).get hkl
        obtain ⟨z1, z2⟩ := HSA.out _ (List.getElem_mem hkl)
        have PNO := Lib.hid (pg_no (f := f) (A := A) (f0 := f0) (n0 := n0) hkl)
        have PSK := Lib.hid (pg_skip (f := f) (A := A) (f0 := f0) (n0 := n0) hkl)
        have PYE := Lib.hid (pg_yes (f := f) (A := A) (f0 := f0) (n0 := n0) hkl)
        have PFU := Lib.hid (pg_full (f := f) (A := A) (f0 := f0) (n0 := n0) (k := k))
        rw [← HMK.out] at PYE PFU
        generalize hAk : A[k] = y at *
        obtain ⟨zu, zo, zs, zS, zL⟩ := y
        simp only at c0 c1 c2 c3 c4 hv z1 z2
        have BA := below_al (Below.refl wr.heap.size wr) (.cells #[.int .i64 zu, .int .i64 zo, .int .i64 zs, .slice ta tn tc, .slice la' lm lc] 25)
        obtain ⟨WA, hWA⟩ : ∃ WA, WA = wr.alloc (.cells #[.int .i64 zu, .int .i64 zo, .int .i64 zs, .slice ta tn tc, .slice la' lm lc] 25) := ⟨_, rfl⟩
        have HV : Hid (EnP P WA [.int .i64 zu, .int .i64 zo, .int .i64 zs, .slice ta tn tc, .slice la' lm lc] ⟨zu, zo, zs, zS, zL⟩) := hWA ▸ hv.below BA
        have RA : WA.heap[wr.heap.size]? = some (.cells #[.int .i64 zu, .int .i64 zo, .int .i64 zs, .slice ta tn tc, .slice la' lm lc] 25 (0, 0)) := by rw [hWA]; exact heap_alloc_new _ _
        have BBX : Hid (∀ w', Below WA.heap.size WA w' → w'.cell? ⟨wr.heap.size, 0, none⟩ = some (.int .i64 zu) ∧ w'.cell? ⟨wr.heap.size, 1, none⟩ = some (.int .i64 zo) ∧ w'.cell? ⟨wr.heap.size, 2, none⟩ = some (.int .i64 zs) ∧ w'.cell? ⟨wr.heap.size, 3, none⟩ = some (.slice ta tn tc) ∧ w'.cell? ⟨wr.heap.size, 4, none⟩ = some (.slice la' lm lc)) := fun w' hb =>
          five_cells ((hb.block _ (Array.getElem?_eq_some_iff.1 RA).1).trans RA)
        rw [← hWA] at BA
        obtain ⟨u0, u1, u2, u3, u4⟩ := BBX.out WA (Below.refl _ _)
        have HWA := Lib.hid hWA
        have HOA : Hid (OEn (wc.heap.size ≤ ·) wc.heap.size WA (.slice ao mk co) (pgE f A f0 n0 k)) := HO.out.below BA
        have HBA := Lib.hid (below_more hbel BA)
        have CS1 : Hid (Calls Try.prog 14 #[.slice va nM vc, .int .i64 u, .agg #[.int .i64 zu, .int .i64 zo, .int .i64 zs, .slice ta tn tc, .slice la' lm lc]] WA fun e w'' => e = .returned (.bool (f ⟨zu, zo, zs, zS, zL⟩)) ∧ Below WA.heap.size WA w'') := CSe.out ⟨zu, zo, zs, zS, zL⟩ _ _ WA HBA.out HV.out
        have CO1 : Hid (∀ w', Below WA.heap.size WA w' → Calls Try.prog 19 #[.agg #[.int .i64 zu, .int .i64 zo, .int .i64 zs, .slice ta tn tc, .slice la' lm lc]] w' (GiveOne ⟨zu, zo, zs, zS, zL⟩ w')) := fun w' hb => CO.out ⟨zu, zo, zs, zS, zL⟩ _ _ w' (HV.out.below hb) z1 z2
        clear hbel BA hWA RA z1 z2 q1 q2 hv
        by_cases hfull : m0 ≤ (mk : Int)
        · have e : Hid (pgE f A f0 n0 k = pageE f A fr nn) := by show _ = _; rw [HPG.out]; exact PFU.out (by have := HN0.out; omega)
          have FN : Hid (EnsP (fun b => P b ∨ wc.heap.size ≤ b) WA (.slice ao mk co) (pageE f A fr nn)) := by
            show EnsP _ _ _ _
            rw [← e.out]
            exact HOA.out.ens.mono fun b _ h => .inr h
          have i1 : decide (m0 ≤ (mk : Int)) = true := decide_eq_true hfull
          clear HO e hx1 hx2 HOA
          go_wp2_with fail
          go_ret
          exact ⟨_, rfl, by rw [← HWA.out]; exact FN.out, by rw [← HWA.out]; exact HBA.out⟩
        · have hsmall : mk < n0 := by have := HN0.out; omega
          have HSM := Lib.hid hsmall
          have i1 : decide (m0 ≤ (mk : Int)) = false := decide_eq_false hfull
          cases hf : f ⟨zu, zo, zs, zS, zL⟩ with
          | false =>
            rw [hf] at CS1
            obtain ⟨e1, e2⟩ := PNO.out hf
            have E1 := Lib.hid e1
            have E2 := Lib.hid e2
            clear e1 e2 PNO PSK PYE PFU hf hsmall hx2 CO1
            go_wp2_with fail
            rw [← HWA.out]
            refine CS1.out.mono ?_
            rintro e w2 ⟨rfl, b2⟩
            have HO2 := Lib.hid (HOA.out.below b2)
            have HB2 := Lib.hid (below_more HBA.out b2)
            clear b2 CS1 u0 u1 u2 u3 u4 c0 c1 c2 c3 c4
            go_wp2_with fail
            go_roundg (n - (k + 1))
            case measure => omega
            case rel => exact ⟨k + 1, fx, by omega, Nat.le_refl _, by go_num, rfl, ⟨hx1, by rw [E2.out]; exact HX.out⟩, by rw [E1.out]; exact HO2, HB2.out⟩
          | true =>
            rw [hf] at CS1
            by_cases hfx : 0 < fx
            · obtain ⟨e1, e2⟩ := PSK.out hf (by omega)
              have E1 := Lib.hid e1
              have E2 : Hid (max (fx - 1) 0 = ((skE f A f0 (k + 1) : Nat) : Int)) := by show _ = _; rw [e2]; omega
              have i2 : decide (0 < fx) = true := decide_eq_true hfx
              have zi : IntKind.i64.wrap (fx - 1) = fx - 1 := IntWalk.i64_in _ (by omega)
              clear e1 e2 PNO PSK PYE PFU hf hsmall hx2 CO1
              go_wp2_with fail
              rw [← HWA.out]
              refine CS1.out.mono ?_
              rintro e w2 ⟨rfl, b2⟩
              have HO2 := Lib.hid (HOA.out.below b2)
              have HB2 := Lib.hid (below_more HBA.out b2)
              clear b2 CS1 u0 u1 u2 u3 u4 c0 c1 c2 c3 c4
              go_wp2_with fail
              go_roundg (n - (k + 1))
              case measure => omega
              case rel => exact ⟨k + 1, fx - 1, by omega, Nat.le_refl _, by go_num, by first | rfl | go_num, ⟨by omega, E2.out⟩, by rw [E1.out]; exact HO2, HB2.out⟩
            · have hs0 : skE f A f0 k = 0 := by omega
              obtain ⟨e1, e2⟩ := PYE.out hf hs0 hsmall
              have EQ := Lib.hid e1
              have E2 : Hid (max fx 0 = ((skE f A f0 (k + 1) : Nat) : Int)) := by show _ = _; rw [e2]; omega
              have i2 : decide (0 < fx) = false := decide_eq_false hfx
              clear e1 e2 PNO PSK PYE PFU hf hsmall hx2 hs0
              go_wp2_with fail
              rw [← HWA.out]
              refine CS1.out.mono ?_
              rintro e w1 ⟨rfl, b1⟩
              have HO1 := Lib.hid (HOA.out.below b1)
              have HB1 := Lib.hid (below_more HBA.out b1)
              have CO2 := Lib.hid (CO1.out w1 b1)
              obtain ⟨u0, u1, u2, u3, u4⟩ := BBX.out w1 b1
              have HLt := HO1.out.own
              clear b1 CS1 CO1 c0 c1 c2 c3 c4 HOA BBX HV HO HBA
              go_wp2_with fail
              refine CO2.out.mono ?_
              rintro e w2 ⟨sv, lv, rfl, E2', b2⟩
              have E3' := E2'
              obtain ⟨_, _, e2, _, e3, e4⟩ := E3'
              obtain ⟨rfl, rfl⟩ : sv = _ ∧ lv = _ := by simpa using e2
              obtain ⟨xa, xc, rfl⟩ := e3.1.is_slice
              obtain ⟨ya, yc, rfl⟩ := e4.1.is_slice
              clear e2 e3 e4
              have HB2 := Lib.hid (below_more HB1.out b2)
              obtain ⟨xs, hxl, A1, A2, A3, A4, A5, K0⟩ := (HO1.out.below b2).one E2' (fun g h => (HLt g h).2) HB1.out.size (Nat.le_trans (pg_len _ _ _ _ _) (by have := n0b.out; omega)) HB2.out.size
              replace A1 := Lib.hid A1
              replace A2 := Lib.hid A2
              replace A3 := Lib.hid A3
              replace A4 := Lib.hid A4
              replace A5 := Lib.hid A5
              have KN := Lib.hid K0
              simp only at A1 A2 A3 A5 KN
              clear E2' b2 hxl K0 HLt CO2 u0 u1 u2 u3 u4 HO1 HB1
              generalize zS.length = tn2 at *
              generalize zL.length = lm2 at *
              go_wp2_with (at_builtin; refine Rk.wpList_append_rowk rfl _ _ 22 25 5 72 _ Try.underlying22 infoEn rfl (by decide) (by decide) rfl wc.heap.size _ _ xs _ rfl rfl A1.out A2.out A3.out A4.out A5.out ?_)
              intro v6 w9 h5 g5 k5
              obtain ⟨K9, B9⟩ := KN.out v6 w9 h5 g5 (by simpa using k5)
              rw [← EQ.out] at K9
              replace K9 := Lib.hid K9
              have HB9 := Lib.hid (B9 wc rfl HB2.out)
              clear h5 g5 k5 A1 A2 A3 A4 A5 KN EQ B9
              obtain ⟨a6, c6, rfl⟩ := K9.out.is_slice
              generalize (pgE f A f0 n0 (k + 1)).length = m6 at *
              go_wp2_with fail
              go_roundg (n - (k + 1))
              case measure => omega
              case rel => exact ⟨k + 1, fx, by omega, Nat.le_refl _, by go_num, rfl, ⟨hx1, E2.out⟩, K9, HB9.out⟩
      · obtain rfl : n = k := by omega
        have ilt : ¬ (n : Int) < (n : Int) := by omega
        have e : Hid (pgE f A f0 n0 n = pageE f A fr nn) := by show _ = _; rw [HPG.out]; unfold pgE; rw [HNA.out, List.take_length]
        have FN : Hid (EnsP (fun b => P b ∨ wc.heap.size ≤ b) wr (.slice ao mk co) (pageE f A fr nn)) := by
          show EnsP _ _ _ _
          rw [← e.out]
          exact HO.out.ens.mono fun b _ h => .inr h
        clear hbel HO e hx1 hx2
        go_wp2_with fail
        go_ret
        exact ⟨_, rfl, FN.out, HB.out⟩
theorem short_small {A : List En} (h : smallE A = true) : Short A := fun y hy => by have := (of_decide_eq_true h).1 y hy; omega
theorem short_nil : Short [] := fun y hy => by simp at hy
theorem short_some : Short someE := fun y hy => by
  simp only [someE, List.mem_cons, List.not_mem_nil, or_false] at hy
  rcases hy with rfl | rfl <;> simp
theorem page_at {v sv : Value} {M : List Lb} {A : List En} {P : Nat → Prop} (u fr nn : Int) (w : World) (h : Labs w v M) (hu : i64 u) (hA : EnsP P w sv A) (hP : ∀ b, P b → b < w.heap.size) (hn : A.length ≤ 10000) (r1 : i64 fr) (r2 : i64 nn) (hsA : Short A) :
    Calls Try.prog 12 #[v, .int .i64 u, sv, .int .i64 fr, .int .i64 nn] w (GivePg P (pageE (seesB M u) A fr nn) w) := page_any u fr nn w h hu hA hn r1 r2 hsA
theorem add_at {sv : Value} {A : List En} {y : En} {s l : Value} {P : Nat → Prop} (most : Int) (w : World) (hA : EnsP P w sv A) (hy : EnP P w [.int .i64 y.u, .int .i64 y.o, .int .i64 y.s, s, l] y) (hP : ∀ b, P b → b < w.heap.size) (hn : A.length ≤ 10000) (r1 : i64 most) (hsA : Short A) (hsy : Short [y]) :
    Calls Try.prog 7 #[sv, .agg #[.int .i64 y.u, .int .i64 y.o, .int .i64 y.s, s, l], .int .i64 most] w (GiveAd A y most w) := add_any most w hA hy hn r1 hsA hsy
end Go.Proofs.Ytfahfjhibffdkaa.Aud
