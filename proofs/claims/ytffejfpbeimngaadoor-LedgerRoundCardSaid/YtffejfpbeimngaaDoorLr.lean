/- Ledger: LedgerRound, its walk. -/
import Derived.Test.YtffejfpbeimngaaDoorLn
set_option linter.unusedVariables false
set_option linter.unusedSimpArgs false
set_option maxRecDepth 100000
namespace Go.Proofs.YtffejfpbeimngaaDoor.Ldg
open Go.RowKit Go.Lib Go.Proofs.YtffejfpbeimngaaDoor.Bx Go.Proofs.YtffejfpbeimngaaDoor.Frm Go.Proofs.YtffejfpbeimngaaDoor.Wds Go.Proofs.YtffejfpbeimngaaDoor.Plt

/-- The disk and the ledger as a round begins. -/
structure Rd (w0 : World) (B X : Nat) (D : DK) (n p number : Nat) (w : World) : Prop where
  wld : Wld w0 B D w
  led : Led w X B ⟨3, n, p, number, 0⟩
  fine : Fine D
  clean : Clean D
  size : D.n = 24
  len : ∀ q, q < n → (ring D 3 q).length = 128
  nohead : NoHead (ring D 3) n number
theorem Rd.cut {w0 w w' : World} {B X : Nat} {D : DK} {l l' : LS} {e : Ending} (h : Wld w0 B D w) (hl : Led w X B l) (hX : w0.heap.size ≤ X) (k : Wrote w X B l' e w') : e = .returned (.tuple #[]) ∧ Wld w0 B D w' ∧ Led w' X B l' := by
  obtain ⟨⟨F, d⟩, b⟩ := h
  obtain ⟨rfl, k1, k2⟩ := k
  exact ⟨rfl, ⟨⟨F, d.chg k2 (fun g hg (e : g = X) => disk_not d hl (e ▸ hg))⟩, b.trans (k2.below (fun g (e : g = X) => e ▸ hX) b.size)⟩, k1⟩
set_option maxHeartbeats 16000000 in
theorem round_walk {w : World} (v : Value) (X : List (List UInt8)) (hX : Frm.Strs w v X) (n start : Int) : Calls Tryd.prog 4 #[v, .int .i64 n, .int .i64 start] w fun e w' => e = .returned (.bool true) ∧ Below w.heap.size w w' := by
  obtain ⟨a0, cap0, rfl, hc1, hc2⟩ := hX.is_slice
  have CA := Lib.hid (awake_any w)
  obtain ⟨nX, hnX⟩ : ∃ n, n = X.length := ⟨_, rfl⟩
  rw [← hnX] at hX hc1 ⊢
  unfold maxLen at hc2
  go_enter Tryd.func4, Tryd.ntmps4
  go_wp2_with fail
  refine CA.out.mono ?_
  rintro e w1 ⟨rfl, b1⟩
  have B1 := Lib.hid b1
  have HX := Lib.hid (hX.below b1)
  have HN := Lib.hid hnX
  clear b1 CA hX hnX
  by_cases n60 : (60 : Int) < (nX : Int)
  · have gn60 : decide ((60 : Int) < (nX : Int)) = true := decide_eq_true n60
    go_wp2_with fail
    all_goals exact bodyPost_ret (v := .bool true) (by simp [results, Tryd.results4, go_sem]) rfl ⟨rfl, B1.out⟩
  have gn60 : decide ((60 : Int) < (nX : Int)) = false := decide_eq_false n60
  by_cases n6 : n < 6
  · have gn6 : decide (n < 6) = true := decide_eq_true n6
    go_wp2_with fail
    all_goals exact bodyPost_ret (v := .bool true) (by simp [results, Tryd.results4, go_sem]) rfl ⟨rfl, B1.out⟩
  have gn6 : decide (n < 6) = false := decide_eq_false n6
  by_cases n20 : (20 : Int) < n
  · have gn20 : decide ((20 : Int) < n) = true := decide_eq_true n20
    go_wp2_with fail
    all_goals exact bodyPost_ret (v := .bool true) (by simp [results, Tryd.results4, go_sem]) rfl ⟨rfl, B1.out⟩
  have gn20 : decide ((20 : Int) < n) = false := decide_eq_false n20
  by_cases s0 : start < 0
  · have gs0 : decide (start < 0) = true := decide_eq_true s0
    go_wp2_with fail
    all_goals exact bodyPost_ret (v := .bool true) (by simp [results, Tryd.results4, go_sem]) rfl ⟨rfl, B1.out⟩
  have gs0 : decide (start < 0) = false := decide_eq_false s0
  by_cases sn : n ≤ start
  · have gsn : decide (n ≤ start) = true := decide_eq_true sn
    go_wp2_with fail
    all_goals exact bodyPost_ret (v := .bool true) (by simp [results, Tryd.results4, go_sem]) rfl ⟨rfl, B1.out⟩
  have gsn : decide (n ≤ start) = false := decide_eq_false sn
  obtain ⟨st, rfl⟩ := Int.eq_ofNat_of_zero_le (show 0 ≤ start by omega)
  obtain ⟨n, rfl⟩ := Int.eq_ofNat_of_zero_le (show 0 ≤ n by omega)
  have CN := Lib.hid (newX 24 w1 (by omega) (by omega))
  go_wp2_with fail
  refine CN.out.mono ?_
  intro e w2 h
  obtain ⟨B, rfl, h2⟩ := Wld.made h
  have hstn : st < n := by omega
  have ok0 : (LS.mk 3 n st 7 0).Ok := ⟨by show 3 ≤ _; omega, by show 2 ≤ n; omega, by show n ≤ _; omega, hstn, by show 7 ≤ _; omega, by show 0 ≤ n; omega⟩
  have CO : Hid (Calls Tryd.prog 9 #[.pointer (some ⟨B, 0, none⟩), .int .i64 3, .int .i64 (n : Nat), .int .i64 (st : Nat), .int .i64 7] w2 (Opened w2 B (LS.mk 3 n st 7 0) [])) := by
    have k := h2.open_ (LS.mk 3 n st 7 0) ok0 rfl ⟨rfl, by show 3 + n ≤ 24; omega, new_len _ _ _⟩
    simp only at k
    rw [recs_none hstn (new_noHead _ _ _ _)] at k
    exact k
  have H2 := Lib.hid h2
  clear h h2 CN ok0
  go_wp2_with fail
  refine CO.out.mono ?_
  rintro e w3 ⟨X0, a3, c3, rfl, hX0, hl3, _, _, hb3⟩
  have HR0 : Hid (Rd w1 B X0 (newD 24) n st 7 w3) := ⟨H2.out.below hb3, hl3, (new_fine 24).1, (new_fine 24).2, rfl, new_len _ _ _, new_noHead _ _ _ _⟩
  have HX0 : Hid (w1.heap.size ≤ X0) := Nat.le_trans H2.out.2.size hX0
  have CE : Hid (∀ w', Below w1.heap.size w1 w' → ∀ j, j < nX → ∃ b off, a0 = some ⟨b, off, none⟩ ∧ w'.cell? ⟨b, off + j, none⟩ = some (.string (mkB (Frm.tx X j)))) := fun w' hb j hj => by
    obtain ⟨b, off, e, _, hc⟩ := (HX.out.below hb).get (j := j) (by rw [← HN.out]; exact hj)
    exact ⟨b, off, e, hc⟩
  clear hX0 hl3 hb3 CO H2 HX HN
  go_wp2_with fail
  go_loopg [61] nX (fun g s61 wr => ∃ (i : Nat) (D : DK) (p : Nat), i ≤ nX ∧ nX - i ≤ g ∧ p < n ∧ s61 = .int .i64 (i : Nat) ∧ Hid (Rd w1 B X0 D n p (7 + i) wr))
  case atStart => exact ⟨0, newD 24, st, by omega, by omega, hstn, rfl, HR0.out⟩
  case round =>
    obtain ⟨i, D, p, hi, hg, hp, rfl, HR⟩ := hrel
    have B2 : Hid (Below w.heap.size w wr) := B1.out.trans (HR.out.wld.2.mono B1.out.size)
    by_cases hin : i < nX
    · have gi : decide ((i : Int) < (nX : Int)) = true := decide_eq_true (by omega)
      obtain ⟨b0, off, rfl, c0⟩ := CE.out wr HR.out.wld.2 i hin
      generalize Frm.tx X i = s at *
      obtain ⟨m, hm⟩ : ∃ m, m = s.length := ⟨_, rfl⟩
      have hsz : (mkB s).size = m := by rw [mkB_size, hm]
      obtain ⟨sb, hsb⟩ : ∃ t, t = mkB s := ⟨_, rfl⟩
      rw [← hsb] at c0 hsz
      by_cases hm0 : m = 0
      · have : s = [] := List.eq_nil_of_length_eq_zero (by omega)
        subst this
        have hsb2 : sb = ⟨#[]⟩ := hsb
        subst hsb2
        clear hsb hm
        go_wp2_with fail
        all_goals exact bodyPost_ret (v := .bool true) (by simp [results, Tryd.results4, go_sem]) rfl ⟨rfl, B2.out⟩
      · have SE0 : sb.toList.isEmpty = false := by
          rw [Lib.toList_data, hsb, mkB_data]
          cases s with
          | nil => exact absurd (by rw [hm]; rfl) hm0
          | cons x y => rfl
        have HSB := Lib.hid hsb
        have HM := Lib.hid hm
        clear hsb hm
        by_cases hm5 : 500 < m
        · have gm : decide ((500 : Int) < (m : Int)) = true := decide_eq_true (by omega)
          go_wp2_with fail
          all_goals exact bodyPost_ret (v := .bool true) (by simp [results, Tryd.results4, go_sem]) rfl ⟨rfl, B2.out⟩
        · have gm : decide ((500 : Int) < (m : Int)) = false := decide_eq_false (by omega)
          have hk : platesN s.length = 1 + bodN s.length := plates_pos (by have := HM.out; omega) (by have := HM.out; omega)
          have hb4 : bodN s.length ≤ 4 := by have := HM.out; unfold bodN; omega
          have okl : (LS.mk 3 n p (7 + i) 0).Ok := ⟨by show 3 ≤ _; omega, by show 2 ≤ n; omega, by show n ≤ _; omega, hp, by show 7 + i ≤ _; omega, by show 0 ≤ n; omega⟩
          have hR := HR.out
          obtain ⟨r1, r2, r3, r4, r5, r6, r7⟩ := HR.out
          have C1 : Hid (Calls Tryd.prog 12 #[.pointer (some ⟨X0, 0, none⟩)] wr fun e w' => e = .returned (.tuple #[.int .i64 (p : Nat), .int .i64 (7 + (i : Int))]) ∧ Wld w1 B D w' ∧ Led w' X0 B (LS.mk 3 n p (7 + i) 0)) := by
            refine (next_any r2).mono ?_
            rintro e w' ⟨rfl, q, rfl⟩
            exact ⟨rfl, r1.below (Wds.d_drews (Below.refl _ _) _), r2⟩
          obtain ⟨D2, hD2⟩ : ∃ D2, D2 = layAll D 3 n p (7 + i) s := ⟨_, rfl⟩
          obtain ⟨f1, f2, f3, f4⟩ := layAll_ok r3 r4 (first := 3) (n := n) (p := p) (number := 7 + i) hp (by omega) s
          rw [← hD2] at f1 f2 f3 f4
          have hlen2 : ∀ q, q < n → (ring D2 3 q).length = 128 := by rw [f3]; exact putRec_len r6
          have hnh2 : NoHead (ring D2 3) n (7 + i + 1) := by rw [f3]; exact noHead_put r7
          obtain ⟨l2, hl2⟩ : ∃ l2, l2 = (LS.mk 3 n p (7 + i) 0).past (platesN s.length) := ⟨_, rfl⟩
          have okl2 : l2.Ok := by rw [hl2]; exact okl.past (by show 7 + i < _; omega) (by show _ ≤ n - 0; omega)
          have hl2p : l2.p = (p + platesN s.length) % n := by rw [hl2]; rfl
          have hl2n : l2.number = 7 + i + 1 := by rw [hl2]; rfl
          have hl2f : l2.first = 3 ∧ l2.n = n := by rw [hl2]; exact ⟨rfl, rfl⟩
          have C2 : Hid (∀ w', Wld w1 B D w' → Led w' X0 B (LS.mk 3 n p (7 + i) 0) → Calls Tryd.prog 13 #[.pointer (some ⟨X0, 0, none⟩), .string sb] w' fun e w2 => e = .returned (.int .i64 0) ∧ Wld w1 B D2 w2 ∧ Led w2 X0 B l2) := fun w' h1 h2 => by
            rw [HSB.out, hD2, hl2]
            exact h1.append HX0.out h2 okl r3 r4 (by show 3 + n ≤ D.n; omega) (by show 7 + i < _; omega) s (by have := HM.out; omega) (by have := HM.out; omega) (by show _ ≤ n - 0; omega)
          have hrecs : recsR (ring D2 3) n p (7 + i) n = [s] := by
            rw [f3]
            exact recs_put r6 hp (by have := HM.out; omega) (by have := HM.out; omega) (by omega) (by omega) r7
          have C3 : Hid (∀ w', Wld w1 B D2 w' → Calls Tryd.prog 9 #[.pointer (some ⟨B, 0, none⟩), .int .i64 3, .int .i64 (n : Nat), .int .i64 (p : Nat), .int .i64 (7 + (i : Int))] w' (Opened w' B (LS.mk 3 n p (7 + i) 0) [s])) := fun w' h => by
            have k := h.open_ (LS.mk 3 n p (7 + i) 0) okl rfl ⟨f1.on, by show 3 + n ≤ D2.n; omega, hlen2⟩
            simp only at k
            rw [hrecs] at k
            exact k
          have HA : Hid ((LS.mk 3 n p (7 + i) 0).after [s] = l2) := by show _ = _; rw [hl2]; rfl
          have C4 : Hid (∀ w' X, Led w' X B l2 → Calls Tryd.prog 12 #[.pointer (some ⟨X, 0, none⟩)] w' fun e w2 => e = .returned (.tuple #[.int .i64 (l2.p : Nat), .int .i64 (7 + (i : Int) + 1)]) ∧ Below w'.heap.size w' w2) := fun w' X h => by
            refine (next_any h).mono ?_
            rintro e w2 ⟨rfl, q, rfl⟩
            refine ⟨?_, Wds.d_drews (Below.refl _ _) _⟩
            rw [hl2n]
            rfl
          have C5 : Hid (∀ w', Wld w1 B D2 w' → Led w' X0 B l2 → Calls Tryd.prog 14 #[.pointer (some ⟨X0, 0, none⟩)] w' fun e w2 => e = .returned (.tuple #[]) ∧ Rd w1 B X0 D2 n l2.p (7 + (i + 1)) w2) := fun w' h1 h2 => by
            refine (cut_any h2).mono ?_
            intro e w2 k
            obtain ⟨e1, e2, e3⟩ := Rd.cut h1 h2 HX0.out k
            refine ⟨e1, e2, ?_, f1, f4, by omega, hlen2, hnh2⟩
            rw [hl2n, hl2f.1, hl2f.2] at e3
            exact e3
          have hp2 : l2.p < n := by rw [hl2p]; exact Nat.mod_lt _ (by omega)
          generalize l2.p = p2 at *
          clear hk hb4 okl hR r1 r2 r3 r4 r5 r6 r7 hD2 f1 f2 f3 f4 hlen2 hnh2 okl2 hl2 hl2p hl2n hl2f hrecs HR
          go_wp2_with fail
          refine C1.out.mono ?_
          rintro e w4 ⟨rfl, hw4, hl4⟩
          have C6 := Lib.hid (C2.out w4 hw4 hl4)
          clear hw4 hl4 C1 C2 c0
          go_wp2_with fail
          refine C6.out.mono ?_
          rintro e w5 ⟨rfl, hw5, hl5⟩
          have C7 := Lib.hid (C3.out w5 hw5)
          have W5 := Lib.hid hw5
          have L5 := Lib.hid hl5
          clear hw5 hl5 C6 C3
          go_wp2_with fail
          refine C7.out.mono ?_
          rintro e w6 ⟨X6, a6, c6, rfl, hX6, hl6, _, hs6, hb6⟩
          rw [HA.out] at hl6
          have W6 := Lib.hid (W5.out.below hb6)
          have L6 : Hid (Led w6 X0 B l2) := L5.out.below hb6 L5.out.lt
          have Y6 := Lib.hid hl6
          have CS : Hid (∃ b off, a6 = some ⟨b, off, none⟩ ∧ ∀ w', Below w6.heap.size w6 w' → w'.cell? ⟨b, off, none⟩ = some (.string sb)) := by
            obtain ⟨b, off, e, h⟩ := rows_cells (n := 1) hs6.read rfl (by omega)
            exact ⟨b, off, e, fun w' hw => by rw [HSB.out]; exact h w' hw 0 (by omega)⟩
          have C8 := Lib.hid (C4.out w6 X0 L6.out)
          clear hX6 hl6 hs6 hb6 C7 W5 L5
          go_wp2_with fail
          refine C8.out.mono ?_
          rintro e w7 ⟨rfl, hb7⟩
          have W7 := Lib.hid (W6.out.below hb7)
          have L7 : Hid (Led w7 X0 B l2) := L6.out.below hb7 L6.out.lt
          have C9 := Lib.hid (C4.out w7 X6 (Y6.out.below hb7 Y6.out.lt))
          have B67 := Lib.hid hb7
          clear hb7 W6 L6 Y6 C8 C4
          go_wp2_with fail
          refine C9.out.mono ?_
          rintro e w8 ⟨rfl, hb8⟩
          have W8 := Lib.hid (W7.out.below hb8)
          have L8 : Hid (Led w8 X0 B l2) := L7.out.below hb8 L7.out.lt
          obtain ⟨b6, off6, rfl, hcell⟩ := CS.out
          have c1 := hcell w8 (below_on B67.out hb8)
          have C10 := Lib.hid (C5.out w8 W8.out L8.out)
          clear hb8 hcell CS W7 L7 W8 L8 C9 C5 B67
          go_wp2_with fail
          refine C10.out.mono ?_
          rintro e w9 ⟨rfl, hr9⟩
          have HR9 := Lib.hid hr9
          clear hr9 C10 c1
          go_wp2_with fail
          go_roundg (nX - (i + 1))
          case measure => omega
          case rel => exact ⟨i + 1, D2, p2, by omega, Nat.le_refl _, hp2, by go_num, HR9.out⟩
    · obtain rfl : i = nX := by omega
      have gi : decide ((i : Int) < (i : Int)) = false := decide_eq_false (by omega)
      have CR : Hid (Calls Tryd.prog 15 #[.pointer (some ⟨X0, 0, none⟩)] wr fun e w' => e = .returned (.int .i64 (n : Nat)) ∧ Below wr.heap.size wr w') := by
        refine (room_any HR.out.led ⟨by show 3 ≤ _; omega, by show 2 ≤ n; omega, by show n ≤ _; omega, hp, by show 7 + i ≤ _; omega, by show 0 ≤ n; omega⟩).mono ?_
        rintro e w' ⟨rfl, q, rfl⟩
        exact ⟨rfl, Wds.d_drews (Below.refl _ _) _⟩
      clear HR CE HR0
      go_wp2_with fail
      refine CR.out.mono ?_
      rintro e w4 ⟨rfl, hb4⟩
      have B4 := Lib.hid (below_on B2.out hb4)
      clear hb4 CR B2
      go_wp2_with fail
      all_goals exact bodyPost_ret (v := .bool true) (by simp [results, Tryd.results4, go_sem]) rfl ⟨rfl, B4.out⟩
end Go.Proofs.YtffejfpbeimngaaDoor.Ldg
