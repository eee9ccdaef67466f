/- Ledger: a record is laid. -/
import Derived.Test.YtffejfpbeimngaaDoorLk
set_option linter.unusedVariables false
set_option linter.unusedSimpArgs false
set_option maxRecDepth 100000
namespace Go.Proofs.YtffejfpbeimngaaDoor.Ldg
open Go.RowKit Go.Lib Go.Proofs.YtffejfpbeimngaaDoor.Bx Go.Proofs.YtffejfpbeimngaaDoor.Frm Go.Proofs.YtffejfpbeimngaaDoor.Wds Go.Proofs.YtffejfpbeimngaaDoor.Plt

set_option maxHeartbeats 16000000 in
theorem lay_any {base : Nat} {w : World} {X B : Nat} {F : Nat → Prop} {D : DK} {l : LS} (hl : Led w X B l) (ok : l.Ok) (hd : Disk base w B F D) (hF : Fine D) (hC : Clean D) (hf : l.first + l.n ≤ D.n) (hnum : l.number < 1099511627776) (s : List UInt8) (h0 : 0 < s.length) (h1 : s.length ≤ 65535) : Calls Tryd.prog 27 #[.pointer (some ⟨X, 0, none⟩), .string (mkB s)] w fun e w' => e = .returned (.bool true) ∧ St base w F X B l (layAll D l.first l.n l.p l.number s) w' := by
  have hn : 0 < l.n := by have := ok.n1; omega
  obtain ⟨k, hk⟩ : ∃ k, k = bodN s.length := ⟨_, rfl⟩
  have hk6 : k ≤ 600 := by rw [hk]; unfold bodN; omega
  have hkl : ∀ i, i < k → 127 * i < s.length := fun i hi => by rw [hk] at hi; unfold bodN at hi; omega
  have HKL := Lib.hid hkl
  have CB : Hid (∀ w, Calls Tryd.prog 32 #[.int .i64 (s.length : Nat)] w fun e w' => e = .returned (.int .i64 (k : Nat)) ∧ w' = w) := fun w => by rw [hk]; exact bodies_any s.length (by omega) w
  obtain ⟨SN, hSN⟩ : ∃ f : Nat → DK, f = layN D l.first l.n l.p s := ⟨_, rfl⟩
  have SS := St.start hd hl
  have S0 : Hid (St base w F X B l (SN 0) w) := by rw [hSN]; exact SS
  have CP : Hid (∀ (i : Nat) (Dq : DK) w', i < k → St base w F X B l Dq w' → Calls Tryd.prog 34 #[.pointer (some ⟨X, 0, none⟩), .int .i64 (1 + (i : Int))] w' fun e w2 => e = .returned (.int .i64 ((l.first + plc l.n l.p i : Nat) : Int)) ∧ St base w F X B l Dq w2) := fun i Dq w' hi h => by
    have h := h.plate ok (1 + i) (by omega)
    have e1 : ((1 + i : Nat) : Int) = 1 + (i : Int) := by omega
    have e2 : l.p + (1 + i) = l.p + 1 + i := by omega
    rw [e1, e2] at h
    exact h
  have CP0 : Hid (∀ (Dq : DK) w', St base w F X B l Dq w' → Calls Tryd.prog 34 #[.pointer (some ⟨X, 0, none⟩), .int .i64 0] w' fun e w2 => e = .returned (.int .i64 ((l.first + l.p : Nat) : Int)) ∧ St base w F X B l Dq w2) := fun Dq w' h => by
    have h := h.plate ok 0 (by omega)
    rw [Nat.add_zero, Nat.mod_eq_of_lt ok.p] at h
    exact h
  have CL : Hid (∀ (i : Nat) w', i < k → St base w F X B l (SN i) w' → Calls Tryd.prog 7 #[.pointer (some ⟨B, 0, none⟩), .int .i64 ((l.first + plc l.n l.p i : Nat) : Int), .string (mkB (plateP s i))] w' fun e w2 => e = .returned (.bool true) ∧ St base w F X B l (SN (i + 1)) w2) := fun i w' hi h => by
    rw [hSN] at h ⊢
    obtain ⟨a, b, c, d⟩ := layN_ok hF hC (p := l.p) hn hf s i
    exact h.lay a (by rw [b]; have := plc_lt (p := l.p) (i := i) hn; omega) (plateP_le s i) (fun j hj => Nat.le_trans (d j hj) (by omega))
  obtain ⟨D1, hD1⟩ : ∃ D1, D1 = barD (SN k) := ⟨_, rfl⟩
  obtain ⟨D2, hD2⟩ : ∃ D2, D2 = layD D1 ((l.first + l.p : Nat) : Int) (mkB (headL l.number s.length)) := ⟨_, rfl⟩
  obtain ⟨D3, hD3⟩ : ∃ D3, D3 = barD D2 := ⟨_, rfl⟩
  have hDD : layAll D l.first l.n l.p l.number s = D3 := by
    rw [hD3, hD2, hD1, hSN, hk]
    rfl
  have hnk := layN_ok hF hC (p := l.p) hn hf s k
  rw [← hSN] at hnk
  obtain ⟨f1, f2, f3, f4⟩ := hnk
  have hb1 := bar_one f1 0
  rw [← hD1] at hb1
  obtain ⟨_, g1, g2, g3, g4⟩ := hb1
  have hpq : l.first + l.p < D1.n := by rw [g2, f2]; have := ok.p; omega
  have hL1 := lay_one g1 hpq (x := headL l.number s.length) (by rw [headL_len]; exact Nat.le_refl _)
  rw [← hD2] at hL1
  obtain ⟨_, i1, i2, i3, i4⟩ := hL1
  have CB1 : Hid (∀ w', St base w F X B l (SN k) w' → Calls Tryd.prog 35 #[.pointer (some ⟨B, 0, none⟩)] w' fun e w2 => e = .returned (.bool true) ∧ St base w F X B l D1 w2) := fun w' h => by rw [hD1]; exact h.bar f1
  have CL1 : Hid (∀ w', St base w F X B l D1 w' → Calls Tryd.prog 7 #[.pointer (some ⟨B, 0, none⟩), .int .i64 ((l.first + l.p : Nat) : Int), .string (mkB (headL l.number s.length))] w' fun e w2 => e = .returned (.bool true) ∧ St base w F X B l D2 w2) := fun w' h => by
    rw [hD2]
    exact h.lay g1 hpq (by rw [headL_len]; exact Nat.le_refl _) (fun j hj => by rw [g4 j]; exact Nat.zero_le _)
  have CB2 : Hid (∀ w', St base w F X B l D2 w' → Calls Tryd.prog 35 #[.pointer (some ⟨B, 0, none⟩)] w' fun e w2 => e = .returned (.bool true) ∧ St base w F X B l D3 w2) := fun w' h => by rw [hD3]; exact h.bar i1
  have CH : Hid (∀ Dq w', St base w F X B l Dq w' → Calls Tryd.prog 36 #[.int .i64 (l.number : Nat), .int .i64 (s.length : Nat)] w' fun e w2 => e = .returned (.string (mkB (headL l.number s.length))) ∧ St base w F X B l Dq w2) := fun Dq w' h => by
    refine (head_any l.number s.length (by omega) h1 w').mono ?_
    rintro e w2 ⟨rfl, b⟩
    exact ⟨rfl, h.below b⟩
  have CE : Hid (∀ Dq w', St base w F X B l Dq w' → w'.cell? ⟨X, 0, none⟩ = some (.pointer (some ⟨B, 0, none⟩)) ∧ w'.cell? ⟨X, 4, none⟩ = some (.int .i64 (l.number : Nat))) := fun Dq w' h => h.cells
  have DR : Hid (∀ Dq w' m, St base w F X B l Dq w' → St base w F X B l Dq (w'.drewN m)) := fun Dq w' m h => h.drews m
  have DR1 : Hid (∀ Dq w', St base w F X B l Dq w' → St base w F X B l Dq w'.drew) := fun Dq w' h => h.drew
  rw [hDD]
  clear hDD hD1 hD2 hD3 f1 f2 f3 f4 g1 g2 g3 g4 hpq i1 i2 i3 i4 hSN SS hk hd hl hF hC
  obtain ⟨a0, ha0⟩ : ∃ a : Nat, a = l.first + l.p := ⟨_, rfl⟩
  rw [← ha0] at CP0 CL1
  obtain ⟨q, hq⟩ : ∃ q : Nat → Nat, q = fun i => l.first + plc l.n l.p i := ⟨_, rfl⟩
  have CPq : Hid (∀ (i : Nat) (Dq : DK) w', i < k → St base w F X B l Dq w' → Calls Tryd.prog 34 #[.pointer (some ⟨X, 0, none⟩), .int .i64 (1 + (i : Int))] w' fun e w2 => e = .returned (.int .i64 ((q i : Nat) : Int)) ∧ St base w F X B l Dq w2) := by rw [hq]; exact CP.out
  have CLq : Hid (∀ (i : Nat) w', i < k → St base w F X B l (SN i) w' → Calls Tryd.prog 7 #[.pointer (some ⟨B, 0, none⟩), .int .i64 ((q i : Nat) : Int), .string (mkB (plateP s i))] w' fun e w2 => e = .returned (.bool true) ∧ St base w F X B l (SN (i + 1)) w2) := by rw [hq]; exact CL.out
  clear hq ha0 CP CL
  obtain ⟨n, hn2⟩ : ∃ n, n = s.length := ⟨_, rfl⟩
  have hsz : (mkB s).size = n := by rw [mkB_size, hn2]
  rw [← hn2] at CB CH CL1 h0 h1
  obtain ⟨hdB, hhd⟩ : ∃ t, t = mkB (headL l.number n) := ⟨_, rfl⟩
  rw [← hhd] at CH CL1
  obtain ⟨num, hnu⟩ : ∃ x, x = l.number := ⟨_, rfl⟩
  rw [← hnu] at CH CE
  have HN2 := Lib.hid hn2
  clear hhd hnu hn2 ok hnum hf
  obtain ⟨sb, hsb⟩ : ∃ t, t = mkB s := ⟨_, rfl⟩
  rw [← hsb] at hsz ⊢
  have HSB := Lib.hid hsb
  clear hsb
  go_enter Tryd.func27, Tryd.ntmps27
  go_wp2_with fail
  refine (CB.out _).mono ?_
  rintro e w1 ⟨rfl, rfl⟩
  go_wp2_with fail
  go_loopg [11] k (fun g s11 wr => ∃ i : Nat, i ≤ k ∧ k - i ≤ g ∧ s11 = .int .i64 (i : Nat) ∧ Hid (St base w1 F X B l (SN i) wr))
  case atStart => exact ⟨0, by omega, by omega, rfl, S0.out⟩
  case round =>
    obtain ⟨i, hi, hg, rfl, HS⟩ := hrel
    by_cases hik : i < k
    · have gi : decide ((i : Int) < (k : Int)) = true := decide_eq_true (by omega)
      obtain ⟨e, he⟩ : ∃ e, e = min (127 * i + 127) n := ⟨_, rfl⟩
      have hlt := HKL.out i hik
      rw [← HN2.out] at hlt
      have XS : ∀ w, (Instr.slice 9 (.string sb) (some (.int .i64 ((i : Int) * 127))) (some (.int .i64 (min ((i : Int) * 127 + 127) (n : Int)))) none).run Tryd.prog w = .ok (.string (mkB (bodyP s i))) w := fun w => by
        have ee : min ((i : Int) * 127 + 127) (n : Int) = (e : Nat) := by omega
        rw [ee]
        have h := Frm.slice_mid w s (i := 127 * i) (j := e) (by rw [← HN2.out]; omega) (by omega)
        rw [← HSB.out, show ((127 * i : Nat) : Int) = (i : Int) * 127 by omega] at h
        have e2 : (s.take e).drop (127 * i) = bodyP s i := by
          unfold bodyP
          rw [List.drop_take, he, HN2.out]
          by_cases q : 127 * i + 127 ≤ s.length
          · rw [Nat.min_eq_left q, show 127 * i + 127 - 127 * i = 127 by omega]
          · rw [Nat.min_eq_right (by omega), List.take_of_length_le (by rw [List.length_drop]; exact Nat.le_refl _), List.take_of_length_le (by rw [List.length_drop]; omega)]
        rw [e2] at h
        exact h
      have AD : ∀ w, (Op.stringOp .add (ByteArray.mk #[66]) (mkB (bodyP s i))).run Tryd.prog w = .ok (.string (mkB (plateP s i))) w := fun w => by
        have h2 : mkB (plateP s i) = ByteArray.mk #[66] ++ mkB (bodyP s i) := mkB_app [66] (bodyP s i)
        rw [h2]
        exact run_string_add_sum w _ _ (by rw [mkB_size, bodyP_len]; show 1 + _ ≤ _; omega)
      have C1 : Hid (∀ w', St base w1 F X B l (SN i) w' → Calls Tryd.prog 34 #[.pointer (some ⟨X, 0, none⟩), .int .i64 (IntKind.i64.wrap (1 + (i : Int)))] w' fun e w2 => e = .returned (.int .i64 ((q i : Nat) : Int)) ∧ St base w1 F X B l (SN i) w2) := fun w' h => by
        rw [IntWalk.i64_in _ (by omega)]
        exact CPq.out i (SN i) w' hik h
      have C2 := Lib.hid (fun w' h => CLq.out i w' hik h)
      have KE : Hid (∀ Dq w', St base w1 F X B l Dq w' → w'.cell? ⟨X, 0, none⟩ = some (.pointer (some ⟨B, 0, none⟩))) := fun Dq w' h => (CE.out Dq w' h).1
      have c0 := KE.out _ _ HS.out
      have hs0 := HS.out
      obtain ⟨qi, hqi⟩ : ∃ x, x = q i := ⟨_, rfl⟩
      rw [← hqi] at C1 C2
      clear hqi he hlt HS
      generalize mkB (bodyP s i) = sbp at *
      generalize mkB (plateP s i) = spp at *
      go_wp2_with fail
      go_region_held3 (fun w' => w'.cell? ⟨X, 0, none⟩ = some (.pointer (some ⟨B, 0, none⟩)))
        ((exact KE.out _ _ (by (repeat first | with_reducible assumption | with_reducible apply DR1.out | with_reducible apply DR.out))))
        (first
          | (go_at_call 34; (with_reducible refine (C1.out _ (by (repeat first | with_reducible assumption | with_reducible apply DR1.out | with_reducible apply DR.out))).mono ?_); rintro e wt ⟨rfl, hkt⟩)
          | (go_at_call 7; (with_reducible refine (C2.out _ (by (repeat first | with_reducible assumption | with_reducible apply DR1.out | with_reducible apply DR.out))).mono ?_); rintro e wt ⟨rfl, hkt2⟩))
      have HS2 := Lib.hid hkt2
      clear hkt hkt2 hs0 C1 C2 AD XS c0
      go_wp2_with fail
      go_roundg (k - (i + 1))
      case measure => omega
      case rel => exact ⟨i + 1, by omega, Nat.le_refl _, by go_num, HS2.out⟩
    · obtain rfl : i = k := by omega
      have gi : decide ((i : Int) < (i : Int)) = false := decide_eq_false (by omega)
      have hs0 := HS.out
      clear CPq CLq HKL hkl HS S0 CB
      go_wp2_with fail
      go_region_held3 (fun w' => w'.cell? ⟨X, 0, none⟩ = some (.pointer (some ⟨B, 0, none⟩)) ∧ w'.cell? ⟨X, 4, none⟩ = some (.int .i64 (num : Nat)))
        ((exact CE.out _ _ (by (repeat first | with_reducible assumption | with_reducible apply DR1.out | with_reducible apply DR.out))))
        (first
          | (go_at_call 34; (with_reducible refine (CP0.out _ _ (by (repeat first | with_reducible assumption | with_reducible apply DR1.out | with_reducible apply DR.out))).mono ?_); rintro e wt ⟨rfl, hkt⟩)
          | (go_at_call 7; (with_reducible refine (CL1.out _ (by (repeat first | with_reducible assumption | with_reducible apply DR1.out | with_reducible apply DR.out))).mono ?_); rintro e wt ⟨rfl, hkt2⟩)
          | (go_at_call 36; (with_reducible refine (CH.out _ _ (by (repeat first | with_reducible assumption | with_reducible apply DR1.out | with_reducible apply DR.out))).mono ?_); rintro e wt ⟨rfl, hkt⟩)
          | (go_at_call 35; (with_reducible refine (CB1.out _ ?_).mono ?_); (focus ((repeat first | with_reducible assumption | with_reducible apply DR1.out | with_reducible apply DR.out); done)); rintro e wt ⟨rfl, hkt1⟩)
          | (go_at_call 35; (with_reducible refine (CB2.out _ ?_).mono ?_); (focus ((repeat first | with_reducible assumption | with_reducible apply DR1.out | with_reducible apply DR.out); done)); rintro e wt ⟨rfl, hkt3⟩))
      all_goals go_wp2_with fail
      all_goals go_ret
      all_goals exact ⟨rfl, by assumption⟩
end Go.Proofs.YtffejfpbeimngaaDoor.Ldg
