/- Words: the program's Ask. -/
import Derived.Test.YthegkookfpnbeaaJo
set_option linter.unusedVariables false
set_option linter.unusedSimpArgs false
set_option maxRecDepth 100000
namespace Go.Proofs.Ythegkookfpnbeaa.Wds
open Go.RowKit Go.Lib Go.Proofs.Ythegkookfpnbeaa.Bx Go.Proofs.Ythegkookfpnbeaa.Frm

set_option maxHeartbeats 2000000 in
theorem of_rd (s : ByteArray) (w : World) : Calls Try.prog 33 #[.string s] w fun e w' => e = .returned (.agg #[.string s]) ∧ Below w.heap.size w w' := by
  obtain ⟨B0, P0, L0⟩ := box1 w #[.string s] 98
  have d0 := one_cell P0
  have FE := Lib.hid B0
  clear P0 B0 L0
  go_enter Try.func33, Try.ntmps33
  go_wp2_with fail
  exact bodyPost_ret (v := .agg #[.string s]) (by simp [results, Try.results33, go_sem, d0, Try.isAgg98, Try.sizeOf98]) rfl ⟨rfl, FE.out⟩
theorem ask_parts (s : List UInt8) : ∃ (k : Nat) (t : List UInt8) (n : Int) (r1 r2 r3 : Rd), lenR ⟨s, false⟩ = (k, r1) ∧ textR r1 = (t, r2) ∧ numR r2 = (n, r3) ∧ wholeB (tailW k r3) = (askE s).2 ∧ (if wholeB (tailW k r3) = true then Value.agg #[.string (mkB t), .int .i64 n, askV (tailR k r3).1] else .agg #[.string (ByteArray.mk #[]), .int .i64 0, .nilIface]) = callV (askE s) := by
  obtain ⟨k, hk⟩ : ∃ k, k = (lenR ⟨s, false⟩).1 := ⟨_, rfl⟩
  obtain ⟨r3, hr3⟩ : ∃ r3, r3 = (numR (textR (lenR ⟨s, false⟩).2).2).2 := ⟨_, rfl⟩
  have e1 : (askR s).2 = (tailR k r3).2 := by rw [hk, hr3]; rfl
  have e2 : askV (askR s).1 = askV (tailR k r3).1 := by rw [hk, hr3]; rfl
  have e3 : opE (askR s).1 = 0 ↔ k = 0 ∨ 15 < k := by
    have : (askR s).1.op = (k : Int) := by rw [hk]; rfl
    unfold opE
    rw [this]
    split <;> omega
  have e4 : wholeB (tailW k r3) = (askE s).2 := by
    unfold wholeB tailW askE
    by_cases ho : k = 0 ∨ 15 < k
    · rw [if_pos ho, if_neg (fun h => h.2.2 (e3.2 ho))]
      exact decide_eq_false (fun h => by cases h.1)
    · rw [if_neg ho]
      by_cases hc : (tailR k r3).2.bad = false ∧ (tailR k r3).2.s = []
      · rw [decide_eq_true hc, if_pos ⟨by rw [e1]; exact hc.1, by rw [e1]; exact hc.2, fun h => ho (e3.1 h)⟩]
      · rw [decide_eq_false hc, if_neg (fun h => hc ⟨by rw [← e1]; exact h.1, by rw [← e1]; exact h.2.1⟩)]
  refine ⟨k, (textR (lenR ⟨s, false⟩).2).1, (numR (textR (lenR ⟨s, false⟩).2).2).1, (lenR ⟨s, false⟩).2, (textR (lenR ⟨s, false⟩).2).2, r3, by rw [hk], rfl, by rw [hr3], e4, ?_⟩
  rw [e4]
  unfold callV
  by_cases hq : (askE s).2 = true
  · rw [if_pos hq, if_pos hq]
    have ha : (askE s).1 = (askR s).1 := by
      unfold askE at hq ⊢
      split at hq
      · rename_i h; rw [if_pos h]
      · cases hq
    rw [ha, e2]
    rfl
  · rw [if_neg hq, if_neg hq]
theorem callV_form (q : Pl × Bool) : ∃ y0 y1 y2, callV q = .agg #[.string y0, .int .i64 y1, y2] ∧ (y2 = .nilIface ∨ ∃ t x, y2 = .iface t x) := by
  unfold callV
  split
  · exact ⟨_, _, _, rfl, askV_form _⟩
  · exact ⟨_, _, _, rfl, .inl rfl⟩
set_option maxHeartbeats 4000000 in
theorem ask_ok : AskOk := fun s w hs => by
  obtain ⟨k, t, n, r1, r2, r3, e1, e2, e3, e4, e5⟩ := ask_parts s
  obtain ⟨y0, y1, y2, ey, hy⟩ := callV_form (askE s)
  obtain ⟨B0, P0, L0⟩ := box1 w #[.string (ByteArray.mk #[]), .int .i64 0, .nilIface] 30
  obtain ⟨W0, hW0⟩ : ∃ W0, W0 = w.alloc (.cells #[.string (ByteArray.mk #[]), .int .i64 0, .nilIface] 30) := ⟨_, rfl⟩
  rw [← hW0] at B0 P0 L0
  obtain ⟨R, hR⟩ : ∃ R, R = w.heap.size := ⟨_, rfl⟩
  rw [← hR] at L0 P0
  rw [ey]
  have CO := Lib.hid (fun w => of_rd (mkB s) w)
  have HX : Hid (∀ w1, Below W0.heap.size W0 w1 → ∃ W1 B, W1 = w1.alloc (.cells #[.string (mkB s)] 101) ∧ B = w1.heap.size ∧ R < B ∧ Below R w W1 ∧ W1.heap.size = B + 1 ∧ Calls Try.prog 34 #[.pointer (some ⟨B, 0, none⟩), .func (.func 35) #[.pointer (some ⟨B, 0, none⟩)] #[]] W1 (fun e w' => e = .returned (.tuple #[.agg #[.string y0, .int .i64 y1, y2], .bool (askE s).2]) ∧ W1.grownBy w' (some B)) ∧ ∀ w', W1.grownBy w' (some B) → w'.heap[R]? = some (.cells #[.string (ByteArray.mk #[]), .int .i64 0, .nilIface] 30 (0, 0))) := fun w1 b1 => by
    obtain ⟨B1, P1, L1⟩ := box1 w1 #[.string (mkB s)] 101
    refine ⟨_, _, rfl, rfl, by have := b1.size; omega, by rw [hR]; exact below_on (below_on B0 b1) B1, L1, ?_, fun w' g => ?_⟩
    · have CC := whole_call (w := w1.alloc (.cells #[.string (mkB s)] 101)) (B := w1.heap.size) P1 (mkB t) n (askV (tailR k r3).1) (askV_form _) (tailW k r3) _ rfl (fun w' h => pcall_rd ⟨s, false⟩ r1 r2 r3 k t n e1 e2 e3 rfl (by show s.length ≤ _; omega) h)
      rw [e5, e4, ey] at CC
      exact CC
    · have h1 : R < w1.heap.size := by have := b1.size; omega
      exact (g.block R (by rw [L1]; omega) (by simp; omega)).trans ((B1.block R h1).trans ((b1.block R (by omega)).trans P0))
  have HS0 : Hid (w.heap.size = R) := hR.symm
  have HW0 := Lib.hid hW0
  have hmf : ∀ (fn : Fn) (first cap : Array Value) (w : World), (Instr.makeFunc fn first cap).run Try.prog w = .ok (.func fn first cap) w := fun _ _ _ _ => rfl
  generalize (askE s).2 = b at *
  generalize mkB s = u at *
  clear e1 e2 e3 e4 e5 ey B0 P0 L0 hW0 hR hs
  rcases hy with rfl | ⟨tt, xx, rfl⟩
  · go_enter Try.func13, Try.ntmps13
    go_wp2_with fail
    rw [← HW0.out]
    refine (CO.out _).mono ?_
    rintro e w1 ⟨rfl, b1⟩
    obtain ⟨W1, B, hW1, hB, hRB, hBl, hL, hCC, hHG⟩ := HX.out w1 b1
    have HW1 := Lib.hid hW1
    have HBB := Lib.hid hB
    have HRB := Lib.hid hRB
    have HB := Lib.hid hBl
    have HL := Lib.hid hL
    have CC := Lib.hid hCC
    have HG := Lib.hid hHG
    clear hW1 hB hRB hBl hL hCC hHG b1 HX CO
    go_wp2_with fail
    rw [← HW1.out, ← HBB.out, HS0.out]
    refine CC.out.mono ?_
    rintro e w2 ⟨rfl, g2⟩
    have z2 := HG.out _ g2
    obtain ⟨c0, c1, c2⟩ := three_cells z2
    have fr0 := free_at (i := 0) z2
    have fr1 := free_at (i := 1) z2
    have fr2 := free_at (i := 2) z2
    obtain ⟨WN, hWN⟩ : ∃ WN, WN = ((w2.setCell ⟨R, 0, none⟩ (.string y0)).setCell ⟨R, 1, none⟩ (.int .i64 y1)).setCell ⟨R, 2, none⟩ .nilIface := ⟨_, rfl⟩
    have zz : WN.heap[R]? = some (.cells #[.string y0, .int .i64 y1, .nilIface] 30 (0, 0)) := by
      rw [hWN]
      exact set_block (set_block (set_block z2))
    have GN : Below w.heap.size w WN := by
      have b : Below R w w2 := grown_to HB.out g2 (Nat.le_of_lt HRB.out) (by have := HL.out; have := HRB.out; omega)
      rw [hWN, HS0.out]
      exact below_put (below_put (below_put b (Nat.le_refl R) _) (Nat.le_refl R) _) (Nat.le_refl R) _
    obtain ⟨d0, d1, d2⟩ := three_cells zz
    have HWN := Lib.hid hWN
    have GF := Lib.hid GN
    clear hWN zz GN g2 z2 CC HG
    go_wp2_with fail
    rw [← HWN.out]
    exact bodyPost_ret (v := .tuple #[.agg #[.string y0, .int .i64 y1, .nilIface], .bool b]) (by simp [results, Try.results13, go_sem, d0, d1, d2, Try.isAgg30, Try.sizeOf30]) rfl ⟨rfl, GF.out⟩
  · go_enter Try.func13, Try.ntmps13
    go_wp2_with fail
    rw [← HW0.out]
    refine (CO.out _).mono ?_
    rintro e w1 ⟨rfl, b1⟩
    obtain ⟨W1, B, hW1, hB, hRB, hBl, hL, hCC, hHG⟩ := HX.out w1 b1
    have HW1 := Lib.hid hW1
    have HBB := Lib.hid hB
    have HRB := Lib.hid hRB
    have HB := Lib.hid hBl
    have HL := Lib.hid hL
    have CC := Lib.hid hCC
    have HG := Lib.hid hHG
    clear hW1 hB hRB hBl hL hCC hHG b1 HX CO
    go_wp2_with fail
    rw [← HW1.out, ← HBB.out, HS0.out]
    refine CC.out.mono ?_
    rintro e w2 ⟨rfl, g2⟩
    have z2 := HG.out _ g2
    obtain ⟨c0, c1, c2⟩ := three_cells z2
    have fr0 := free_at (i := 0) z2
    have fr1 := free_at (i := 1) z2
    have fr2 := free_at (i := 2) z2
    obtain ⟨WN, hWN⟩ : ∃ WN, WN = ((w2.setCell ⟨R, 0, none⟩ (.string y0)).setCell ⟨R, 1, none⟩ (.int .i64 y1)).setCell ⟨R, 2, none⟩ (.iface tt xx) := ⟨_, rfl⟩
    have zz : WN.heap[R]? = some (.cells #[.string y0, .int .i64 y1, (.iface tt xx)] 30 (0, 0)) := by
      rw [hWN]
      exact set_block (set_block (set_block z2))
    have GN : Below w.heap.size w WN := by
      have b : Below R w w2 := grown_to HB.out g2 (Nat.le_of_lt HRB.out) (by have := HL.out; have := HRB.out; omega)
      rw [hWN, HS0.out]
      exact below_put (below_put (below_put b (Nat.le_refl R) _) (Nat.le_refl R) _) (Nat.le_refl R) _
    obtain ⟨d0, d1, d2⟩ := three_cells zz
    have HWN := Lib.hid hWN
    have GF := Lib.hid GN
    clear hWN zz GN g2 z2 CC HG
    go_wp2_with fail
    rw [← HWN.out]
    exact bodyPost_ret (v := .tuple #[.agg #[.string y0, .int .i64 y1, (.iface tt xx)], .bool b]) (by simp [results, Try.results13, go_sem, d0, d1, d2, Try.isAgg30, Try.sizeOf30]) rfl ⟨rfl, GF.out⟩
end Go.Proofs.Ythegkookfpnbeaa.Wds
