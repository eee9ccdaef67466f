/- Words: the walk of WordsAnswers. -/
import Derived.Test.YthegkookfpnbeaaKm
import Derived.Test.YthegkookfpnbeaaKo
set_option linter.unusedVariables false
set_option linter.unusedSimpArgs false
set_option maxRecDepth 100000
namespace Go.Proofs.Ythegkookfpnbeaa.Wds
open Go.RowKit Go.Lib Go.Proofs.Ythegkookfpnbeaa.Bx Go.Proofs.Ythegkookfpnbeaa.Frm

theorem flat_le {α : Type} {g : α → List UInt8} {c : Nat} (xs : List α) (h : ∀ x ∈ xs, (g x).length ≤ c) : (xs.flatMap g).length ≤ c * xs.length := by
  induction xs with
  | nil => exact Nat.zero_le _
  | cons x xs ih =>
    have h1 := h x List.mem_cons_self
    have h2 := ih (fun y hy => h y (List.mem_cons_of_mem _ hy))
    rw [List.flatMap_cons, List.length_append, List.length_cons, Nat.mul_succ]
    omega
theorem ans_len {a : An} (h : fitA a) : (ansL a).length ≤ 100000000 := by
  obtain ⟨h1, h2, h3, h4, h5, h6⟩ := h
  have g1 := flat_le (g := runL) (c := 65560) a.R (fun x hx => by
    unfold runL
    simp only [List.length_append, num_len]
    rw [show (textL x.t).length = x.t.length + 2 from rfl, show (flagL x.o).length = 1 from rfl]
    have := h5 x hx
    omega)
  have g2 := flat_le (g := entL) (c := 5000) a.E (fun x hx => by
    unfold entL
    simp only [List.length_append, num_len, nums_row_len]
    have := h6 x hx
    omega)
  have g3 : 65560 * a.R.length ≤ 65560 * 255 := Nat.mul_le_mul_left _ h3
  have g4 : 5000 * a.E.length ≤ 5000 * 255 := Nat.mul_le_mul_left _ h4
  unfold ansL rowL
  simp only [List.length_append, List.length_cons, num_len]
  rw [show (textL a.tok).length = a.tok.length + 2 from rfl]
  simp only [List.length_nil]
  omega
theorem ansE_X : answerE aX = (3 :: List.replicate 20 0, true) := by
  rw [ans_yes ⟨⟨by decide, by decide⟩, by decide, by decide, by decide, (fun x hx => by cases hx), (fun x hx => by cases hx)⟩, ansX]
set_option maxHeartbeats 16000000 in
theorem answers_walk (a : An) (v : Value) (w : World) (h : AnV w v a) (hb : bigA a) (hn : numsA a) : Calls Try.prog 5 #[v] w fun e w' => e = .returned (.bool true) ∧ Below w.heap.size w w' := by
  have hv := h
  obtain ⟨rv, ev, rfl, hr, he⟩ := h
  obtain ⟨ra, rc, rfl, _, _, _⟩ := hr.open_
  obtain ⟨ea, ec, rfl, _, _⟩ := he.is_slice
  obtain ⟨nr, hnr⟩ : ∃ nr, nr = a.R.length := ⟨_, rfl⟩
  obtain ⟨ne, hne⟩ : ∃ ne, ne = a.E.length := ⟨_, rfl⟩
  obtain ⟨A, hA⟩ : ∃ A, A = w.heap.size := ⟨_, rfl⟩
  obtain ⟨st, hst⟩ : ∃ st, st = a.st := ⟨_, rfl⟩
  obtain ⟨tt, htt⟩ : ∃ tt, tt = mkB a.tok := ⟨_, rfl⟩
  obtain ⟨nu, hnu⟩ : ∃ nu, nu = a.num := ⟨_, rfl⟩
  obtain ⟨at9, hat⟩ : ∃ at9, at9 = a.at' := ⟨_, rfl⟩
  rw [← hnr, ← hne, ← hst, ← htt, ← hnu, ← hat] at hv ⊢
  obtain ⟨B0, P0, L0⟩ := box1 w #[.int .i64 st, .string tt, .int .i64 nu, .int .i64 at9, .slice ra nr rc, .slice ea ne ec] 46
  obtain ⟨W0, hW0⟩ : ∃ W0, W0 = w.alloc (.cells #[.int .i64 st, .string tt, .int .i64 nu, .int .i64 at9, .slice ra nr rc, .slice ea ne ec] 46) := ⟨_, rfl⟩
  rw [← hW0] at B0 P0 L0
  have HC : Hid (∀ w', Below W0.heap.size W0 w' → w'.heap[A]? = some (.cells #[.int .i64 st, .string tt, .int .i64 nu, .int .i64 at9, .slice ra nr rc, .slice ea ne ec] 46 (0, 0))) := fun w' hb => by rw [hA]; exact (hb.block _ (by omega)).trans P0
  have HV : Hid (∀ w', Below W0.heap.size W0 w' → AnV w' (.agg #[.int .i64 st, .string tt, .int .i64 nu, .int .i64 at9, .slice ra nr rc, .slice ea ne ec]) a) := fun w' hb => hv.below (below_on B0 hb)
  have CX : Hid (∀ w', Calls Try.prog 17 #[.agg #[.int .i64 3, .string (ByteArray.mk #[]), .int .i64 0, .int .i64 0, .slice none 0 0, .slice none 0 0]] w' fun e w'' => e = .returned (.tuple #[.string (mkB (3 :: List.replicate 20 0)), .bool true]) ∧ Below w'.heap.size w' w'') := fun w' => by
    have h := answer_ok aX (.agg #[.int .i64 3, .string (ByteArray.mk #[]), .int .i64 0, .int .i64 0, .slice none 0 0, .slice none 0 0]) w' ⟨_, _, rfl, Rns.nil_ _, Aud.EnsP.nil_ _ _⟩ ⟨by decide, fun x hx => by cases hx⟩
    rw [ansE_X] at h
    exact h
  have XI : ∀ w, (Instr.index 9 (.string (mkB (3 :: List.replicate 20 0))) (.int .i64 0)).run Try.prog w = .ok (.int .u8 3) w := fun w => byte_run w (3 :: List.replicate 20 0) .i64 (i := 0) (by decide)
  have XZ : (mkB (3 :: List.replicate 20 0)).size = 21 := by rw [mkB_size]; rfl
  obtain ⟨s, hs⟩ : ∃ s, s = mkB (answerE a).1 := ⟨_, rfl⟩
  obtain ⟨ok, hok⟩ : ∃ ok, ok = (answerE a).2 := ⟨_, rfl⟩
  have CA : Hid (∀ w', Below W0.heap.size W0 w' → Calls Try.prog 17 #[.agg #[.int .i64 st, .string tt, .int .i64 nu, .int .i64 at9, .slice ra nr rc, .slice ea ne ec]] w' fun e w'' => e = .returned (.tuple #[.string s, .bool ok]) ∧ Below w'.heap.size w' w'') := fun w' hb' => by rw [hs, hok]; exact answer_ok a _ w' (HV.out w' hb') hb
  have CR : Hid (∀ w', Below W0.heap.size W0 w' → Calls Try.prog 19 #[.agg #[.int .i64 st, .string tt, .int .i64 nu, .int .i64 at9, .slice ra nr rc, .slice ea ne ec]] w' fun e w'' => e = .returned (.tuple #[.string s, .bool ok]) ∧ Below w'.heap.size w' w'') := fun w' hb' => by rw [hs, hok]; exact ranswer_any a _ w' (HV.out w' hb')
  have CS : Hid (∀ w', Below W0.heap.size W0 w' → Calls Try.prog 18 #[.agg #[.int .i64 st, .string tt, .int .i64 nu, .int .i64 at9, .slice ra nr rc, .slice ea ne ec]] w' fun e w'' => AnyB e ∧ Below w'.heap.size w' w'') := fun w' hb' => small_any w' (HV.out w' hb')
  have CT : Hid (ok = true → ∀ w', Calls Try.prog 20 #[.string s] w' fun e w'' => (∃ v, e = .returned (.tuple #[v, .bool true]) ∧ AnO w'.heap.size w'' v a) ∧ Below w'.heap.size w' w'') := fun hk w' => by
    have hf : fitA a := by
      rw [hok] at hk
      unfold answerE at hk
      split at hk
      · assumption
      · cases hk
    have h := told_two (answerE a).1 w' (by rw [ans_yes hf]; exact Nat.le_trans (ans_len hf) (by decide))
    rw [told_answer hn (by rw [← hok]; exact hk)] at h
    rw [hs]
    exact h
  have HB0 := Lib.hid B0
  have HW0 := Lib.hid hW0
  have HAS : Hid (w.heap.size = A) := hA.symm
  obtain ⟨c0, c1, c2, c3, c4, c5⟩ := six_cells (HC.out W0 (Below.refl _ _))
  have ss : (s.toList == s.toList) = true := by simp
  generalize mkB (3 :: List.replicate 20 0) = s21 at *
  clear hv hr he hb hn hnr hne hA hst htt hnu hat B0 P0 L0 hW0 hs hok
  go_enter Try.func5, Try.ntmps5
  go_upto_region 1 with fail
  rw [← HW0.out, HAS.out]
  go_wp2_with fail
  refine (CX.out _).mono ?_
  rintro e w1 ⟨rfl, b1⟩
  have KB1 := Lib.hid b1
  clear c0 c1 c2 c3 c4 c5 b1 CX
  obtain ⟨c0, c1, c2, c3, c4, c5⟩ := six_cells (HC.out w1 KB1.out)
  go_wp2_with fail
  refine (CS.out _ KB1.out).mono ?_
  rintro e w2 ⟨⟨sm, rfl⟩, b2⟩
  have KB2 := Lib.hid (below_on KB1.out b2)
  clear c0 c1 c2 c3 c4 c5 b2 CS XI XZ
  obtain ⟨c0, c1, c2, c3, c4, c5⟩ := six_cells (HC.out w2 KB2.out)
  cases sm with
  | false =>
    have BF : Hid (Below w.heap.size w w2) := below_on HB0.out KB2.out
    go_wp2_with fail
    go_ret
    exact ⟨rfl, BF.out⟩
  | true =>
    go_wp2_with fail
    refine (CA.out _ KB2.out).mono ?_
    rintro e w3 ⟨rfl, b3⟩
    have KB3 := Lib.hid (below_on KB2.out b3)
    clear c0 c1 c2 c3 c4 c5 b3 CA
    obtain ⟨c0, c1, c2, c3, c4, c5⟩ := six_cells (HC.out w3 KB3.out)
    go_wp2_with fail
    refine (CR.out _ KB3.out).mono ?_
    rintro e w4 ⟨rfl, b4⟩
    have KB4 := Lib.hid (below_on KB3.out b4)
    clear c0 c1 c2 c3 c4 c5 b4 CR
    cases ok with
    | false =>
      have BF : Hid (Below w.heap.size w w4) := below_on HB0.out KB4.out
      go_wp2_with fail
      go_ret
      exact ⟨rfl, BF.out⟩
    | true =>
      go_wp2_with fail
      refine (CT.out trivial _).mono ?_
      rintro e w5 ⟨⟨v5, rfl, hv5⟩, b5⟩
      obtain ⟨p4, p5, p6, p7, p8, p9, rfl⟩ := ano_cells hv5
      obtain ⟨x0, hx0⟩ : ∃ x0, x0 = a.st := ⟨_, rfl⟩
      obtain ⟨x1, hx1⟩ : ∃ x1, x1 = mkB a.tok := ⟨_, rfl⟩
      obtain ⟨x2, hx2⟩ : ∃ x2, x2 = a.num := ⟨_, rfl⟩
      obtain ⟨x3, hx3⟩ : ∃ x3, x3 = a.at' := ⟨_, rfl⟩
      rw [← hx0, ← hx1, ← hx2, ← hx3] at hv5 ⊢
      obtain ⟨B5, P5, L5⟩ := box1 w5 #[.int .i64 x0, .string x1, .int .i64 x2, .int .i64 x3, .slice p4 p5 p6, .slice p7 p8 p9] 46
      obtain ⟨W5, hW5⟩ : ∃ W5, W5 = w5.alloc (.cells #[.int .i64 x0, .string x1, .int .i64 x2, .int .i64 x3, .slice p4 p5 p6, .slice p7 p8 p9] 46) := ⟨_, rfl⟩
      rw [← hW5] at B5 P5 L5
      obtain ⟨q5, hq5⟩ : ∃ q5, q5 = w5.heap.size := ⟨_, rfl⟩
      rw [← hq5] at P5 L5
      have KB5 : Hid (Below W0.heap.size W0 W5) := below_on (below_on KB4.out b5) B5
      have CSM := Lib.hid (asame_any W5 (HV.out W5 KB5.out) (hv5.below B5).anv)
      obtain ⟨d0, d1, d2, d3, d4, d5⟩ := six_cells P5
      obtain ⟨c0, c1, c2, c3, c4, c5⟩ := six_cells (HC.out W5 KB5.out)
      have HW5 := Lib.hid hW5
      have HQ5 := Lib.hid hq5
      clear hv5 b5 B5 P5 L5 hW5 hq5 hx0 hx1 hx2 hx3 CT
      go_upto_region 13 with fail
      rw [← HW5.out, ← HQ5.out]
      go_wp2_with fail
      refine CSM.out.mono ?_
      rintro e w6 ⟨rfl, b6⟩
      have BF : Hid (Below w.heap.size w w6) := below_on HB0.out (below_on KB5.out b6)
      clear b6 CSM c0 c1 c2 c3 c4 c5 d0 d1 d2 d3 d4 d5
      go_wp2_with fail
      go_ret
      exact ⟨rfl, BF.out⟩
end Go.Proofs.Ythegkookfpnbeaa.Wds
