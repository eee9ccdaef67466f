/- Words: the walk of WordsTold. -/
import Derived.Test.YthegkookfpnbeaaKl
import Derived.Test.YthegkookfpnbeaaKj
set_option linter.unusedVariables false
set_option linter.unusedSimpArgs false
set_option maxRecDepth 100000
namespace Go.Proofs.Ythegkookfpnbeaa.Wds
open Go.RowKit Go.Lib Go.Proofs.Ythegkookfpnbeaa.Bx Go.Proofs.Ythegkookfpnbeaa.Frm

theorem told_two (s : List UInt8) (w' : World) (hs : s.length ≤ 9223372036854775807) : Calls Try.prog 20 #[.string (mkB s)] w' fun e w'' => (∃ v, e = .returned (.tuple #[v, .bool (toldE s).2]) ∧ AnO w'.heap.size w'' v (toldE s).1) ∧ Below w'.heap.size w' w'' := (told_ok' s w' hs).mono fun e w'' ⟨v, h1, h2, h3⟩ => ⟨⟨v, h1, h2⟩, h3⟩
def aX : An := ⟨3, [], 0, 0, [], []⟩
theorem ansX : ansL aX = 3 :: List.replicate 20 0 := by decide
theorem toldX : toldE (3 :: List.replicate 20 0) = (aX, true) := by
  have h := told_app (a := aX) ⟨⟨by decide, by decide⟩, by decide, ⟨by decide, by decide⟩, ⟨by decide, by decide⟩, by decide, by decide, (fun x hx => by cases hx), (fun x hx => by cases hx)⟩ []
  rw [List.append_nil, ansX] at h
  unfold toldE
  rw [h]
  exact if_pos ⟨rfl, rfl⟩
theorem row_len {α : Type} (g : α → List UInt8) (xs : List α) : (rowL g xs).length = 1 + (xs.map fun x => (g x).length).sum := by
  unfold rowL
  rw [List.length_cons, List.length_flatMap]
  omega
theorem nums_row_len (xs : List Int) : (rowL numL xs).length = 1 + 8 * xs.length := by
  rw [row_len]
  congr 1
  induction xs with
  | nil => rfl
  | cons x xs ih => rw [List.map_cons, List.sum_cons, ih, num_len, List.length_cons]; omega
theorem ano_cells {base : Nat} {w : World} {v : Value} {a : An} (h : AnO base w v a) : ∃ a4 a5 a6 a7 a8 a9, v = .agg #[.int .i64 a.st, .string (mkB a.tok), .int .i64 a.num, .int .i64 a.at', .slice a4 a5 a6, .slice a7 a8 a9] := by
  obtain ⟨a4, c4, a5, c5, e⟩ := h.form
  exact ⟨_, _, _, _, _, _, e⟩
set_option maxHeartbeats 16000000 in
theorem told_walk (s : List UInt8) (hs : s.length ≤ 9223372036854775807) (w : World) : Calls Try.prog 6 #[.string (mkB s)] w fun e w' => e = .returned (.bool true) ∧ Below w.heap.size w w' := by
  obtain ⟨n, hn⟩ : ∃ n, n = s.length := ⟨_, rfl⟩
  obtain ⟨st, hst⟩ : ∃ st, st = mkB s := ⟨_, rfl⟩
  have sz : st.size = n := by rw [hst, mkB_size, hn]
  rw [← hn] at hs
  rw [← hst]
  have HN := Lib.hid (And.intro hn hst)
  obtain ⟨i0, hi, hz0, hz1, hz2⟩ := Rk.kparts infoU8
  have A2 : Hid (i0.bytes * 20 ≤ 281474976710656) := by show _ ≤ _; rw [hz2]; omega
  have A3 : Hid (20 ≤ maxLen) := by show _ ≤ _; unfold maxLen; omega
  have A4 : Hid (w.heap.size ≤ w.heap.size) := Nat.le_refl _
  have XA : ∀ w, (Op.stringOp .add (ByteArray.mk #[3]) (mkB (List.replicate 20 0))).run Try.prog w = .ok (.string (mkB (3 :: List.replicate 20 0))) w := fun w => run_string_add_sum w _ _ (by rw [mkB_size]; decide)
  have HX : Hid (∀ w', Calls Try.prog 20 #[.string (mkB (3 :: List.replicate 20 0))] w' fun e w'' => (∃ a4 a5 a6 a7 a8 a9, e = .returned (.tuple #[.agg #[.int .i64 3, .string (ByteArray.mk #[]), .int .i64 0, .int .i64 0, .slice a4 a5 a6, .slice a7 a8 a9], .bool true])) ∧ Below w'.heap.size w' w'') := fun w' => by
    have h := told_two (3 :: List.replicate 20 0) w' (by decide)
    rw [toldX] at h
    refine h.mono ?_
    rintro e w'' ⟨⟨v, rfl, hv⟩, hb⟩
    obtain ⟨a4, a5, a6, a7, a8, a9, rfl⟩ := ano_cells hv
    exact ⟨⟨a4, a5, a6, a7, a8, a9, rfl⟩, hb⟩
  generalize mkB (3 :: List.replicate 20 0) = s20 at *
  generalize hz20 : mkB (List.replicate 20 0) = z20 at *
  have HZ20 := Lib.hid hz20
  clear hn hst hz20
  go_enter Try.func6, Try.ntmps6
  go_wp2_with (at_make; refine wpList_make_full _ rfl _ _ 52 rfl w.heap.size 5 i0 (.int .u8 0) 1 Try.underlying52 hi hz0 hz1 .i64 .i64 _ _ 20 rfl rfl rfl rfl A2.out A3.out A4.out ?_)
  intro w2 r2 g2
  have CV := zeros_text (by decide) r2
  rw [HZ20.out] at CV
  have B2 : Hid (Below w.heap.size w w2) := ⟨g2.os, g2.tape, g2.output, g2.size, fun k hk => g2.block k hk (by simp)⟩
  clear r2 g2 A2 A3 A4
  go_wp2_with fail
  refine (HX.out _).mono ?_
  rintro e w1 ⟨⟨a4, a5, a6, a7, a8, a9, rfl⟩, b1⟩
  have HB : Hid (∀ o, Below w.heap.size w (w1.alloc o)) := fun o => below_al (below_on B2.out b1) o
  have P1 := heap_alloc_new w1 (.cells #[.int .i64 3, .string (ByteArray.mk #[]), .int .i64 0, .int .i64 0, .slice a4 a5 a6, .slice a7 a8 a9] 46)
  have c0 : (w1.alloc (.cells #[.int .i64 3, .string (ByteArray.mk #[]), .int .i64 0, .int .i64 0, .slice a4 a5 a6, .slice a7 a8 a9] 46)).cell? ⟨w1.heap.size, 0, none⟩ = some (.int .i64 3) := by rw [cell_of_row _ _ _ _ _ _ P1]; rfl
  clear b1 P1 HX B2 CV
  by_cases hbig : 5000 < n
  · have g1 : (5000 : Int) < (n : Int) := by omega
    go_wp2_with fail
    go_ret
    exact ⟨rfl, HB.out _⟩
  · have g1 : ¬ (5000 : Int) < (n : Int) := by omega
    obtain ⟨AA, hAA⟩ : ∃ AA, AA = (toldE s).1 := ⟨_, rfl⟩
    cases hk : (toldE s).2 with
    | true =>
      have HT1 : Hid (∀ w', Calls Try.prog 20 #[.string st] w' fun e w'' => (∃ v, e = .returned (.tuple #[v, .bool true]) ∧ AnO w'.heap.size w'' v AA) ∧ Below w'.heap.size w' w'') := fun w' => by have h := told_two s w' (by rw [← HN.out.1]; omega); rw [hk, ← HN.out.2, ← hAA] at h; exact h
      have HT2 : Hid (∀ w', Calls Try.prog 22 #[.string st] w' fun e w'' => (∃ v, e = .returned (.tuple #[v, .bool true]) ∧ AnO w'.heap.size w'' v AA) ∧ Below w'.heap.size w' w'') := fun w' => by
        have h := (rtold_any s w').mono fun e w'' ⟨v, h1, h2, h3⟩ => (show (∃ v, e = Ending.returned (.tuple #[v, .bool (toldE s).2]) ∧ AnO w'.heap.size w'' v (toldE s).1) ∧ Below w'.heap.size w' w'' from ⟨⟨v, h1, h2⟩, h3⟩)
        rw [hk, ← HN.out.2, ← hAA] at h
        exact h
      have HAN : Hid (answerE AA = (s, true) ∧ bigA AA) := ⟨by rw [hAA]; exact (told_yes hk).2, by
        rw [hAA]
        have h := (told_yes hk).1
        exact ⟨Nat.le_trans h.2.1 (by decide), fun x hx => Nat.le_trans (h.2.2.2.2.2.2.1 x hx).2.2 (by decide)⟩⟩
      clear hk hAA
      go_wp2_with fail
      refine (HT1.out _).mono ?_
      rintro e w3 ⟨⟨v3, rfl, hv3⟩, b3⟩
      obtain ⟨p4, p5, p6, p7, p8, p9, rfl⟩ := ano_cells hv3
      obtain ⟨x0, hx0⟩ : ∃ x0, x0 = AA.st := ⟨_, rfl⟩
      obtain ⟨x1, hx1⟩ : ∃ x1, x1 = mkB AA.tok := ⟨_, rfl⟩
      obtain ⟨x2, hx2⟩ : ∃ x2, x2 = AA.num := ⟨_, rfl⟩
      obtain ⟨x3, hx3⟩ : ∃ x3, x3 = AA.at' := ⟨_, rfl⟩
      rw [← hx0, ← hx1, ← hx2, ← hx3] at hv3 ⊢
      have HXS := Lib.hid (And.intro hx0 (And.intro hx1 (And.intro hx2 hx3)))
      clear hx0 hx1 hx2 hx3
      obtain ⟨B3, P3, L3⟩ := box1 w3 #[.int .i64 x0, .string x1, .int .i64 x2, .int .i64 x3, .slice p4 p5 p6, .slice p7 p8 p9] 46
      obtain ⟨W3, hW3⟩ : ∃ W3, W3 = w3.alloc (.cells #[.int .i64 x0, .string x1, .int .i64 x2, .int .i64 x3, .slice p4 p5 p6, .slice p7 p8 p9] 46) := ⟨_, rfl⟩
      rw [← hW3] at B3 P3 L3
      obtain ⟨q3, hq3⟩ : ∃ q3, q3 = w3.heap.size := ⟨_, rfl⟩
      rw [← hq3] at P3 L3
      have HV3 : Hid (AnV W3 (.agg #[.int .i64 x0, .string x1, .int .i64 x2, .int .i64 x3, .slice p4 p5 p6, .slice p7 p8 p9]) AA) := (hv3.below B3).anv
      have HB3 : Hid (Below w.heap.size w W3) := below_on (below_on (HB.out _) b3) B3
      have HP3 := Lib.hid P3
      have HW3 := Lib.hid hW3
      have HQ3 := Lib.hid hq3
      clear hv3 b3 B3 P3 L3 hW3 hq3 HB HT1
      go_upto_region 7 with fail
      rw [← HW3.out, ← HQ3.out]
      go_wp2_with fail
      refine (HT2.out _).mono ?_
      rintro e w4 ⟨⟨v4, rfl, hv4⟩, b4⟩
      obtain ⟨u4, u5, u6, u7, u8, u9, rfl⟩ := ano_cells hv4
      rw [← HXS.out.1, ← HXS.out.2.1, ← HXS.out.2.2.1, ← HXS.out.2.2.2] at hv4 ⊢
      obtain ⟨B5, P5, L5⟩ := box1 w4 #[.int .i64 x0, .string x1, .int .i64 x2, .int .i64 x3, .slice u4 u5 u6, .slice u7 u8 u9] 46
      obtain ⟨W5, hW5⟩ : ∃ W5, W5 = w4.alloc (.cells #[.int .i64 x0, .string x1, .int .i64 x2, .int .i64 x3, .slice u4 u5 u6, .slice u7 u8 u9] 46) := ⟨_, rfl⟩
      rw [← hW5] at B5 P5 L5
      obtain ⟨q5, hq5⟩ : ∃ q5, q5 = w4.heap.size := ⟨_, rfl⟩
      rw [← hq5] at P5 L5
      have k5 := below_on b4 B5
      have HV5 : Hid (AnV W5 (.agg #[.int .i64 x0, .string x1, .int .i64 x2, .int .i64 x3, .slice u4 u5 u6, .slice u7 u8 u9]) AA) := (hv4.below B5).anv
      have HV35 : Hid (AnV W5 (.agg #[.int .i64 x0, .string x1, .int .i64 x2, .int .i64 x3, .slice p4 p5 p6, .slice p7 p8 p9]) AA) := HV3.out.below k5
      have HB5 : Hid (Below w.heap.size w W5) := below_on HB3.out k5
      have HP35 : Hid (W5.heap[q3]? = some (.cells #[.int .i64 x0, .string x1, .int .i64 x2, .int .i64 x3, .slice p4 p5 p6, .slice p7 p8 p9] 46 (0, 0))) := (k5.block q3 (Array.getElem?_eq_some_iff.1 HP3.out).1).trans HP3.out
      obtain ⟨d0, d1, d2, d3, d4, d5⟩ := six_cells P5
      obtain ⟨c0, c1, c2, c3, c4, c5⟩ := six_cells HP35.out
      have HW5 := Lib.hid hW5
      have HQ5 := Lib.hid hq5
      have CS := Lib.hid (asame_any W5 HV35.out HV5.out)
      clear hv4 b4 B5 P5 L5 hW5 hq5 HT2 k5 HP3 HV3 HB3 HV5
      go_upto_region 8 with fail
      rw [← HW5.out, ← HQ5.out]
      go_wp2_with fail
      refine CS.out.mono ?_
      rintro e w6 ⟨rfl, b6⟩
      have HB : Hid (Below w.heap.size w w6) := below_on HB5.out b6
      have HP6 := (b6.block q3 (Array.getElem?_eq_some_iff.1 HP35.out).1).trans HP35.out
      have CA := Lib.hid (answer_ok AA _ w6 (HV35.out.below b6) HAN.out.2)
      rw [HAN.out.1] at CA
      have CA' : Hid (Calls Try.prog 17 #[.agg #[.int .i64 x0, .string x1, .int .i64 x2, .int .i64 x3, .slice p4 p5 p6, .slice p7 p8 p9]] w6 fun e w' => e = .returned (.tuple #[.string st, .bool true]) ∧ Below w6.heap.size w6 w') := by rw [HN.out.2]; exact CA.out
      clear b6 HB5 CS HP35 HV35 c0 c1 c2 c3 c4 c5 d0 d1 d2 d3 d4 d5 CA
      obtain ⟨c0, c1, c2, c3, c4, c5⟩ := six_cells HP6
      have ss : (st.toList == st.toList) = true := by simp
      clear HP6
      go_wp2_with fail
      refine CA'.out.mono ?_
      rintro e w7 ⟨rfl, b7⟩
      have HB7 := Lib.hid (below_on HB.out b7)
      clear b7 CA' HB
      go_wp2_with fail
      go_ret
      exact ⟨by simp, HB7.out⟩
    | false =>
      have HT1 : Hid (∀ w', Calls Try.prog 20 #[.string st] w' fun e w'' => (∃ v, e = .returned (.tuple #[v, .bool false]) ∧ AnO w'.heap.size w'' v AA) ∧ Below w'.heap.size w' w'') := fun w' => by have h := told_two s w' (by rw [← HN.out.1]; omega); rw [hk, ← HN.out.2, ← hAA] at h; exact h
      have HT2 : Hid (∀ w', Calls Try.prog 22 #[.string st] w' fun e w'' => (∃ v, e = .returned (.tuple #[v, .bool false]) ∧ AnO w'.heap.size w'' v AA) ∧ Below w'.heap.size w' w'') := fun w' => by
        have h := (rtold_any s w').mono fun e w'' ⟨v, h1, h2, h3⟩ => (show (∃ v, e = Ending.returned (.tuple #[v, .bool (toldE s).2]) ∧ AnO w'.heap.size w'' v (toldE s).1) ∧ Below w'.heap.size w' w'' from ⟨⟨v, h1, h2⟩, h3⟩)
        rw [hk, ← HN.out.2, ← hAA] at h
        exact h
      clear hk hAA
      go_wp2_with fail
      refine (HT1.out _).mono ?_
      rintro e w3 ⟨⟨v3, rfl, hv3⟩, b3⟩
      obtain ⟨p4, p5, p6, p7, p8, p9, rfl⟩ := ano_cells hv3
      obtain ⟨x0, hx0⟩ : ∃ x0, x0 = AA.st := ⟨_, rfl⟩
      obtain ⟨x1, hx1⟩ : ∃ x1, x1 = mkB AA.tok := ⟨_, rfl⟩
      obtain ⟨x2, hx2⟩ : ∃ x2, x2 = AA.num := ⟨_, rfl⟩
      obtain ⟨x3, hx3⟩ : ∃ x3, x3 = AA.at' := ⟨_, rfl⟩
      rw [← hx0, ← hx1, ← hx2, ← hx3] at hv3 ⊢
      have HXS := Lib.hid (And.intro hx0 (And.intro hx1 (And.intro hx2 hx3)))
      clear hx0 hx1 hx2 hx3
      obtain ⟨B3, P3, L3⟩ := box1 w3 #[.int .i64 x0, .string x1, .int .i64 x2, .int .i64 x3, .slice p4 p5 p6, .slice p7 p8 p9] 46
      obtain ⟨W3, hW3⟩ : ∃ W3, W3 = w3.alloc (.cells #[.int .i64 x0, .string x1, .int .i64 x2, .int .i64 x3, .slice p4 p5 p6, .slice p7 p8 p9] 46) := ⟨_, rfl⟩
      rw [← hW3] at B3 P3 L3
      obtain ⟨q3, hq3⟩ : ∃ q3, q3 = w3.heap.size := ⟨_, rfl⟩
      rw [← hq3] at P3 L3
      have HV3 : Hid (AnV W3 (.agg #[.int .i64 x0, .string x1, .int .i64 x2, .int .i64 x3, .slice p4 p5 p6, .slice p7 p8 p9]) AA) := (hv3.below B3).anv
      have HB3 : Hid (Below w.heap.size w W3) := below_on (below_on (HB.out _) b3) B3
      have HP3 := Lib.hid P3
      have HW3 := Lib.hid hW3
      have HQ3 := Lib.hid hq3
      clear hv3 b3 B3 P3 L3 hW3 hq3 HB HT1
      go_upto_region 7 with fail
      rw [← HW3.out, ← HQ3.out]
      go_wp2_with fail
      refine (HT2.out _).mono ?_
      rintro e w4 ⟨⟨v4, rfl, hv4⟩, b4⟩
      obtain ⟨u4, u5, u6, u7, u8, u9, rfl⟩ := ano_cells hv4
      rw [← HXS.out.1, ← HXS.out.2.1, ← HXS.out.2.2.1, ← HXS.out.2.2.2] at hv4 ⊢
      obtain ⟨B5, P5, L5⟩ := box1 w4 #[.int .i64 x0, .string x1, .int .i64 x2, .int .i64 x3, .slice u4 u5 u6, .slice u7 u8 u9] 46
      obtain ⟨W5, hW5⟩ : ∃ W5, W5 = w4.alloc (.cells #[.int .i64 x0, .string x1, .int .i64 x2, .int .i64 x3, .slice u4 u5 u6, .slice u7 u8 u9] 46) := ⟨_, rfl⟩
      rw [← hW5] at B5 P5 L5
      obtain ⟨q5, hq5⟩ : ∃ q5, q5 = w4.heap.size := ⟨_, rfl⟩
      rw [← hq5] at P5 L5
      have k5 := below_on b4 B5
      have HV5 : Hid (AnV W5 (.agg #[.int .i64 x0, .string x1, .int .i64 x2, .int .i64 x3, .slice u4 u5 u6, .slice u7 u8 u9]) AA) := (hv4.below B5).anv
      have HV35 : Hid (AnV W5 (.agg #[.int .i64 x0, .string x1, .int .i64 x2, .int .i64 x3, .slice p4 p5 p6, .slice p7 p8 p9]) AA) := HV3.out.below k5
      have HB5 : Hid (Below w.heap.size w W5) := below_on HB3.out k5
      have HP35 : Hid (W5.heap[q3]? = some (.cells #[.int .i64 x0, .string x1, .int .i64 x2, .int .i64 x3, .slice p4 p5 p6, .slice p7 p8 p9] 46 (0, 0))) := (k5.block q3 (Array.getElem?_eq_some_iff.1 HP3.out).1).trans HP3.out
      obtain ⟨d0, d1, d2, d3, d4, d5⟩ := six_cells P5
      obtain ⟨c0, c1, c2, c3, c4, c5⟩ := six_cells HP35.out
      have HW5 := Lib.hid hW5
      have HQ5 := Lib.hid hq5
      have CS := Lib.hid (asame_any W5 HV35.out HV5.out)
      clear hv4 b4 B5 P5 L5 hW5 hq5 HT2 k5 HP3 HV3 HB3 HV5
      go_upto_region 8 with fail
      rw [← HW5.out, ← HQ5.out]
      go_wp2_with fail
      refine CS.out.mono ?_
      rintro e w6 ⟨rfl, b6⟩
      have HB : Hid (Below w.heap.size w w6) := below_on HB5.out b6
      clear b6 HB5 CS HP35 HV35 c0 c1 c2 c3 c4 c5 d0 d1 d2 d3 d4 d5
      go_wp2_with fail
      go_ret
      exact ⟨rfl, HB.out⟩
end Go.Proofs.Ythegkookfpnbeaa.Wds
