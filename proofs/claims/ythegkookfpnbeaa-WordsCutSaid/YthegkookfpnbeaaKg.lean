/- Words: the walk of WordsCut. -/
import Derived.Test.YthegkookfpnbeaaNg
import Derived.Test.YthegkookfpnbeaaGx
import Derived.Test.YthegkookfpnbeaaGt
set_option linter.unusedVariables false
set_option linter.unusedSimpArgs false
set_option maxRecDepth 100000
namespace Go.Proofs.Ythegkookfpnbeaa.Wds
open Go.RowKit Go.Lib Go.Proofs.Ythegkookfpnbeaa.Bx Go.Proofs.Ythegkookfpnbeaa.Frm

theorem told_two (s : List UInt8) (w' : World) (hs : s.length ≤ 9223372036854775807) : Calls Try.prog 20 #[.string (mkB s)] w' fun e w'' => (∃ v, e = .returned (.tuple #[v, .bool (toldE s).2]) ∧ AnO w'.heap.size w'' v (toldE s).1) ∧ Below w'.heap.size w' w'' := (told_ok' s w' hs).mono fun e w'' ⟨v, h1, h2, h3⟩ => ⟨⟨v, h1, h2⟩, h3⟩
set_option maxHeartbeats 16000000 in
theorem cut_walk (HAO : AskOk) (s m : List UInt8) (cut : Int) (hs : s.length ≤ 9223372036854775807) (hm : m.length ≤ 9223372036854775807) (w : World) : Calls Try.prog 7 #[.string (mkB s), .int .i64 cut, .string (mkB m)] w fun e w' => e = .returned (.bool true) ∧ Below w.heap.size w w' := by
  have CX : Hid (Calls Try.prog 13 #[.string (ByteArray.mk #[2, 0, 1, 116, 0, 0, 0, 0, 0, 0, 0, 1])] w fun e w' => e = .returned (.tuple #[.agg #[.string (ByteArray.mk #[116]), .int .i64 1, .iface 28 (.agg #[])], .bool true]) ∧ Below w.heap.size w w') := by
    have h := HAO [2, 0, 1, 116, 0, 0, 0, 0, 0, 0, 0, 1] w (by decide)
    rw [askX] at h
    exact h
  obtain ⟨n, hn⟩ : ∃ n, n = s.length := ⟨_, rfl⟩
  obtain ⟨q, hq⟩ : ∃ q, q = m.length := ⟨_, rfl⟩
  obtain ⟨st, hst⟩ : ∃ st, st = mkB s := ⟨_, rfl⟩
  obtain ⟨mt, hmt⟩ : ∃ mt, mt = mkB m := ⟨_, rfl⟩
  have sz : st.size = n := by rw [hst, mkB_size, hn]
  have sz2 : mt.size = q := by rw [hmt, mkB_size, hq]
  rw [← hn] at hs
  rw [← hq] at hm
  rw [← hst, ← hmt]
  have HNN := Lib.hid (And.intro hn (And.intro hst (And.intro hq hmt)))
  clear hn hst hq hmt
  go_enter Try.func7, Try.ntmps7
  go_wp2_with fail
  refine CX.out.mono ?_
  rintro e w1 ⟨rfl, b1⟩
  have HB : Hid (∀ o, Below w.heap.size w (w1.alloc o)) := fun o => below_al b1 o
  clear b1 CX
  by_cases c_0 : 3000 < n
  · have g : (3000 : Int) < (n : Int) := by omega
    have gd : decide ((3000 : Int) < (n : Int)) = true := decide_eq_true g
    go_wp2_with fail
    go_ret
    exact ⟨rfl, HB.out _⟩
  · have g0 : ¬ (3000 : Int) < (n : Int) := by omega
    have gd0 : decide ((3000 : Int) < (n : Int)) = false := decide_eq_false g0
    by_cases c_1 : 3000 < q
    · have g : (3000 : Int) < (q : Int) := by omega
      have gd : decide ((3000 : Int) < (q : Int)) = true := decide_eq_true g
      go_wp2_with fail
      go_ret
      exact ⟨rfl, HB.out _⟩
    · have g1 : ¬ (3000 : Int) < (q : Int) := by omega
      have gd1 : decide ((3000 : Int) < (q : Int)) = false := decide_eq_false g1
      by_cases c_2 : m = []
      · have g2 : mt.toList.isEmpty = true := by rw [HNN.out.2.2.2, c_2]; exact empty_yes
        go_wp2_with fail
        go_ret
        exact ⟨rfl, HB.out _⟩
      · have g2 : mt.toList.isEmpty = false := by rw [HNN.out.2.2.2]; exact empty_no c_2
        by_cases c_3 : cut < 0
        · have g : cut < 0 := by omega
          have gd : decide (cut < 0) = true := decide_eq_true g
          go_wp2_with fail
          go_ret
          exact ⟨rfl, HB.out _⟩
        · have g3 : ¬ cut < 0 := by omega
          have gd3 : decide (cut < 0) = false := decide_eq_false g3
          by_cases c_4 : (n : Int) ≤ cut
          · have g : (n : Int) ≤ cut := by omega
            have gd : decide ((n : Int) ≤ cut) = true := decide_eq_true g
            go_wp2_with fail
            go_ret
            exact ⟨rfl, HB.out _⟩
          · have g4 : ¬ (n : Int) ≤ cut := by omega
            have gd4 : decide ((n : Int) ≤ cut) = false := decide_eq_false g4
            obtain ⟨j, rfl⟩ : ∃ j : Nat, cut = (j : Int) := ⟨cut.toNat, by omega⟩
            obtain ⟨s2, hs2⟩ : ∃ s2, s2 = mkB (s.take j) := ⟨_, rfl⟩
            obtain ⟨s3, hs3⟩ : ∃ s3, s3 = mkB (s ++ m) := ⟨_, rfl⟩
            have XS : ∀ w, (Instr.slice 9 (.string st) none (some (.int .i64 (j : Nat))) none).run Try.prog w = .ok (.string s2) w := fun w => by
              rw [HNN.out.2.1, hs2]
              exact slice_to w s (by rw [← HNN.out.1]; omega)
            have XA : ∀ w, (Op.stringOp .add st mt).run Try.prog w = .ok (.string s3) w := fun w => by
              rw [hs3, ← mkB_app, ← HNN.out.2.1, ← HNN.out.2.2.2]
              exact run_string_add_sum w _ _ (by rw [sz, sz2]; omega)
            have HN := Lib.hid (And.intro HNN.out.1 (And.intro HNN.out.2.1 (And.intro HNN.out.2.2.1 (And.intro hs2 hs3))))
            have HM : Hid (m ≠ []) := c_2
            clear hs2 hs3 HNN c_2
            have nj : (j : Int) ≤ (n : Int) := by omega
            have j0 : (0 : Int) ≤ (j : Int) := by omega
            cases hk : (askE s).2 with
            | true =>
              obtain ⟨yt, hyt⟩ : ∃ yt, yt = mkB (askE s).1.tok := ⟨_, rfl⟩
              obtain ⟨yq, hyq⟩ : ∃ yq, yq = (askE s).1.seq := ⟨_, rfl⟩
              obtain ⟨V, hV⟩ : ∃ V, V = askV (askE s).1 := ⟨_, rfl⟩
              have HA1 : Hid (∀ w', Calls Try.prog 13 #[.string st] w' fun e w'' => e = .returned (.tuple #[.agg #[.string yt, .int .i64 yq, V], .bool true]) ∧ Below w'.heap.size w' w'') := fun w' => by
                have h := HAO s w' (by rw [← HN.out.1]; omega)
                unfold callV at h
                rw [if_pos hk, hk, ← hyt, ← hyq, ← hV, ← HN.out.2.1] at h
                exact h
              have HA2 : Hid (∀ w', Calls Try.prog 13 #[.string s2] w' fun e w'' => e = .returned (.tuple #[.agg #[.string (ByteArray.mk #[]), .int .i64 0, .nilIface], .bool false]) ∧ Below w'.heap.size w' w'') := fun w' => by
                have h := HAO (s.take j) w' (by rw [List.length_take, ← HN.out.1]; omega)
                unfold callV at h
                have h9 := ask_less hk (k := j) (by rw [← HN.out.1]; omega)
                rw [if_neg (by rw [h9]; decide), h9, ← HN.out.2.2.2.1] at h
                exact h
              have HA3 : Hid (∀ w', Calls Try.prog 13 #[.string s3] w' fun e w'' => e = .returned (.tuple #[.agg #[.string (ByteArray.mk #[]), .int .i64 0, .nilIface], .bool false]) ∧ Below w'.heap.size w' w'') := fun w' => by
                have h := HAO (s ++ m) w' (by rw [List.length_append, ← HN.out.1, ← HN.out.2.2.1]; omega)
                unfold callV at h
                have h9 := ask_more hk (b := m) HM.out
                rw [if_neg (by rw [h9]; decide), h9, ← HN.out.2.2.2.2] at h
                exact h
              have hf : V = .nilIface ∨ ∃ t x, V = .iface t x := by rw [hV]; exact askV_form _
              clear hyt hyq hV hk
              rcases hf with rfl | ⟨t, x, rfl⟩
              · skip
                go_wp2_with fail
                refine (HA1.out _).mono ?_
                rintro e w3 ⟨rfl, b3⟩
                have HB3 : Hid (∀ o, Below w.heap.size w (w3.alloc o)) := fun o => below_al (below_on (HB.out _) b3) o
                clear b3 HB HA1
                have HB := HB3
                clear HB3
                go_wp2_with fail
                refine (HA2.out _).mono ?_
                rintro e w4 ⟨rfl, b4⟩
                have HB4 : Hid (∀ o, Below w.heap.size w (w4.alloc o)) := fun o => below_al (below_on (HB.out _) b4) o
                clear b4 HB HA2
                have HB := HB4
                clear HB4
                go_wp2_with fail
                refine (HA3.out _).mono ?_
                rintro e w5 ⟨rfl, b5⟩
                have HB5 : Hid (∀ o, Below w.heap.size w (w5.alloc o)) := fun o => below_al (below_on (HB.out _) b5) o
                clear b5 HB HA3
                have HB := HB5
                clear HB5
                cases hk2 : (toldE s).2 with
                | true =>
                  have HT1 : Hid (∀ w', Calls Try.prog 20 #[.string st] w' fun e w'' => (∃ v, e = .returned (.tuple #[v, .bool true]) ∧ AnO w'.heap.size w'' v (toldE s).1) ∧ Below w'.heap.size w' w'') := fun w' => by have h := told_two s w' (by rw [← HN.out.1]; omega); rw [hk2, ← HN.out.2.1] at h; exact h
                  have HT2 : Hid (∀ w', Calls Try.prog 20 #[.string s2] w' fun e w'' => (∃ v, e = .returned (.tuple #[v, .bool false]) ∧ AnO w'.heap.size w'' v (toldE (s.take j)).1) ∧ Below w'.heap.size w' w'') := fun w' => by have h := told_two (s.take j) w' (by rw [List.length_take, ← HN.out.1]; omega); rw [told_less hk2 (by rw [← HN.out.1]; omega), ← HN.out.2.2.2.1] at h; exact h
                  have HT3 : Hid (∀ w', Calls Try.prog 20 #[.string s3] w' fun e w'' => (∃ v, e = .returned (.tuple #[v, .bool false]) ∧ AnO w'.heap.size w'' v (toldE (s ++ m)).1) ∧ Below w'.heap.size w' w'') := fun w' => by have h := told_two (s ++ m) w' (by rw [List.length_append, ← HN.out.1, ← HN.out.2.2.1]; omega); rw [told_more hk2 HM.out, ← HN.out.2.2.2.2] at h; exact h
                  generalize (toldE s).1 = A1 at *
                  generalize (toldE (s.take j)).1 = A2 at *
                  generalize (toldE (s ++ m)).1 = A3 at *
                  clear hk2
                  go_wp2_with fail
                  refine (HT1.out _).mono ?_
                  rintro e w7 ⟨⟨v7, rfl, hv7⟩, b7⟩
                  obtain ⟨_, _, _, _, rfl⟩ := hv7.form
                  have HB7 : Hid (∀ o, Below w.heap.size w (w7.alloc o)) := fun o => below_al (below_on (HB.out _) b7) o
                  clear b7 hv7 HT1 HB
                  have HB := HB7
                  clear HB7
                  go_wp2_with fail
                  refine (HT2.out _).mono ?_
                  rintro e w8 ⟨⟨v8, rfl, hv8⟩, b8⟩
                  obtain ⟨_, _, _, _, rfl⟩ := hv8.form
                  have HB8 : Hid (∀ o, Below w.heap.size w (w8.alloc o)) := fun o => below_al (below_on (HB.out _) b8) o
                  clear b8 hv8 HT2 HB
                  have HB := HB8
                  clear HB8
                  go_wp2_with fail
                  refine (HT3.out _).mono ?_
                  rintro e w9 ⟨⟨v9, rfl, hv9⟩, b9⟩
                  obtain ⟨_, _, _, _, rfl⟩ := hv9.form
                  have HB9 : Hid (∀ o, Below w.heap.size w (w9.alloc o)) := fun o => below_al (below_on (HB.out _) b9) o
                  clear b9 hv9 HT3 HB
                  have HB := HB9
                  clear HB9
                  go_wp2_with fail
                  go_ret
                  exact ⟨rfl, HB.out _⟩
                | false =>
                  have HT1 : Hid (∀ w', Calls Try.prog 20 #[.string st] w' fun e w'' => (∃ v, e = .returned (.tuple #[v, .bool false]) ∧ AnO w'.heap.size w'' v (toldE s).1) ∧ Below w'.heap.size w' w'') := fun w' => by have h := told_two s w' (by rw [← HN.out.1]; omega); rw [hk2, ← HN.out.2.1] at h; exact h
                  generalize (toldE s).1 = A1 at *
                  clear hk2
                  go_wp2_with fail
                  refine (HT1.out _).mono ?_
                  rintro e w7 ⟨⟨v7, rfl, hv7⟩, b7⟩
                  obtain ⟨_, _, _, _, rfl⟩ := hv7.form
                  have HB7 : Hid (∀ o, Below w.heap.size w (w7.alloc o)) := fun o => below_al (below_on (HB.out _) b7) o
                  clear b7 hv7 HT1 HB
                  have HB := HB7
                  clear HB7
                  go_wp2_with fail
                  go_ret
                  exact ⟨rfl, HB.out _⟩
              · skip
                go_wp2_with fail
                refine (HA1.out _).mono ?_
                rintro e w3 ⟨rfl, b3⟩
                have HB3 : Hid (∀ o, Below w.heap.size w (w3.alloc o)) := fun o => below_al (below_on (HB.out _) b3) o
                clear b3 HB HA1
                have HB := HB3
                clear HB3
                go_wp2_with fail
                refine (HA2.out _).mono ?_
                rintro e w4 ⟨rfl, b4⟩
                have HB4 : Hid (∀ o, Below w.heap.size w (w4.alloc o)) := fun o => below_al (below_on (HB.out _) b4) o
                clear b4 HB HA2
                have HB := HB4
                clear HB4
                go_wp2_with fail
                refine (HA3.out _).mono ?_
                rintro e w5 ⟨rfl, b5⟩
                have HB5 : Hid (∀ o, Below w.heap.size w (w5.alloc o)) := fun o => below_al (below_on (HB.out _) b5) o
                clear b5 HB HA3
                have HB := HB5
                clear HB5
                cases hk2 : (toldE s).2 with
                | true =>
                  have HT1 : Hid (∀ w', Calls Try.prog 20 #[.string st] w' fun e w'' => (∃ v, e = .returned (.tuple #[v, .bool true]) ∧ AnO w'.heap.size w'' v (toldE s).1) ∧ Below w'.heap.size w' w'') := fun w' => by have h := told_two s w' (by rw [← HN.out.1]; omega); rw [hk2, ← HN.out.2.1] at h; exact h
                  have HT2 : Hid (∀ w', Calls Try.prog 20 #[.string s2] w' fun e w'' => (∃ v, e = .returned (.tuple #[v, .bool false]) ∧ AnO w'.heap.size w'' v (toldE (s.take j)).1) ∧ Below w'.heap.size w' w'') := fun w' => by have h := told_two (s.take j) w' (by rw [List.length_take, ← HN.out.1]; omega); rw [told_less hk2 (by rw [← HN.out.1]; omega), ← HN.out.2.2.2.1] at h; exact h
                  have HT3 : Hid (∀ w', Calls Try.prog 20 #[.string s3] w' fun e w'' => (∃ v, e = .returned (.tuple #[v, .bool false]) ∧ AnO w'.heap.size w'' v (toldE (s ++ m)).1) ∧ Below w'.heap.size w' w'') := fun w' => by have h := told_two (s ++ m) w' (by rw [List.length_append, ← HN.out.1, ← HN.out.2.2.1]; omega); rw [told_more hk2 HM.out, ← HN.out.2.2.2.2] at h; exact h
                  generalize (toldE s).1 = A1 at *
                  generalize (toldE (s.take j)).1 = A2 at *
                  generalize (toldE (s ++ m)).1 = A3 at *
                  clear hk2
                  go_wp2_with fail
                  refine (HT1.out _).mono ?_
                  rintro e w7 ⟨⟨v7, rfl, hv7⟩, b7⟩
                  obtain ⟨_, _, _, _, rfl⟩ := hv7.form
                  have HB7 : Hid (∀ o, Below w.heap.size w (w7.alloc o)) := fun o => below_al (below_on (HB.out _) b7) o
                  clear b7 hv7 HT1 HB
                  have HB := HB7
                  clear HB7
                  go_wp2_with fail
                  refine (HT2.out _).mono ?_
                  rintro e w8 ⟨⟨v8, rfl, hv8⟩, b8⟩
                  obtain ⟨_, _, _, _, rfl⟩ := hv8.form
                  have HB8 : Hid (∀ o, Below w.heap.size w (w8.alloc o)) := fun o => below_al (below_on (HB.out _) b8) o
                  clear b8 hv8 HT2 HB
                  have HB := HB8
                  clear HB8
                  go_wp2_with fail
                  refine (HT3.out _).mono ?_
                  rintro e w9 ⟨⟨v9, rfl, hv9⟩, b9⟩
                  obtain ⟨_, _, _, _, rfl⟩ := hv9.form
                  have HB9 : Hid (∀ o, Below w.heap.size w (w9.alloc o)) := fun o => below_al (below_on (HB.out _) b9) o
                  clear b9 hv9 HT3 HB
                  have HB := HB9
                  clear HB9
                  go_wp2_with fail
                  go_ret
                  exact ⟨rfl, HB.out _⟩
                | false =>
                  have HT1 : Hid (∀ w', Calls Try.prog 20 #[.string st] w' fun e w'' => (∃ v, e = .returned (.tuple #[v, .bool false]) ∧ AnO w'.heap.size w'' v (toldE s).1) ∧ Below w'.heap.size w' w'') := fun w' => by have h := told_two s w' (by rw [← HN.out.1]; omega); rw [hk2, ← HN.out.2.1] at h; exact h
                  generalize (toldE s).1 = A1 at *
                  clear hk2
                  go_wp2_with fail
                  refine (HT1.out _).mono ?_
                  rintro e w7 ⟨⟨v7, rfl, hv7⟩, b7⟩
                  obtain ⟨_, _, _, _, rfl⟩ := hv7.form
                  have HB7 : Hid (∀ o, Below w.heap.size w (w7.alloc o)) := fun o => below_al (below_on (HB.out _) b7) o
                  clear b7 hv7 HT1 HB
                  have HB := HB7
                  clear HB7
                  go_wp2_with fail
                  go_ret
                  exact ⟨rfl, HB.out _⟩
            | false =>
              have HA1 : Hid (∀ w', Calls Try.prog 13 #[.string st] w' fun e w'' => e = .returned (.tuple #[.agg #[.string (ByteArray.mk #[]), .int .i64 0, .nilIface], .bool false]) ∧ Below w'.heap.size w' w'') := fun w' => by
                have h := HAO s w' (by rw [← HN.out.1]; omega)
                unfold callV at h
                rw [if_neg (by rw [hk]; decide), hk, ← HN.out.2.1] at h
                exact h
              clear hk
              go_wp2_with fail
              refine (HA1.out _).mono ?_
              rintro e w3 ⟨rfl, b3⟩
              have HB3 : Hid (∀ o, Below w.heap.size w (w3.alloc o)) := fun o => below_al (below_on (HB.out _) b3) o
              clear b3 HB HA1
              have HB := HB3
              clear HB3
              cases hk2 : (toldE s).2 with
              | true =>
                have HT1 : Hid (∀ w', Calls Try.prog 20 #[.string st] w' fun e w'' => (∃ v, e = .returned (.tuple #[v, .bool true]) ∧ AnO w'.heap.size w'' v (toldE s).1) ∧ Below w'.heap.size w' w'') := fun w' => by have h := told_two s w' (by rw [← HN.out.1]; omega); rw [hk2, ← HN.out.2.1] at h; exact h
                have HT2 : Hid (∀ w', Calls Try.prog 20 #[.string s2] w' fun e w'' => (∃ v, e = .returned (.tuple #[v, .bool false]) ∧ AnO w'.heap.size w'' v (toldE (s.take j)).1) ∧ Below w'.heap.size w' w'') := fun w' => by have h := told_two (s.take j) w' (by rw [List.length_take, ← HN.out.1]; omega); rw [told_less hk2 (by rw [← HN.out.1]; omega), ← HN.out.2.2.2.1] at h; exact h
                have HT3 : Hid (∀ w', Calls Try.prog 20 #[.string s3] w' fun e w'' => (∃ v, e = .returned (.tuple #[v, .bool false]) ∧ AnO w'.heap.size w'' v (toldE (s ++ m)).1) ∧ Below w'.heap.size w' w'') := fun w' => by have h := told_two (s ++ m) w' (by rw [List.length_append, ← HN.out.1, ← HN.out.2.2.1]; omega); rw [told_more hk2 HM.out, ← HN.out.2.2.2.2] at h; exact h
                generalize (toldE s).1 = A1 at *
                generalize (toldE (s.take j)).1 = A2 at *
                generalize (toldE (s ++ m)).1 = A3 at *
                clear hk2
                go_wp2_with fail
                refine (HT1.out _).mono ?_
                rintro e w7 ⟨⟨v7, rfl, hv7⟩, b7⟩
                obtain ⟨_, _, _, _, rfl⟩ := hv7.form
                have HB7 : Hid (∀ o, Below w.heap.size w (w7.alloc o)) := fun o => below_al (below_on (HB.out _) b7) o
                clear b7 hv7 HT1 HB
                have HB := HB7
                clear HB7
                go_wp2_with fail
                refine (HT2.out _).mono ?_
                rintro e w8 ⟨⟨v8, rfl, hv8⟩, b8⟩
                obtain ⟨_, _, _, _, rfl⟩ := hv8.form
                have HB8 : Hid (∀ o, Below w.heap.size w (w8.alloc o)) := fun o => below_al (below_on (HB.out _) b8) o
                clear b8 hv8 HT2 HB
                have HB := HB8
                clear HB8
                go_wp2_with fail
                refine (HT3.out _).mono ?_
                rintro e w9 ⟨⟨v9, rfl, hv9⟩, b9⟩
                obtain ⟨_, _, _, _, rfl⟩ := hv9.form
                have HB9 : Hid (∀ o, Below w.heap.size w (w9.alloc o)) := fun o => below_al (below_on (HB.out _) b9) o
                clear b9 hv9 HT3 HB
                have HB := HB9
                clear HB9
                go_wp2_with fail
                go_ret
                exact ⟨rfl, HB.out _⟩
              | false =>
                have HT1 : Hid (∀ w', Calls Try.prog 20 #[.string st] w' fun e w'' => (∃ v, e = .returned (.tuple #[v, .bool false]) ∧ AnO w'.heap.size w'' v (toldE s).1) ∧ Below w'.heap.size w' w'') := fun w' => by have h := told_two s w' (by rw [← HN.out.1]; omega); rw [hk2, ← HN.out.2.1] at h; exact h
                generalize (toldE s).1 = A1 at *
                clear hk2
                go_wp2_with fail
                refine (HT1.out _).mono ?_
                rintro e w7 ⟨⟨v7, rfl, hv7⟩, b7⟩
                obtain ⟨_, _, _, _, rfl⟩ := hv7.form
                have HB7 : Hid (∀ o, Below w.heap.size w (w7.alloc o)) := fun o => below_al (below_on (HB.out _) b7) o
                clear b7 hv7 HT1 HB
                have HB := HB7
                clear HB7
                go_wp2_with fail
                go_ret
                exact ⟨rfl, HB.out _⟩
end Go.Proofs.Ythegkookfpnbeaa.Wds
