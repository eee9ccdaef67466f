/- Frame: the walk of FrameMany. -/
import Derived.Test.YtehmngdacjpflaaFf
set_option linter.unusedVariables false
set_option linter.unusedSimpArgs false
namespace Go.Proofs.Ytehmngdacjpflaa.Frm
open Go.RowKit Go.Lib Go.Proofs.Ytehmngdacjpflaa.Bx

def S (X : List (List UInt8)) (i : Nat) : List UInt8 := (X.take i).flatMap wrapB
theorem S_next {X : List (List UInt8)} {i : Nat} (h : i < X.length) : S X (i + 1) = S X i ++ wrapB (tx X i) := by
  unfold S
  rw [List.take_succ_eq_append_getElem h, List.flatMap_append, tx_at h]
  simp
theorem S_all {X : List (List UInt8)} {i : Nat} (h : X.length ≤ i) : S X i = X.flatMap wrapB := by
  unfold S
  rw [List.take_of_length_le h]
theorem slice_to (w : World) (l : List UInt8) {j : Nat} (hj : j ≤ l.length) : (Instr.slice 9 (.string (mkB l)) none (some (.int .i64 (j : Nat))) none).run Try.prog w = .ok (.string (mkB (l.take j))) w := by
  rw [run_slice_string_to_if w 9 (mkB l) .i64 (j : Int) Try.underlying9, if_pos ⟨by omega, by rw [mkB_size]; omega⟩]
  show Result.ok (Value.string ((mkB l).extract 0 (j : Int).toNat)) w = _
  rw [mkB_extract, Int.toNat_natCast, List.drop_zero]
set_option maxRecDepth 100000 in
set_option maxHeartbeats 8000000 in
theorem many_walk (WOK : WrapOk) (POK : SplitOk) {v : Value} {X : List (List UInt8)} (r : List UInt8) (w : World) (h : Strs w v X) (hT : ∀ x ∈ X, x.length ≤ maxLen) : Calls Try.prog 6 #[v, .string (mkB r)] w fun e w' => e = .returned (.bool true) ∧ Below w.heap.size w w' := by
  obtain ⟨a, cap, rfl, hn, hm⟩ := h.is_slice
  obtain ⟨K, hK⟩ : ∃ K, K = mkB [0, 2, 97, 98] := ⟨_, rfl⟩
  have e0 : (K.toList == [0, 2, 97, 98]) = true := by rw [hK, Lib.toList_data]; rfl
  have C0 : Hid (Calls Try.prog 7 #[.string ⟨#[97, 98]⟩] w fun e w' => e = .returned (.tuple #[.string K, .bool true]) ∧ Below w.heap.size w w') := by
    have h := WOK [97, 98] w (by decide)
    rw [wrap_ab] at h
    rw [hK]
    exact h
  obtain ⟨n, hnn⟩ : ∃ n, n = X.length := ⟨_, rfl⟩
  have HE : Hid (∀ w', Below w.heap.size w w' → ∀ j, j < n → ∃ b off, a = some ⟨b, off, none⟩ ∧ b < w.heap.size ∧ w'.cell? ⟨b, off + j, none⟩ = some (.string (mkB (tx X j)))) := fun w' hb j hj => by
    obtain ⟨b, off, e, hlt, c⟩ := h.get (show j < X.length by omega)
    exact ⟨b, off, e, hlt, vcell hb hlt c⟩
  have CW : Hid (∀ j, j < n → ∀ w, Calls Try.prog 7 #[.string (mkB (tx X j))] w fun e w' => e = .returned (.tuple #[.string (mkB (wrapE (tx X j)).1), .bool (wrapE (tx X j)).2]) ∧ Below w.heap.size w w') := fun j hj w => WOK _ w (by rw [tx_at (by omega)]; exact hT _ (List.getElem_mem _))
  have HW := Lib.hid h
  have HSN : Hid (∀ i, i < n → S X (i + 1) = S X i ++ wrapB (tx X i)) := fun i hi => S_next (by omega)
  have HFIN : Hid ((∀ j, j < n → 1 ≤ (tx X j).length ∧ (tx X j).length ≤ 600) → ∀ r', r'.length < 2 → sp 600 (S X n ++ r') = (X, r', true)) := fun hh r' hr' => by
    rw [S_all (by omega)]
    refine sp_many X r' (fun x hx => ?_) hr'
    obtain ⟨j, hj, rfl⟩ := List.getElem_of_mem hx
    have := hh j (by omega)
    rw [tx_at hj] at this
    omega
  rw [← hnn] at HW hn ⊢
  unfold maxLen at hm
  obtain ⟨rn, hrn⟩ : ∃ rn, rn = r.length := ⟨_, rfl⟩
  obtain ⟨sr, hsr⟩ : ∃ sr, sr = mkB r := ⟨_, rfl⟩
  have hsz : sr.size = rn := by rw [hsr, mkB_size, hrn]
  have HR : Hid (sr = mkB r ∧ rn = r.length ∧ n = X.length) := ⟨hsr, hrn, hnn⟩
  rw [← hsr]
  clear h hT hK hsr hrn hnn
  go_enter Try.func6, Try.ntmps6
  go_wp2_with fail
  refine C0.out.mono ?_
  rintro e w1 ⟨rfl, b1⟩
  have HB1 := Lib.hid b1
  clear C0 b1
  by_cases hbig : 60 < n
  · have q1 : (60 : Int) < (n : Int) := by omega
    go_wp2_with fail
    go_ret
    exact ⟨by first | rfl | (simp; done), HB1.out⟩
  · have q1 : ¬ (60 : Int) < (n : Int) := by omega
    have HN60 : Hid (n ≤ 60) := by show _ ≤ _; omega
    go_wp2_with fail
    go_loopg [7, 30] n (fun g s_ i_ wr => ∃ (i : Nat), i ≤ n ∧ n - i ≤ g ∧ i_ = .int .i64 i ∧ s_ = .string (mkB (S X i)) ∧ Hid ((S X i).length ≤ 602 * i ∧ ∀ j, j < i → 1 ≤ (tx X j).length ∧ (tx X j).length ≤ 600) ∧ Below w.heap.size w wr)
    case atStart => exact ⟨0, by omega, by omega, rfl, rfl, ⟨by simp [S], fun j hj => absurd hj (by omega)⟩, HB1.out⟩
    case round =>
      obtain ⟨i, hi, hg, rfl, rfl, HH, hbel⟩ := hrel
      have HB := Lib.hid hbel
      by_cases hin : i < n
      · have iw : ((i : Nat) : Int) < (n : Int) := by omega
        have n0 : (0 : Int) ≤ (i : Int) := by omega
        obtain ⟨b, off, rfl, hlt, c0⟩ := HE.out wr hbel i hin
        have C1 := Lib.hid (CW.out i hin wr)
        obtain ⟨y, hy⟩ : ∃ y, y = tx X i := ⟨_, rfl⟩
        have HH2 : Hid (1 ≤ y.length ∧ y.length ≤ 600 → (S X (i + 1)).length ≤ 602 * (i + 1) ∧ ∀ j, j < i + 1 → 1 ≤ (tx X j).length ∧ (tx X j).length ≤ 600) := fun hl => by
          refine ⟨?_, fun j hj => ?_⟩
          · rw [HSN.out i hin, List.length_append, wrap_len, ← hy]
            have := HH.out.1
            omega
          · by_cases e : j = i
            · subst e; rw [← hy]; exact hl
            · exact HH.out.2 j (by omega)
        obtain ⟨U, hU⟩ : ∃ U, U = mkB (wrapE y).1 := ⟨_, rfl⟩
        obtain ⟨q, hq⟩ : ∃ q, q = (wrapE y).2 := ⟨_, rfl⟩
        obtain ⟨t, ht⟩ : ∃ t, t = mkB y := ⟨_, rfl⟩
        obtain ⟨m, hm1⟩ : ∃ m, m = y.length := ⟨_, rfl⟩
        obtain ⟨s0, hs0⟩ : ∃ s0, s0 = mkB (S X i) := ⟨_, rfl⟩
        obtain ⟨s1, hs1⟩ : ∃ s1, s1 = mkB (S X (i + 1)) := ⟨_, rfl⟩
        have htz : t.size = m := by rw [ht, mkB_size, hm1]
        rw [← hy] at C1 c0
        rw [← hU, ← hq, ← ht] at C1
        rw [← ht] at c0
        rw [← hs0]
        have HZ : Hid ((m = 0 ∨ 65535 < m) ∨ ¬ (m = 0 ∨ 65535 < m)) := by
          show _ ∨ _
          omega
        by_cases hz : m = 0 ∨ 65535 < m
        · obtain rfl : q = false := by rw [hq, wrapE_no (by omega)]
          clear hbel hU ht hm1 hs0 hs1 HH2 hy HZ hq
          go_wp2_with fail
          refine C1.out.mono ?_
          rintro e w2 ⟨rfl, b2⟩
          have HB2 := Lib.hid (below_on HB.out b2)
          clear b2 C1
          go_wp2_with fail
          go_ret
          exact ⟨by first | rfl | (simp; done), HB2.out⟩
        · obtain rfl : q = true := by rw [hq, wrapE_yes (by omega)]
          by_cases hlong : 600 < m
          · have g1 : (600 : Int) < (m : Int) := by omega
            have g2 : decide ((600 : Int) < (m : Int)) = true := decide_eq_true g1
            clear hbel hU ht hm1 hs0 hs1 HH2 hy HZ hq
            go_wp2_with fail
            refine C1.out.mono ?_
            rintro e w2 ⟨rfl, b2⟩
            have HB2 := Lib.hid (below_on HB.out b2)
            clear b2 C1
            go_wp2_with fail
            go_ret
            exact ⟨by first | rfl | (simp; done), HB2.out⟩
          · have g1 : ¬ (600 : Int) < (m : Int) := by omega
            have g2 : decide ((600 : Int) < (m : Int)) = false := decide_eq_false g1
            have HH3 := Lib.hid (HH2.out ⟨by omega, by omega⟩)
            have AD : ∀ w, (Op.stringOp .add s0 U).run Try.prog w = .ok (.string s1) w := fun w => by
              have hl1 := HH.out.1
              have hn60 := HN60.out
              have eU : U = mkB (wrapB y) := by rw [hU, wrapE_yes (by omega)]
              have e1 : s1 = s0 ++ U := by rw [hs1, hs0, eU, HSN.out i hin, ← hy, mkB_app]
              rw [e1]
              refine run_string_add_sum w _ _ ?_
              rw [hs0, eU, mkB_size, mkB_size, wrap_len]
              omega
            clear hbel hU ht hm1 hs0 HH2 hy HZ hq
            go_wp2_with fail
            refine C1.out.mono ?_
            rintro e w2 ⟨rfl, b2⟩
            have HB2 := Lib.hid (below_on HB.out b2)
            clear b2 C1
            go_wp2_with fail
            go_roundg (n - (i + 1))
            case measure => omega
            case rel => exact ⟨i + 1, by omega, Nat.le_refl _, by go_num, by first | rfl | rw [hs1], HH3, HB2.out⟩
      · obtain rfl : i = n := by omega
        have iw : ¬ ((i : Int) < (i : Int)) := by omega
        obtain ⟨r', hr'⟩ : ∃ r', r' = r.take 1 := ⟨_, rfl⟩
        obtain ⟨s0, hs0⟩ : ∃ s0, s0 = mkB (S X i) := ⟨_, rfl⟩
        obtain ⟨s2, hs2⟩ : ∃ s2, s2 = mkB r' := ⟨_, rfl⟩
        obtain ⟨s1, hs1⟩ : ∃ s1, s1 = mkB (S X i ++ r') := ⟨_, rfl⟩
        have hr1 : r'.length ≤ 1 := by rw [hr', List.length_take]; omega
        have AD : ∀ w, (Op.stringOp .add s0 s2).run Try.prog w = .ok (.string s1) w := fun w => by
          have hl1 := HH.out.1
          have hn60 := HN60.out
          have e1 : s1 = s0 ++ s2 := by rw [hs1, hs0, hs2, mkB_app]
          rw [e1]
          refine run_string_add_sum w _ _ ?_
          rw [hs0, hs2, mkB_size, mkB_size]
          omega
        have C1 : Hid (∀ w, Calls Try.prog 9 #[.string s1, .int .i64 600] w fun e w' => ∃ a1 c1, e = .returned (.tuple #[.slice a1 i c1, .string s2, .bool true]) ∧ i ≤ c1 ∧ c1 ≤ maxLen ∧ Strs w' (.slice a1 i c1) X ∧ Below w.heap.size w w') := fun w => by
          have hl1 := HH.out.1
          have hn60 := HN60.out
          have hc := split_call POK (l := S X i ++ r') (most := 600) (w := w) (by rw [List.length_append]; omega) (by decide)
          rw [HFIN.out HH.out.2 r' (by omega)] at hc
          have ei : i = X.length := HR.out.2.2
          dsimp only at hc
          rw [← ei] at hc
          rw [hs1, hs2]
          exact hc
        have SS : (s2.toList == s2.toList) = true := by simp
        have hX : Hid (sameX X X = true) := decide_eq_true rfl
        have HC3 : Hid (∀ w2 w3 a1 c1, Strs w3 (.slice a1 i c1) X → Below w.heap.size w w2 → Below w2.heap.size w2 w3 → Calls Try.prog 11 #[.slice a1 i c1, .slice a i cap] w3 fun e w' => e = .returned (.bool true) ∧ Below w3.heap.size w3 w') := fun w2 w3 a1 c1 h1 h2 h3 => by
          have := rSame_any w3 h1 (HW.out.below (below_on h2 h3))
          rw [hX.out] at this
          exact this
        by_cases hr2 : 1 < rn
        · have g1 : (1 : Int) < (rn : Int) := by omega
          have XS : ∀ w, (Instr.slice 9 (.string sr) none (some (.int .i64 1)) none).run Try.prog w = .ok (.string s2) w := fun w => by
            rw [HR.out.1, hs2, hr']
            exact slice_to w r (j := 1) (by have := HR.out.2.1; omega)
          rw [← hs0]
          clear hs0 hs1 hs2 hr' hr1 hbel
          go_wp2_with fail
          refine (C1.out _).mono ?_
          rintro e w2 ⟨a1, c1, rfl, h1, h2, R1, b2⟩
          have HB2 := Lib.hid (below_on HB.out b2)
          have C3 := Lib.hid (HC3.out _ _ _ _ R1 HB.out b2)
          clear R1 b2
          go_wp2_with fail
          refine C3.out.mono ?_
          rintro e w4 ⟨rfl, b4⟩
          have HB4 := Lib.hid (below_on HB2.out b4)
          clear b4
          go_wp2_with fail
          go_ret
          exact ⟨by first | rfl | (simp; done), HB4.out⟩
        · have g1 : ¬ (1 : Int) < (rn : Int) := by omega
          obtain rfl : s2 = sr := by rw [HR.out.1, hs2, hr', List.take_of_length_le (by have := HR.out.2.1; omega)]
          rw [← hs0]
          clear hs0 hs1 hs2 hr' hr1 hbel
          go_wp2_with fail
          refine (C1.out _).mono ?_
          rintro e w2 ⟨a1, c1, rfl, h1, h2, R1, b2⟩
          have HB2 := Lib.hid (below_on HB.out b2)
          have C3 := Lib.hid (HC3.out _ _ _ _ R1 HB.out b2)
          clear R1 b2
          go_wp2_with fail
          refine C3.out.mono ?_
          rintro e w4 ⟨rfl, b4⟩
          have HB4 := Lib.hid (below_on HB2.out b4)
          clear b4
          go_wp2_with fail
          go_ret
          exact ⟨by first | rfl | (simp; done), HB4.out⟩
end Go.Proofs.Ytehmngdacjpflaa.Frm
