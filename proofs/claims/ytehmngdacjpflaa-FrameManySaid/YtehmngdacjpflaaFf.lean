/- Frame: the walk of FrameSplits. -/
import Derived.Test.YtehmngdacjpflaaFe
set_option linter.unusedVariables false
set_option linter.unusedSimpArgs false
namespace Go.Proofs.Ytehmngdacjpflaa.Frm
open Go.RowKit Go.Lib Go.Proofs.Ytehmngdacjpflaa.Bx

/-- A split that gives back, in a walk's words. -/
theorem split_call (POK : SplitOk) {l : List UInt8} {most : Int} {w : World} (hl : l.length ≤ 300000) (hm : -9223372036854775808 ≤ most ∧ most ≤ 9223372036854775807) : Calls Try.prog 9 #[.string (mkB l), .int .i64 most] w fun e w' => ∃ a cap, e = .returned (.tuple #[.slice a (sp most l).1.length cap, .string (mkB (sp most l).2.1), .bool (sp most l).2.2]) ∧ (sp most l).1.length ≤ cap ∧ cap ≤ maxLen ∧ Strs w' (.slice a (sp most l).1.length cap) (sp most l).1 ∧ Below w.heap.size w w' := by
  refine (POK l most w hl hm).mono ?_
  rintro e w' ⟨v, rfl, hr, hb⟩
  obtain ⟨a, cap, rfl, h1, h2⟩ := hr.is_slice
  exact ⟨a, cap, rfl, h1, h2, hr, hb⟩
theorem split_first (POK : SplitOk) {K : ByteArray} (hK : K = mkB [0]) (w : World) : Calls Try.prog 9 #[.string ⟨#[0, 2, 97, 98, 0]⟩, .int .i64 9] w fun e w' => ∃ a cap, e = .returned (.tuple #[.slice a 1 cap, .string K, .bool true]) ∧ Below w.heap.size w w' := by
  have h := split_call POK (l := [0, 2, 97, 98, 0]) (most := 9) (w := w) (by decide) (by decide)
  rw [sp_ab] at h
  rw [hK]
  refine Calls.mono h ?_
  rintro e w' ⟨a, cap, rfl, h1, h2, hr, hb⟩
  exact ⟨a, cap, rfl, hb⟩
set_option maxRecDepth 100000 in
set_option maxHeartbeats 8000000 in
theorem splits_walk (POK : SplitOk) (l : List UInt8) (most : Int) (hm : -9223372036854775808 ≤ most ∧ most ≤ 9223372036854775807) (w : World) : Calls Try.prog 4 #[.string (mkB l), .int .i64 most] w fun e w' => e = .returned (.bool true) ∧ Below w.heap.size w w' := by
  obtain ⟨K, hK⟩ : ∃ K, K = mkB [0] := ⟨_, rfl⟩
  have e0 : (K.toList == [0]) = true := by rw [hK, Lib.toList_data]; rfl
  have C0 := Lib.hid (split_first POK hK w)
  obtain ⟨s, hs⟩ : ∃ s, s = mkB l := ⟨_, rfl⟩
  obtain ⟨n, hn⟩ : ∃ n, n = l.length := ⟨_, rfl⟩
  have hsz : s.size = n := by rw [hs, mkB_size, hn]
  obtain ⟨p, hp⟩ : ∃ p, p = sp most l := ⟨_, rfl⟩
  obtain ⟨U, hU⟩ : ∃ U, U = mkB p.2.1 := ⟨_, rfl⟩
  obtain ⟨q, hq⟩ : ∃ q, q = p.2.2 := ⟨_, rfl⟩
  obtain ⟨m, hm1⟩ : ∃ m, m = p.1.length := ⟨_, rfl⟩
  have C1 : Hid (n ≤ 20000 → ∀ w, Calls Try.prog 9 #[.string s, .int .i64 most] w fun e w' => ∃ a cap, e = .returned (.tuple #[.slice a m cap, .string U, .bool q]) ∧ m ≤ cap ∧ cap ≤ maxLen ∧ Strs w' (.slice a m cap) p.1 ∧ Below w.heap.size w w') := fun h w => by
    rw [hm1, hU, hq, hs, hp]
    exact split_call POK (by omega) hm
  have C2 : Hid (n ≤ 20000 → ∀ w, Calls Try.prog 10 #[.string s, .int .i64 most] w fun e w' => ∃ a cap, e = .returned (.tuple #[.slice a m cap, .string U, .bool q]) ∧ m ≤ cap ∧ cap ≤ maxLen ∧ Strs w' (.slice a m cap) p.1 ∧ Below w.heap.size w w') := fun h w => by
    rw [hm1, hU, hq, hs, hp]
    refine (rSplit_any l most w (by omega)).mono ?_
    rintro e w' h
    obtain ⟨v, rfl, hr, hb⟩ := h.gives
    obtain ⟨a, cap, rfl, h1, h2⟩ := hr.is_slice
    exact ⟨a, cap, rfl, h1, h2, hr, hb⟩
  have UU : (U.toList == U.toList) = true := by simp
  have hqq : (q == q) = true := by simp
  have hX : sameX p.1 p.1 = true := decide_eq_true rfl
  rw [← hs]
  generalize p.1 = X at *
  clear hs hU hq hK hn hm1 hp
  clear p
  go_enter Try.func4, Try.ntmps4
  go_wp2_with fail
  refine C0.out.mono ?_
  rintro e w1 ⟨a0, c0, rfl, b1⟩
  have HB1 := Lib.hid b1
  clear C0 b1
  by_cases hbig : 20000 < n
  · have q1 : (20000 : Int) < (n : Int) := by omega
    clear C1 C2
    go_wp2_with fail
    go_ret
    exact ⟨by first | rfl | (simp; done), HB1.out⟩
  · have q1 : ¬ (20000 : Int) < (n : Int) := by omega
    replace C1 := Lib.hid (C1.out (by omega))
    replace C2 := Lib.hid (C2.out (by omega))
    go_wp2_with fail
    refine (C1.out w1).mono ?_
    rintro e w2 ⟨a1, c1, rfl, h1, h2, R1, b2⟩
    have HB2 := Lib.hid (below_on HB1.out b2)
    replace R1 := Lib.hid R1
    clear b2
    go_wp2_with fail
    refine (C2.out w2).mono ?_
    rintro e w3 ⟨a2, c2, rfl, h3, h4, R2, b3⟩
    have HB3 := Lib.hid (below_on HB2.out b3)
    have C3 : Hid (Calls Try.prog 11 #[.slice a1 m c1, .slice a2 m c2] w3 fun e w' => e = .returned (.bool true) ∧ Below w3.heap.size w3 w') := by
      have := rSame_any w3 (R1.out.below b3) R2
      rw [hX] at this
      exact this
    clear b3 R1 R2 C1 C2 hX
    go_wp2_with fail
    refine C3.out.mono ?_
    rintro e w4 ⟨rfl, b4⟩
    have HB4 := Lib.hid (below_on HB3.out b4)
    clear b4
    go_wp2_with fail
    go_ret
    exact ⟨by first | rfl | (simp; done), HB4.out⟩
end Go.Proofs.Ytehmngdacjpflaa.Frm
