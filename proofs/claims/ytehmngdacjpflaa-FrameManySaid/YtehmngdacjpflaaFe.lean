/- Frame: what the program's calls owe; the walk of FrameWraps. -/
import Derived.Test.YtehmngdacjpflaaFd
set_option linter.unusedVariables false
set_option linter.unusedSimpArgs false
namespace Go.Proofs.Ytehmngdacjpflaa.Frm
open Go.RowKit Go.Lib Go.Proofs.Ytehmngdacjpflaa.Bx

def Gives (w : World) (p : Res) (e : Ending) (w' : World) : Prop := ∃ v, e = .returned (.tuple #[v, .string (mkB p.2.1), .bool p.2.2]) ∧ Strs w' v p.1 ∧ Below w.heap.size w w'
theorem Gave.gives {w : World} {p : Res} {e : Ending} {w' : World} (h : Gave w p e w') : Gives w p e w' := by
  obtain ⟨v, h1, h2, h3⟩ := h
  exact ⟨v, h1, h2.read, h3⟩
def WrapOk : Prop := ∀ (l : List UInt8) (w : World), l.length ≤ maxLen → Calls Try.prog 7 #[.string (mkB l)] w fun e w' => e = .returned (.tuple #[.string (mkB (wrapE l).1), .bool (wrapE l).2]) ∧ Below w.heap.size w w'
def SplitOk : Prop := ∀ (l : List UInt8) (most : Int) (w : World), l.length ≤ 300000 → -9223372036854775808 ≤ most ∧ most ≤ 9223372036854775807 → Calls Try.prog 9 #[.string (mkB l), .int .i64 most] w (Gives w (sp most l))
theorem wrap_ab : wrapE [97, 98] = ([0, 2, 97, 98], true) := by decide
theorem sp_ab : sp 9 [0, 2, 97, 98, 0] = ([[97, 98]], [0], true) := by decide
theorem sp_rest (most : Int) : ∀ (k : Nat) (l : List UInt8), l.length ≤ k → 3 * (sp most l).1.length + (sp most l).2.1.length ≤ l.length
  | k, l, hk => by
    by_cases h0 : l.length < 2
    · rw [sp_short h0]
      simp
    · by_cases h1 : hd l = 0 ∨ most < hd l
      · rw [sp_bad (by omega) h1]
        simp
      · by_cases h2 : l.length < hd l + 2
        · rw [sp_part (by omega) h1 h2]
          simp
        · match k, hk with
          | 0, hk => omega
          | k + 1, hk =>
            have ih := sp_rest most k (l.drop (hd l + 2)) (by rw [List.length_drop]; omega)
            rw [sp_step h1 (by omega)]
            rw [List.length_drop] at ih
            unfold consR
            simp only [List.length_cons]
            omega
theorem sp_one {l : List UInt8} (h1 : 1 ≤ l.length) (h2 : l.length ≤ 65535) : sp 65535 (wrapB l) = ([l], [], true) := by
  have := sp_wrap (most := 65535) (l := l) (r := []) h1 h2 (by omega)
  rw [List.append_nil] at this
  rw [this, sp_short (by decide)]
  rfl
set_option maxRecDepth 100000 in
set_option maxHeartbeats 8000000 in
theorem wraps_walk (WOK : WrapOk) (POK : SplitOk) (l : List UInt8) (hl : l.length ≤ maxLen) (w : World) : Calls Try.prog 3 #[.string (mkB l)] w fun e w' => e = .returned (.bool true) ∧ Below w.heap.size w w' := by
  obtain ⟨K, hK⟩ : ∃ K, K = mkB [0, 2, 97, 98] := ⟨_, rfl⟩
  have e0 : (K.toList == [0, 2, 97, 98]) = true := by rw [hK, Lib.toList_data]; rfl
  have C0 : Hid (Calls Try.prog 7 #[.string ⟨#[97, 98]⟩] w fun e w' => e = .returned (.tuple #[.string K, .bool true]) ∧ Below w.heap.size w w') := by
    have h := WOK [97, 98] w (by decide)
    rw [wrap_ab] at h
    rw [hK]
    exact h
  obtain ⟨s, hs⟩ : ∃ s, s = mkB l := ⟨_, rfl⟩
  obtain ⟨U, hU⟩ : ∃ U, U = mkB (wrapE l).1 := ⟨_, rfl⟩
  obtain ⟨q, hq⟩ : ∃ q, q = (wrapE l).2 := ⟨_, rfl⟩
  have C1 : Hid (∀ w, Calls Try.prog 7 #[.string s] w fun e w' => e = .returned (.tuple #[.string U, .bool q]) ∧ Below w.heap.size w w') := fun w => by
    rw [hU, hq, hs]
    exact WOK l w hl
  have C2 : Hid (∀ w, Calls Try.prog 8 #[.string s] w fun e w' => e = .returned (.tuple #[.string U, .bool q]) ∧ Below w.heap.size w w') := fun w => by
    rw [hU, hq, hs]
    exact rWrap_any l w
  have C3 : Hid (q = true → ∀ w, Calls Try.prog 9 #[.string U, .int .i64 65535] w fun e w' => ∃ b off cap, e = .returned (.tuple #[.slice (some ⟨b, off, none⟩) 1 cap, .string ⟨#[]⟩, .bool true]) ∧ Hid (w'.cell? ⟨b, off, none⟩ = some (.string s)) ∧ 1 ≤ cap ∧ Below w.heap.size w w') := fun e w => by
    rw [hq] at e
    by_cases h : l.length = 0 ∨ 65535 < l.length
    · rw [wrapE_no h] at e
      cases e
    · have h := POK (wrapB l) 65535 w (by rw [wrap_len]; omega) (by decide)
      rw [sp_one (by omega) (by omega)] at h
      rw [hU, wrapE_yes (by omega)]
      refine h.mono ?_
      rintro e w' ⟨v, rfl, hr, hb⟩
      obtain ⟨a, cap, rfl, h1, h2⟩ := hr.is_slice
      obtain ⟨b, off, rfl, _, hc⟩ := hr.get (j := 0) (show 0 < 1 by decide)
      exact ⟨b, off, cap, rfl, by rw [hs]; exact hc, h1, hb⟩
  have SS : (s.toList == s.toList) = true := by simp
  have UU : (U.toList == U.toList) = true := by simp
  rw [← hs]
  clear hs hU hq hK
  go_enter Try.func3, Try.ntmps3
  go_wp2_with fail
  refine C0.out.mono ?_
  rintro e w1 ⟨rfl, b1⟩
  have HB1 := Lib.hid b1
  clear C0 b1
  go_wp2_with fail
  refine (C1.out w1).mono ?_
  rintro e w2 ⟨rfl, b2⟩
  have HB2 := Lib.hid (below_on HB1.out b2)
  clear b2
  go_wp2_with fail
  refine (C2.out w2).mono ?_
  rintro e w3 ⟨rfl, b3⟩
  have HB3 := Lib.hid (below_on HB2.out b3)
  clear b3
  cases q with
  | false =>
    clear C3
    go_wp2_with fail
    go_ret
    exact ⟨by first | rfl | (simp; done), HB3.out⟩
  | true =>
    have C4 := Lib.hid (C3.out rfl)
    clear C3
    go_wp2_with fail
    refine (C4.out w3).mono ?_
    rintro e w4 ⟨b, off, cap, rfl, HC, hcap, b4⟩
    have HB4 := Lib.hid (below_on HB3.out b4)
    have c0 := HC.out
    clear b4
    go_wp2_with fail
    go_ret
    exact ⟨by first | rfl | (simp; done), HB4.out⟩
end Go.Proofs.Ytehmngdacjpflaa.Frm
