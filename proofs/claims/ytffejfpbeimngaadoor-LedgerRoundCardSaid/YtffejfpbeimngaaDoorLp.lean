/- Ledger: how many plates a record takes. -/
import Derived.Test.YtffejfpbeimngaaDoorChecked
import Derived.WalkKit
import Derived.Below
import Derived.IntWalk
import Derived.Lib.Hide
import Derived.Lib.Strings
set_option linter.unusedVariables false
set_option linter.unusedSimpArgs false
set_option maxRecDepth 100000
namespace Go.Proofs.YtffejfpbeimngaaDoor.Ldg
open Go.RowKit Go.Lib
/-- How many body plates n bytes want; how many plates a record of n bytes takes. -/
def bodN (n : Nat) : Nat := (n + 126) / 127
def platesN (n : Nat) : Nat := if n = 0 ∨ 65535 < n then 0 else 1 + bodN n
theorem quo127 (n : Nat) : Int.tdiv ((n : Int) + 126) 127 = ((bodN n : Nat) : Int) := by
  unfold bodN
  rw [Int.tdiv_eq_ediv_of_nonneg (by omega)]
  omega
theorem empty_of {s : ByteArray} (h : s.size = 0) : s = ByteArray.mk #[] := by
  obtain ⟨⟨l⟩⟩ := s
  have : l = [] := List.eq_nil_of_length_eq_zero h
  subst this
  rfl
theorem bodies_any (n : Nat) (hn : n ≤ 140737488355328) (w : World) : Calls Tryd.prog 32 #[.int .i64 n] w fun e w' => e = .returned (.int .i64 (bodN n : Nat)) ∧ w' = w := by
  have e := quo127 n
  have hm : bodN n ≤ 140737488355328 := by unfold bodN; omega
  generalize bodN n = m at *
  have e0 : (n : Int) + 127 - 1 = (n : Int) + 126 := by omega
  go_enter Tryd.func32, Tryd.ntmps32
  go_wp2
  go_ret
  exact ⟨rfl, rfl⟩

theorem plates_any (s : ByteArray) (hs : s.size ≤ 9223372036854775807) (w : World) : Calls Tryd.prog 26 #[.string s] w fun e w' => e = .returned (.int .i64 (platesN s.size : Nat)) ∧ w' = w := by
  obtain ⟨n, hn⟩ : ∃ n, n = s.size := ⟨_, rfl⟩
  by_cases h0 : n = 0
  · have hse : s = ByteArray.mk #[] := empty_of (by omega)
    subst hse
    go_enter Tryd.func26, Tryd.ntmps26
    go_wp2_with fail
    go_ret
    exact ⟨rfl, rfl⟩
  · have hse : ¬ s = ByteArray.mk #[] := fun e => h0 (by rw [hn, e]; rfl)
    have SN : ¬ s.toList = [] := fun e => h0 (by rw [hn, show s.size = s.data.toList.length from rfl, ← Lib.toList_data, e]; rfl)
    have SE0 : s.toList.isEmpty = false := by cases h : s.toList with
      | nil => exact absurd h SN
      | cons a m => rfl
    clear SN
    rw [← hn] at hs ⊢
    have hsz : s.size = n := hn.symm
    clear hn
    by_cases h1 : 65535 < n
    · have hp : platesN n = 0 := if_pos (.inr h1)
      have g1 : decide ((65535 : Int) < (n : Int)) = true := decide_eq_true (by omega)
      rw [hp]
      go_enter Tryd.func26, Tryd.ntmps26
      go_wp2_with fail
      go_ret
      exact ⟨rfl, rfl⟩
    · have hp : platesN n = 1 + bodN n := if_neg (by omega)
      have g1 : decide ((65535 : Int) < (n : Int)) = false := decide_eq_false (by omega)
      have hb : bodN n ≤ 140737488355328 := by unfold bodN; omega
      have e := quo127 n
      have BO : Hid (∀ w, Calls Tryd.prog 32 #[.int .i64 n] w fun e w' => e = .returned (.int .i64 (bodN n : Nat)) ∧ w' = w) := fun w => bodies_any n (by omega) w
      rw [hp]
      generalize bodN n = m at *
      have e1 : ((1 + m : Nat) : Int) = 1 + (m : Int) := by omega
      rw [e1]
      go_enter Tryd.func26, Tryd.ntmps26
      go_wp2_with fail
      refine (BO.out _).mono ?_
      rintro e w' ⟨rfl, rfl⟩
      go_wp2
      go_ret
      exact ⟨rfl, rfl⟩
end Go.Proofs.YtffejfpbeimngaaDoor.Ldg
