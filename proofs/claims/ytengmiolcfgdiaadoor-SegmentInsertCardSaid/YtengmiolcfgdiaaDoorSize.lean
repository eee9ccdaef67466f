/- Plain numbers alone: the reference's reading of one letter is the decoder's. No program is spoken of here. -/
import Derived.Lib.TrimUEq
set_option linter.unusedVariables false
namespace Go.Proofs.YtengmiolcfgdiaaDoor.Let
open Go.Lib

/-- What stands behind the bytes: the value may be, or not. -/
def finS (n low v : Int) : Int × Int := if v < low ∨ 1114111 < v ∨ (55296 ≤ v ∧ v < 57344) then (1, 65533) else (n, v)

theorem dN_ascii (n b0 b1 b2 b3 : Nat) (h : b0 < 128) : decodeN n b0 b1 b2 b3 = (b0, 1) := by
  unfold decodeN
  rw [if_pos h]
theorem dN_lead (n b0 b1 b2 b3 : Nat) (h : (128 ≤ b0 ∧ b0 < 192) ∨ (248 ≤ b0 ∧ b0 < 256)) : decodeN n b0 b1 b2 b3 = (65533, 1) := by
  unfold decodeN
  rw [if_neg (by omega), if_neg (by omega), if_neg (by omega), if_neg (by omega)]
theorem dN_short2 (n b0 b1 b2 b3 : Nat) (h : 192 ≤ b0 ∧ b0 < 224) (hn : n < 2 ∨ b1 < 128 ∨ 192 ≤ b1) (h1 : b1 < 256) : decodeN n b0 b1 b2 b3 = (65533, 1) := by
  unfold decodeN
  rw [if_neg (by omega), if_neg (by omega), if_neg (by omega), if_neg (by omega)]
theorem dN_short3 (n b0 b1 b2 b3 : Nat) (h : 224 ≤ b0 ∧ b0 < 240) (hn : n < 3 ∨ b1 < 128 ∨ 192 ≤ b1 ∨ b2 < 128 ∨ 192 ≤ b2) (h1 : b1 < 256) (h2 : b2 < 256) : decodeN n b0 b1 b2 b3 = (65533, 1) := by
  unfold decodeN
  rw [if_neg (by omega), if_neg (by omega), if_neg (by omega), if_neg (by omega)]
theorem dN_short4 (n b0 b1 b2 b3 : Nat) (h : 240 ≤ b0 ∧ b0 < 248) (hn : n < 4 ∨ b1 < 128 ∨ 192 ≤ b1 ∨ b2 < 128 ∨ 192 ≤ b2 ∨ b3 < 128 ∨ 192 ≤ b3) (h1 : b1 < 256) (h2 : b2 < 256) (h3 : b3 < 256) : decodeN n b0 b1 b2 b3 = (65533, 1) := by
  unfold decodeN
  rw [if_neg (by omega), if_neg (by omega), if_neg (by omega), if_neg (by omega)]
theorem dN_two (n b0 b1 b2 b3 : Nat) (h : 192 ≤ b0 ∧ b0 < 224) (hn : 2 ≤ n) (h1 : 128 ≤ b1 ∧ b1 < 192) :
    (((decodeN n b0 b1 b2 b3).2 : Int), ((decodeN n b0 b1 b2 b3).1 : Int)) = finS 2 128 (((b0 : Int) - 192) * 64 + b1 - 128) := by
  unfold decodeN finS
  rw [if_neg (by omega), if_pos (by omega)]
  by_cases hc : b0 % 32 * 64 + b1 % 64 ≥ 128
  · rw [if_pos hc, if_neg (by omega)]
    simp only [Prod.mk.injEq]
    omega
  · rw [if_neg hc, if_pos (by omega)]
    rfl
theorem dN_three (n b0 b1 b2 b3 : Nat) (h : 224 ≤ b0 ∧ b0 < 240) (hn : 3 ≤ n) (h1 : 128 ≤ b1 ∧ b1 < 192) (h2 : 128 ≤ b2 ∧ b2 < 192) :
    (((decodeN n b0 b1 b2 b3).2 : Int), ((decodeN n b0 b1 b2 b3).1 : Int)) = finS 3 2048 ((((b0 : Int) - 224) * 64 + b1 - 128) * 64 + b2 - 128) := by
  unfold decodeN finS
  rw [if_neg (by omega), if_neg (by omega), if_pos (by omega)]
  by_cases hc : b0 % 16 * 4096 + b1 % 64 * 64 + b2 % 64 ≥ 2048 ∧ (b0 % 16 * 4096 + b1 % 64 * 64 + b2 % 64 < 55296 ∨ (57344 ≤ b0 % 16 * 4096 + b1 % 64 * 64 + b2 % 64 ∧ b0 % 16 * 4096 + b1 % 64 * 64 + b2 % 64 ≤ 1114111))
  · rw [if_pos hc, if_neg (by omega)]
    simp only [Prod.mk.injEq]
    omega
  · rw [if_neg hc, if_pos (by omega)]
    rfl
theorem dN_four (n b0 b1 b2 b3 : Nat) (h : 240 ≤ b0 ∧ b0 < 248) (hn : 4 ≤ n) (h1 : 128 ≤ b1 ∧ b1 < 192) (h2 : 128 ≤ b2 ∧ b2 < 192) (h3 : 128 ≤ b3 ∧ b3 < 192) :
    (((decodeN n b0 b1 b2 b3).2 : Int), ((decodeN n b0 b1 b2 b3).1 : Int)) = finS 4 65536 (((((b0 : Int) - 240) * 64 + b1 - 128) * 64 + b2 - 128) * 64 + b3 - 128) := by
  unfold decodeN finS
  rw [if_neg (by omega), if_neg (by omega), if_neg (by omega), if_pos (by omega)]
  by_cases hc : b0 % 8 * 262144 + b1 % 64 * 4096 + b2 % 64 * 64 + b3 % 64 ≥ 65536 ∧ (b0 % 8 * 262144 + b1 % 64 * 4096 + b2 % 64 * 64 + b3 % 64 < 55296 ∨ (57344 ≤ b0 % 8 * 262144 + b1 % 64 * 4096 + b2 % 64 * 64 + b3 % 64 ∧ b0 % 8 * 262144 + b1 % 64 * 4096 + b2 % 64 * 64 + b3 % 64 ≤ 1114111))
  · rw [if_pos hc, if_neg (by omega)]
    simp only [Prod.mk.injEq]
    omega
  · rw [if_neg hc, if_pos (by omega)]
    rfl
end Go.Proofs.YtengmiolcfgdiaaDoor.Let
