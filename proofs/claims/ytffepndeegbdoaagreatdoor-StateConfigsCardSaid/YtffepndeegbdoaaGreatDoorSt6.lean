/- Salt: the roots' tables, in numbers. No program is spoken of here. -/
import Derived.Test.YtffepndeegbdoaaGreatDoorZb
set_option linter.unusedVariables false
set_option maxRecDepth 100000
namespace Go.Proofs.YtffepndeegbdoaaGreatDoor.Slt

def H0 : List Nat := [0x6a09e667, 0xbb67ae85, 0x3c6ef372, 0xa54ff53a, 0x510e527f, 0x9b05688c, 0x1f83d9ab, 0x5be0cd19]
def K0 : List Nat := [0x428a2f98, 0x71374491, 0xb5c0fbcf, 0xe9b5dba5, 0x3956c25b, 0x59f111f1, 0x923f82a4, 0xab1c5ed5, 0xd807aa98, 0x12835b01, 0x243185be, 0x550c7dc3, 0x72be5d74, 0x80deb1fe, 0x9bdc06a7, 0xc19bf174, 0xe49b69c1, 0xefbe4786, 0x0fc19dc6, 0x240ca1cc, 0x2de92c6f, 0x4a7484aa, 0x5cb0a9dc, 0x76f988da, 0x983e5152, 0xa831c66d, 0xb00327c8, 0xbf597fc7, 0xc6e00bf3, 0xd5a79147, 0x06ca6351, 0x14292967, 0x27b70a85, 0x2e1b2138, 0x4d2c6dfc, 0x53380d13, 0x650a7354, 0x766a0abb, 0x81c2c92e, 0x92722c85, 0xa2bfe8a1, 0xa81a664b, 0xc24b8b70, 0xc76c51a3, 0xd192e819, 0xd6990624, 0xf40e3585, 0x106aa070, 0x19a4c116, 0x1e376c08, 0x2748774c, 0x34b0bcb5, 0x391c0cb3, 0x4ed8aa4a, 0x5b9cca4f, 0x682e6ff3, 0x748f82ee, 0x78a5636f, 0x84c87814, 0x8cc70208, 0x90befffa, 0xa4506ceb, 0xbef9a3f7, 0xc67178f2]
theorem H0_a : ((primes64.drop 0).take 4).map (rootN · 2) = (H0.drop 0).take 4 := by decide +kernel
theorem H0_b : ((primes64.drop 4).take 4).map (rootN · 2) = (H0.drop 4).take 4 := by decide +kernel
theorem H0_is : tableL 8 2 = H0 := by
  have e : primes64.take 8 = (primes64.drop 0).take 4 ++ (primes64.drop 4).take 4 := by decide
  unfold tableL
  rw [e, List.map_append, H0_a, H0_b]
  rfl
theorem K0_0 : ((primes64.drop 0).take 4).map (rootN · 3) = (K0.drop 0).take 4 := by decide +kernel
theorem K0_1 : ((primes64.drop 4).take 4).map (rootN · 3) = (K0.drop 4).take 4 := by decide +kernel
theorem K0_2 : ((primes64.drop 8).take 4).map (rootN · 3) = (K0.drop 8).take 4 := by decide +kernel
theorem K0_3 : ((primes64.drop 12).take 4).map (rootN · 3) = (K0.drop 12).take 4 := by decide +kernel
theorem K0_4 : ((primes64.drop 16).take 4).map (rootN · 3) = (K0.drop 16).take 4 := by decide +kernel
theorem K0_5 : ((primes64.drop 20).take 4).map (rootN · 3) = (K0.drop 20).take 4 := by decide +kernel
theorem K0_6 : ((primes64.drop 24).take 4).map (rootN · 3) = (K0.drop 24).take 4 := by decide +kernel
theorem K0_7 : ((primes64.drop 28).take 4).map (rootN · 3) = (K0.drop 28).take 4 := by decide +kernel
theorem K0_8 : ((primes64.drop 32).take 4).map (rootN · 3) = (K0.drop 32).take 4 := by decide +kernel
theorem K0_9 : ((primes64.drop 36).take 4).map (rootN · 3) = (K0.drop 36).take 4 := by decide +kernel
theorem K0_10 : ((primes64.drop 40).take 4).map (rootN · 3) = (K0.drop 40).take 4 := by decide +kernel
theorem K0_11 : ((primes64.drop 44).take 4).map (rootN · 3) = (K0.drop 44).take 4 := by decide +kernel
theorem K0_12 : ((primes64.drop 48).take 4).map (rootN · 3) = (K0.drop 48).take 4 := by decide +kernel
theorem K0_13 : ((primes64.drop 52).take 4).map (rootN · 3) = (K0.drop 52).take 4 := by decide +kernel
theorem K0_14 : ((primes64.drop 56).take 4).map (rootN · 3) = (K0.drop 56).take 4 := by decide +kernel
theorem K0_15 : ((primes64.drop 60).take 4).map (rootN · 3) = (K0.drop 60).take 4 := by decide +kernel
theorem K0_is : tableL 64 3 = K0 := by
  have e : primes64.take 64 = (primes64.drop 0).take 4 ++ ((primes64.drop 4).take 4 ++ ((primes64.drop 8).take 4 ++ ((primes64.drop 12).take 4 ++ ((primes64.drop 16).take 4 ++ ((primes64.drop 20).take 4 ++ ((primes64.drop 24).take 4 ++ ((primes64.drop 28).take 4 ++ ((primes64.drop 32).take 4 ++ ((primes64.drop 36).take 4 ++ ((primes64.drop 40).take 4 ++ ((primes64.drop 44).take 4 ++ ((primes64.drop 48).take 4 ++ ((primes64.drop 52).take 4 ++ ((primes64.drop 56).take 4 ++ ((primes64.drop 60).take 4))))))))))))))) := by decide
  unfold tableL
  rw [e]
  simp only [List.map_append]
  rw [K0_0, K0_1, K0_2, K0_3, K0_4, K0_5, K0_6, K0_7, K0_8, K0_9, K0_10, K0_11, K0_12, K0_13, K0_14, K0_15]
  rfl
end Go.Proofs.YtffepndeegbdoaaGreatDoor.Slt
