/- Salt: lists of numbers in memory; the product of limbs, as a plain function, and its bounds. -/
import Derived.Test.YtccaiippoephbaaGreatDoorWa
import Derived.Deep.DeepCutAuto
import Derived.Deep.CutBlock
import Derived.Deep.LoopGhost
import Derived.OwnWalk
import Derived.Deep.RegionHeld3
import Derived.WalkLawsBesides
import Derived.Laws.BitsLemmas
set_option linter.unusedVariables false
set_option linter.unusedSimpArgs false
set_option maxRecDepth 100000
namespace Go.Proofs.YtccaiippoephbaaGreatDoor.Slt
open Go.RowKit Go.Lib Go.Proofs.YtccaiippoephbaaGreatDoor.Bx

/-- A slice of numbers that is read. -/
def Nums (k : IntKind) (w : World) (v : Value) (l : List Nat) : Prop :=
  ∃ a cap, v = .slice a l.length cap ∧ l.length ≤ cap ∧ cap ≤ maxLen ∧ ∀ j (hj : j < l.length), ∃ b off, a = some ⟨b, off, none⟩ ∧ b < w.heap.size ∧ w.cell? ⟨b, off + j, none⟩ = some (.int k (l[j] : Nat))
theorem Nums.below {k : IntKind} {w w' : World} {v : Value} {l : List Nat} (h : Nums k w v l) (hb : Below w.heap.size w w') : Nums k w' v l := by
  obtain ⟨a, cap, rfl, h1, h2, h3⟩ := h
  refine ⟨a, cap, rfl, h1, h2, fun j hj => ?_⟩
  obtain ⟨b, off, e, hlt, hc⟩ := h3 j hj
  exact ⟨b, off, e, Nat.lt_of_lt_of_le hlt hb.size, vcell hb hlt hc⟩
def toC (k : IntKind) (l : List Nat) : Array Value := (l.map fun x => Value.int k (x : Nat)).toArray
theorem toC_set (k : IntKind) (l : List Nat) (i x : Nat) : (toC k l).setIfInBounds i (.int k (x : Nat)) = toC k (l.set i x) := by
  unfold toC
  rw [List.setIfInBounds_toArray, List.map_set]
theorem toC_cell {w : World} {b : Nat} {ty : TypeId} {k : IntKind} {l : List Nat} (h : w.heap[b]? = some (.cells (toC k l) ty (0, 0))) {i : Nat} (hi : i < l.length) : w.cell? ⟨b, i, none⟩ = some (.int k (l[i] : Nat)) := by
  rw [cell_of_row _ _ _ _ _ _ h]
  simp [toC, hi]
theorem getD_set (l : List Nat) (i x j : Nat) : (l.set i x).getD j 0 = if i = j ∧ i < l.length then x else l.getD j 0 := by
  rw [List.getD_eq_getElem?_getD, List.getD_eq_getElem?_getD, List.getElem?_set]
  by_cases h : i = j
  · subst h
    by_cases h2 : i < l.length
    · simp [h2]
    · simp [h2, List.getElem?_eq_none (Nat.not_lt.1 h2)]
  · simp [h]
end Go.Proofs.YtccaiippoephbaaGreatDoor.Slt
/- Salt: times, limbs of the plain text. -/
set_option linter.unusedVariables false
set_option linter.unusedSimpArgs false
set_option maxRecDepth 100000
namespace Go.Proofs.YtccaiippoephbaaGreatDoor.Slt
open Go.RowKit Go.Lib Go.Proofs.YtccaiippoephbaaGreatDoor.Bx

end Go.Proofs.YtccaiippoephbaaGreatDoor.Slt
/- Salt: limbs, above, root of the plain text. -/
set_option linter.unusedVariables false
set_option linter.unusedSimpArgs false
set_option maxRecDepth 100000
namespace Go.Proofs.YtccaiippoephbaaGreatDoor.Slt
open Go.RowKit Go.Lib Go.Proofs.YtccaiippoephbaaGreatDoor.Bx

end Go.Proofs.YtccaiippoephbaaGreatDoor.Slt
/- Salt: root, primes, Table of the plain text. -/
set_option linter.unusedVariables false
set_option linter.unusedSimpArgs false
set_option maxRecDepth 100000
namespace Go.Proofs.YtccaiippoephbaaGreatDoor.Slt
open Go.RowKit Go.Lib Go.Proofs.YtccaiippoephbaaGreatDoor.Bx

def OwnN (k : IntKind) (e : TypeId) (base : Nat) (w : World) (v : Value) (l : List Nat) : Prop := Rk.OwnK e 1 base w v (l.map fun x => [.int k (x : Nat)])
theorem OwnN.nums {k : IntKind} {e : TypeId} {base : Nat} {w : World} {v : Value} {l : List Nat} (h : OwnN k e base w v l) : Nums k w v l := by
  obtain ⟨_, a, cap, e1, h1, h2, h3⟩ := Rk.OwnK.row h
  rw [List.length_map] at e1 h1
  refine ⟨a, cap, e1, h1, h2, fun j hj => ?_⟩
  rcases h3 with h3 | ⟨b, off, rfl, hb, hc⟩
  · have : l.length = 0 := by rw [← List.length_map (f := fun x => [Value.int k (x : Nat)]), h3]; rfl
    omega
  · have := hc j (by rw [List.length_map]; exact hj) 0
    simp only [List.getElem_map, Nat.mul_one, Nat.add_zero] at this
    exact ⟨b, off, rfl, hb, this _ rfl⟩
theorem OwnN.is_slice {k : IntKind} {e : TypeId} {base : Nat} {w : World} {v : Value} {l : List Nat} (h : OwnN k e base w v l) : ∃ a cap, v = .slice a l.length cap := by
  obtain ⟨a, cap, e, _⟩ := h.nums
  exact ⟨a, cap, e⟩
end Go.Proofs.YtccaiippoephbaaGreatDoor.Slt
/- Salt: Table of the plain text. -/
set_option linter.unusedVariables false
set_option linter.unusedSimpArgs false
set_option maxRecDepth 100000
namespace Go.Proofs.YtccaiippoephbaaGreatDoor.Slt
open Go.RowKit Go.Lib Go.Proofs.YtccaiippoephbaaGreatDoor.Bx

end Go.Proofs.YtccaiippoephbaaGreatDoor.Slt
/- Salt: numbers of 32 bits; turn of the plain text. -/
set_option linter.unusedVariables false
set_option linter.unusedSimpArgs false
set_option maxRecDepth 100000
namespace Go.Proofs.YtccaiippoephbaaGreatDoor.Slt
open Go.RowKit Go.Lib Go.Proofs.YtccaiippoephbaaGreatDoor.Bx

theorem wraps_u32' (n : Int) (h0 : 0 ≤ n) (h1 : n < 2 ^ 32) : IntKind.u32.wrap n = n := IntWalk.u32_in _ (by omega)
theorem or32 {a b : Nat} (ha : a < 4294967296) (hb : b < 4294967296) : bits .or .u32 (a : Int) (b : Int) = ((a ||| b : Nat) : Int) := (bits_nat .u32 32 (by decide) wraps_u32' a b (by omega) (by omega)).2
theorem and32 {a b : Nat} (ha : a < 4294967296) (hb : b < 4294967296) : bits .and .u32 (a : Int) (b : Int) = ((a &&& b : Nat) : Int) := (bits_nat .u32 32 (by decide) wraps_u32' a b (by omega) (by omega)).1
theorem xor32 {a b : Nat} (ha : a < 4294967296) (hb : b < 4294967296) : bits .xor .u32 (a : Int) (b : Int) = ((a ^^^ b : Nat) : Int) := by
  have h : a ^^^ b < 2 ^ 32 := Nat.xor_lt_two_pow (by omega) (by omega)
  have e : ∀ c : Nat, c < 4294967296 → (BitVec.ofInt IntKind.u32.bits (c : Int)).toNat = c := fun c hc => by
    rw [BitVec.ofInt_natCast, BitVec.toNat_ofNat]
    exact Nat.mod_eq_of_lt hc
  show IntKind.u32.wrap ((BitVec.ofInt IntKind.u32.bits (a : Int) ^^^ BitVec.ofInt IntKind.u32.bits (b : Int)).toNat : Int) = _
  rw [BitVec.toNat_xor, e a ha, e b hb]
  exact wraps_u32' _ (by omega) (by omega)
theorem lt_or32 {a b : Nat} (ha : a < 4294967296) (hb : b < 4294967296) : a ||| b < 4294967296 := Nat.or_lt_two_pow (n := 32) ha hb
theorem lt_and32 {a b : Nat} (hb : b < 4294967296) : a &&& b < 4294967296 := Nat.and_lt_two_pow (n := 32) _ hb
theorem lt_xor32 {a b : Nat} (ha : a < 4294967296) (hb : b < 4294967296) : a ^^^ b < 4294967296 := Nat.xor_lt_two_pow (n := 32) ha hb
/-- Rotated right. -/
def turnN (x n : Nat) : Nat := x / 2 ^ n ||| x * 2 ^ (32 - n) % 4294967296
theorem turnN_lt {x n : Nat} (hx : x < 4294967296) : turnN x n < 4294967296 := lt_or32 (Nat.lt_of_le_of_lt (Nat.div_le_self _ _) hx) (Nat.mod_lt _ (by decide))
end Go.Proofs.YtccaiippoephbaaGreatDoor.Slt
/- Salt: the roots' tables, in numbers. No program is spoken of here. -/
set_option linter.unusedVariables false
set_option maxRecDepth 100000
namespace Go.Proofs.YtccaiippoephbaaGreatDoor.Slt

def H0 : List Nat := [0x6a09e667, 0xbb67ae85, 0x3c6ef372, 0xa54ff53a, 0x510e527f, 0x9b05688c, 0x1f83d9ab, 0x5be0cd19]
def K0 : List Nat := [0x428a2f98, 0x71374491, 0xb5c0fbcf, 0xe9b5dba5, 0x3956c25b, 0x59f111f1, 0x923f82a4, 0xab1c5ed5, 0xd807aa98, 0x12835b01, 0x243185be, 0x550c7dc3, 0x72be5d74, 0x80deb1fe, 0x9bdc06a7, 0xc19bf174, 0xe49b69c1, 0xefbe4786, 0x0fc19dc6, 0x240ca1cc, 0x2de92c6f, 0x4a7484aa, 0x5cb0a9dc, 0x76f988da, 0x983e5152, 0xa831c66d, 0xb00327c8, 0xbf597fc7, 0xc6e00bf3, 0xd5a79147, 0x06ca6351, 0x14292967, 0x27b70a85, 0x2e1b2138, 0x4d2c6dfc, 0x53380d13, 0x650a7354, 0x766a0abb, 0x81c2c92e, 0x92722c85, 0xa2bfe8a1, 0xa81a664b, 0xc24b8b70, 0xc76c51a3, 0xd192e819, 0xd6990624, 0xf40e3585, 0x106aa070, 0x19a4c116, 0x1e376c08, 0x2748774c, 0x34b0bcb5, 0x391c0cb3, 0x4ed8aa4a, 0x5b9cca4f, 0x682e6ff3, 0x748f82ee, 0x78a5636f, 0x84c87814, 0x8cc70208, 0x90befffa, 0xa4506ceb, 0xbef9a3f7, 0xc67178f2]
end Go.Proofs.YtccaiippoephbaaGreatDoor.Slt
/- Salt: SHA-256 and the seal, as plain functions over numbers; the chapter's example. No program is spoken of here. -/
set_option linter.unusedVariables false
set_option maxRecDepth 100000
namespace Go.Proofs.YtccaiippoephbaaGreatDoor.Slt

def add32 (a b : Nat) : Nat := (a + b) % 4294967296
def not32 (a : Nat) : Nat := 4294967295 ^^^ a
/-- The bytes behind a text: 128, as few 0 as are wanted, its length in bits. -/
def zeros (n : Nat) : Nat := (119 - n % 64) % 64
def lenB (n : Nat) (k : Nat) : List Nat := (List.range k).map fun i => n * 8 / 2 ^ (8 * (7 - i)) % 256
def padL (l : List Nat) : List Nat := l ++ [128] ++ List.replicate (zeros l.length) 0 ++ lenB l.length 8
def wordN (b : List Nat) (i : Nat) : Nat := ((b.getD i 0 * 16777216 ||| b.getD (i + 1) 0 * 65536) ||| b.getD (i + 2) 0 * 256) ||| b.getD (i + 3) 0
def small0 (x : Nat) : Nat := (turnN x 7 ^^^ turnN x 18) ^^^ x / 8
def small1 (y : Nat) : Nat := (turnN y 17 ^^^ turnN y 19) ^^^ y / 1024
def wNext (w : List Nat) (t : Nat) : Nat := add32 (add32 (add32 (w.getD (t - 16) 0) (small0 (w.getD (t - 15) 0))) (w.getD (t - 7) 0)) (small1 (w.getD (t - 2) 0))
def sched (b : List Nat) (at_ : Nat) : Nat → List Nat
  | 0 => List.replicate 64 0
  | t + 1 => (sched b at_ t).set t (if t < 16 then wordN b (at_ + 4 * t) else wNext (sched b at_ t) t)
def big1 (e : Nat) : Nat := (turnN e 6 ^^^ turnN e 11) ^^^ turnN e 25
def big0 (a : Nat) : Nat := (turnN a 2 ^^^ turnN a 13) ^^^ turnN a 22
def oneN (v : List Nat) (k w : Nat) : Nat := add32 (add32 (add32 (add32 (v.getD 7 0) (big1 (v.getD 4 0))) ((v.getD 4 0 &&& v.getD 5 0) ||| (not32 (v.getD 4 0) &&& v.getD 6 0))) k) w
def twoN (v : List Nat) : Nat := add32 (big0 (v.getD 0 0)) (((v.getD 0 0 &&& v.getD 1 0) ||| (v.getD 0 0 &&& v.getD 2 0)) ||| (v.getD 1 0 &&& v.getD 2 0))
def stepV (v : List Nat) (one two : Nat) : List Nat := [add32 one two, v.getD 0 0, v.getD 1 0, v.getD 2 0, add32 (v.getD 3 0) one, v.getD 4 0, v.getD 5 0, v.getD 6 0]
def rounds (w v : List Nat) : Nat → List Nat
  | 0 => v
  | t + 1 => stepV (rounds w v t) (oneN (rounds w v t) (K0.getD t 0) (w.getD t 0)) (twoN (rounds w v t))
def block (b : List Nat) (h : List Nat) (at_ : Nat) : List Nat := List.zipWith add32 h (rounds (sched b at_ 64) h 64)
def blocks (b : List Nat) : Nat → List Nat
  | 0 => H0
  | k + 1 => block b (blocks b k) (64 * k)
def bytes4 (x : Nat) : List Nat := [x / 16777216 % 256, x / 65536 % 256, x / 256 % 256, x % 256]
def sumL (l : List Nat) : List Nat := (blocks (padL l) ((padL l).length / 64)).flatMap bytes4
def digit (x : Nat) : Nat := if x < 10 then 48 + x else 87 + x
def hexL (l : List Nat) : List Nat := l.flatMap fun x => [digit (x / 16), digit (x % 16)]
def sealL (s p : List Nat) : List Nat := hexL (sumL (s ++ [0] ++ p))
theorem seal_none : sealL [] [] = [54, 101, 51, 52, 48, 98, 57, 99, 102, 102, 98, 51, 55, 97, 57, 56, 57, 99, 97, 53, 52, 52, 101, 54, 98, 98, 55, 56, 48, 97, 50, 99, 55, 56, 57, 48, 49, 100, 51, 102, 98, 51, 51, 55, 51, 56, 55, 54, 56, 53, 49, 49, 97, 51, 48, 54, 49, 55, 97, 102, 97, 48, 49, 100] := by decide +kernel
end Go.Proofs.YtccaiippoephbaaGreatDoor.Slt
