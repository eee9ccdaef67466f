/- Salt: SHA-256 and the seal, as plain functions over numbers; the chapter's example. No program is spoken of here. -/
import Derived.Test.YtffepndeegbdoaaGreatDoorSu1
import Derived.Test.YtffepndeegbdoaaGreatDoorSt6
set_option linter.unusedVariables false
set_option maxRecDepth 100000
namespace Go.Proofs.YtffepndeegbdoaaGreatDoor.Slt

def add32 (a b : Nat) : Nat := (a + b) % 4294967296
def not32 (a : Nat) : Nat := 4294967295 ^^^ a
/-- The bytes behind a text: 128, as few 0 as are wanted, its length in bits. -/
def zeros (n : Nat) : Nat := (119 - n % 64) % 64
def lenB (n : Nat) (k : Nat) : List Nat := (List.range k).map fun i => n * 8 / 2 ^ (8 * (7 - i)) % 256
def padL (l : List Nat) : List Nat := l ++ [128] ++ List.replicate (zeros l.length) 0 ++ lenB l.length 8
def wordN (b : List Nat) (i : Nat) : Nat := ((b.getD i 0 * 16777216 ||| b.getD (i + 1) 0 * 65536) ||| b.getD (i + 2) 0 * 256) ||| b.getD (i + 3) 0
def small0 (x : Nat) : Nat := (turnN x 7 ^^^ turnN x 18) ^^^ x / 8
def small1 (y : Nat) : Nat := (turnN y 17 ^^^ turnN y 19) ^^^ y / 1024
def wNext (w : List Nat) (t : Nat) : Nat := add32 (add32 (add32 (w.getD (t - 16) 0) (small0 (w.getD (t - 15) 0))) (w.getD (t - 7) 0)) (small1 (w.getD (t - 2) 0))
def sched (b : List Nat) (at_ : Nat) : Nat → List Nat
  | 0 => List.replicate 64 0
  | t + 1 => (sched b at_ t).set t (if t < 16 then wordN b (at_ + 4 * t) else wNext (sched b at_ t) t)
def big1 (e : Nat) : Nat := (turnN e 6 ^^^ turnN e 11) ^^^ turnN e 25
def big0 (a : Nat) : Nat := (turnN a 2 ^^^ turnN a 13) ^^^ turnN a 22
def oneN (v : List Nat) (k w : Nat) : Nat := add32 (add32 (add32 (add32 (v.getD 7 0) (big1 (v.getD 4 0))) ((v.getD 4 0 &&& v.getD 5 0) ||| (not32 (v.getD 4 0) &&& v.getD 6 0))) k) w
def twoN (v : List Nat) : Nat := add32 (big0 (v.getD 0 0)) (((v.getD 0 0 &&& v.getD 1 0) ||| (v.getD 0 0 &&& v.getD 2 0)) ||| (v.getD 1 0 &&& v.getD 2 0))
def stepV (v : List Nat) (one two : Nat) : List Nat := [add32 one two, v.getD 0 0, v.getD 1 0, v.getD 2 0, add32 (v.getD 3 0) one, v.getD 4 0, v.getD 5 0, v.getD 6 0]
def rounds (w v : List Nat) : Nat → List Nat
  | 0 => v
  | t + 1 => stepV (rounds w v t) (oneN (rounds w v t) (K0.getD t 0) (w.getD t 0)) (twoN (rounds w v t))
def block (b : List Nat) (h : List Nat) (at_ : Nat) : List Nat := List.zipWith add32 h (rounds (sched b at_ 64) h 64)
def blocks (b : List Nat) : Nat → List Nat
  | 0 => H0
  | k + 1 => block b (blocks b k) (64 * k)
def bytes4 (x : Nat) : List Nat := [x / 16777216 % 256, x / 65536 % 256, x / 256 % 256, x % 256]
def sumL (l : List Nat) : List Nat := (blocks (padL l) ((padL l).length / 64)).flatMap bytes4
def digit (x : Nat) : Nat := if x < 10 then 48 + x else 87 + x
def hexL (l : List Nat) : List Nat := l.flatMap fun x => [digit (x / 16), digit (x % 16)]
def sealL (s p : List Nat) : List Nat := hexL (sumL (s ++ [0] ++ p))
theorem seal_none : sealL [] [] = [54, 101, 51, 52, 48, 98, 57, 99, 102, 102, 98, 51, 55, 97, 57, 56, 57, 99, 97, 53, 52, 52, 101, 54, 98, 98, 55, 56, 48, 97, 50, 99, 55, 56, 57, 48, 49, 100, 51, 102, 98, 51, 51, 55, 51, 56, 55, 54, 56, 53, 49, 49, 97, 51, 48, 54, 49, 55, 97, 102, 97, 48, 49, 100] := by decide +kernel
end Go.Proofs.YtffepndeegbdoaaGreatDoor.Slt
