/- Salt: turn of the plain text only reads. -/
import Derived.Test.YtffepndeegbdoaaGreatDoorSx
import Derived.BigQuiet
set_option linter.unusedVariables false
set_option linter.unusedSimpArgs false
set_option maxRecDepth 100000
namespace Go.Proofs.YtffepndeegbdoaaGreatDoor.Slt
open Go.RowKit Go.Lib Go.Proofs.YtffepndeegbdoaaGreatDoor.Bx

theorem one_bitsq {v4 v5 v6 v7 : Nat} (k w : Nat) (h4 : v4 < 4294967296) (h5 : v5 < 4294967296) (h6 : v6 < 4294967296) :
    ((v7 : Int) + bits .xor .u32 (bits .xor .u32 ((turnN v4 6 : Nat) : Int) ((turnN v4 11 : Nat) : Int)) ((turnN v4 25 : Nat) : Int) + bits .or .u32 (bits .and .u32 (v4 : Int) (v5 : Int)) (bits .and .u32 (bits .xor .u32 IntKind.u32.max (v4 : Int)) (v6 : Int)) + (k : Int) + (w : Int)) % 4294967296 = ((add32 (add32 (add32 (add32 v7 (big1 v4)) ((v4 &&& v5) ||| (not32 v4 &&& v6))) k) w : Nat) : Int) := by
  rw [not_bits h4, big1_bits h4, cho_bits h4 h5 h6]
  unfold add32
  omega
theorem two_bitsq {v0 v1 v2 : Nat} (h0 : v0 < 4294967296) (h1 : v1 < 4294967296) (h2 : v2 < 4294967296) :
    (bits .xor .u32 (bits .xor .u32 ((turnN v0 2 : Nat) : Int) ((turnN v0 13 : Nat) : Int)) ((turnN v0 22 : Nat) : Int) + bits .or .u32 (bits .or .u32 (bits .and .u32 (v0 : Int) (v1 : Int)) (bits .and .u32 (v0 : Int) (v2 : Int))) (bits .and .u32 (v1 : Int) (v2 : Int))) % 4294967296 = ((add32 (big0 v0) (((v0 &&& v1) ||| (v0 &&& v2)) ||| (v1 &&& v2)) : Nat) : Int) := two_bits h0 h1 h2
theorem next_bitsq {x y : Nat} (z u : Nat) (hx : x < 4294967296) (hy : y < 4294967296) : ((z : Int) + bits .xor .u32 (bits .xor .u32 ((turnN x 7 : Nat) : Int) ((turnN x 18 : Nat) : Int)) ((x : Int) / 8) + (u : Int) + bits .xor .u32 (bits .xor .u32 ((turnN y 17 : Nat) : Int) ((turnN y 19 : Nat) : Int)) ((y : Int) / 1024)) % 4294967296 = ((add32 (add32 (add32 z (small0 x)) u) (small1 y) : Nat) : Int) := by
  rw [small0_bits hx, small1_bits hy]
  unfold add32
  omega
theorem q_drews {B : Nat} {a w : World} (h : Below B a w) (n : Nat) : Below B a (w.drewN n) := ⟨h.os, h.tape, h.output, h.size, h.block⟩
end Go.Proofs.YtffepndeegbdoaaGreatDoor.Slt
