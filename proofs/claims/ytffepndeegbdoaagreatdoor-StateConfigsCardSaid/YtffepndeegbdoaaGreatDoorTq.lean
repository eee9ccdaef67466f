/- Salt: sums and bits of 32-bit numbers. -/
import Derived.Test.YtffepndeegbdoaaGreatDoorSr
set_option linter.unusedVariables false
set_option linter.unusedSimpArgs false
namespace Go.Proofs.YtffepndeegbdoaaGreatDoor.Slt
open Go.RowKit Go.Lib Go.Proofs.YtffepndeegbdoaaGreatDoor.Bx

theorem wrap32 (n : Nat) : IntKind.u32.wrap ((n : Nat) : Int) = ((n % 4294967296 : Nat) : Int) := by
  show (n : Int) % 4294967296 = _
  rw [Int.natCast_emod]
  rfl
theorem wadd32 (a b : Nat) : IntKind.u32.wrap ((a : Int) + (b : Int)) = ((add32 a b : Nat) : Int) := by
  rw [← Int.natCast_add, wrap32]
  rfl
theorem madd32 (a b : Nat) : ((a : Int) + (b : Int)) % 4294967296 = ((add32 a b : Nat) : Int) := wadd32 a b
theorem div_cast (a : Nat) {i : Int} {m : Nat} (h : i = (m : Nat)) : (a : Int) / i = ((a / m : Nat) : Int) := by
  rw [h, Int.natCast_ediv]
theorem cell_put_ne {w : World} {b i j : Nat} {v : Value} (h : i ≠ j) : (w.setCell ⟨b, i, none⟩ v).cell? ⟨b, j, none⟩ = w.cell? ⟨b, j, none⟩ := World.cell?_setCell_other _ _ _ _ (fun e => h (by injection e))
theorem div_lt32 {x : Nat} (hx : x < 4294967296) (n : Nat) : x / n < 4294967296 := Nat.lt_of_le_of_lt (Nat.div_le_self _ _) hx
theorem small0_bits {x : Nat} (hx : x < 4294967296) : bits .xor .u32 (bits .xor .u32 ((turnN x 7 : Nat) : Int) ((turnN x 18 : Nat) : Int)) ((x : Int) / 8) = ((small0 x : Nat) : Int) := by
  rw [show (x : Int) / 8 = ((x / 8 : Nat) : Int) from div_cast x rfl, xor32 (turnN_lt hx) (turnN_lt hx), xor32 (lt_xor32 (turnN_lt hx) (turnN_lt hx)) (div_lt32 hx 8)]
  rfl
theorem small1_bits {x : Nat} (hx : x < 4294967296) : bits .xor .u32 (bits .xor .u32 ((turnN x 17 : Nat) : Int) ((turnN x 19 : Nat) : Int)) ((x : Int) / 1024) = ((small1 x : Nat) : Int) := by
  rw [show (x : Int) / 1024 = ((x / 1024 : Nat) : Int) from div_cast x rfl, xor32 (turnN_lt hx) (turnN_lt hx), xor32 (lt_xor32 (turnN_lt hx) (turnN_lt hx)) (div_lt32 hx 1024)]
  rfl
theorem next_bits {x y : Nat} (z u : Nat) (hx : x < 4294967296) (hy : y < 4294967296) : IntKind.u32.wrap (IntKind.u32.wrap (IntKind.u32.wrap ((z : Int) + bits .xor .u32 (bits .xor .u32 ((turnN x 7 : Nat) : Int) ((turnN x 18 : Nat) : Int)) ((x : Int) / 8)) + (u : Int)) + bits .xor .u32 (bits .xor .u32 ((turnN y 17 : Nat) : Int) ((turnN y 19 : Nat) : Int)) ((y : Int) / 1024)) = ((add32 (add32 (add32 z (small0 x)) u) (small1 y) : Nat) : Int) := by
  rw [small0_bits hx, small1_bits hy, wadd32, wadd32, wadd32]
theorem big1_bits {x : Nat} (hx : x < 4294967296) : bits .xor .u32 (bits .xor .u32 ((turnN x 6 : Nat) : Int) ((turnN x 11 : Nat) : Int)) ((turnN x 25 : Nat) : Int) = ((big1 x : Nat) : Int) := by
  rw [xor32 (turnN_lt hx) (turnN_lt hx), xor32 (lt_xor32 (turnN_lt hx) (turnN_lt hx)) (turnN_lt hx)]
  rfl
theorem big0_bits {x : Nat} (hx : x < 4294967296) : bits .xor .u32 (bits .xor .u32 ((turnN x 2 : Nat) : Int) ((turnN x 13 : Nat) : Int)) ((turnN x 22 : Nat) : Int) = ((big0 x : Nat) : Int) := by
  rw [xor32 (turnN_lt hx) (turnN_lt hx), xor32 (lt_xor32 (turnN_lt hx) (turnN_lt hx)) (turnN_lt hx)]
  rfl
theorem big0_lt {x : Nat} (hx : x < 4294967296) : big0 x < 4294967296 := lt_xor32 (lt_xor32 (turnN_lt hx) (turnN_lt hx)) (turnN_lt hx)
theorem maj_bits {a b c : Nat} (ha : a < 4294967296) (hb : b < 4294967296) (hc : c < 4294967296) : bits .or .u32 (bits .or .u32 (bits .and .u32 (a : Int) (b : Int)) (bits .and .u32 (a : Int) (c : Int))) (bits .and .u32 (b : Int) (c : Int)) = ((((a &&& b) ||| (a &&& c)) ||| (b &&& c) : Nat) : Int) := by
  rw [and32 ha hb, and32 ha hc, and32 hb hc, or32 (lt_and32 hb) (lt_and32 hc), or32 (lt_or32 (lt_and32 hb) (lt_and32 hc)) (lt_and32 hc)]
theorem not_lt32 {x : Nat} (hx : x < 4294967296) : not32 x < 4294967296 := lt_xor32 (by decide) hx
theorem not_bits {x : Nat} (hx : x < 4294967296) : bits .xor .u32 IntKind.u32.max (x : Int) = ((not32 x : Nat) : Int) := xor32 (a := 4294967295) (by decide) hx
theorem cho_bits {e f g : Nat} (he : e < 4294967296) (hf : f < 4294967296) (hg : g < 4294967296) : bits .or .u32 (bits .and .u32 (e : Int) (f : Int)) (bits .and .u32 ((not32 e : Nat) : Int) (g : Int)) = (((e &&& f) ||| (not32 e &&& g) : Nat) : Int) := by
  rw [and32 he hf, and32 (not_lt32 he) hg, or32 (lt_and32 hf) (lt_and32 hg)]
theorem one_bits {v4 v5 v6 v7 : Nat} (k w : Nat) (h4 : v4 < 4294967296) (h5 : v5 < 4294967296) (h6 : v6 < 4294967296) :
    IntKind.u32.wrap (IntKind.u32.wrap (IntKind.u32.wrap (IntKind.u32.wrap ((v7 : Int) + bits .xor .u32 (bits .xor .u32 ((turnN v4 6 : Nat) : Int) ((turnN v4 11 : Nat) : Int)) ((turnN v4 25 : Nat) : Int)) + bits .or .u32 (bits .and .u32 (v4 : Int) (v5 : Int)) (bits .and .u32 (bits .xor .u32 IntKind.u32.max (v4 : Int)) (v6 : Int))) + (k : Int)) + (w : Int)) = ((add32 (add32 (add32 (add32 v7 (big1 v4)) ((v4 &&& v5) ||| (not32 v4 &&& v6))) k) w : Nat) : Int) := by
  rw [not_bits h4, big1_bits h4, cho_bits h4 h5 h6, wadd32, wadd32, wadd32, wadd32]
theorem two_bits {v0 v1 v2 : Nat} (h0 : v0 < 4294967296) (h1 : v1 < 4294967296) (h2 : v2 < 4294967296) :
    IntKind.u32.wrap (bits .xor .u32 (bits .xor .u32 ((turnN v0 2 : Nat) : Int) ((turnN v0 13 : Nat) : Int)) ((turnN v0 22 : Nat) : Int) + bits .or .u32 (bits .or .u32 (bits .and .u32 (v0 : Int) (v1 : Int)) (bits .and .u32 (v0 : Int) (v2 : Int))) (bits .and .u32 (v1 : Int) (v2 : Int))) = ((add32 (big0 v0) (((v0 &&& v1) ||| (v0 &&& v2)) ||| (v1 &&& v2)) : Nat) : Int) := by
  rw [big0_bits h0, maj_bits h0 h1 h2, wadd32]
theorem Row8.new (w : World) (e : TypeId) (a0 a1 a2 a3 a4 a5 a6 a7 : Nat) : Row8 w.heap.size (w.alloc (.cells #[.int .u32 (a0 : Nat), .int .u32 (a1 : Nat), .int .u32 (a2 : Nat), .int .u32 (a3 : Nat), .int .u32 (a4 : Nat), .int .u32 (a5 : Nat), .int .u32 (a6 : Nat), .int .u32 (a7 : Nat)] e)) [a0, a1, a2, a3, a4, a5, a6, a7] := by
  refine ⟨rfl, _, e, heap_alloc_new _ _, fun i hi => ?_⟩
  match i, hi with
  | 0, _ => rfl
  | 1, _ => rfl
  | 2, _ => rfl
  | 3, _ => rfl
  | 4, _ => rfl
  | 5, _ => rfl
  | 6, _ => rfl
  | 7, _ => rfl
theorem Row8.drew {hb : Nat} {w : World} {H : List Nat} (h : Row8 hb w H) : Row8 hb w.drew H := h
end Go.Proofs.YtffepndeegbdoaaGreatDoor.Slt
