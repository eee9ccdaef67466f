/- Appends of ints onto a row of the call's own, as steps of a walk. -/
import Derived.Test.YtccaiippoephbaaGreatDoorWh
import Derived.WalkKit
import Derived.Laws.AppendOwnNone
import Derived.Test.YtccaiippoephbaaGreatDoorWi
import Derived.Test.YtccaiippoephbaaGreatDoorShelf
import Derived.Deep.LoopGhost
import Derived.Test.YtccaiippoephbaaGreatDoorZq
import Derived.Test.YtccaiippoephbaaGreatDoorWe
set_option linter.unusedVariables false
namespace Go.Proofs.YtccaiippoephbaaGreatDoor.Rig
open Go.RowKit Go.Lib Go.Proofs.YtccaiippoephbaaGreatDoor.Rt

theorem infoI : (Tryz.prog.info? 3).map (fun i => (i.zero, i.size, i.bytes)) = some (some (.int .i64 0), 1, 8) := by kernel_rfl

/-- Nothing is appended of a nil slice, whatever its capacity reads as. -/
theorem run_append_nil {P : Program} (w : World) (base : Nat) (t ty e : TypeId) (i : TypeInfo) (size : Nat) (ht : P.underlying t = some (.slice e)) (hi : P.info? e = some i)
    (v : Value) (n : Nat) (xs : List Value) (hown : w.ownsRow base e size v n xs) (c : Nat) : (Builtin.append_ #[t, t] ty #[v, .slice none 0 c]).run P w = .ok v w := by
  rcases hown.2 with ⟨rfl, rfl⟩ | ⟨g, cap, cur, rfl, _, _, hnc, _⟩
  · simp [Builtin.append_, run_underlying ht, sizeOf, typeInfo, hi, Builtin.lenOf, Builtin.firstCells]
  · simp [Builtin.append_, run_underlying ht, sizeOf, typeInfo, hi, Builtin.lenOf, Builtin.firstCells, hnc, storeCells]

end Go.Proofs.YtccaiippoephbaaGreatDoor.Rig
/- Contracts: with, Copy and Grant of the plain text. -/
set_option linter.unusedVariables false
namespace Go.Proofs.YtccaiippoephbaaGreatDoor.Rig
open Go.RowKit Go.Lib Go.Proofs.YtccaiippoephbaaGreatDoor.Rt

end Go.Proofs.YtccaiippoephbaaGreatDoor.Rig
/- Contracts: slices.Insert of one int, slices.Delete of one, set. -/
set_option linter.unusedVariables false
namespace Go.Proofs.YtccaiippoephbaaGreatDoor.Rig
open Go.RowKit Go.Lib Go.Proofs.YtccaiippoephbaaGreatDoor.Rt

theorem block_frozen {w : World} {g j : Nat} {cur : Array Value} {t : TypeId} (h : w.heap[g]? = some (.cells cur t (0, 0))) : w.frozen? ⟨g, j, none⟩ = false := frozen_of_row w g j cur t h

end Go.Proofs.YtccaiippoephbaaGreatDoor.Rig
/- Contracts: slices.BinarySearch of users, set. -/
set_option linter.unusedVariables false
namespace Go.Proofs.YtccaiippoephbaaGreatDoor.Rig
open Go.RowKit Go.Lib Go.Proofs.YtccaiippoephbaaGreatDoor.Rt

end Go.Proofs.YtccaiippoephbaaGreatDoor.Rig
/- Labels in memory that a call owns; contracts: slices.Clone of both, clone. -/
set_option linter.unusedVariables false
namespace Go.Proofs.YtccaiippoephbaaGreatDoor.Rig
open Go.RowKit Go.Lib Go.Proofs.YtccaiippoephbaaGreatDoor.Rt

/-- The labels' numbers are ints. -/
def GoodL (L : List Lb) : Prop := ∀ j, j < L.length → i64 (lb L j).p ∧ i64 (lb L j).o
theorem Labs.good {w : World} {v : Value} {L : List Lb} (h : Labs w v L) : GoodL L := by
  obtain ⟨a, cap, rfl, h1, h2, h3⟩ := h
  intro j hj
  rcases h3 with rfl | ⟨b, off, rfl, hlt, hc⟩
  · exact absurd hj (by simp)
  · obtain ⟨rv, sv, p, o, _⟩ := hc j hj
    exact ⟨p, o⟩
end Go.Proofs.YtccaiippoephbaaGreatDoor.Rig
/- Contracts: Copy and Grant of the plain text. -/
set_option linter.unusedVariables false
namespace Go.Proofs.YtccaiippoephbaaGreatDoor.Rig
open Go.RowKit Go.Lib Go.Proofs.YtccaiippoephbaaGreatDoor.Rt

theorem own_form {base : Nat} {w : World} {e : TypeId} {size n : Nat} {v : Value} {xs : List Value} (h : w.ownsRow base e size v n xs) : ∃ a c, v = .slice a n c := by
  rcases h.2 with ⟨rfl, rfl⟩ | ⟨g, cap, cur, rfl, _⟩
  · exact ⟨_, _, rfl⟩
  · exact ⟨_, _, rfl⟩

theorem ints_own {base : Nat} {w : World} {v : Value} {xs : List Int} (h : w.ownsRow base 3 1 v (0 + xs.length) ([] ++ ints xs)) (hx : ∀ x ∈ xs, i64 x) : OwnI base w v xs := by
  rw [Nat.zero_add, List.nil_append] at h
  exact ⟨h, hx⟩
end Go.Proofs.YtccaiippoephbaaGreatDoor.Rig
/- State: the law's own config. -/
set_option linter.unusedVariables false
set_option linter.unusedSimpArgs false
set_option maxRecDepth 100000
namespace Go.Proofs.YtccaiippoephbaaGreatDoor.Sta
open Go.RowKit Go.Lib Go.Proofs.YtccaiippoephbaaGreatDoor.Bx Go.Proofs.YtccaiippoephbaaGreatDoor.Frm Go.Proofs.YtccaiippoephbaaGreatDoor.Wds

theorem nine_cells {w : World} {B : Nat} {x0 x1 x2 x3 x4 x5 x6 x7 x8 : Value} {ty : TypeId} (z : w.heap[B]? = some (.cells #[x0, x1, x2, x3, x4, x5, x6, x7, x8] ty (0, 0))) : w.cell? ⟨B, 0, none⟩ = some x0 ∧ w.cell? ⟨B, 1, none⟩ = some x1 ∧ w.cell? ⟨B, 2, none⟩ = some x2 ∧ w.cell? ⟨B, 3, none⟩ = some x3 ∧ w.cell? ⟨B, 4, none⟩ = some x4 ∧ w.cell? ⟨B, 5, none⟩ = some x5 ∧ w.cell? ⟨B, 6, none⟩ = some x6 ∧ w.cell? ⟨B, 7, none⟩ = some x7 ∧ w.cell? ⟨B, 8, none⟩ = some x8 := by
  refine ⟨?_, ?_, ?_, ?_, ?_, ?_, ?_, ?_, ?_⟩ <;> (rw [cell_of_row _ _ _ _ _ _ z]; rfl)
/-- A row of one element, in a block of its own. -/
theorem row_one_p {α : Type} {a : Rep α} (ha : a.Ok) {e : TypeId} {b : Nat} {w : World} {y : List Value} {x : α} (hb : w.heap[b]? = some (.cells y.toArray e (0, 0))) (h : a.R (fun _ => True) w y x) : RowP a (fun _ => True) w (.slice (some ⟨b, 0, none⟩) 1 1) [x] :=
  ⟨[(y, x)], rfl, Rk.row_one hb (ha.len h), .inr ⟨b, 0, 1, 1, rfl, (Array.getElem?_eq_some_iff.1 hb).1, trivial⟩, fun z hz => by simp only [List.mem_singleton] at hz; subst hz; exact h⟩
set_option maxHeartbeats 8000000 in
theorem one_ok (w : World) (hR : Slt.Roots w) : Calls Tryz.prog 5 #[] w fun e w' => ∃ U t v1, e = .returned (.agg #[.slice (some ⟨U, 0, none⟩) 1 1, v1, .int .i64 9, .int .i64 2, .int .i64 2, .int .i64 1, .int .i64 1, .int .i64 5, .int .i64 0]) ∧ Below w.heap.size w w' ∧ w'.heap[U]? = some (.cells #[.string ⟨#[97]⟩, .string ⟨#[]⟩, .string t] 42 (0, 0)) ∧ Slt.bytesN t = Slt.sealL (Slt.bytesN ⟨#[]⟩) (Slt.bytesN ⟨#[]⟩) ∧ RowP labM (fun _ => True) w' v1 [(-1, 0, [0], [0])] := by
  obtain ⟨B0, P0, L0⟩ := box1 w #[.slice none 0 0, .slice none 0 0, .int .i64 0, .int .i64 0, .int .i64 0, .int .i64 0, .int .i64 0, .int .i64 0, .int .i64 0] 25
  obtain ⟨W0, hW0⟩ : ∃ W0, W0 = w.alloc (.cells #[.slice none 0 0, .slice none 0 0, .int .i64 0, .int .i64 0, .int .i64 0, .int .i64 0, .int .i64 0, .int .i64 0, .int .i64 0] 25) := ⟨_, rfl⟩
  rw [← hW0] at B0 P0 L0
  obtain ⟨R, hRR⟩ : ∃ R, R = w.heap.size := ⟨_, rfl⟩
  rw [← hRR] at L0 P0
  have hpos : 0 < w.heap.size := block_lt_of_cell (hR 0 (by decide))
  have C := Lib.hid (Slt.pseal_any ⟨#[]⟩ ⟨#[]⟩ W0 (by decide) (hR.below B0 hpos))
  have HW0 := Lib.hid hW0
  have HR := Lib.hid hRR
  have HB0 : Hid (Below R w W0) := by rw [hRR]; exact B0
  have HP0 := Lib.hid P0
  have HL0 : Hid (W0.heap.size = R + 1) := L0
  clear B0 P0 L0 hW0 hRR hpos hR
  go_enter Tryz.func5, Tryz.ntmps5
  go_wp2_with fail
  rw [← HW0.out, ← HR.out]
  refine C.out.mono ?_
  rintro e w1 ⟨t, rfl, ht, b1⟩
  obtain ⟨U, hU⟩ : ∃ U, U = w1.heap.size := ⟨_, rfl⟩
  have hUR : R + 1 ≤ U := by have := b1.size; have := HL0.out; omega
  obtain ⟨B1, P1, L1⟩ := box1 w1 #[.string ⟨#[97]⟩, .string ⟨#[]⟩, .string t] 42
  obtain ⟨W1, hW1⟩ : ∃ W1, W1 = w1.alloc (.cells #[.string ⟨#[97]⟩, .string ⟨#[]⟩, .string t] 42) := ⟨_, rfl⟩
  rw [← hW1] at B1 P1 L1
  obtain ⟨B2, P2, L2⟩ := box1 W1 #[.int .i64 0] 3
  obtain ⟨W2, hW2⟩ : ∃ W2, W2 = W1.alloc (.cells #[.int .i64 0] 3) := ⟨_, rfl⟩
  rw [← hW2] at B2 P2 L2
  obtain ⟨B3, P3, L3⟩ := box1 W2 #[.int .i64 0] 3
  obtain ⟨W3, hW3⟩ : ∃ W3, W3 = W2.alloc (.cells #[.int .i64 0] 3) := ⟨_, rfl⟩
  rw [← hW3] at B3 P3 L3
  obtain ⟨B4, P4, L4⟩ := box1 W3 #[.int .i64 (-1), .int .i64 0, .slice (some ⟨U + 1, 0, none⟩) 1 1, .slice (some ⟨U + 1 + 1, 0, none⟩) 1 1] 45
  obtain ⟨W4, hW4⟩ : ∃ W4, W4 = W3.alloc (.cells #[.int .i64 (-1), .int .i64 0, .slice (some ⟨U + 1, 0, none⟩) 1 1, .slice (some ⟨U + 1 + 1, 0, none⟩) 1 1] 45) := ⟨_, rfl⟩
  rw [← hW4] at B4 P4 L4
  rw [← hU] at L1 P1
  rw [L1] at L2 P2
  rw [L2] at L3 P3
  rw [L3] at L4 P4
  have k1 : W4.heap[U]? = some (.cells #[.string ⟨#[97]⟩, .string ⟨#[]⟩, .string t] 42 (0, 0)) := (B4.block _ (by omega)).trans ((B3.block _ (by omega)).trans ((B2.block _ (by omega)).trans P1))
  have k2 : W4.heap[U + 1]? = some (.cells #[.int .i64 0] 3 (0, 0)) := (B4.block _ (by omega)).trans ((B3.block _ (by omega)).trans P2)
  have k3 : W4.heap[U + 1 + 1]? = some (.cells #[.int .i64 0] 3 (0, 0)) := (B4.block _ (by omega)).trans P3
  have k0 : W4.heap[R]? = some (.cells #[.slice none 0 0, .slice none 0 0, .int .i64 0, .int .i64 0, .int .i64 0, .int .i64 0, .int .i64 0, .int .i64 0, .int .i64 0] 25 (0, 0)) := (B4.block _ (by omega)).trans ((B3.block _ (by omega)).trans ((B2.block _ (by omega)).trans ((B1.block _ (by omega)).trans ((b1.block _ (by have := HL0.out; omega)).trans HP0.out))))
  obtain ⟨WN, hWN⟩ : ∃ WN, WN = ((((((((W4.setCell ⟨R, 0, none⟩ (.slice (some ⟨U, 0, none⟩) 1 1)).setCell ⟨R, 1, none⟩ (.slice (some ⟨U + 1 + 1 + 1, 0, none⟩) 1 1)).setCell ⟨R, 2, none⟩ (.int .i64 9)).setCell ⟨R, 3, none⟩ (.int .i64 2)).setCell ⟨R, 4, none⟩ (.int .i64 2)).setCell ⟨R, 5, none⟩ (.int .i64 1)).setCell ⟨R, 6, none⟩ (.int .i64 1)).setCell ⟨R, 7, none⟩ (.int .i64 5)).setCell ⟨R, 8, none⟩ (.int .i64 0) := ⟨_, rfl⟩
  have gN : W4.grownBy WN (some R) := by
    rw [hWN]
    exact grown_put (grown_put (grown_put (grown_put (grown_put (grown_put (grown_put (grown_put (grown_put (grown_refl _ _)))))))))
  have zz : WN.heap[R]? = some (.cells #[.slice (some ⟨U, 0, none⟩) 1 1, .slice (some ⟨U + 1 + 1 + 1, 0, none⟩) 1 1, .int .i64 9, .int .i64 2, .int .i64 2, .int .i64 1, .int .i64 1, .int .i64 5, .int .i64 0] 25 (0, 0)) := by
    rw [hWN]
    exact set_block (set_block (set_block (set_block (set_block (set_block (set_block (set_block (set_block k0))))))))
  have j1 : WN.heap[U]? = some (.cells #[.string ⟨#[97]⟩, .string ⟨#[]⟩, .string t] 42 (0, 0)) := (gN.block U (by omega) (fun e => by injection e with e; omega)).trans k1
  have j2 : WN.heap[U + 1]? = some (.cells #[.int .i64 0] 3 (0, 0)) := (gN.block _ (by omega) (fun e => by injection e with e; omega)).trans k2
  have j3 : WN.heap[U + 1 + 1]? = some (.cells #[.int .i64 0] 3 (0, 0)) := (gN.block _ (by omega) (fun e => by injection e with e; omega)).trans k3
  have j4 : WN.heap[U + 1 + 1 + 1]? = some (.cells #[.int .i64 (-1), .int .i64 0, .slice (some ⟨U + 1, 0, none⟩) 1 1, .slice (some ⟨U + 1 + 1, 0, none⟩) 1 1] 45 (0, 0)) := (gN.block _ (by omega) (fun e => by injection e with e; omega)).trans P4
  have HL : Hid (RowP labM (fun _ => True) WN (.slice (some ⟨U + 1 + 1 + 1, 0, none⟩) 1 1) [(-1, 0, [0], [0])]) :=
    row_one_p labM_ok (y := [.int .i64 (-1), .int .i64 0, .slice (some ⟨U + 1, 0, none⟩) 1 1, .slice (some ⟨U + 1 + 1, 0, none⟩) 1 1]) j4 (labM_mk (-1) 0 (row_one_p numM_ok (y := [.int .i64 0]) j2 rfl) (row_one_p numM_ok (y := [.int .i64 0]) j3 rfl))
  have HBN : Hid (Below w.heap.size w WN) := by
    show Below _ _ _
    have b : Below R w W4 := ((((HB0.out.trans (b1.mono (by have := HL0.out; omega))).trans (B1.mono (by omega))).trans (B2.mono (by omega))).trans (B3.mono (by omega))).trans (B4.mono (by omega))
    rw [hWN, ← HR.out]
    exact below_put (below_put (below_put (below_put (below_put (below_put (below_put (below_put (below_put b (Nat.le_refl R) _) (Nat.le_refl R) _) (Nat.le_refl R) _) (Nat.le_refl R) _) (Nat.le_refl R) _) (Nat.le_refl R) _) (Nat.le_refl R) _) (Nat.le_refl R) _) (Nat.le_refl R) _
  obtain ⟨d0, d1, d2, d3, d4, d5, d6, d7, d8⟩ := nine_cells k0
  have fr0 := free_at (i := 0) k0
  have fr1 := free_at (i := 1) k0
  have fr2 := free_at (i := 2) k0
  have fr3 := free_at (i := 3) k0
  have fr4 := free_at (i := 4) k0
  have fr5 := free_at (i := 5) k0
  have fr6 := free_at (i := 6) k0
  have fr7 := free_at (i := 7) k0
  have fr8 := free_at (i := 8) k0
  obtain ⟨y0, y1, y2, y3, y4, y5, y6, y7, y8⟩ := nine_cells zz
  rw [hW4, hW3, hW2, hW1, hU] at d0 d1 d2 d3 d4 d5 d6 d7 d8 fr0 fr1 fr2 fr3 fr4 fr5 fr6 fr7 fr8
  have HWN := Lib.hid hWN
  have HJ := Lib.hid (And.intro j1 ht)
  have HU := Lib.hid hU
  have HWW : Hid (W4 = (((w1.alloc (.cells #[.string ⟨#[97]⟩, .string ⟨#[]⟩, .string t] 42)).alloc (.cells #[.int .i64 0] 3)).alloc (.cells #[.int .i64 0] 3)).alloc (.cells #[.int .i64 (-1), .int .i64 0, .slice (some ⟨U + 1, 0, none⟩) 1 1, .slice (some ⟨U + 1 + 1, 0, none⟩) 1 1] 45)) := by show _ = _; rw [hW4, hW3, hW2, hW1]
  have HRU : Hid (R ≠ U ∧ R ≠ U + 1 ∧ R ≠ U + 1 + 1 ∧ R ≠ U + 1 + 1 + 1) := ⟨by omega, by omega, by omega, by omega⟩
  clear b1 B1 P1 L1 B2 P2 L2 B3 P3 L3 B4 P4 L4 k1 k2 k3 k0 gN zz j1 j2 j3 j4 hWN hW1 hW2 hW3 hW4 hU C ht hUR
  go_wp2_with fail
  first
    | (rw [← HU.out, ← HWW.out, ← HWN.out]
       exact bodyPost_ret (v := .agg #[.slice (some ⟨U, 0, none⟩) 1 1, .slice (some ⟨U + 1 + 1 + 1, 0, none⟩) 1 1, .int .i64 9, .int .i64 2, .int .i64 2, .int .i64 1, .int .i64 1, .int .i64 5, .int .i64 0]) (by simp [results, Tryz.results5, go_sem, y0, y1, y2, y3, y4, y5, y6, y7, y8, Tryz.isAgg25, Tryz.sizeOf25]) rfl ⟨U, t, _, rfl, HBN.out, HJ.out.1, HJ.out.2, HL.out⟩)
    | trace_state
end Go.Proofs.YtccaiippoephbaaGreatDoor.Sta
