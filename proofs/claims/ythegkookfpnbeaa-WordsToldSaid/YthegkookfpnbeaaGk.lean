/- Words: a call as plain values: Op of the plain text. -/
import Derived.Test.YthegkookfpnbeaaGh
import Derived.Test.YthegkookfpnbeaaGj
set_option linter.unusedVariables false
set_option linter.unusedSimpArgs false
set_option maxRecDepth 100000
namespace Go.Proofs.Ythegkookfpnbeaa.Wds
open Go.RowKit Go.Lib Go.Proofs.Ythegkookfpnbeaa.Bx Go.Proofs.Ythegkookfpnbeaa.Frm

def nn (p : Pl) (i : Nat) : Int := p.n.getD i 0
def cellsP (p : Pl) : List Value := [.int .i64 p.op, .string (mkB p.tok), .int .i64 p.seq, .int .i64 (nn p 0), .int .i64 (nn p 1), .int .i64 (nn p 2), .int .i64 (nn p 3), .int .i64 (nn p 4), .int .i64 (nn p 5), .string (mkB p.text), .string (mkB p.more), .bool p.a, .bool p.b]
def plV (p : Pl) : Value := .agg #[.int .i64 p.op, .string (mkB p.tok), .int .i64 p.seq, .int .i64 (nn p 0), .int .i64 (nn p 1), .int .i64 (nn p 2), .int .i64 (nn p 3), .int .i64 (nn p 4), .int .i64 (nn p 5), .string (mkB p.text), .string (mkB p.more), .bool p.a, .bool p.b]
def goodP (p : Pl) : Prop := p.n.length = 6
def opE (p : Pl) : Int := if p.op < 1 ∨ 15 < p.op then 0 else p.op
/-- The block of a call's plain values. -/
def BlkP (w : World) (B : Nat) (p : Pl) : Prop := w.heap[B]? = some (.cells (cellsP p).toArray 24 (0, 0))
theorem BlkP.lt {w : World} {B : Nat} {p : Pl} (h : BlkP w B p) : B < w.heap.size := (Array.getElem?_eq_some_iff.1 h).1
theorem BlkP.cell {w : World} {B : Nat} {p : Pl} (h : BlkP w B p) (i : Nat) : w.cell? ⟨B, i, none⟩ = (cellsP p)[i]? := by
  rw [cell_of_row _ _ _ _ _ _ h]
  simp
theorem BlkP.below {w w' : World} {B : Nat} {p : Pl} (h : BlkP w B p) (hb : Below w.heap.size w w') : BlkP w' B p := (hb.block B h.lt).trans h
theorem BlkP.all {w : World} {B : Nat} {p : Pl} (h : BlkP w B p) : w.cell? ⟨B, 0, none⟩ = some (.int .i64 p.op) ∧ w.cell? ⟨B, 1, none⟩ = some (.string (mkB p.tok)) ∧ w.cell? ⟨B, 2, none⟩ = some (.int .i64 p.seq) ∧ w.cell? ⟨B, 3, none⟩ = some (.int .i64 (nn p 0)) ∧ w.cell? ⟨B, 4, none⟩ = some (.int .i64 (nn p 1)) ∧ w.cell? ⟨B, 5, none⟩ = some (.int .i64 (nn p 2)) ∧ w.cell? ⟨B, 6, none⟩ = some (.int .i64 (nn p 3)) ∧ w.cell? ⟨B, 7, none⟩ = some (.int .i64 (nn p 4)) ∧ w.cell? ⟨B, 8, none⟩ = some (.int .i64 (nn p 5)) ∧ w.cell? ⟨B, 9, none⟩ = some (.string (mkB p.text)) ∧ w.cell? ⟨B, 10, none⟩ = some (.string (mkB p.more)) ∧ w.cell? ⟨B, 11, none⟩ = some (.bool p.a) ∧ w.cell? ⟨B, 12, none⟩ = some (.bool p.b) :=
  ⟨h.cell 0, h.cell 1, h.cell 2, h.cell 3, h.cell 4, h.cell 5, h.cell 6, h.cell 7, h.cell 8, h.cell 9, h.cell 10, h.cell 11, h.cell 12⟩
theorem boxP (w : World) (p : Pl) : Below w.heap.size w (w.alloc (.cells (cellsP p).toArray 24)) ∧ BlkP (w.alloc (.cells (cellsP p).toArray 24)) w.heap.size p := ⟨(box1 w _ _).1, (box1 w _ _).2.1⟩
set_option maxHeartbeats 4000000 in
theorem op_any (p : Pl) (w : World) : Calls Try.prog 12 #[plV p] w fun e w' => e = .returned (.int .i64 (opE p)) ∧ Below w.heap.size w w' := by
  obtain ⟨b0, z0⟩ := boxP w p
  obtain ⟨W0, hW0⟩ : ∃ W0, W0 = w.alloc (.cells (cellsP p).toArray 24) := ⟨_, rfl⟩
  rw [← hW0] at b0 z0
  have HW0 : Hid (W0 = w.alloc (.cells #[.int .i64 p.op, .string (mkB p.tok), .int .i64 p.seq, .int .i64 (nn p 0), .int .i64 (nn p 1), .int .i64 (nn p 2), .int .i64 (nn p 3), .int .i64 (nn p 4), .int .i64 (nn p 5), .string (mkB p.text), .string (mkB p.more), .bool p.a, .bool p.b] 24)) := hW0
  have HB0 := Lib.hid b0
  have c0 := z0.all.1
  have HE : Hid (opE p = if p.op < 1 ∨ 15 < p.op then 0 else p.op) := rfl
  unfold plV
  generalize opE p = r at *
  generalize p.op = o at *
  clear hW0 b0 z0
  by_cases h1 : o < 1
  · have hr : r = 0 := by rw [HE.out, if_pos (.inl h1)]
    clear HE
    go_enter Try.func12, Try.ntmps12
    go_upto_region 1 with fail
    rw [← HW0.out]
    go_wp2_with fail
    go_ret
    exact ⟨by first | rfl | (rw [hr]; rfl) | (rw [hr]; done), HB0.out⟩
  · by_cases h2 : 15 < o
    · have hr : r = 0 := by rw [HE.out, if_pos (.inr h2)]
      clear HE
      go_enter Try.func12, Try.ntmps12
      go_upto_region 1 with fail
      rw [← HW0.out]
      go_wp2_with fail
      go_ret
      exact ⟨by first | rfl | (rw [hr]; rfl) | (rw [hr]; done), HB0.out⟩
    · have hr : Hid (r = o) := by show _ = _; rw [HE.out, if_neg (by omega)]
      clear HE
      go_enter Try.func12, Try.ntmps12
      go_upto_region 1 with fail
      rw [← HW0.out]
      go_wp2_with fail
      go_ret
      exact ⟨by rw [hr.out]; rfl, HB0.out⟩
end Go.Proofs.Ythegkookfpnbeaa.Wds
