/- Words: the reader of the plain text. -/
import Derived.Test.YtffejfpbeimngaaDoorGb
import Derived.OwnWalk
import Derived.Laws.OwnMore
set_option linter.unusedVariables false
set_option linter.unusedSimpArgs false
set_option maxRecDepth 100000
namespace Go.Proofs.YtffejfpbeimngaaDoor.Wds
open Go.RowKit Go.Lib Go.Proofs.YtffejfpbeimngaaDoor.Bx Go.Proofs.YtffejfpbeimngaaDoor.Frm

theorem grown_refl (w : World) (row : Option Nat) : w.grownBy w row := ⟨rfl, rfl, rfl, Nat.le_refl _, fun _ _ _ => rfl⟩
theorem grown_below {W w1 w2 : World} {row : Option Nat} (h : W.grownBy w1 row) (b : Below w1.heap.size w1 w2) : W.grownBy w2 row :=
  ⟨b.os.trans h.os, b.tape.trans h.tape, b.output.trans h.output, Nat.le_trans h.size b.size, fun k hk hn => (b.block k (Nat.lt_of_lt_of_le hk h.size)).trans (h.block k hk hn)⟩
theorem grown_put {W w1 : World} {hb j : Nat} {u : Value} (h : W.grownBy w1 (some hb)) : W.grownBy (w1.setCell ⟨hb, j, none⟩ u) (some hb) := by
  have b0 : Below 0 w1 (w1.setCell ⟨hb, j, none⟩ u) := (Below.refl 0 w1).setCell (p := ⟨hb, j, none⟩) (Nat.zero_le _) u
  exact ⟨b0.os.trans h.os, b0.tape.trans h.tape, b0.output.trans h.output, Nat.le_trans h.size b0.size, fun k hk hn => (Below.heap_setCell _ _ _ _ (fun e => hn (by rw [e]))).trans (h.block k hk hn)⟩
theorem grown_cell {W w1 : World} {hb q o : Nat} {x : Value} (h : W.grownBy w1 (some hb)) (hq : q < W.heap.size) (hne : q ≠ hb) (hc : W.cell? ⟨q, o, none⟩ = some x) : w1.cell? ⟨q, o, none⟩ = some x := by
  unfold World.cell? at hc ⊢
  simp only at hc ⊢
  rw [h.block q hq (by simpa using hne)]
  exact hc
theorem grown_to {base : Nat} {w0 W w1 : World} {hb : Nat} (hw : Below base w0 W) (h : W.grownBy w1 (some hb)) (hb0 : base ≤ hb) (hs : base ≤ W.heap.size) : Below base w0 w1 :=
  ⟨h.os.trans hw.os, h.tape.trans hw.tape, h.output.trans hw.output, Nat.le_trans hw.size h.size, fun k hk => (h.block k (by omega) (by simp; omega)).trans (hw.block k hk)⟩
theorem grown_trans {a b c : World} {row : Option Nat} (h1 : a.grownBy b row) (h2 : b.grownBy c row) : a.grownBy c row :=
  ⟨h2.os.trans h1.os, h2.tape.trans h1.tape, h2.output.trans h1.output, Nat.le_trans h1.size h2.size, fun k hk hne => (h2.block k (Nat.lt_of_lt_of_le hk h1.size) hne).trans (h1.block k hk hne)⟩
theorem grown_of (w w' : World) (hb : Below w.heap.size w w') (row : Option Nat) : w.grownBy w' row := ⟨hb.os, hb.tape, hb.output, hb.size, fun k hk _ => hb.block k hk⟩
/-- A row of n zero bytes as a text. -/
theorem zeros_text {w : World} {base B n : Nat} (h0 : 1 ≤ n) (h : w.ownsRow base 5 1 (.slice (some ⟨B, 0, none⟩) n n) n (madeCells #[Value.int .u8 0] n).toList) : (convert 59 9 (.slice (some ⟨B, 0, none⟩) n n)).run Tryd.prog w = .ok (.string (mkB (List.replicate n 0))) w := by
  have e : (madeCells #[Value.int .u8 0] n).toList = List.replicate n (Value.int .u8 0) := toList_madeCells_one _ _
  rw [e] at h
  obtain ⟨hl, h⟩ := h
  rcases h with ⟨h, _⟩ | ⟨g, cap, cur, h1, _, hc, _, _, hs, ht⟩
  · cases h
  · injection h1 with h1 h2 h3
    injection h1 with h1
    injection h1 with h1
    subst h1
    have hq := run_convert_bytes_back (P := Tryd.prog) w 59 9 5 ⟨B, 0, none⟩ n (List.replicate n (0 : UInt8)) Tryd.underlying59 Tryd.underlying5 Tryd.underlying9 (fun j hj => by
      have hj' : j < n := by rw [List.length_replicate] at hj; exact hj
      rw [addr_add, cell_of_row _ _ _ _ _ _ hc, List.getElem_replicate, ← Array.getElem?_toList]
      have : (cur.toList.take (n * 1))[j]? = (List.replicate n (Value.int .u8 0))[j]? := by rw [ht]
      rw [List.getElem?_take_of_lt (by omega)] at this
      rw [this, List.getElem?_replicate_of_lt hj']
      rfl)
    rw [List.length_replicate] at hq
    exact hq
theorem byte_run (w : World) (l : List UInt8) (k : IntKind) {i : Nat} (hi : i < l.length) : (Instr.index 9 (.string (mkB l)) (.int k (i : Nat))).run Tryd.prog w = .ok (.int .u8 ((l.getD i 0).toNat : Nat)) w := by
  have hi' : i < (mkB l).size := by rw [mkB_size]; exact hi
  have e : (mkB l)[i]'hi' = l[i] := rfl
  rw [run_index_string w 9 (mkB l) k (i : Int) Tryd.underlying9, dif_pos ⟨by omega, by omega⟩, List.getD_eq_getElem?_getD, List.getElem?_eq_getElem hi]
  simp only [Option.getD_some]
  show Result.ok (Value.int .u8 (((mkB l)[i]'hi').toNat : Nat)) w = _
  rw [e]
  rfl
theorem slice_from (w : World) (l : List UInt8) {i : Nat} (hi : i ≤ l.length) : (Instr.slice 9 (.string (mkB l)) (some (.int .i64 (i : Nat))) none none).run Tryd.prog w = .ok (.string (mkB (l.drop i))) w := by
  rw [run_slice_string_from_if w 9 (mkB l) .i64 (i : Int) Tryd.underlying9, if_pos ⟨by omega, by rw [mkB_size]; omega⟩]
  show Result.ok (Value.string ((mkB l).extract (i : Int).toNat (mkB l).size)) w = _
  rw [mkB_extract, mkB_size, List.take_length, Int.toNat_natCast]
theorem slice_to (w : World) (l : List UInt8) {j : Nat} (hj : j ≤ l.length) : (Instr.slice 9 (.string (mkB l)) none (some (.int .i64 (j : Nat))) none).run Tryd.prog w = .ok (.string (mkB (l.take j))) w := by
  rw [run_slice_string_to_if w 9 (mkB l) .i64 (j : Int) Tryd.underlying9, if_pos ⟨by omega, by rw [mkB_size]; omega⟩]
  show Result.ok (Value.string ((mkB l).extract 0 (j : Int).toNat)) w = _
  rw [mkB_extract, Int.toNat_natCast, List.drop_zero]
end Go.Proofs.YtffejfpbeimngaaDoor.Wds
