/- Words: what writes, of the plain text: number, text, flag, Count. -/
import Derived.Test.YtccaiippoephbaaGreatDoorWa
import Derived.OpenShut
import Derived.Lib.Strings
import Derived.BigQuiet
import Derived.Deep.DeepCutAuto
import Derived.Deep.CutBlock
import Derived.Deep.LoopGhost
import Derived.Deep.RegionHeld3
import Derived.Laws.Strings3
import Derived.OwnWalk
import Derived.Laws.OwnMore
set_option linter.unusedVariables false
set_option linter.unusedSimpArgs false
set_option maxRecDepth 100000
namespace Go.Proofs.YtccaiippoephbaaGreatDoor.Wds
open Go.RowKit Go.Lib Go.Proofs.YtccaiippoephbaaGreatDoor.Bx Go.Proofs.YtccaiippoephbaaGreatDoor.Frm

theorem d_drews {B : Nat} {a w : World} (h : Below B a w) (n : Nat) : Below B a (w.drewN n) := ⟨h.os, h.tape, h.output, h.size, h.block⟩
theorem infoU8 : (Tryz.prog.info? 5).map (fun i => (i.zero, i.size, i.bytes)) = some (some (.int .u8 0), 1, 1) := by kernel_rfl
theorem addr_add (b j : Nat) : (⟨b, 0, none⟩ : Addr).add j = ⟨b, j, none⟩ := by unfold Addr.add; split <;> simp_all
end Go.Proofs.YtccaiippoephbaaGreatDoor.Wds
/- Words: the reader of the plain text. -/
set_option linter.unusedVariables false
set_option linter.unusedSimpArgs false
set_option maxRecDepth 100000
namespace Go.Proofs.YtccaiippoephbaaGreatDoor.Wds
open Go.RowKit Go.Lib Go.Proofs.YtccaiippoephbaaGreatDoor.Bx Go.Proofs.YtccaiippoephbaaGreatDoor.Frm

/-- A reader at block B. -/
def At (w : World) (B : Nat) (r : Rd) : Prop := w.heap[B]? = some (.cells #[.string (mkB r.s), .bool r.bad] 133 (0, 0))
theorem At.cells {w : World} {B : Nat} {r : Rd} (h : At w B r) : w.cell? ⟨B, 0, none⟩ = some (.string (mkB r.s)) ∧ w.cell? ⟨B, 1, none⟩ = some (.bool r.bad) ∧ B < w.heap.size := ⟨(two_cells h).1, (two_cells h).2, (Array.getElem?_eq_some_iff.1 h).1⟩
theorem At.free {w : World} {B i : Nat} {r : Rd} (h : At w B r) : w.frozen? ⟨B, i, none⟩ = false := free_at h
theorem grown_refl (w : World) (row : Option Nat) : w.grownBy w row := ⟨rfl, rfl, rfl, Nat.le_refl _, fun _ _ _ => rfl⟩
theorem grown_below {W w1 w2 : World} {row : Option Nat} (h : W.grownBy w1 row) (b : Below w1.heap.size w1 w2) : W.grownBy w2 row :=
  ⟨b.os.trans h.os, b.tape.trans h.tape, b.output.trans h.output, Nat.le_trans h.size b.size, fun k hk hn => (b.block k (Nat.lt_of_lt_of_le hk h.size)).trans (h.block k hk hn)⟩
theorem grown_put {W w1 : World} {hb j : Nat} {u : Value} (h : W.grownBy w1 (some hb)) : W.grownBy (w1.setCell ⟨hb, j, none⟩ u) (some hb) := by
  have b0 : Below 0 w1 (w1.setCell ⟨hb, j, none⟩ u) := (Below.refl 0 w1).setCell (p := ⟨hb, j, none⟩) (Nat.zero_le _) u
  exact ⟨b0.os.trans h.os, b0.tape.trans h.tape, b0.output.trans h.output, Nat.le_trans h.size b0.size, fun k hk hn => (Below.heap_setCell _ _ _ _ (fun e => hn (by rw [e]))).trans (h.block k hk hn)⟩
theorem grown_cell {W w1 : World} {hb q o : Nat} {x : Value} (h : W.grownBy w1 (some hb)) (hq : q < W.heap.size) (hne : q ≠ hb) (hc : W.cell? ⟨q, o, none⟩ = some x) : w1.cell? ⟨q, o, none⟩ = some x := by
  unfold World.cell? at hc ⊢
  simp only at hc ⊢
  rw [h.block q hq (by simpa using hne)]
  exact hc
theorem grown_to {base : Nat} {w0 W w1 : World} {hb : Nat} (hw : Below base w0 W) (h : W.grownBy w1 (some hb)) (hb0 : base ≤ hb) (hs : base ≤ W.heap.size) : Below base w0 w1 :=
  ⟨h.os.trans hw.os, h.tape.trans hw.tape, h.output.trans hw.output, Nat.le_trans hw.size h.size, fun k hk => (h.block k (by omega) (by simp; omega)).trans (hw.block k hk)⟩
theorem grown_trans {a b c : World} {row : Option Nat} (h1 : a.grownBy b row) (h2 : b.grownBy c row) : a.grownBy c row :=
  ⟨h2.os.trans h1.os, h2.tape.trans h1.tape, h2.output.trans h1.output, Nat.le_trans h1.size h2.size, fun k hk hne => (h2.block k (Nat.lt_of_lt_of_le hk h1.size) hne).trans (h1.block k hk hne)⟩
theorem grown_of (w w' : World) (hb : Below w.heap.size w w') (row : Option Nat) : w.grownBy w' row := ⟨hb.os, hb.tape, hb.output, hb.size, fun k hk _ => hb.block k hk⟩
theorem At.kept {w w' : World} {B : Nat} {r : Rd} (h : At w B r) (hg : w.grownBy w' none) : At w' B r := (hg.block B h.cells.2.2 (by simp)).trans h
theorem At.set0 {w : World} {B : Nat} {r : Rd} (h : At w B r) (l : List UInt8) : At (w.setCell ⟨B, 0, none⟩ (.string (mkB l))) B ⟨l, r.bad⟩ := set_block h
theorem At.set1 {w : World} {B : Nat} {r : Rd} (h : At w B r) (b : Bool) : At (w.setCell ⟨B, 1, none⟩ (.bool b)) B ⟨r.s, b⟩ := set_block h
/-- A row of n zero bytes as a text. -/
theorem zeros_text {w : World} {base B n : Nat} (h0 : 1 ≤ n) (h : w.ownsRow base 5 1 (.slice (some ⟨B, 0, none⟩) n n) n (madeCells #[Value.int .u8 0] n).toList) : (convert 128 9 (.slice (some ⟨B, 0, none⟩) n n)).run Tryz.prog w = .ok (.string (mkB (List.replicate n 0))) w := by
  have e : (madeCells #[Value.int .u8 0] n).toList = List.replicate n (Value.int .u8 0) := toList_madeCells_one _ _
  rw [e] at h
  obtain ⟨hl, h⟩ := h
  rcases h with ⟨h, _⟩ | ⟨g, cap, cur, h1, _, hc, _, _, hs, ht⟩
  · cases h
  · injection h1 with h1 h2 h3
    injection h1 with h1
    injection h1 with h1
    subst h1
    have hq := run_convert_bytes_back (P := Tryz.prog) w 128 9 5 ⟨B, 0, none⟩ n (List.replicate n (0 : UInt8)) Tryz.underlying128 Tryz.underlying5 Tryz.underlying9 (fun j hj => by
      have hj' : j < n := by rw [List.length_replicate] at hj; exact hj
      rw [addr_add, cell_of_row _ _ _ _ _ _ hc, List.getElem_replicate, ← Array.getElem?_toList]
      have : (cur.toList.take (n * 1))[j]? = (List.replicate n (Value.int .u8 0))[j]? := by rw [ht]
      rw [List.getElem?_take_of_lt (by omega)] at this
      rw [this, List.getElem?_replicate_of_lt hj']
      rfl)
    rw [List.length_replicate] at hq
    exact hq
theorem byte_run (w : World) (l : List UInt8) (k : IntKind) {i : Nat} (hi : i < l.length) : (Instr.index 9 (.string (mkB l)) (.int k (i : Nat))).run Tryz.prog w = .ok (.int .u8 ((l.getD i 0).toNat : Nat)) w := by
  have hi' : i < (mkB l).size := by rw [mkB_size]; exact hi
  have e : (mkB l)[i]'hi' = l[i] := rfl
  rw [run_index_string w 9 (mkB l) k (i : Int) Tryz.underlying9, dif_pos ⟨by omega, by omega⟩, List.getD_eq_getElem?_getD, List.getElem?_eq_getElem hi]
  simp only [Option.getD_some]
  show Result.ok (Value.int .u8 (((mkB l)[i]'hi').toNat : Nat)) w = _
  rw [e]
  rfl
theorem slice_from (w : World) (l : List UInt8) {i : Nat} (hi : i ≤ l.length) : (Instr.slice 9 (.string (mkB l)) (some (.int .i64 (i : Nat))) none none).run Tryz.prog w = .ok (.string (mkB (l.drop i))) w := by
  rw [run_slice_string_from_if w 9 (mkB l) .i64 (i : Int) Tryz.underlying9, if_pos ⟨by omega, by rw [mkB_size]; omega⟩]
  show Result.ok (Value.string ((mkB l).extract (i : Int).toNat (mkB l).size)) w = _
  rw [mkB_extract, mkB_size, List.take_length, Int.toNat_natCast]
theorem slice_to (w : World) (l : List UInt8) {j : Nat} (hj : j ≤ l.length) : (Instr.slice 9 (.string (mkB l)) none (some (.int .i64 (j : Nat))) none).run Tryz.prog w = .ok (.string (mkB (l.take j))) w := by
  rw [run_slice_string_to_if w 9 (mkB l) .i64 (j : Int) Tryz.underlying9, if_pos ⟨by omega, by rw [mkB_size]; omega⟩]
  show Result.ok (Value.string ((mkB l).extract 0 (j : Int).toNat)) w = _
  rw [mkB_extract, Int.toNat_natCast, List.drop_zero]
set_option maxHeartbeats 8000000 in
theorem take_any (r : Rd) (n B : Nat) (w : World) (h : At w B r) (hn : n ≤ 65535) (h1 : 1 ≤ n ∨ r.bad = false) : Calls Tryz.prog 72 #[.pointer (some ⟨B, 0, none⟩), .int .i64 (n : Nat)] w fun e w' => e = .returned (.string (mkB (takeR r n).1)) ∧ At w' B (takeR r n).2 ∧ w.grownBy w' (some B) := by
  obtain ⟨c0, c1, hB⟩ := h.cells
  have fr := fun i => h.free (i := i)
  obtain ⟨l, b⟩ := r
  obtain ⟨m, hm⟩ : ∃ m, m = l.length := ⟨_, rfl⟩
  obtain ⟨s, hs⟩ : ∃ s, s = mkB l := ⟨_, rfl⟩
  have hsz : s.size = m := by rw [hs, mkB_size, hm]
  simp only at c0 c1
  by_cases hbad : b = true ∨ m < n
  · have e : takeR ⟨l, b⟩ n = (List.replicate n 0, ⟨l, true⟩) := by
      unfold takeR
      rw [if_pos (by rw [← hm]; exact hbad)]
    rw [e]
    have hn1 : 1 ≤ n := by
      rcases h1 with h1 | h1
      · exact h1
      · have h1 : b = false := h1
        subst h1
        rcases hbad with hb | hb
        · cases hb
        · omega
    have hbad' : b = true ∨ b = false ∧ (m : Int) < (n : Int) := by
      cases b with
      | true => exact .inl rfl
      | false => exact .inr ⟨rfl, by rcases hbad with hb | hb; cases hb; omega⟩
    have HA : Hid (At (w.setCell ⟨B, 1, none⟩ (.bool true)) B ⟨l, true⟩) := h.set1 true
    have HG : Hid (w.grownBy (w.setCell ⟨B, 1, none⟩ (.bool true)) (some B)) := grown_put (grown_refl _ _)
    obtain ⟨i0, hi, hz0, hz1, hz2⟩ := Rk.kparts infoU8
    obtain ⟨w1, hw1⟩ : ∃ w1, w1 = w.setCell ⟨B, 1, none⟩ (.bool true) := ⟨_, rfl⟩
    rw [← hw1] at HA HG
    have A2 : Hid (i0.bytes * n ≤ 281474976710656) := by show _ ≤ _; rw [hz2]; omega
    have A3 : Hid (n ≤ maxLen) := by show _ ≤ _; unfold maxLen; omega
    have A4 : Hid (w1.heap.size ≤ w1.heap.size) := Nat.le_refl _
    rw [← hs] at c0
    have HW1 := Lib.hid hw1
    clear hs hm h h1 e hw1
    have n0 : (0 : Int) ≤ (n : Int) := by omega
    rcases hbad' with rfl | ⟨rfl, g1⟩
    all_goals (
      go_enter Tryz.func72, Tryz.ntmps72
      go_upto_region 3 with fail
      rw [← HW1.out]
      go_wp2_with (at_make; refine wpList_make_full _ rfl _ _ 128 rfl w1.heap.size 5 i0 (.int .u8 0) 1 Tryz.underlying128 hi hz0 hz1 .i64 .i64 _ _ n rfl rfl rfl rfl A2.out A3.out A4.out ?_)
      intro w2 r2 g2
      have CV := zeros_text hn1 r2
      have K2 := Lib.hid (HA.out.kept g2)
      have G2 : Hid (w.grownBy w2 (some B)) := ⟨g2.os.trans HG.out.os, g2.tape.trans HG.out.tape, g2.output.trans HG.out.output, Nat.le_trans HG.out.size g2.size, fun k hk hn => (g2.block k (Nat.lt_of_lt_of_le hk HG.out.size) (by simp)).trans (HG.out.block k hk hn)⟩
      clear r2 g2
      go_wp2_with fail
      go_ret
      exact ⟨rfl, K2.out, G2.out⟩)
  · have e : takeR ⟨l, b⟩ n = (l.take n, ⟨l.drop n, false⟩) := by
      unfold takeR
      rw [if_neg (by rw [← hm]; exact hbad)]
    rw [e]
    obtain rfl : b = false := by cases b with
      | false => rfl
      | true => exact absurd (.inl rfl) hbad
    have g1 : ¬ (m : Int) < (n : Int) := by omega
    have g2 : decide ((m : Int) < (n : Int)) = false := decide_eq_false g1
    obtain ⟨s1, hs1⟩ : ∃ s1, s1 = mkB (l.take n) := ⟨_, rfl⟩
    obtain ⟨s2, hs2⟩ : ∃ s2, s2 = mkB (l.drop n) := ⟨_, rfl⟩
    have XS1 : ∀ w, (Instr.slice 9 (.string s) none (some (.int .i64 (n : Nat))) none).run Tryz.prog w = .ok (.string s1) w := fun w => by
      rw [hs, hs1]
      exact slice_to w l (by omega)
    have XS2 : ∀ w, (Instr.slice 9 (.string s) (some (.int .i64 (n : Nat))) none none).run Tryz.prog w = .ok (.string s2) w := fun w => by
      rw [hs, hs2]
      exact slice_from w l (by omega)
    have n0 : (0 : Int) ≤ (n : Int) := by omega
    have nm : (n : Int) ≤ (m : Int) := by omega
    rw [← hs] at c0
    have HF : Hid (At (w.setCell ⟨B, 0, none⟩ (.string s2)) B ⟨l.drop n, false⟩) := by
      rw [hs2]
      exact h.set0 _
    have HG : Hid (w.grownBy (w.setCell ⟨B, 0, none⟩ (.string s2)) (some B)) := grown_put (grown_refl _ _)
    have HS : Hid (s1 = mkB (l.take n)) := hs1
    clear hs hm hs1 hs2 h h1
    go_enter Tryz.func72, Tryz.ntmps72
    go_wp2_with fail
    go_ret
    exact ⟨by rw [← HS.out]; rfl, HF.out, HG.out⟩
end Go.Proofs.YtccaiippoephbaaGreatDoor.Wds
