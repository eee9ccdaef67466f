/- Ledger: octets's writer of bytes: what lies in memory; a byte, a length, a text, a bool, numbers. -/
import Derived.Test.YtffejfpbeimngaaDoorGc
import Derived.IntWalk
import Derived.Lib.AppendStr
import Derived.Laws.BitsLemmas
import Derived.RegionTactic
import Derived.Deep.RegionLaw
import Derived.BigRegion
import Derived.StillTailTactics
import Derived.Deep.RegionHeld3
set_option linter.unusedVariables false
set_option linter.unusedSimpArgs false
set_option maxRecDepth 100000
namespace Go.Proofs.YtffejfpbeimngaaDoor.Ldg
open Go.RowKit Go.Lib Go.Proofs.YtffejfpbeimngaaDoor.Bx Go.Proofs.YtffejfpbeimngaaDoor.Frm Go.Proofs.YtffejfpbeimngaaDoor.Wds


def pairL (n : Nat) : List UInt8 := [UInt8.ofNat (n / 256), UInt8.ofNat (n % 256)]
/-- A writer at block B: what is written so far, in a row of its own, and whether something was wrong. -/
def Wr (base : Nat) (w : World) (B : Nat) (v : Value) (l : List UInt8) (bad : Bool) : Prop :=
  B < base ∧ base ≤ w.heap.size ∧ w.heap[B]? = some (.cells #[v, .bool bad] 77 (0, 0)) ∧ Rk.OwnK 5 1 base w v (cellsB l)
/-- What a step of writing leaves: all but the writer's block and its row. -/
structure Stp (w : World) (B : Nat) (v : Value) (w' : World) (v' : Value) : Prop where
  os : w'.os = w.os
  tape : w'.tape = w.tape
  output : w'.output = w.output
  size : w.heap.size ≤ w'.heap.size
  block : ∀ k, k < w.heap.size → k ≠ B → v.ownBlock ≠ some k → w'.heap[k]? = w.heap[k]?
  new : v'.ownBlock = v.ownBlock ∨ ∀ g, v'.ownBlock = some g → w.heap.size ≤ g
theorem Stp.refl (w : World) (B : Nat) (v : Value) : Stp w B v w v := ⟨rfl, rfl, rfl, Nat.le_refl _, fun _ _ _ _ => rfl, .inl rfl⟩
theorem Stp.trans {w1 w2 w3 : World} {B : Nat} {v1 v2 v3 : Value} (h : Stp w1 B v1 w2 v2) (k : Stp w2 B v2 w3 v3) : Stp w1 B v1 w3 v3 := by
  refine ⟨k.os.trans h.os, k.tape.trans h.tape, k.output.trans h.output, Nat.le_trans h.size k.size, fun q hq hB hv => ?_, ?_⟩
  · refine (k.block q (Nat.lt_of_lt_of_le hq h.size) hB (fun e => ?_)).trans (h.block q hq hB hv)
    rcases h.new with n | n
    · exact hv (n ▸ e)
    · have := n q e
      omega
  · rcases k.new with n | n
    · rw [n]
      exact h.new
    · exact .inr fun g e => Nat.le_trans h.size (n g e)
theorem Stp.low {base B : Nat} {w w' : World} {v v' : Value} {l : List UInt8} {bad : Bool} (h : Stp w B v w' v') (q : Wr base w B v l bad) : Below B w w' :=
  ⟨h.os, h.tape, h.output, h.size, fun k hk => h.block k (by have := q.1; have := q.2.1; omega) (by omega) (q.2.2.2.low (by have := q.1; omega))⟩
theorem Wr.hB {base B : Nat} {w : World} {v : Value} {l : List UInt8} {bad : Bool} (h : Wr base w B v l bad) : B < w.heap.size := Nat.lt_of_lt_of_le h.1 h.2.1
theorem Wr.below {base B : Nat} {w w' : World} {v : Value} {l : List UInt8} {bad : Bool} (h : Wr base w B v l bad) (hb : Below w.heap.size w w') : Wr base w' B v l bad :=
  ⟨h.1, Nat.le_trans h.2.1 hb.size, (hb.block B h.hB).trans h.2.2.1, h.2.2.2.below hb⟩
theorem Wr.first {base B : Nat} {w w1 w' : World} {v v' : Value} {l : List UInt8} {bad : Bool} (h : Wr base w B v l bad) (hb : Below w.heap.size w w1) (hs : Stp w1 B v w' v') : Stp w B v w' v' := by
  refine ⟨hs.os.trans hb.os, hs.tape.trans hb.tape, hs.output.trans hb.output, Nat.le_trans hb.size hs.size, fun k hk hB hv => (hs.block k (Nat.lt_of_lt_of_le hk hb.size) hB hv).trans (hb.block k hk), ?_⟩
  rcases hs.new with n | n
  · exact .inl n
  · exact .inr fun g e => Nat.le_trans hb.size (n g e)
/-- What lies in a block that was made behind the writer's row stays. -/
theorem Stp.keep {base B b : Nat} {w w1 w' : World} {v v' : Value} {l : List UInt8} {bad : Bool} {o : Option Obj} (q : Wr base w B v l bad) (hs : Stp w1 B v w' v') (hb : w.heap.size ≤ b) (h1 : b < w1.heap.size) (h : w1.heap[b]? = o) : w'.heap[b]? = o := by
  refine (hs.block b h1 (by have := q.hB; omega) (fun e => ?_)).trans h
  have := (q.2.2.2.block b e).2
  omega
def Put (base : Nat) (w : World) (B : Nat) (v : Value) (l : List UInt8) (bad : Bool) : Ending → World → Prop := fun e w' => e = .returned (.tuple #[]) ∧ ∃ v', Wr base w' B v' l bad ∧ Stp w B v w' v'
theorem Wr.cells {base B : Nat} {w : World} {v : Value} {l : List UInt8} {bad : Bool} (h : Wr base w B v l bad) : w.cell? ⟨B, 0, none⟩ = some v ∧ w.cell? ⟨B, 1, none⟩ = some (.bool bad) ∧ w.frozen? ⟨B, 0, none⟩ = false ∧ w.frozen? ⟨B, 1, none⟩ = false :=
  ⟨(two_cells h.2.2.1).1, (two_cells h.2.2.1).2, free_at h.2.2.1, free_at h.2.2.1⟩
theorem Wr.is_slice {base B : Nat} {w : World} {v : Value} {l : List UInt8} {bad : Bool} (h : Wr base w B v l bad) : ∃ a c, v = .slice a l.length c := by
  obtain ⟨a, c, e⟩ := h.2.2.2.is_slice
  rw [cellsB_len] at e
  exact ⟨a, c, e⟩
/-- Something was wrong. -/
theorem Wr.spoil {base B : Nat} {w : World} {v : Value} {l : List UInt8} {bad : Bool} (h : Wr base w B v l bad) : Put base w B v l true (.returned (.tuple #[])) (w.setCell ⟨B, 1, none⟩ (.bool true)) := by
  have hg : w.grownBy (w.setCell ⟨B, 1, none⟩ (.bool true)) (some B) := grown_put (grown_refl _ _)
  have hne : v.ownBlock ≠ some B := h.2.2.2.low h.1
  exact ⟨rfl, v, ⟨h.1, Nat.le_trans h.2.1 hg.size, set_block h.2.2.1, h.2.2.2.kept hg (.inr hne)⟩, hg.os, hg.tape, hg.output, hg.size, fun k hk hB _ => hg.block k hk (fun e => by injection e with e; exact hB e), .inl rfl⟩
/-- Behind an append, and a store of what it gives. -/
theorem Wr.more {base B : Nat} {w w1 w9 : World} {v v9 : Value} {l m : List UInt8} {bad : Bool} (h : Wr base w B v l bad) (hb : Below w.heap.size w w1) (g : w1.grownBy w9 v.ownBlock) (k : v9.ownBlock = v.ownBlock ∨ ∀ q, v9.ownBlock = some q → w.heap.size ≤ q) (o : Rk.OwnK 5 1 base w9 v9 (cellsB m)) :
    w9.cell? ⟨B, 0, none⟩ = some v ∧ w9.frozen? ⟨B, 0, none⟩ = false ∧ Hid (Put base w B v m bad (.returned (.tuple #[])) (w9.setCell ⟨B, 0, none⟩ v9)) := by
  have h1 := h.below hb
  have hne : v.ownBlock ≠ some B := h.2.2.2.low h.1
  have z : w9.heap[B]? = some (.cells #[v, .bool bad] 77 (0, 0)) := (g.block B h1.hB (fun e => hne e.symm)).trans h1.2.2.1
  have hg : w9.grownBy (w9.setCell ⟨B, 0, none⟩ v9) (some B) := grown_put (grown_refl _ _)
  refine ⟨(two_cells z).1, free_at z, rfl, v9, ⟨h.1, Nat.le_trans h1.2.1 (Nat.le_trans g.size hg.size), set_block z, o.kept hg (.inr (o.low h.1))⟩, ?_⟩
  exact ⟨hg.os.trans (g.os.trans hb.os), hg.tape.trans (g.tape.trans hb.tape), hg.output.trans (g.output.trans hb.output), Nat.le_trans hb.size (Nat.le_trans g.size hg.size), fun q hq hB hv => (hg.block q (Nat.lt_of_lt_of_le hq (Nat.le_trans hb.size g.size)) (fun e => by injection e with e; exact hB e)).trans ((g.block q (Nat.lt_of_lt_of_le hq hb.size) (fun e => hv e.symm)).trans (hb.block q hq)), k⟩

section
variable {P : Program}
/-- Bytes of a row, appended to the writer's own. -/
theorem run_append_b (w : World) (base : Nat) (tS ty e : TypeId) (ht : P.underlying tS = some (.slice e)) (hinfo : (P.info? e).map (fun i => (i.zero, i.size, i.bytes)) = some (some (.int .u8 0), 1, 1))
    (v : Value) (l m : List UInt8) (a : Addr) (c : Nat) (hown : Rk.OwnK e 1 base w v (cellsB l)) (hy : ∀ j (h : j < m.length), w.cell? (a.add j) = some (.int .u8 (m[j].toNat : Nat))) (hn : l.length + m.length ≤ 400000000) (hbase : base ≤ w.heap.size) :
    ∃ v' w', (Builtin.append_ #[tS, tS] ty #[v, .slice (some a) m.length c]).run P w = .ok v' w' ∧ Rk.OwnK e 1 base w' v' (cellsB (l ++ m)) ∧ w.grownBy w' v.ownBlock ∧ (v'.ownBlock = v.ownBlock ∨ ∀ q, v'.ownBlock = some q → w.heap.size ≤ q) := by
  obtain ⟨i0, hi, hz0, hz1, hz2⟩ := Rk.kparts hinfo
  have hfl : ∀ x : List UInt8, (cellsB x).flatten = x.map fun y => Value.int .u8 (y.toNat : Nat) := fun x => by
    induction x with
    | nil => rfl
    | cons y x ih => show _ :: (cellsB x).flatten = _; rw [ih]; rfl
  have h0 := hown.2
  rw [cellsB_len] at h0
  obtain ⟨v', w', hr, q2, q3, q4, q5⟩ := run_append_own_at (P := P) w base tS ty e i0 (.int .u8 0) 1 1 ht hi hz0 hz1 hz2 rfl (by decide) v l.length (cellsB l).flatten h0 a m.length c ((cellsB m).flatten) (by rw [hfl, List.length_map, Nat.mul_one]) (by
      intro j u hj
      rw [hfl, List.getElem?_map] at hj
      have hjl : j < m.length := by
        rcases Nat.lt_or_ge j m.length with q | q
        · exact q
        · rw [List.getElem?_eq_none q] at hj; cases hj
      rw [List.getElem?_eq_getElem hjl] at hj
      injection hj with hj
      rw [hy j hjl, ← hj]) (by
      intro u hu
      rw [hfl] at hu
      obtain ⟨y, _, rfl⟩ := List.mem_map.1 hu
      rfl) (by unfold maxLen; omega) (by omega) hbase
  refine ⟨v', w', hr, ⟨fun x hx => ?_, ?_⟩, q3, ?_⟩
  · refine ⟨?_, cellsB_one _ x hx⟩
    obtain ⟨y, _, rfl⟩ := List.mem_map.1 hx
    rfl
  · rw [cellsB_len, List.length_append, cellsB_app, List.flatten_append]
    exact q2
  · rcases q5 with q5 | q5
    · exact .inl q5
    · exact .inr fun q e => by rw [q5] at e; injection e with e; omega
/-- A text's bytes, appended to the writer's own. -/
theorem run_append_s (w : World) (base : Nat) (tS tT ty e : TypeId) (ht : P.underlying tS = some (.slice e)) (hu : P.underlying tT = some .string) (hinfo : (P.info? e).map (fun i => (i.zero, i.size, i.bytes)) = some (some (.int .u8 0), 1, 1))
    (v : Value) (l m : List UInt8) (hown : Rk.OwnK e 1 base w v (cellsB l)) (hn : l.length + m.length ≤ 400000000) (hbase : base ≤ w.heap.size) :
    ∃ v' w', (Builtin.append_ #[tS, tT] ty #[v, .string (mkB m)]).run P w = .ok v' w' ∧ Rk.OwnK e 1 base w' v' (cellsB (l ++ m)) ∧ w.grownBy w' v.ownBlock ∧ (v'.ownBlock = v.ownBlock ∨ ∀ q, v'.ownBlock = some q → w.heap.size ≤ q) := by
  obtain ⟨i0, hi, hz0, hz1, hz2⟩ := Rk.kparts hinfo
  have hfl : (cellsB m).flatten = strCells (mkB m) := by
    unfold strCells
    rw [mkB_data]
    induction m with
    | nil => rfl
    | cons y x ih => show _ :: (cellsB x).flatten = _; rw [ih (by rw [List.length_cons] at hn; omega)]; rfl
  have h0 := hown.2
  rw [cellsB_len] at h0
  have hs := mkB_size m
  obtain ⟨v', w', hr, q2, q3, q4⟩ := run_append_own_string (P := P) w base tS tT ty e i0 ht hu hi hz0 hz1 hz2 v l.length (cellsB l).flatten h0 (mkB m) (by unfold maxLen; omega) (by omega) hbase
  refine ⟨v', w', hr, ⟨fun x hx => ?_, ?_⟩, q3, ?_⟩
  · refine ⟨?_, cellsB_one _ x hx⟩
    obtain ⟨y, _, rfl⟩ := List.mem_map.1 hx
    rfl
  · rw [cellsB_len, List.length_append, cellsB_app, List.flatten_append, hfl, ← hs]
    exact q2
  · rcases h0.2 with ⟨rfl, hl⟩ | ⟨g, cap, cur, rfl, hbg, hg, hnc, hcm, hcs, htake⟩
    · by_cases hm : (mkB m).size = 0
      · rw [q4.2 ⟨rfl, hm⟩]
        exact .inl rfl
      · have h2 := run_append_nil_string (P := P) w tS tT ty e i0 (.int .u8 0) ht hu hi hz0 (mkB m) (by omega) (by omega) (by rw [hz2]; omega)
        rw [hr] at h2
        injection h2 with h2 _
        exact .inr fun q e => by rw [h2] at e; unfold Value.ownBlock at e; injection e with e; exact Nat.le_of_eq e
    · by_cases hroom : l.length + (mkB m).size ≤ cap
      · have h2 := run_append_room_string (P := P) w tS tT ty e i0 ht hu hi hz1 g l.length cap cur hg (mkB m) hroom (by omega)
        rw [hr] at h2
        injection h2 with h2 _
        exact .inl (by rw [h2]; rfl)
      · have holds : ∀ j u, ((cellsB l).flatten)[j]? = some u → w.cell? ((⟨g, 0, none⟩ : Addr).add j) = some u := World.ownsRow.cells h0 (g := g) rfl
        have h2 := run_append_grow_string (P := P) w tS tT ty e i0 (.int .u8 0) ht hu hi hz0 ⟨g, 0, none⟩ l.length cap (cellsB l).flatten (by rw [hz1]; exact h0.1) holds (mkB m) (by omega) (by omega) (by rw [hz2]; exact growslice_fits (by omega) (by omega))
        rw [hr] at h2
        injection h2 with h2 _
        exact .inr fun q e => by rw [h2] at e; unfold Value.ownBlock at e; injection e with e; exact Nat.le_of_eq e
/-- .. as steps of a walk. -/
theorem wpList_append_b {w : World} {ops : Array Oper} {rest : List Oper} {o : Oper} {a : Act} {Q : Exit → Act → World → Prop} (hgd : o.guard = none) (s x : Operand) (tS e : TypeId)
    (ht : P.underlying tS = some (.slice e)) (hinfo : (P.info? e).map (fun i => (i.zero, i.size, i.bytes)) = some (some (.int .u8 0), 1, 1))
    (ho : o.op = .call { callee := .builtin .append, args := #[s, x], argTypes := #[tS, tS] }) (base : Nat) (v : Value) (l m : List UInt8) (n : Nat) (d : Addr) (c : Nat) (hs : a.eval s = v) (hx : a.eval x = .slice (some d) n c) (hm : m.length = n) (hown : Rk.OwnK e 1 base w v (cellsB l)) (hy : ∀ j (h : j < m.length), w.cell? (d.add j) = some (.int .u8 (m[j].toNat : Nat))) (hn : l.length + m.length ≤ 400000000) (hbase : base ≤ w.heap.size)
    (h : ∀ v' w', Rk.OwnK e 1 base w' v' (cellsB (l ++ m)) → w.grownBy w' v.ownBlock → (v'.ownBlock = v.ownBlock ∨ ∀ q, v'.ownBlock = some q → w.heap.size ≤ q) → wpList P ops Q rest (a.put o.dst v') w') : wpList P ops Q (o :: rest) a w := by
  refine wpList_plain hgd fun K hK => ?_
  subst hm
  obtain ⟨v', w', hr, h2, h3, h5⟩ := run_append_b (P := P) w base tS o.type e ht hinfo v l m d c hown hy hn hbase
  unfold Oper.wp execOp
  simp only [ho, resolve, invoke, builtin, Sem.run_bind, Sem.run_pure, Result.andThen_ok, List.map_toArray, List.map_cons, List.map_nil, hs, hx, hr]
  exact hK _ _ (h v' w' h2 h3 h5)
theorem wpList_append_s {w : World} {ops : Array Oper} {rest : List Oper} {o : Oper} {a : Act} {Q : Exit → Act → World → Prop} (hgd : o.guard = none) (s x : Operand) (tS tT e : TypeId)
    (ht : P.underlying tS = some (.slice e)) (hu : P.underlying tT = some .string) (hinfo : (P.info? e).map (fun i => (i.zero, i.size, i.bytes)) = some (some (.int .u8 0), 1, 1))
    (ho : o.op = .call { callee := .builtin .append, args := #[s, x], argTypes := #[tS, tT] }) (base : Nat) (v : Value) (l m : List UInt8) (u : ByteArray) (hs : a.eval s = v) (hx : a.eval x = .string u) (hm : u = mkB m) (hown : Rk.OwnK e 1 base w v (cellsB l)) (hn : l.length + m.length ≤ 400000000) (hbase : base ≤ w.heap.size)
    (h : ∀ v' w', Rk.OwnK e 1 base w' v' (cellsB (l ++ m)) → w.grownBy w' v.ownBlock → (v'.ownBlock = v.ownBlock ∨ ∀ q, v'.ownBlock = some q → w.heap.size ≤ q) → wpList P ops Q rest (a.put o.dst v') w') : wpList P ops Q (o :: rest) a w := by
  refine wpList_plain hgd fun K hK => ?_
  subst hm
  obtain ⟨v', w', hr, h2, h3, h5⟩ := run_append_s (P := P) w base tS tT o.type e ht hu hinfo v l m hown hn hbase
  unfold Oper.wp execOp
  simp only [ho, resolve, invoke, builtin, Sem.run_bind, Sem.run_pure, Result.andThen_ok, List.map_toArray, List.map_cons, List.map_nil, hs, hx, hr]
  exact hK _ _ (h v' w' h2 h3 h5)
/-- .. as a step of a drawn region. -/
theorem step_append_b {w : World} {ops : Array Oper} {o : Oper} {a : Act} {K : Act → World → Prop} {Q : Exit → Act → World → Prop} {E : Prop} (hgd : o.guard = none) (s x : Operand) (tS e : TypeId)
    (ht : P.underlying tS = some (.slice e)) (hinfo : (P.info? e).map (fun i => (i.zero, i.size, i.bytes)) = some (some (.int .u8 0), 1, 1))
    (ho : o.op = .call { callee := .builtin .append, args := #[s, x], argTypes := #[tS, tS] }) (base : Nat) (v : Value) (l m : List UInt8) (n : Nat) (d : Addr) (c : Nat) (hs : a.eval s = v) (hx : a.eval x = .slice (some d) n c) (hm : m.length = n) (hown : Rk.OwnK e 1 base w v (cellsB l)) (hy : ∀ j (h : j < m.length), w.cell? (d.add j) = some (.int .u8 (m[j].toNat : Nat))) (hn : l.length + m.length ≤ 400000000) (hbase : base ≤ w.heap.size)
    (h : ∀ v' w', Rk.OwnK e 1 base w' v' (cellsB (l ++ m)) → w.grownBy w' v.ownBlock → (v'.ownBlock = v.ownBlock ∨ ∀ q, v'.ownBlock = some q → w.heap.size ≤ q) → K (a.put o.dst v') w') : if Region.wanted o (yielded ops a.tmps) = true then Oper.wp P o a w K Q else E := by
  have hw : Region.wanted o (yielded ops a.tmps) = true := by simp [Region.wanted, hgd]
  rw [if_pos hw]
  subst hm
  obtain ⟨v', w', hr, h2, h3, h5⟩ := run_append_b (P := P) w base tS o.type e ht hinfo v l m d c hown hy hn hbase
  unfold Oper.wp execOp
  simp only [ho, resolve, invoke, builtin, Sem.run_bind, Sem.run_pure, Result.andThen_ok, List.map_toArray, List.map_cons, List.map_nil, hs, hx, hr]
  exact h _ _ h2 h3 h5
end
/-- The cells of a new block of bytes. -/
theorem new_bytes (w : World) (cs : Array Value) (m : List UInt8) (h : cs.toList = m.map fun y => Value.int .u8 (y.toNat : Nat)) : ∀ j (_ : j < m.length), (w.alloc (.cells cs 5)).cell? ((⟨w.heap.size, 0, none⟩ : Addr).add j) = some (.int .u8 (m[j].toNat : Nat)) := fun j hj => by
  rw [addr_add, cell_of_row _ _ _ _ _ _ (box1 w cs 5).2.1, ← Array.getElem?_toList, h, List.getElem?_map, List.getElem?_eq_getElem hj]
  rfl

set_option maxHeartbeats 4000000 in
theorem spoil_any {base B : Nat} {w : World} {v : Value} {l : List UInt8} {bad : Bool} (h : Wr base w B v l bad) : Calls Tryd.prog 59 #[.pointer (some ⟨B, 0, none⟩)] w (Put base w B v l true) := by
  obtain ⟨c0, c1, f0, f1⟩ := h.cells
  have FN := Lib.hid h.spoil
  clear h
  go_enter Tryd.func59, Tryd.ntmps59
  go_wp2_with fail
  all_goals exact bodyPost_ret (v := .tuple #[]) (by simp [results, Tryd.results59, go_sem]) rfl FN.out
set_option maxHeartbeats 4000000 in
theorem pbyte_no {base B : Nat} {w : World} {v : Value} {l : List UInt8} {bad : Bool} (h : Wr base w B v l bad) (n : Int) (hn : n < 0 ∨ 255 < n) : Calls Tryd.prog 43 #[.pointer (some ⟨B, 0, none⟩), .int .i64 n] w (Put base w B v l true) := by
  have C := Lib.hid (spoil_any h)
  clear h
  by_cases h0 : n < 0
  · have d0 : decide (n < 0) = true := decide_eq_true h0
    go_enter Tryd.func43, Tryd.ntmps43
    go_wp2_with fail
    refine C.out.mono ?_
    rintro e w1 ⟨rfl, H⟩
    have HH := Lib.hid H
    clear H C
    go_wp2_with fail
    all_goals exact bodyPost_ret (v := .tuple #[]) (by simp [results, Tryd.results43, go_sem]) rfl ⟨rfl, HH.out⟩
  · have d0 : decide (n < 0) = false := decide_eq_false h0
    have h1 : 255 < n := by omega
    have d1 : decide (255 < n) = true := decide_eq_true h1
    go_enter Tryd.func43, Tryd.ntmps43
    go_wp2_with fail
    refine C.out.mono ?_
    rintro e w1 ⟨rfl, H⟩
    have HH := Lib.hid H
    clear H C
    go_wp2_with fail
    all_goals exact bodyPost_ret (v := .tuple #[]) (by simp [results, Tryd.results43, go_sem]) rfl ⟨rfl, HH.out⟩
set_option maxHeartbeats 4000000 in
theorem ppair_no {base B : Nat} {w : World} {v : Value} {l : List UInt8} {bad : Bool} (h : Wr base w B v l bad) (n : Int) (hn : n < 0 ∨ 65535 < n) : Calls Tryd.prog 45 #[.pointer (some ⟨B, 0, none⟩), .int .i64 n] w (Put base w B v l true) := by
  have C := Lib.hid (spoil_any h)
  clear h
  by_cases h0 : n < 0
  · have d0 : decide (n < 0) = true := decide_eq_true h0
    go_enter Tryd.func45, Tryd.ntmps45
    go_wp2_with fail
    refine C.out.mono ?_
    rintro e w1 ⟨rfl, H⟩
    have HH := Lib.hid H
    clear H C
    go_wp2_with fail
    all_goals exact bodyPost_ret (v := .tuple #[]) (by simp [results, Tryd.results45, go_sem]) rfl ⟨rfl, HH.out⟩
  · have d0 : decide (n < 0) = false := decide_eq_false h0
    have h1 : 65535 < n := by omega
    have d1 : decide (65535 < n) = true := decide_eq_true h1
    go_enter Tryd.func45, Tryd.ntmps45
    go_wp2_with fail
    refine C.out.mono ?_
    rintro e w1 ⟨rfl, H⟩
    have HH := Lib.hid H
    clear H C
    go_wp2_with fail
    all_goals exact bodyPost_ret (v := .tuple #[]) (by simp [results, Tryd.results45, go_sem]) rfl ⟨rfl, HH.out⟩
set_option maxHeartbeats 4000000 in
theorem pbyte_yes {base B : Nat} {w : World} {v : Value} {l : List UInt8} {bad : Bool} (h : Wr base w B v l bad) (k : Nat) (hk : k ≤ 255) (hl : l.length ≤ 300000000) : Calls Tryd.prog 43 #[.pointer (some ⟨B, 0, none⟩), .int .i64 (k : Nat)] w (Put base w B v (l ++ [UInt8.ofNat k]) bad) := by
  obtain ⟨c0, c1, f0, f1⟩ := h.cells
  obtain ⟨a, c, rfl⟩ := h.is_slice
  have e1 : ((UInt8.ofNat k).toNat : Int) = (k : Nat) := by rw [UInt8.toNat_ofNat', Nat.mod_eq_of_lt (by omega)]
  have A1 : Hid (Rk.OwnK 5 1 base (w.alloc (.cells #[.int .u8 (k : Nat)] 5)) (.slice a l.length c) (cellsB l)) := h.2.2.2.below (box1 w _ _).1
  have A2 := Lib.hid (new_bytes w #[.int .u8 (k : Nat)] [UInt8.ofNat k] (by rw [List.map_singleton, e1]))
  have A3 : Hid (l.length + [UInt8.ofNat k].length ≤ 400000000) := by show _ ≤ _; rw [List.length_singleton]; omega
  have A4 : Hid (base ≤ (w.alloc (.cells #[.int .u8 (k : Nat)] 5)).heap.size) := Nat.le_trans h.2.1 (box1 w _ _).1.size
  have FN := Lib.hid (fun (w9 : World) (v9 : Value) g k9 o => h.more (w9 := w9) (v9 := v9) (m := l ++ [UInt8.ofNat k]) (box1 w #[.int .u8 (k : Nat)] 5).1 g k9 o)
  have d0 : decide ((k : Int) < 0) = false := decide_eq_false (by omega)
  have d1 : decide ((255 : Int) < (k : Int)) = false := decide_eq_false (by omega)
  have q1 : ¬ (k : Int) < 0 := by omega
  have q2 : ¬ (255 : Int) < (k : Int) := by omega
  have q3 : IntKind.u8.wrap (k : Int) = (k : Int) := IntWalk.u8_in _ (by omega)
  have HM : Hid ([UInt8.ofNat k].length = 1) := rfl
  clear h e1
  generalize [UInt8.ofNat k] = m at *
  go_enter Tryd.func43, Tryd.ntmps43
  go_wp2_with (at_builtin; refine wpList_append_b rfl _ _ 59 5 Tryd.underlying59 infoU8 rfl base _ l m 1 ⟨w.heap.size, 0, none⟩ 1 rfl rfl HM.out A1.out A2.out A3.out A4.out ?_)
  intro v9 w9 h5 g5 k5
  obtain ⟨u0, u1, FE⟩ := FN.out w9 v9 g5 (k5.imp_right fun n q e => by have := n q e; omega) h5
  obtain ⟨a9, c9, e9⟩ := h5.is_slice
  rw [cellsB_len] at e9
  generalize (l ++ m).length = n9 at e9
  subst e9
  clear h5 g5 k5 A1 A2 A3 A4 FN
  go_wp2_with fail
  all_goals exact bodyPost_ret (v := .tuple #[]) (by simp [results, Tryd.results43, go_sem]) rfl FE.out
set_option maxHeartbeats 4000000 in
theorem ppair_yes {base B : Nat} {w : World} {v : Value} {l : List UInt8} {bad : Bool} (h : Wr base w B v l bad) (n : Nat) (hn : n ≤ 65535) (hl : l.length ≤ 300000000) : Calls Tryd.prog 45 #[.pointer (some ⟨B, 0, none⟩), .int .i64 (n : Nat)] w (Put base w B v (l ++ pairL n) bad) := by
  obtain ⟨c0, c1, f0, f1⟩ := h.cells
  obtain ⟨a, c, rfl⟩ := h.is_slice
  obtain ⟨m, hm⟩ : ∃ m, m = pairL n := ⟨_, rfl⟩
  have e1 : ((UInt8.ofNat (n / 256)).toNat : Int) = (n : Int) / 256 := by rw [UInt8.toNat_ofNat', Nat.mod_eq_of_lt (by omega), Int.natCast_ediv]; rfl
  have e2 : ((UInt8.ofNat (n % 256)).toNat : Int) = (n : Int) % 256 := by rw [UInt8.toNat_ofNat', Nat.mod_eq_of_lt (by omega), Int.natCast_emod]; rfl
  have HM : Hid (m.length = 2) := by rw [hm]; rfl
  have A1 : Hid (Rk.OwnK 5 1 base (w.alloc (.cells #[.int .u8 ((n : Int) / 256), .int .u8 ((n : Int) % 256)] 5)) (.slice a l.length c) (cellsB l)) := h.2.2.2.below (box1 w _ _).1
  have A2 := Lib.hid (new_bytes w #[.int .u8 ((n : Int) / 256), .int .u8 ((n : Int) % 256)] m (by rw [hm]; unfold pairL; rw [List.map_cons, List.map_singleton, e1, e2]))
  have A3 : Hid (l.length + m.length ≤ 400000000) := by show _ ≤ _; rw [HM.out]; omega
  have A4 : Hid (base ≤ (w.alloc (.cells #[.int .u8 ((n : Int) / 256), .int .u8 ((n : Int) % 256)] 5)).heap.size) := Nat.le_trans h.2.1 (box1 w _ _).1.size
  have FN := Lib.hid (fun (w9 : World) (v9 : Value) g k9 o => h.more (w9 := w9) (v9 := v9) (m := l ++ m) (box1 w #[.int .u8 ((n : Int) / 256), .int .u8 ((n : Int) % 256)] 5).1 g k9 o)
  have d0 : decide ((n : Int) < 0) = false := decide_eq_false (by omega)
  have d1 : decide ((65535 : Int) < (n : Int)) = false := decide_eq_false (by omega)
  have d2 : ¬ (65535 : Int) < (n : Int) := by omega
  have d3 : ¬ (n : Int) < 0 := by omega
  have q3 : IntKind.u8.wrap ((n : Int) / 256) = (n : Int) / 256 := IntWalk.u8_in _ (by omega)
  have q4 : IntKind.u8.wrap (n : Int) = (n : Int) % 256 := by unfold IntKind.wrap; simp [IntKind.bits, IntKind.signed]
  rw [← hm]
  clear h hm e1 e2 hl
  go_enter Tryd.func45, Tryd.ntmps45
  go_wp2_with (at_builtin; refine wpList_append_b rfl _ _ 59 5 Tryd.underlying59 infoU8 rfl base _ l m 2 ⟨w.heap.size, 0, none⟩ 2 rfl rfl HM.out A1.out A2.out A3.out A4.out ?_)
  intro v9 w9 h5 g5 k5
  obtain ⟨u0, u1, FE⟩ := FN.out w9 v9 g5 (k5.imp_right fun n q e => by have := n q e; omega) h5
  obtain ⟨a9, c9, e9⟩ := h5.is_slice
  rw [cellsB_len] at e9
  generalize (l ++ m).length = n9 at e9
  subst e9
  clear h5 g5 k5 A1 A2 A3 A4 FN
  go_wp2_with fail
  all_goals exact bodyPost_ret (v := .tuple #[]) (by simp [results, Tryd.results45, go_sem]) rfl FE.out
theorem shift_byte (n : Int) {j : Nat} (hj : j < 8) : n / 2 ^ (56 - 8 * j) % 256 = ((byteN n j).toNat : Nat) := by
  rw [byte_nat]
  have h := u64_int n
  have e : 8 * (7 - j) = 56 - 8 * j := by omega
  rw [e]
  have hj' : j = 0 ∨ j = 1 ∨ j = 2 ∨ j = 3 ∨ j = 4 ∨ j = 5 ∨ j = 6 ∨ j = 7 := by omega
  generalize u64 n = u at *
  rcases hj' with rfl | rfl | rfl | rfl | rfl | rfl | rfl | rfl <;> simp <;> omega
set_option maxHeartbeats 8000000 in
theorem pnum_any {base B : Nat} {w : World} {v : Value} {l : List UInt8} {bad : Bool} (h : Wr base w B v l bad) (n : Int) (hl : l.length ≤ 300000000) : Calls Tryd.prog 44 #[.pointer (some ⟨B, 0, none⟩), .int .i64 n] w (Put base w B v (l ++ numL n) bad) := by
  have HW := Lib.hid h
  have HL : Hid (l.length ≤ 300000000) := hl
  clear h hl
  go_enter Tryd.func44, Tryd.ntmps44
  go_wp2_with fail
  go_loopg [4] 8 (fun g s_ wr => ∃ (j : Nat) (u : Value), j ≤ 8 ∧ 8 - j ≤ g ∧ s_ = .int .i64 (56 - 8 * (j : Int)) ∧ Hid (Wr base wr B u (l ++ (numL n).take j) bad) ∧ Hid (Stp w B v wr u))
  case atStart => exact ⟨0, v, by omega, by omega, rfl, by show Wr _ _ _ _ _ _; rw [List.take_zero, List.append_nil]; exact HW.out, Stp.refl _ _ _⟩
  case round =>
    obtain ⟨j, u, hj, hg, rfl, HR, HS⟩ := hrel
    by_cases hj8 : j < 8
    · have iw : (0 : Int) ≤ 56 - 8 * (j : Int) := by omega
      have i7 : 56 - 8 * (j : Int) ≤ 56 := by omega
      have iq : (56 - 8 * (j : Int)).toNat = 56 - 8 * j := by omega
      obtain ⟨x, hx⟩ : ∃ x : UInt8, x = byteN n j := ⟨_, rfl⟩
      have HV : n / 2 ^ (56 - 8 * j) % 256 = (x.toNat : Nat) := by rw [hx]; exact shift_byte n hj8
      have HV2 : IntKind.u8.wrap (n / 2 ^ (56 - 8 * j)) = (x.toNat : Nat) := by rw [← HV]; unfold IntKind.wrap; simp [IntKind.bits, IntKind.signed]
      obtain ⟨c0, c1, f0, f1⟩ := HR.out.cells
      obtain ⟨a, c, rfl⟩ := HR.out.is_slice
      obtain ⟨L, hL⟩ : ∃ L, L = l ++ (numL n).take j := ⟨_, rfl⟩
      obtain ⟨M, hM⟩ : ∃ M, M = l ++ (numL n).take (j + 1) := ⟨_, rfl⟩
      have hLM : M = L ++ [x] := by rw [hM, hL, num_next hj8, hx, List.append_assoc]
      have hLl : L.length ≤ 300000008 := by rw [hL, List.length_append]; have := List.length_take_le j (numL n); have := HL.out; omega
      rw [← hL] at HR HS c0
      have A1 : Hid (Rk.OwnK 5 1 base (wr.alloc (.cells #[.int .u8 (x.toNat : Nat)] 5)).drew (.slice a L.length c) (cellsB L)) := HR.out.2.2.2.below (Below.drew (box1 wr _ _).1)
      have A2 : Hid (∀ j (h : j < [x].length), (wr.alloc (.cells #[.int .u8 (x.toNat : Nat)] 5)).drew.cell? ((⟨wr.heap.size, 0, none⟩ : Addr).add j) = some (.int .u8 ([x][j].toNat : Nat))) := new_bytes wr #[.int .u8 (x.toNat : Nat)] [x] rfl
      have A3 : Hid (L.length + [x].length ≤ 400000000) := by show _ ≤ _; rw [List.length_singleton]; omega
      have A4 : Hid (base ≤ (wr.alloc (.cells #[.int .u8 (x.toNat : Nat)] 5)).drew.heap.size) := Nat.le_trans HR.out.2.1 (box1 wr _ _).1.size
      have c0' : (wr.alloc (.cells #[.int .u8 (x.toNat : Nat)] 5)).cell? ⟨B, 0, none⟩ = some (.slice a L.length c) := (HR.out.below (box1 wr _ _).1).cells.1
      obtain ⟨n9, hn9⟩ : ∃ n9, n9 = M.length := ⟨_, rfl⟩
      have FN : Hid (∀ (v9 : Value) (w9 : World), Rk.OwnK 5 1 base w9 v9 (cellsB (L ++ [x])) → ((wr.alloc (.cells #[.int .u8 (x.toNat : Nat)] 5)).drew).grownBy w9 (Value.slice a L.length c).ownBlock → (v9.ownBlock = (Value.slice a L.length c).ownBlock ∨ ∀ q, v9.ownBlock = some q → (wr.alloc (.cells #[.int .u8 (x.toNat : Nat)] 5)).drew.heap.size ≤ q) → (∃ a9 c9, v9 = .slice a9 n9 c9) ∧ w9.cell? ⟨B, 0, none⟩ = some (.slice a L.length c) ∧ w9.frozen? ⟨B, 0, none⟩ = false ∧ Hid (Put base w B v M bad (.returned (.tuple #[])) (w9.setCell ⟨B, 0, none⟩ v9))) := fun v9 w9 h5 g5 k5 => by
        rw [← hLM] at h5
        obtain ⟨u0, u1, FE⟩ := HR.out.more (Below.drew (box1 wr _ _).1) g5 (k5.imp_right fun n q e => Nat.le_trans (Below.drew (box1 wr #[.int .u8 (x.toNat : Nat)] 5).1).size (n q e)) h5
        obtain ⟨a9, c9, e9⟩ := h5.is_slice
        obtain ⟨-, v8, q1, q2⟩ := FE.out
        exact ⟨⟨a9, c9, by rw [hn9, ← cellsB_len]; exact e9⟩, u0, u1, rfl, v8, q1, HS.out.trans q2⟩
      have HM := Lib.hid hM
      clear HR hLM hL hM hx hn9 HV hLl
      go_wp2_with fail
      go_region_law (refine step_append_b rfl _ _ 59 5 Tryd.underlying59 infoU8 rfl base _ L [x] 1 ⟨wr.heap.size, 0, none⟩ 1 rfl rfl rfl A1.out A2.out A3.out A4.out ?_; intro v6 w6 h5 g5 k5; obtain ⟨⟨a6, c6, rfl⟩, u0, u1, FE⟩ := FN.out v6 w6 h5 g5 k5; clear h5 g5 k5)
      all_goals (
        obtain ⟨-, v8, q1, q2⟩ := FE.out
        have Q1 := Lib.hid q1
        have Q2 := Lib.hid q2
        clear q1 q2 FE FN A1 A2 A3 A4
        go_wp2_with fail
        go_roundg (8 - (j + 1)))
      all_goals first
        | (case measure => omega)
        | (case rel => exact ⟨j + 1, v8, by omega, Nat.le_refl _, by go_num, by show Wr _ _ _ _ _ _; rw [← HM.out]; exact Q1.out, Q2.out⟩)
    · obtain rfl : j = 8 := by omega
      have iw : ¬ (0 : Int) ≤ 56 - 8 * ((8 : Nat) : Int) := by omega
      have e8 : (numL n).take 8 = numL n := List.take_of_length_le (by rw [num_len]; exact Nat.le_refl _)
      rw [e8] at HR
      have FE : Hid (Put base w B v (l ++ numL n) bad (.returned (.tuple #[])) wr) := ⟨rfl, u, HR.out, HS.out⟩
      clear HR HS e8
      go_wp2_with fail
      all_goals exact bodyPost_ret (v := .tuple #[]) (by simp [results, Tryd.results44, go_sem]) rfl FE.out

theorem Put.then {base B : Nat} {w w1 w2 : World} {v v1 : Value} {l : List UInt8} {bad : Bool} {e : Ending} (s : Stp w B v w1 v1) (h : Put base w1 B v1 l bad e w2) : Put base w B v l bad e w2 := by
  obtain ⟨e1, v2, h1, h2⟩ := h
  exact ⟨e1, v2, h1, s.trans h2⟩

set_option maxHeartbeats 4000000 in
theorem written_no {base B : Nat} {w : World} {v : Value} {l : List UInt8} (h : Wr base w B v l true) : Calls Tryd.prog 46 #[.pointer (some ⟨B, 0, none⟩)] w fun e w' => e = .returned (.tuple #[.string (ByteArray.mk #[]), .bool false]) ∧ Below w.heap.size w w' := by
  obtain ⟨c0, c1, f0, f1⟩ := h.cells
  clear h
  go_enter Tryd.func46, Tryd.ntmps46
  go_wp2_with fail
  all_goals exact bodyPost_ret (v := .tuple #[.string (ByteArray.mk #[]), .bool false]) (by simp [results, Tryd.results46, go_sem]) rfl ⟨rfl, Below.refl _ _⟩
set_option maxHeartbeats 4000000 in
theorem written_yes {base B : Nat} {w : World} {v : Value} {l : List UInt8} (h : Wr base w B v l false) (hl : l ≠ []) : Calls Tryd.prog 46 #[.pointer (some ⟨B, 0, none⟩)] w fun e w' => e = .returned (.tuple #[.string (mkB l), .bool true]) ∧ Below w.heap.size w w' := by
  obtain ⟨c0, c1, f0, f1⟩ := h.cells
  obtain ⟨a, c, rfl⟩ := h.is_slice
  have hr := h.2.2.2.row
  have CV := row_text hr hl
  generalize mkB l = s at *
  generalize l.length = n at *
  clear h hr hl
  go_enter Tryd.func46, Tryd.ntmps46
  go_wp2_with fail
  all_goals exact bodyPost_ret (v := .tuple #[.string s, .bool true]) (by simp [results, Tryd.results46, go_sem]) rfl ⟨rfl, Below.refl _ _⟩
end Go.Proofs.YtffejfpbeimngaaDoor.Ldg
