/- Words: the program's reader: a call, and what gives up. -/
import Derived.Test.YtccaiippoephbaaGreatDoorVe
set_option linter.unusedVariables false
set_option linter.unusedSimpArgs false
set_option maxRecDepth 100000
namespace Go.Proofs.YtccaiippoephbaaGreatDoor.Wds
open Go.RowKit Go.Lib Go.Proofs.YtccaiippoephbaaGreatDoor.Bx Go.Proofs.YtccaiippoephbaaGreatDoor.Frm

theorem grown_new {W w1 : World} {row : Option Nat} {R j : Nat} (h : W.grownBy w1 row) (hR : W.heap.size ≤ R) (u : Value) : W.grownBy (w1.setCell ⟨R, j, none⟩ u) row := by
  have b0 : Below 0 w1 (w1.setCell ⟨R, j, none⟩ u) := (Below.refl 0 w1).setCell (p := ⟨R, j, none⟩) (Nat.zero_le _) u
  exact ⟨b0.os.trans h.os, b0.tape.trans h.tape, b0.output.trans h.output, Nat.le_trans h.size b0.size, fun k hk hn => (Below.heap_setCell _ _ _ _ (fun e => by have e : k = R := e; omega)).trans (h.block k hk hn)⟩
theorem at1_other {w : World} {B R j : Nat} {l : List UInt8} {u : Value} (h : At1 w B l) (hne : R ≠ B) : At1 (w.setCell ⟨R, j, none⟩ u) B l := (Below.heap_setCell _ _ _ _ (fun e => hne e.symm)).trans h
theorem at1_drew {w wd : World} {B : Nat} {l : List UInt8} (h : At1 w B l) (e : wd = w.drew) : At1 wd B l := by subst e; exact h
theorem grown_drew1 {W w wd : World} {row : Option Nat} (h : W.grownBy w row) (e : wd = w.drew) : W.grownBy wd row := by subst e; exact grown_below h (Below.drew (Below.refl _ _))
end Go.Proofs.YtccaiippoephbaaGreatDoor.Wds
/- Words: what gives up is caught. -/
set_option linter.unusedVariables false
set_option linter.unusedSimpArgs false
set_option maxRecDepth 100000
namespace Go.Proofs.YtccaiippoephbaaGreatDoor.Wds
open Go.RowKit Go.Lib Go.Proofs.YtccaiippoephbaaGreatDoor.Bx Go.Proofs.YtccaiippoephbaaGreatDoor.Frm

theorem isU (v : Value) (w : World) : (Instr.typeAssert (.iface 204 v) 20 204 true).run Tryz.prog w = .ok (.tuple #[v, .bool true]) w := by
  simp [Instr.typeAssert, run_underlying Tryz.underlying204]
theorem noU (w : World) : (Instr.typeAssert .nilIface 20 204 true).run Tryz.prog w = .ok (.tuple #[.agg #[], .bool false]) w := by
  simp [Instr.typeAssert, run_underlying Tryz.underlying204, Tryz.zeroValue204]
set_option maxHeartbeats 2000000 in
theorem catch_answer (older : List PanicEntry) (w : World) :
    CallsD Tryz.prog 130 #[] (.panicking ({ v := unr, recovered := false } :: older)) w fun e u' w' =>
      e = .returned (.tuple #[]) ∧ u' = .panicking ({ v := unr, recovered := true } :: older) ∧ Below w.heap.size w w' := by
  have yes := isU (.agg #[])
  unfold unr
  refine callsD_of_wpS Tryz.func130 rfl fun c₀ cs hu => ?_
  apply wpS_seq
  apply wpS_region
  simp [wpOpsS, go_sem, recoverD, hu, Tryz.ntmps130, Exit.thenS]
  refine wpS_of_wp ?_
  rw [show ((Array.replicate 16 undef).setIfInBounds 3 (Value.iface 204 (.agg #[]))).setIfInBounds 0 (Value.iface 204 (.agg #[])) = #[Value.iface 204 (.agg #[]), undef, undef, Value.iface 204 (.agg #[]), undef, undef, undef, undef, undef, undef, undef, undef, undef, undef, undef, undef] from rfl]
  generalize hQ : (fun (e : Exit) (a' : Act) (w' : World) => bodyPostS _ _ _ _ _ e a' _ w') = Q
  clear hu
  have FB := (box1 w #[] 204).1
  go_wp2_with fail
  subst hQ
  simp_all [bodyPostS, results, Tryz.results130]
set_option maxHeartbeats 2000000 in
theorem idle_answer (w : World) :
    CallsD Tryz.prog 130 #[] .returning w fun e u' w' => e = .returned (.tuple #[]) ∧ u' = .returning ∧ Below w.heap.size w w' := by
  have no := noU
  refine callsD_of_wpS Tryz.func130 rfl fun c₀ cs hu => ?_
  apply wpS_seq
  apply wpS_region
  simp [wpOpsS, go_sem, recoverD, hu, Tryz.ntmps130, Exit.thenS]
  refine wpS_of_wp ?_
  rw [show ((Array.replicate 16 undef).setIfInBounds 3 Value.nilIface).setIfInBounds 0 Value.nilIface = #[Value.nilIface, undef, undef, Value.nilIface, undef, undef, undef, undef, undef, undef, undef, undef, undef, undef, undef, undef] from rfl]
  generalize hQ : (fun (e : Exit) (a' : Act) (w' : World) => bodyPostS _ _ _ _ _ e a' _ w') = Q
  have FB := (box1 w #[] 204).1
  have HU := Lib.hid hu
  clear hu
  go_wp2_with fail
  have hu := HU.out
  subst hQ
  simp_all [bodyPostS, results, Tryz.results130]
  rw [← hu]
end Go.Proofs.YtccaiippoephbaaGreatDoor.Wds
/- Words: the program's Ask: a call of bytes. -/
set_option linter.unusedVariables false
set_option linter.unusedSimpArgs false
set_option maxRecDepth 100000
namespace Go.Proofs.YtccaiippoephbaaGreatDoor.Wds
open Go.RowKit Go.Lib Go.Proofs.YtccaiippoephbaaGreatDoor.Bx Go.Proofs.YtccaiippoephbaaGreatDoor.Frm

theorem empty_yes : (mkB []).toList.isEmpty = true := by rw [Lib.toList_data]; rfl
theorem empty_no {l : List UInt8} (h : l ≠ []) : (mkB l).toList.isEmpty = false := by
  rw [Lib.toList_data, mkB_data]
  cases l with
  | nil => exact absurd rfl h
  | cons x l => rfl
/-- All that was to be read was, and nothing is left. -/
def wholeB (r : Rd) : Bool := decide (r.bad = false ∧ r.s = [])
end Go.Proofs.YtccaiippoephbaaGreatDoor.Wds
/- Words: the program's Ask. -/
set_option linter.unusedVariables false
set_option linter.unusedSimpArgs false
set_option maxRecDepth 100000
namespace Go.Proofs.YtccaiippoephbaaGreatDoor.Wds
open Go.RowKit Go.Lib Go.Proofs.YtccaiippoephbaaGreatDoor.Bx Go.Proofs.YtccaiippoephbaaGreatDoor.Frm

set_option maxHeartbeats 2000000 in
theorem of_rd (s : ByteArray) (w : World) : Calls Tryz.prog 107 #[.string s] w fun e w' => e = .returned (.agg #[.string s]) ∧ Below w.heap.size w w' := by
  obtain ⟨B0, P0, L0⟩ := box1 w #[.string s] 177
  have d0 := Bx.one_cell P0
  have FE := Lib.hid B0
  clear P0 B0 L0
  go_enter Tryz.func107, Tryz.ntmps107
  go_wp2_with fail
  exact bodyPost_ret (v := .agg #[.string s]) (by simp [results, Tryz.results107, go_sem, d0, Tryz.isAgg177, Tryz.sizeOf177]) rfl ⟨rfl, FE.out⟩
end Go.Proofs.YtccaiippoephbaaGreatDoor.Wds
