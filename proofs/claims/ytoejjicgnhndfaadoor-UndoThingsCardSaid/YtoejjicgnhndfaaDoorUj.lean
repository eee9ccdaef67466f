/- Undo: the law's text of a thing: a deletion's text; an insertion panics, and the panic is caught. -/
import Derived.Test.YtoejjicgnhndfaaDoorUe
import Derived.Defers
import Derived.Recover
import Derived.Laws.Pointers
set_option linter.unusedVariables false
set_option linter.unusedSimpArgs false
set_option maxRecDepth 100000
namespace Go.Proofs.YtoejjicgnhndfaaDoor.Und
open Go.RowKit Go.Lib Go.Proofs.YtoejjicgnhndfaaDoor.Rk Go.Proofs.YtoejjicgnhndfaaDoor.Rig

theorem as_no1 : ∃ o : Obj, ∀ (d m l : Int) (w : World), (Instr.typeAssert (.iface 95 (.agg #[.int .i64 d, .int .i64 m, .int .i64 l])) 20 161 false).run Tryd.prog w = .halt (.panic (.iface 15 (.pointer (some ⟨w.heap.size, 0, none⟩)))) (w.alloc o) := by
  refine ⟨.cells #[typeHandle Tryd.prog 20, typeHandle Tryd.prog 95, typeHandle Tryd.prog 161, strVal ""] 255, fun d m l w => ?_⟩
  have h2 : Tryd.prog.underlying 15 = some (.pointer 255) := by kernel_rfl
  simp [Instr.typeAssert, run_underlying Tryd.underlying161, runtimePanic, elemOf, newVar, newRow, run_underlying h2, go_sem]
def Pan (w : World) (e : Ending) (w' : World) : Prop := (∃ pv, e = .panicked [{ v := .iface 15 pv, recovered := false }]) ∧ Below w.heap.size w w'
set_option maxHeartbeats 2000000 in
theorem took_put (d m l : Int) (w : World) : Calls Tryd.prog 124 #[putV d m l] w (Pan w) := by
  obtain ⟨o, ho⟩ := as_no1
  have h1 := ho d m l
  have FB : ∀ o1 o2, Below w.heap.size w ((w.alloc o1).alloc o2) := fun o1 o2 => ((Below.refl _ _).alloc (Nat.le_refl _) _).alloc (by simp) _
  clear ho
  unfold putV
  go_enter Tryd.func124, Tryd.ntmps124
  go_wp2_with fail
  exact ⟨rfl, ⟨_, rfl⟩, FB _ _⟩
set_option maxHeartbeats 2000000 in
theorem took_took (d m l : Int) (q : Option Addr) (w : World) : Calls Tryd.prog 124 #[tookV d m l q] w fun e w' => e = .returned (.agg #[.int .i64 d, .int .i64 m, .int .i64 l, .pointer q]) ∧ Below w.heap.size w w' := by
  have h1 := as_took1 (.agg #[.int .i64 d, .int .i64 m, .int .i64 l, .pointer q])
  have FB : ∀ o1, Below w.heap.size w (w.alloc o1) := fun o1 => (Below.refl _ _).alloc (Nat.le_refl _) _
  unfold tookV
  go_enter Tryd.func124, Tryd.ntmps124
  go_wp2_with fail
  exact bodyPost_ret (v := .agg #[.int .i64 d, .int .i64 m, .int .i64 l, .pointer q]) (by simp [results, Tryd.results124, go_sem]) rfl (And.intro rfl (FB _))
set_option maxHeartbeats 2000000 in
theorem utext_took (d m l : Int) (q : Option Addr) (w : World) : Calls Tryd.prog 100 #[tookV d m l q] w fun e w' => e = .returned (.pointer q) ∧ Below w.heap.size w w' := by
  have C := took_took d m l q
  have hf : ∀ w, Sem.run Tryd.prog (Instr.field 161 (.agg #[.int .i64 d, .int .i64 m, .int .i64 l, .pointer q]) 3) w = .ok (.pointer q) w := fun w => by kernel_rfl
  unfold tookV at *
  go_enter Tryd.func100, Tryd.ntmps100
  go_wp2_with fail
  refine (C _).mono ?_
  rintro e w1 ⟨rfl, b1⟩
  go_wp2_with fail
  go_ret
  exact ⟨rfl, b1⟩
set_option maxHeartbeats 2000000 in
theorem utext_put (d m l : Int) (w : World) : Calls Tryd.prog 100 #[putV d m l] w (Pan w) := by
  have C := took_put d m l
  unfold putV at *
  go_enter Tryd.func100, Tryd.ntmps100
  go_wp2_with fail
  refine (C _).mono ?_
  rintro e w1 ⟨⟨pv, rfl⟩, b1⟩
  go_wp2_with fail
  exact ⟨rfl, ⟨_, rfl⟩, b1⟩

theorem catch_pan (p : Addr) (x : Bool) (u : TypeId) (pv : Value) (older : List PanicEntry) (w : World) (hc : w.cell? p = some (.bool x)) (hz : w.frozen? p = false) :
    CallsD Tryd.prog 99 #[.pointer (some p)] (.panicking ({ v := .iface u pv, recovered := false } :: older)) w fun e u' w' =>
      e = .returned (.tuple #[]) ∧ u' = .panicking ({ v := .iface u pv, recovered := true } :: older) ∧ w' = w.setCell p (.bool true) := by
  refine callsD_of_wpS Tryd.func99 rfl fun c₀ cs hu => ?_
  apply wpS_seq
  apply wpS_region
  simp [wpOpsS, go_sem, recoverD, hu, Tryd.ntmps99, Exit.thenS]
  refine wpS_cond (t := true) (by simp [Act.eval, Array.replicate]) ?_
  simp only [if_true]
  apply wpS_region
  simp [wpOpsS, go_sem, hc, hz, bodyPostS, results, Tryd.results99]
theorem catch_idle (p : Addr) (w : World) :
    CallsD Tryd.prog 99 #[.pointer (some p)] .returning w fun e u' w' => e = .returned (.tuple #[]) ∧ u' = .returning ∧ w' = w := by
  refine callsD_of_wpS Tryd.func99 rfl fun c₀ cs hu => ?_
  apply wpS_seq
  apply wpS_region
  simp [wpOpsS, go_sem, recoverD, hu, Tryd.ntmps99, Exit.thenS]
  refine wpS_cond (t := false) (by simp [Act.eval, Array.replicate]) ?_
  simp only [Bool.false_eq_true, if_false]
  refine wpS_of_wp (wp_skip ?_)
  cases c₀
  simp_all [bodyPostS, results, Tryd.results99]
end Go.Proofs.YtoejjicgnhndfaaDoor.Und
