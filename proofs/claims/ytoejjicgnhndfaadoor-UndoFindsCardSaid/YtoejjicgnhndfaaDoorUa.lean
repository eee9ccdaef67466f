/- Undo: what a thing has in common (numbers), Mark, Label. -/
import Derived.Test.YtoejjicgnhndfaaDoorRk
import Derived.WalkKit
set_option linter.unusedVariables false
set_option maxRecDepth 100000
namespace Go.Proofs.YtoejjicgnhndfaaDoor.Und
open Go.RowKit Go.Proofs.YtoejjicgnhndfaaDoor.Rk

def putV (d m l : Int) : Value := .iface 95 (.agg #[.int .i64 d, .int .i64 m, .int .i64 l])
def tookV (d m l : Int) (q : Option Addr) : Value := .iface 161 (.agg #[.int .i64 d, .int .i64 m, .int .i64 l, .pointer q])

theorem as_put (v : Value) (w : World) : (Instr.typeAssert (.iface 95 v) 20 95 true).run Tryd.prog w = .ok (.tuple #[v, .bool true]) w := by
  simp [Instr.typeAssert, run_underlying Tryd.underlying95]
theorem as_took (v : Value) (w : World) : (Instr.typeAssert (.iface 161 v) 20 161 true).run Tryd.prog w = .ok (.tuple #[v, .bool true]) w := by
  simp [Instr.typeAssert, run_underlying Tryd.underlying161]
theorem as_took1 (v : Value) (w : World) : (Instr.typeAssert (.iface 161 v) 20 161 false).run Tryd.prog w = .ok v w := by
  simp [Instr.typeAssert, run_underlying Tryd.underlying161]
theorem no_put (t : TypeId) (v : Value) (w : World) (h : t ≠ 95) : (Instr.typeAssert (.iface t v) 20 95 true).run Tryd.prog w = .ok (.tuple #[.agg #[.int .i64 0, .int .i64 0, .int .i64 0], .bool false]) w := by
  simp [Instr.typeAssert, run_underlying Tryd.underlying95, h, Tryd.zeroValue95]
theorem no_took (t : TypeId) (v : Value) (w : World) (h : t ≠ 161) : (Instr.typeAssert (.iface t v) 20 161 true).run Tryd.prog w = .ok (.tuple #[.agg #[.int .i64 0, .int .i64 0, .int .i64 0, .pointer none], .bool false]) w := by
  simp [Instr.typeAssert, run_underlying Tryd.underlying161, h, Tryd.zeroValue161]
theorem nil_put (w : World) : (Instr.typeAssert .nilIface 20 95 true).run Tryd.prog w = .ok (.tuple #[.agg #[.int .i64 0, .int .i64 0, .int .i64 0], .bool false]) w := by
  simp [Instr.typeAssert, run_underlying Tryd.underlying95, Tryd.zeroValue95]
theorem nil_took (w : World) : (Instr.typeAssert .nilIface 20 161 true).run Tryd.prog w = .ok (.tuple #[.agg #[.int .i64 0, .int .i64 0, .int .i64 0, .pointer none], .bool false]) w := by
  simp [Instr.typeAssert, run_underlying Tryd.underlying161, Tryd.zeroValue161]

set_option maxHeartbeats 2000000 in
theorem numbers_put (d m l : Int) (w : World) : Calls Tryd.prog 96 #[putV d m l] w fun e w' => e = .returned (.tuple #[.agg #[.int .i64 d, .int .i64 m, .int .i64 l], .bool true]) ∧ Below w.heap.size w w' := by
  unfold putV
  have F2 : ∀ o1 o2, Below w.heap.size w ((w.alloc o1).alloc o2) := fun o1 o2 => ((Below.refl _ _).alloc (Nat.le_refl _) _).alloc (by simp) _
  have F3 : ∀ o1 o2 o3, Below w.heap.size w (((w.alloc o1).alloc o2).alloc o3) := fun o1 o2 o3 => (F2 o1 o2).alloc (by simp; omega) _
  have h1 := as_put (.agg #[.int .i64 d, .int .i64 m, .int .i64 l])
  go_enter Tryd.func96, Tryd.ntmps96
  go_wp2_with fail
  exact bodyPost_ret (v := .tuple #[.agg #[.int .i64 d, .int .i64 m, .int .i64 l], .bool true]) (by simp [results, Tryd.results96, go_sem]) rfl (And.intro rfl (by first | exact F2 _ _ | exact F3 _ _ _))
set_option maxHeartbeats 2000000 in
theorem numbers_took (d m l : Int) (q : Option Addr) (w : World) : Calls Tryd.prog 96 #[tookV d m l q] w fun e w' => e = .returned (.tuple #[.agg #[.int .i64 d, .int .i64 m, .int .i64 l], .bool true]) ∧ Below w.heap.size w w' := by
  unfold tookV
  have F2 : ∀ o1 o2, Below w.heap.size w ((w.alloc o1).alloc o2) := fun o1 o2 => ((Below.refl _ _).alloc (Nat.le_refl _) _).alloc (by simp) _
  have F3 : ∀ o1 o2 o3, Below w.heap.size w (((w.alloc o1).alloc o2).alloc o3) := fun o1 o2 o3 => (F2 o1 o2).alloc (by simp; omega) _
  have h1 := fun w => no_put 161 (.agg #[.int .i64 d, .int .i64 m, .int .i64 l, .pointer q]) w (by decide)
  have h2 := as_took (.agg #[.int .i64 d, .int .i64 m, .int .i64 l, .pointer q])
  go_enter Tryd.func96, Tryd.ntmps96
  go_wp2_with fail
  exact bodyPost_ret (v := .tuple #[.agg #[.int .i64 d, .int .i64 m, .int .i64 l], .bool true]) (by simp [results, Tryd.results96, go_sem]) rfl (And.intro rfl (by first | exact F2 _ _ | exact F3 _ _ _))
set_option maxHeartbeats 2000000 in
theorem numbers_other (t : TypeId) (v : Value) (n1 : t ≠ 95) (n2 : t ≠ 161) (w : World) : Calls Tryd.prog 96 #[.iface t v] w fun e w' => e = .returned (.tuple #[.agg #[.int .i64 0, .int .i64 0, .int .i64 0], .bool false]) ∧ Below w.heap.size w w' := by
  have F2 : ∀ o1 o2, Below w.heap.size w ((w.alloc o1).alloc o2) := fun o1 o2 => ((Below.refl _ _).alloc (Nat.le_refl _) _).alloc (by simp) _
  have F3 : ∀ o1 o2 o3, Below w.heap.size w (((w.alloc o1).alloc o2).alloc o3) := fun o1 o2 o3 => (F2 o1 o2).alloc (by simp; omega) _
  have h1 := fun w => no_put t v w n1
  have h2 := fun w => no_took t v w n2
  go_enter Tryd.func96, Tryd.ntmps96
  go_wp2_with fail
  exact bodyPost_ret (v := .tuple #[.agg #[.int .i64 0, .int .i64 0, .int .i64 0], .bool false]) (by simp [results, Tryd.results96, go_sem]) rfl (And.intro rfl (by first | exact F2 _ _ | exact F3 _ _ _))
set_option maxHeartbeats 2000000 in
theorem numbers_nil (w : World) : Calls Tryd.prog 96 #[.nilIface] w fun e w' => e = .returned (.tuple #[.agg #[.int .i64 0, .int .i64 0, .int .i64 0], .bool false]) ∧ Below w.heap.size w w' := by
  have F2 : ∀ o1 o2, Below w.heap.size w ((w.alloc o1).alloc o2) := fun o1 o2 => ((Below.refl _ _).alloc (Nat.le_refl _) _).alloc (by simp) _
  have F3 : ∀ o1 o2 o3, Below w.heap.size w (((w.alloc o1).alloc o2).alloc o3) := fun o1 o2 o3 => (F2 o1 o2).alloc (by simp; omega) _
  have h1 := nil_put
  have h2 := nil_took
  go_enter Tryd.func96, Tryd.ntmps96
  go_wp2_with fail
  exact bodyPost_ret (v := .tuple #[.agg #[.int .i64 0, .int .i64 0, .int .i64 0], .bool false]) (by simp [results, Tryd.results96, go_sem]) rfl (And.intro rfl (by first | exact F2 _ _ | exact F3 _ _ _))

/-- What a value has in common with things: three numbers; is it one? -/
structure Nums (v : Value) (d m l : Int) (ok : Bool) : Prop where
  c : ∀ w : World, Calls Tryd.prog 96 #[v] w fun e w' => e = .returned (.tuple #[.agg #[.int .i64 d, .int .i64 m, .int .i64 l], .bool ok]) ∧ Below w.heap.size w w'
theorem Nums.put (d m l : Int) : Nums (putV d m l) d m l true := ⟨numbers_put d m l⟩
theorem Nums.took (d m l : Int) (q : Option Addr) : Nums (tookV d m l q) d m l true := ⟨numbers_took d m l q⟩
theorem Nums.other (t : TypeId) (v : Value) (n1 : t ≠ 95) (n2 : t ≠ 161) : Nums (.iface t v) 0 0 0 false := ⟨numbers_other t v n1 n2⟩
theorem Nums.nil_ : Nums .nilIface 0 0 0 false := ⟨numbers_nil⟩
set_option maxHeartbeats 2000000 in
theorem mark_any {v : Value} {d m l : Int} {ok : Bool} (w : World) (h : Nums v d m l ok) : Calls Tryd.prog 63 #[v] w fun e w' => e = .returned (.tuple #[.int .i64 m, .bool ok]) ∧ Below w.heap.size w w' := by
  go_enter Tryd.func63, Tryd.ntmps63
  go_wp2_with fail
  refine (h.c _).mono ?_
  rintro e w1 ⟨rfl, b1⟩
  go_wp2_with fail
  go_ret2
  exact ⟨rfl, b1.alloc b1.size _⟩
set_option maxHeartbeats 2000000 in
theorem label_any {v : Value} {d m l : Int} {ok : Bool} (w : World) (h : Nums v d m l ok) : Calls Tryd.prog 64 #[v] w fun e w' => e = .returned (.int .i64 l) ∧ Below w.heap.size w w' := by
  go_enter Tryd.func64, Tryd.ntmps64
  go_wp2_with fail
  refine (h.c _).mono ?_
  rintro e w1 ⟨rfl, b1⟩
  go_wp2_with fail
  go_ret
  exact ⟨rfl, b1.alloc b1.size _⟩
end Go.Proofs.YtoejjicgnhndfaaDoor.Und
