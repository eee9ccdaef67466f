/- Words: what gives up is caught. -/
import Derived.Test.YthegkookfpnbeaaJm
set_option linter.unusedVariables false
set_option linter.unusedSimpArgs false
set_option maxRecDepth 100000
namespace Go.Proofs.Ythegkookfpnbeaa.Wds
open Go.RowKit Go.Lib Go.Proofs.Ythegkookfpnbeaa.Bx Go.Proofs.Ythegkookfpnbeaa.Frm

theorem isU (v : Value) (w : World) : (Instr.typeAssert (.iface 130 v) 20 130 true).run Try.prog w = .ok (.tuple #[v, .bool true]) w := by
  simp [Instr.typeAssert, run_underlying Try.underlying130]
theorem noU (w : World) : (Instr.typeAssert .nilIface 20 130 true).run Try.prog w = .ok (.tuple #[.agg #[], .bool false]) w := by
  simp [Instr.typeAssert, run_underlying Try.underlying130, Try.zeroValue130]
set_option maxHeartbeats 2000000 in
theorem catch_call (older : List PanicEntry) (w : World) :
    CallsD Try.prog 56 #[] (.panicking ({ v := unr, recovered := false } :: older)) w fun e u' w' =>
      e = .returned (.tuple #[]) ∧ u' = .panicking ({ v := unr, recovered := true } :: older) ∧ Below w.heap.size w w' := by
  have yes := isU (.agg #[])
  unfold unr
  refine callsD_of_wpS Try.func56 rfl fun c₀ cs hu => ?_
  apply wpS_seq
  apply wpS_region
  simp [wpOpsS, go_sem, recoverD, hu, Try.ntmps56, Exit.thenS]
  refine wpS_of_wp ?_
  rw [show ((Array.replicate 16 undef).setIfInBounds 3 (Value.iface 130 (.agg #[]))).setIfInBounds 0 (Value.iface 130 (.agg #[])) = #[Value.iface 130 (.agg #[]), undef, undef, Value.iface 130 (.agg #[]), undef, undef, undef, undef, undef, undef, undef, undef, undef, undef, undef, undef] from rfl]
  generalize hQ : (fun (e : Exit) (a' : Act) (w' : World) => bodyPostS _ _ _ _ _ e a' _ w') = Q
  clear hu
  have FB := (box1 w #[] 130).1
  go_wp2_with fail
  subst hQ
  simp_all [bodyPostS, results, Try.results56]
set_option maxHeartbeats 2000000 in
theorem idle_call (w : World) :
    CallsD Try.prog 56 #[] .returning w fun e u' w' => e = .returned (.tuple #[]) ∧ u' = .returning ∧ Below w.heap.size w w' := by
  have no := noU
  refine callsD_of_wpS Try.func56 rfl fun c₀ cs hu => ?_
  apply wpS_seq
  apply wpS_region
  simp [wpOpsS, go_sem, recoverD, hu, Try.ntmps56, Exit.thenS]
  refine wpS_of_wp ?_
  rw [show ((Array.replicate 16 undef).setIfInBounds 3 Value.nilIface).setIfInBounds 0 Value.nilIface = #[Value.nilIface, undef, undef, Value.nilIface, undef, undef, undef, undef, undef, undef, undef, undef, undef, undef, undef, undef] from rfl]
  generalize hQ : (fun (e : Exit) (a' : Act) (w' : World) => bodyPostS _ _ _ _ _ e a' _ w') = Q
  have FB := (box1 w #[] 130).1
  have HU := Lib.hid hu
  clear hu
  go_wp2_with fail
  have hu := HU.out
  subst hQ
  simp_all [bodyPostS, results, Try.results56]
  rw [← hu]
set_option maxHeartbeats 2000000 in
theorem catch_answer (older : List PanicEntry) (w : World) :
    CallsD Try.prog 65 #[] (.panicking ({ v := unr, recovered := false } :: older)) w fun e u' w' =>
      e = .returned (.tuple #[]) ∧ u' = .panicking ({ v := unr, recovered := true } :: older) ∧ Below w.heap.size w w' := by
  have yes := isU (.agg #[])
  unfold unr
  refine callsD_of_wpS Try.func65 rfl fun c₀ cs hu => ?_
  apply wpS_seq
  apply wpS_region
  simp [wpOpsS, go_sem, recoverD, hu, Try.ntmps65, Exit.thenS]
  refine wpS_of_wp ?_
  rw [show ((Array.replicate 16 undef).setIfInBounds 3 (Value.iface 130 (.agg #[]))).setIfInBounds 0 (Value.iface 130 (.agg #[])) = #[Value.iface 130 (.agg #[]), undef, undef, Value.iface 130 (.agg #[]), undef, undef, undef, undef, undef, undef, undef, undef, undef, undef, undef, undef] from rfl]
  generalize hQ : (fun (e : Exit) (a' : Act) (w' : World) => bodyPostS _ _ _ _ _ e a' _ w') = Q
  clear hu
  have FB := (box1 w #[] 130).1
  go_wp2_with fail
  subst hQ
  simp_all [bodyPostS, results, Try.results65]
set_option maxHeartbeats 2000000 in
theorem idle_answer (w : World) :
    CallsD Try.prog 65 #[] .returning w fun e u' w' => e = .returned (.tuple #[]) ∧ u' = .returning ∧ Below w.heap.size w w' := by
  have no := noU
  refine callsD_of_wpS Try.func65 rfl fun c₀ cs hu => ?_
  apply wpS_seq
  apply wpS_region
  simp [wpOpsS, go_sem, recoverD, hu, Try.ntmps65, Exit.thenS]
  refine wpS_of_wp ?_
  rw [show ((Array.replicate 16 undef).setIfInBounds 3 Value.nilIface).setIfInBounds 0 Value.nilIface = #[Value.nilIface, undef, undef, Value.nilIface, undef, undef, undef, undef, undef, undef, undef, undef, undef, undef, undef, undef] from rfl]
  generalize hQ : (fun (e : Exit) (a' : Act) (w' : World) => bodyPostS _ _ _ _ _ e a' _ w') = Q
  have FB := (box1 w #[] 130).1
  have HU := Lib.hid hu
  clear hu
  go_wp2_with fail
  have hu := HU.out
  subst hQ
  simp_all [bodyPostS, results, Try.results65]
  rw [← hu]
end Go.Proofs.Ythegkookfpnbeaa.Wds
