/- Words: the program's Op and Call. -/
import Derived.Test.YthegkookfpnbeaaJe
import Derived.Test.YthegkookfpnbeaaGq
set_option linter.unusedVariables false
set_option linter.unusedSimpArgs false
set_option maxRecDepth 100000
namespace Go.Proofs.Ythegkookfpnbeaa.Wds
open Go.RowKit Go.Lib Go.Proofs.Ythegkookfpnbeaa.Bx Go.Proofs.Ythegkookfpnbeaa.Frm

def None_ (v : Value) : Prop := v = .nilIface ∨ ∃ t x, v = .iface t x ∧ t ∉ asks
theorem none1 {v : Value} (hv : None_ v) (w : World) : (Instr.typeAssert v 20 64 true).run Try.prog w = .ok (.tuple #[.agg #[.string (ByteArray.mk #[]), .string (ByteArray.mk #[])], .bool false]) w := by
  rcases hv with rfl | ⟨t, x, rfl, ht⟩
  · simp [Instr.typeAssert, run_underlying Try.underlying64, Try.zeroValue64]
  · exact no1 t x w (fun e => ht (by rw [e]; decide))
theorem none2 {v : Value} (hv : None_ v) (w : World) : (Instr.typeAssert v 20 28 true).run Try.prog w = .ok (.tuple #[.agg #[], .bool false]) w := by
  rcases hv with rfl | ⟨t, x, rfl, ht⟩
  · simp [Instr.typeAssert, run_underlying Try.underlying28, Try.zeroValue28]
  · exact no2 t x w (fun e => ht (by rw [e]; decide))
theorem none3 {v : Value} (hv : None_ v) (w : World) : (Instr.typeAssert v 20 66 true).run Try.prog w = .ok (.tuple #[.agg #[.int .i64 0], .bool false]) w := by
  rcases hv with rfl | ⟨t, x, rfl, ht⟩
  · simp [Instr.typeAssert, run_underlying Try.underlying66, Try.zeroValue66]
  · exact no3 t x w (fun e => ht (by rw [e]; decide))
theorem none4 {v : Value} (hv : None_ v) (w : World) : (Instr.typeAssert v 20 68 true).run Try.prog w = .ok (.tuple #[.agg #[.int .i64 0, .int .i64 0, .int .i64 0, .string (ByteArray.mk #[])], .bool false]) w := by
  rcases hv with rfl | ⟨t, x, rfl, ht⟩
  · simp [Instr.typeAssert, run_underlying Try.underlying68, Try.zeroValue68]
  · exact no4 t x w (fun e => ht (by rw [e]; decide))
theorem none5 {v : Value} (hv : None_ v) (w : World) : (Instr.typeAssert v 20 70 true).run Try.prog w = .ok (.tuple #[.agg #[.int .i64 0, .int .i64 0, .int .i64 0, .int .i64 0], .bool false]) w := by
  rcases hv with rfl | ⟨t, x, rfl, ht⟩
  · simp [Instr.typeAssert, run_underlying Try.underlying70, Try.zeroValue70]
  · exact no5 t x w (fun e => ht (by rw [e]; decide))
theorem none6 {v : Value} (hv : None_ v) (w : World) : (Instr.typeAssert v 20 72 true).run Try.prog w = .ok (.tuple #[.agg #[.int .i64 0, .int .i64 0, .int .i64 0, .int .i64 0, .int .i64 0], .bool false]) w := by
  rcases hv with rfl | ⟨t, x, rfl, ht⟩
  · simp [Instr.typeAssert, run_underlying Try.underlying72, Try.zeroValue72]
  · exact no6 t x w (fun e => ht (by rw [e]; decide))
theorem none7 {v : Value} (hv : None_ v) (w : World) : (Instr.typeAssert v 20 74 true).run Try.prog w = .ok (.tuple #[.agg #[.int .i64 0, .int .i64 0, .int .i64 0, .int .i64 0, .int .i64 0, .int .i64 0], .bool false]) w := by
  rcases hv with rfl | ⟨t, x, rfl, ht⟩
  · simp [Instr.typeAssert, run_underlying Try.underlying74, Try.zeroValue74]
  · exact no7 t x w (fun e => ht (by rw [e]; decide))
theorem none8 {v : Value} (hv : None_ v) (w : World) : (Instr.typeAssert v 20 76 true).run Try.prog w = .ok (.tuple #[.agg #[.int .i64 0], .bool false]) w := by
  rcases hv with rfl | ⟨t, x, rfl, ht⟩
  · simp [Instr.typeAssert, run_underlying Try.underlying76, Try.zeroValue76]
  · exact no8 t x w (fun e => ht (by rw [e]; decide))
theorem none9 {v : Value} (hv : None_ v) (w : World) : (Instr.typeAssert v 20 77 true).run Try.prog w = .ok (.tuple #[.agg #[.int .i64 0], .bool false]) w := by
  rcases hv with rfl | ⟨t, x, rfl, ht⟩
  · simp [Instr.typeAssert, run_underlying Try.underlying77, Try.zeroValue77]
  · exact no9 t x w (fun e => ht (by rw [e]; decide))
theorem none10 {v : Value} (hv : None_ v) (w : World) : (Instr.typeAssert v 20 78 true).run Try.prog w = .ok (.tuple #[.agg #[.int .i64 0], .bool false]) w := by
  rcases hv with rfl | ⟨t, x, rfl, ht⟩
  · simp [Instr.typeAssert, run_underlying Try.underlying78, Try.zeroValue78]
  · exact no10 t x w (fun e => ht (by rw [e]; decide))
theorem none11 {v : Value} (hv : None_ v) (w : World) : (Instr.typeAssert v 20 80 true).run Try.prog w = .ok (.tuple #[.agg #[.int .i64 0, .int .i64 0, .int .i64 0], .bool false]) w := by
  rcases hv with rfl | ⟨t, x, rfl, ht⟩
  · simp [Instr.typeAssert, run_underlying Try.underlying80, Try.zeroValue80]
  · exact no11 t x w (fun e => ht (by rw [e]; decide))
theorem none12 {v : Value} (hv : None_ v) (w : World) : (Instr.typeAssert v 20 82 true).run Try.prog w = .ok (.tuple #[.agg #[.int .i64 0, .int .i64 0], .bool false]) w := by
  rcases hv with rfl | ⟨t, x, rfl, ht⟩
  · simp [Instr.typeAssert, run_underlying Try.underlying82, Try.zeroValue82]
  · exact no12 t x w (fun e => ht (by rw [e]; decide))
theorem none13 {v : Value} (hv : None_ v) (w : World) : (Instr.typeAssert v 20 84 true).run Try.prog w = .ok (.tuple #[.agg #[.int .i64 0, .int .i64 0, .int .i64 0], .bool false]) w := by
  rcases hv with rfl | ⟨t, x, rfl, ht⟩
  · simp [Instr.typeAssert, run_underlying Try.underlying84, Try.zeroValue84]
  · exact no13 t x w (fun e => ht (by rw [e]; decide))
theorem none14 {v : Value} (hv : None_ v) (w : World) : (Instr.typeAssert v 20 86 true).run Try.prog w = .ok (.tuple #[.agg #[.int .i64 0, .int .i64 0, .bool false, .bool false], .bool false]) w := by
  rcases hv with rfl | ⟨t, x, rfl, ht⟩
  · simp [Instr.typeAssert, run_underlying Try.underlying86, Try.zeroValue86]
  · exact no14 t x w (fun e => ht (by rw [e]; decide))
theorem none15 {v : Value} (hv : None_ v) (w : World) : (Instr.typeAssert v 20 88 true).run Try.prog w = .ok (.tuple #[.agg #[.int .i64 0, .int .i64 0], .bool false]) w := by
  rcases hv with rfl | ⟨t, x, rfl, ht⟩
  · simp [Instr.typeAssert, run_underlying Try.underlying88, Try.zeroValue88]
  · exact no15 t x w (fun e => ht (by rw [e]; decide))
set_option maxHeartbeats 4000000 in
theorem pask_none {base B : Nat} {w : World} {v : Value} {l : List UInt8} {bad : Bool} (h : Wr base w B v l bad) (u : Value) (hv : None_ u) : Calls Try.prog 26 #[.pointer (some ⟨B, 0, none⟩), u] w (Put base w B v l true) := by
  obtain ⟨c0, c1, f0, f1⟩ := h.cells
  have FN := Lib.hid h.spoil
  have n1 := fun w => none1 hv w
  have n2 := fun w => none2 hv w
  have n3 := fun w => none3 hv w
  have n4 := fun w => none4 hv w
  have n5 := fun w => none5 hv w
  have n6 := fun w => none6 hv w
  have n7 := fun w => none7 hv w
  have n8 := fun w => none8 hv w
  have n9 := fun w => none9 hv w
  have n10 := fun w => none10 hv w
  have n11 := fun w => none11 hv w
  have n12 := fun w => none12 hv w
  have n13 := fun w => none13 hv w
  have n14 := fun w => none14 hv w
  have n15 := fun w => none15 hv w
  have C := Lib.hid (spoil_any h)
  clear h hv
  go_enter Try.func26, Try.ntmps26
  go_wp2_with fail
  refine C.out.mono ?_
  rintro e w1 ⟨rfl, H⟩
  have HH := Lib.hid H
  clear H C
  go_wp2_with fail
  all_goals exact bodyPost_ret (v := .tuple #[]) (by simp [results, Try.results26, go_sem]) rfl ⟨rfl, HH.out⟩
set_option maxHeartbeats 4000000 in
theorem kind1 (p : Pl) (w : World) : Calls Try.prog 32 #[.iface 64 (.agg #[.string (mkB p.text), .string (mkB p.more)])] w fun e w' => e = .returned (.int .u8 1) ∧ Below w.heap.size w w' := by
  have yes := is1 (.agg #[.string (mkB p.text), .string (mkB p.more)])
  go_enter Try.func32, Try.ntmps32
  go_wp2_with fail
  go_ret
  exact ⟨rfl, Below.refl _ _⟩
set_option maxHeartbeats 4000000 in
theorem kind2 (p : Pl) (w : World) : Calls Try.prog 32 #[.iface 28 (.agg #[])] w fun e w' => e = .returned (.int .u8 2) ∧ Below w.heap.size w w' := by
  have yes := is2 (.agg #[])
  have n1 := fun w => no1 28 (.agg #[]) w (by decide)
  go_enter Try.func32, Try.ntmps32
  go_wp2_with fail
  go_ret
  exact ⟨rfl, Below.refl _ _⟩
set_option maxHeartbeats 4000000 in
theorem kind3 (p : Pl) (w : World) : Calls Try.prog 32 #[.iface 66 (.agg #[.int .i64 (nn p 0)])] w fun e w' => e = .returned (.int .u8 3) ∧ Below w.heap.size w w' := by
  have yes := is3 (.agg #[.int .i64 (nn p 0)])
  have n1 := fun w => no1 66 (.agg #[.int .i64 (nn p 0)]) w (by decide)
  have n2 := fun w => no2 66 (.agg #[.int .i64 (nn p 0)]) w (by decide)
  go_enter Try.func32, Try.ntmps32
  go_wp2_with fail
  go_ret
  exact ⟨rfl, Below.refl _ _⟩
set_option maxHeartbeats 4000000 in
theorem kind4 (p : Pl) (w : World) : Calls Try.prog 32 #[.iface 68 (.agg #[.int .i64 (nn p 0), .int .i64 (nn p 1), .int .i64 (nn p 2), .string (mkB p.text)])] w fun e w' => e = .returned (.int .u8 4) ∧ Below w.heap.size w w' := by
  have yes := is4 (.agg #[.int .i64 (nn p 0), .int .i64 (nn p 1), .int .i64 (nn p 2), .string (mkB p.text)])
  have n1 := fun w => no1 68 (.agg #[.int .i64 (nn p 0), .int .i64 (nn p 1), .int .i64 (nn p 2), .string (mkB p.text)]) w (by decide)
  have n2 := fun w => no2 68 (.agg #[.int .i64 (nn p 0), .int .i64 (nn p 1), .int .i64 (nn p 2), .string (mkB p.text)]) w (by decide)
  have n3 := fun w => no3 68 (.agg #[.int .i64 (nn p 0), .int .i64 (nn p 1), .int .i64 (nn p 2), .string (mkB p.text)]) w (by decide)
  go_enter Try.func32, Try.ntmps32
  go_wp2_with fail
  go_ret
  exact ⟨rfl, Below.refl _ _⟩
set_option maxHeartbeats 4000000 in
theorem kind5 (p : Pl) (w : World) : Calls Try.prog 32 #[.iface 70 (.agg #[.int .i64 (nn p 0), .int .i64 (nn p 1), .int .i64 (nn p 2), .int .i64 (nn p 3)])] w fun e w' => e = .returned (.int .u8 5) ∧ Below w.heap.size w w' := by
  have yes := is5 (.agg #[.int .i64 (nn p 0), .int .i64 (nn p 1), .int .i64 (nn p 2), .int .i64 (nn p 3)])
  have n1 := fun w => no1 70 (.agg #[.int .i64 (nn p 0), .int .i64 (nn p 1), .int .i64 (nn p 2), .int .i64 (nn p 3)]) w (by decide)
  have n2 := fun w => no2 70 (.agg #[.int .i64 (nn p 0), .int .i64 (nn p 1), .int .i64 (nn p 2), .int .i64 (nn p 3)]) w (by decide)
  have n3 := fun w => no3 70 (.agg #[.int .i64 (nn p 0), .int .i64 (nn p 1), .int .i64 (nn p 2), .int .i64 (nn p 3)]) w (by decide)
  have n4 := fun w => no4 70 (.agg #[.int .i64 (nn p 0), .int .i64 (nn p 1), .int .i64 (nn p 2), .int .i64 (nn p 3)]) w (by decide)
  go_enter Try.func32, Try.ntmps32
  go_wp2_with fail
  go_ret
  exact ⟨rfl, Below.refl _ _⟩
set_option maxHeartbeats 4000000 in
theorem kind6 (p : Pl) (w : World) : Calls Try.prog 32 #[.iface 72 (.agg #[.int .i64 (nn p 0), .int .i64 (nn p 1), .int .i64 (nn p 2), .int .i64 (nn p 3), .int .i64 (nn p 4)])] w fun e w' => e = .returned (.int .u8 6) ∧ Below w.heap.size w w' := by
  have yes := is6 (.agg #[.int .i64 (nn p 0), .int .i64 (nn p 1), .int .i64 (nn p 2), .int .i64 (nn p 3), .int .i64 (nn p 4)])
  have n1 := fun w => no1 72 (.agg #[.int .i64 (nn p 0), .int .i64 (nn p 1), .int .i64 (nn p 2), .int .i64 (nn p 3), .int .i64 (nn p 4)]) w (by decide)
  have n2 := fun w => no2 72 (.agg #[.int .i64 (nn p 0), .int .i64 (nn p 1), .int .i64 (nn p 2), .int .i64 (nn p 3), .int .i64 (nn p 4)]) w (by decide)
  have n3 := fun w => no3 72 (.agg #[.int .i64 (nn p 0), .int .i64 (nn p 1), .int .i64 (nn p 2), .int .i64 (nn p 3), .int .i64 (nn p 4)]) w (by decide)
  have n4 := fun w => no4 72 (.agg #[.int .i64 (nn p 0), .int .i64 (nn p 1), .int .i64 (nn p 2), .int .i64 (nn p 3), .int .i64 (nn p 4)]) w (by decide)
  have n5 := fun w => no5 72 (.agg #[.int .i64 (nn p 0), .int .i64 (nn p 1), .int .i64 (nn p 2), .int .i64 (nn p 3), .int .i64 (nn p 4)]) w (by decide)
  go_enter Try.func32, Try.ntmps32
  go_wp2_with fail
  go_ret
  exact ⟨rfl, Below.refl _ _⟩
set_option maxHeartbeats 4000000 in
theorem kind7 (p : Pl) (w : World) : Calls Try.prog 32 #[.iface 74 (.agg #[.int .i64 (nn p 0), .int .i64 (nn p 1), .int .i64 (nn p 2), .int .i64 (nn p 3), .int .i64 (nn p 4), .int .i64 (nn p 5)])] w fun e w' => e = .returned (.int .u8 7) ∧ Below w.heap.size w w' := by
  have yes := is7 (.agg #[.int .i64 (nn p 0), .int .i64 (nn p 1), .int .i64 (nn p 2), .int .i64 (nn p 3), .int .i64 (nn p 4), .int .i64 (nn p 5)])
  have n1 := fun w => no1 74 (.agg #[.int .i64 (nn p 0), .int .i64 (nn p 1), .int .i64 (nn p 2), .int .i64 (nn p 3), .int .i64 (nn p 4), .int .i64 (nn p 5)]) w (by decide)
  have n2 := fun w => no2 74 (.agg #[.int .i64 (nn p 0), .int .i64 (nn p 1), .int .i64 (nn p 2), .int .i64 (nn p 3), .int .i64 (nn p 4), .int .i64 (nn p 5)]) w (by decide)
  have n3 := fun w => no3 74 (.agg #[.int .i64 (nn p 0), .int .i64 (nn p 1), .int .i64 (nn p 2), .int .i64 (nn p 3), .int .i64 (nn p 4), .int .i64 (nn p 5)]) w (by decide)
  have n4 := fun w => no4 74 (.agg #[.int .i64 (nn p 0), .int .i64 (nn p 1), .int .i64 (nn p 2), .int .i64 (nn p 3), .int .i64 (nn p 4), .int .i64 (nn p 5)]) w (by decide)
  have n5 := fun w => no5 74 (.agg #[.int .i64 (nn p 0), .int .i64 (nn p 1), .int .i64 (nn p 2), .int .i64 (nn p 3), .int .i64 (nn p 4), .int .i64 (nn p 5)]) w (by decide)
  have n6 := fun w => no6 74 (.agg #[.int .i64 (nn p 0), .int .i64 (nn p 1), .int .i64 (nn p 2), .int .i64 (nn p 3), .int .i64 (nn p 4), .int .i64 (nn p 5)]) w (by decide)
  go_enter Try.func32, Try.ntmps32
  go_wp2_with fail
  go_ret
  exact ⟨rfl, Below.refl _ _⟩
set_option maxHeartbeats 4000000 in
theorem kind8 (p : Pl) (w : World) : Calls Try.prog 32 #[.iface 76 (.agg #[.int .i64 (nn p 0)])] w fun e w' => e = .returned (.int .u8 8) ∧ Below w.heap.size w w' := by
  have yes := is8 (.agg #[.int .i64 (nn p 0)])
  have n1 := fun w => no1 76 (.agg #[.int .i64 (nn p 0)]) w (by decide)
  have n2 := fun w => no2 76 (.agg #[.int .i64 (nn p 0)]) w (by decide)
  have n3 := fun w => no3 76 (.agg #[.int .i64 (nn p 0)]) w (by decide)
  have n4 := fun w => no4 76 (.agg #[.int .i64 (nn p 0)]) w (by decide)
  have n5 := fun w => no5 76 (.agg #[.int .i64 (nn p 0)]) w (by decide)
  have n6 := fun w => no6 76 (.agg #[.int .i64 (nn p 0)]) w (by decide)
  have n7 := fun w => no7 76 (.agg #[.int .i64 (nn p 0)]) w (by decide)
  go_enter Try.func32, Try.ntmps32
  go_wp2_with fail
  go_ret
  exact ⟨rfl, Below.refl _ _⟩
set_option maxHeartbeats 4000000 in
theorem kind9 (p : Pl) (w : World) : Calls Try.prog 32 #[.iface 77 (.agg #[.int .i64 (nn p 0)])] w fun e w' => e = .returned (.int .u8 9) ∧ Below w.heap.size w w' := by
  have yes := is9 (.agg #[.int .i64 (nn p 0)])
  have n1 := fun w => no1 77 (.agg #[.int .i64 (nn p 0)]) w (by decide)
  have n2 := fun w => no2 77 (.agg #[.int .i64 (nn p 0)]) w (by decide)
  have n3 := fun w => no3 77 (.agg #[.int .i64 (nn p 0)]) w (by decide)
  have n4 := fun w => no4 77 (.agg #[.int .i64 (nn p 0)]) w (by decide)
  have n5 := fun w => no5 77 (.agg #[.int .i64 (nn p 0)]) w (by decide)
  have n6 := fun w => no6 77 (.agg #[.int .i64 (nn p 0)]) w (by decide)
  have n7 := fun w => no7 77 (.agg #[.int .i64 (nn p 0)]) w (by decide)
  have n8 := fun w => no8 77 (.agg #[.int .i64 (nn p 0)]) w (by decide)
  go_enter Try.func32, Try.ntmps32
  go_wp2_with fail
  go_ret
  exact ⟨rfl, Below.refl _ _⟩
set_option maxHeartbeats 4000000 in
theorem kind10 (p : Pl) (w : World) : Calls Try.prog 32 #[.iface 78 (.agg #[.int .i64 (nn p 0)])] w fun e w' => e = .returned (.int .u8 10) ∧ Below w.heap.size w w' := by
  have yes := is10 (.agg #[.int .i64 (nn p 0)])
  have n1 := fun w => no1 78 (.agg #[.int .i64 (nn p 0)]) w (by decide)
  have n2 := fun w => no2 78 (.agg #[.int .i64 (nn p 0)]) w (by decide)
  have n3 := fun w => no3 78 (.agg #[.int .i64 (nn p 0)]) w (by decide)
  have n4 := fun w => no4 78 (.agg #[.int .i64 (nn p 0)]) w (by decide)
  have n5 := fun w => no5 78 (.agg #[.int .i64 (nn p 0)]) w (by decide)
  have n6 := fun w => no6 78 (.agg #[.int .i64 (nn p 0)]) w (by decide)
  have n7 := fun w => no7 78 (.agg #[.int .i64 (nn p 0)]) w (by decide)
  have n8 := fun w => no8 78 (.agg #[.int .i64 (nn p 0)]) w (by decide)
  have n9 := fun w => no9 78 (.agg #[.int .i64 (nn p 0)]) w (by decide)
  go_enter Try.func32, Try.ntmps32
  go_wp2_with fail
  go_ret
  exact ⟨rfl, Below.refl _ _⟩
set_option maxHeartbeats 4000000 in
theorem kind11 (p : Pl) (w : World) : Calls Try.prog 32 #[.iface 80 (.agg #[.int .i64 (nn p 0), .int .i64 (nn p 1), .int .i64 (nn p 2)])] w fun e w' => e = .returned (.int .u8 11) ∧ Below w.heap.size w w' := by
  have yes := is11 (.agg #[.int .i64 (nn p 0), .int .i64 (nn p 1), .int .i64 (nn p 2)])
  have n1 := fun w => no1 80 (.agg #[.int .i64 (nn p 0), .int .i64 (nn p 1), .int .i64 (nn p 2)]) w (by decide)
  have n2 := fun w => no2 80 (.agg #[.int .i64 (nn p 0), .int .i64 (nn p 1), .int .i64 (nn p 2)]) w (by decide)
  have n3 := fun w => no3 80 (.agg #[.int .i64 (nn p 0), .int .i64 (nn p 1), .int .i64 (nn p 2)]) w (by decide)
  have n4 := fun w => no4 80 (.agg #[.int .i64 (nn p 0), .int .i64 (nn p 1), .int .i64 (nn p 2)]) w (by decide)
  have n5 := fun w => no5 80 (.agg #[.int .i64 (nn p 0), .int .i64 (nn p 1), .int .i64 (nn p 2)]) w (by decide)
  have n6 := fun w => no6 80 (.agg #[.int .i64 (nn p 0), .int .i64 (nn p 1), .int .i64 (nn p 2)]) w (by decide)
  have n7 := fun w => no7 80 (.agg #[.int .i64 (nn p 0), .int .i64 (nn p 1), .int .i64 (nn p 2)]) w (by decide)
  have n8 := fun w => no8 80 (.agg #[.int .i64 (nn p 0), .int .i64 (nn p 1), .int .i64 (nn p 2)]) w (by decide)
  have n9 := fun w => no9 80 (.agg #[.int .i64 (nn p 0), .int .i64 (nn p 1), .int .i64 (nn p 2)]) w (by decide)
  have n10 := fun w => no10 80 (.agg #[.int .i64 (nn p 0), .int .i64 (nn p 1), .int .i64 (nn p 2)]) w (by decide)
  go_enter Try.func32, Try.ntmps32
  go_wp2_with fail
  go_ret
  exact ⟨rfl, Below.refl _ _⟩
set_option maxHeartbeats 4000000 in
theorem kind12 (p : Pl) (w : World) : Calls Try.prog 32 #[.iface 82 (.agg #[.int .i64 (nn p 0), .int .i64 (nn p 1)])] w fun e w' => e = .returned (.int .u8 12) ∧ Below w.heap.size w w' := by
  have yes := is12 (.agg #[.int .i64 (nn p 0), .int .i64 (nn p 1)])
  have n1 := fun w => no1 82 (.agg #[.int .i64 (nn p 0), .int .i64 (nn p 1)]) w (by decide)
  have n2 := fun w => no2 82 (.agg #[.int .i64 (nn p 0), .int .i64 (nn p 1)]) w (by decide)
  have n3 := fun w => no3 82 (.agg #[.int .i64 (nn p 0), .int .i64 (nn p 1)]) w (by decide)
  have n4 := fun w => no4 82 (.agg #[.int .i64 (nn p 0), .int .i64 (nn p 1)]) w (by decide)
  have n5 := fun w => no5 82 (.agg #[.int .i64 (nn p 0), .int .i64 (nn p 1)]) w (by decide)
  have n6 := fun w => no6 82 (.agg #[.int .i64 (nn p 0), .int .i64 (nn p 1)]) w (by decide)
  have n7 := fun w => no7 82 (.agg #[.int .i64 (nn p 0), .int .i64 (nn p 1)]) w (by decide)
  have n8 := fun w => no8 82 (.agg #[.int .i64 (nn p 0), .int .i64 (nn p 1)]) w (by decide)
  have n9 := fun w => no9 82 (.agg #[.int .i64 (nn p 0), .int .i64 (nn p 1)]) w (by decide)
  have n10 := fun w => no10 82 (.agg #[.int .i64 (nn p 0), .int .i64 (nn p 1)]) w (by decide)
  have n11 := fun w => no11 82 (.agg #[.int .i64 (nn p 0), .int .i64 (nn p 1)]) w (by decide)
  go_enter Try.func32, Try.ntmps32
  go_wp2_with fail
  go_ret
  exact ⟨rfl, Below.refl _ _⟩
set_option maxHeartbeats 4000000 in
theorem kind13 (p : Pl) (w : World) : Calls Try.prog 32 #[.iface 84 (.agg #[.int .i64 (nn p 0), .int .i64 (nn p 1), .int .i64 (nn p 2)])] w fun e w' => e = .returned (.int .u8 13) ∧ Below w.heap.size w w' := by
  have yes := is13 (.agg #[.int .i64 (nn p 0), .int .i64 (nn p 1), .int .i64 (nn p 2)])
  have n1 := fun w => no1 84 (.agg #[.int .i64 (nn p 0), .int .i64 (nn p 1), .int .i64 (nn p 2)]) w (by decide)
  have n2 := fun w => no2 84 (.agg #[.int .i64 (nn p 0), .int .i64 (nn p 1), .int .i64 (nn p 2)]) w (by decide)
  have n3 := fun w => no3 84 (.agg #[.int .i64 (nn p 0), .int .i64 (nn p 1), .int .i64 (nn p 2)]) w (by decide)
  have n4 := fun w => no4 84 (.agg #[.int .i64 (nn p 0), .int .i64 (nn p 1), .int .i64 (nn p 2)]) w (by decide)
  have n5 := fun w => no5 84 (.agg #[.int .i64 (nn p 0), .int .i64 (nn p 1), .int .i64 (nn p 2)]) w (by decide)
  have n6 := fun w => no6 84 (.agg #[.int .i64 (nn p 0), .int .i64 (nn p 1), .int .i64 (nn p 2)]) w (by decide)
  have n7 := fun w => no7 84 (.agg #[.int .i64 (nn p 0), .int .i64 (nn p 1), .int .i64 (nn p 2)]) w (by decide)
  have n8 := fun w => no8 84 (.agg #[.int .i64 (nn p 0), .int .i64 (nn p 1), .int .i64 (nn p 2)]) w (by decide)
  have n9 := fun w => no9 84 (.agg #[.int .i64 (nn p 0), .int .i64 (nn p 1), .int .i64 (nn p 2)]) w (by decide)
  have n10 := fun w => no10 84 (.agg #[.int .i64 (nn p 0), .int .i64 (nn p 1), .int .i64 (nn p 2)]) w (by decide)
  have n11 := fun w => no11 84 (.agg #[.int .i64 (nn p 0), .int .i64 (nn p 1), .int .i64 (nn p 2)]) w (by decide)
  have n12 := fun w => no12 84 (.agg #[.int .i64 (nn p 0), .int .i64 (nn p 1), .int .i64 (nn p 2)]) w (by decide)
  go_enter Try.func32, Try.ntmps32
  go_wp2_with fail
  go_ret
  exact ⟨rfl, Below.refl _ _⟩
set_option maxHeartbeats 4000000 in
theorem kind14 (p : Pl) (w : World) : Calls Try.prog 32 #[.iface 86 (.agg #[.int .i64 (nn p 0), .int .i64 (nn p 1), .bool p.a, .bool p.b])] w fun e w' => e = .returned (.int .u8 14) ∧ Below w.heap.size w w' := by
  have yes := is14 (.agg #[.int .i64 (nn p 0), .int .i64 (nn p 1), .bool p.a, .bool p.b])
  have n1 := fun w => no1 86 (.agg #[.int .i64 (nn p 0), .int .i64 (nn p 1), .bool p.a, .bool p.b]) w (by decide)
  have n2 := fun w => no2 86 (.agg #[.int .i64 (nn p 0), .int .i64 (nn p 1), .bool p.a, .bool p.b]) w (by decide)
  have n3 := fun w => no3 86 (.agg #[.int .i64 (nn p 0), .int .i64 (nn p 1), .bool p.a, .bool p.b]) w (by decide)
  have n4 := fun w => no4 86 (.agg #[.int .i64 (nn p 0), .int .i64 (nn p 1), .bool p.a, .bool p.b]) w (by decide)
  have n5 := fun w => no5 86 (.agg #[.int .i64 (nn p 0), .int .i64 (nn p 1), .bool p.a, .bool p.b]) w (by decide)
  have n6 := fun w => no6 86 (.agg #[.int .i64 (nn p 0), .int .i64 (nn p 1), .bool p.a, .bool p.b]) w (by decide)
  have n7 := fun w => no7 86 (.agg #[.int .i64 (nn p 0), .int .i64 (nn p 1), .bool p.a, .bool p.b]) w (by decide)
  have n8 := fun w => no8 86 (.agg #[.int .i64 (nn p 0), .int .i64 (nn p 1), .bool p.a, .bool p.b]) w (by decide)
  have n9 := fun w => no9 86 (.agg #[.int .i64 (nn p 0), .int .i64 (nn p 1), .bool p.a, .bool p.b]) w (by decide)
  have n10 := fun w => no10 86 (.agg #[.int .i64 (nn p 0), .int .i64 (nn p 1), .bool p.a, .bool p.b]) w (by decide)
  have n11 := fun w => no11 86 (.agg #[.int .i64 (nn p 0), .int .i64 (nn p 1), .bool p.a, .bool p.b]) w (by decide)
  have n12 := fun w => no12 86 (.agg #[.int .i64 (nn p 0), .int .i64 (nn p 1), .bool p.a, .bool p.b]) w (by decide)
  have n13 := fun w => no13 86 (.agg #[.int .i64 (nn p 0), .int .i64 (nn p 1), .bool p.a, .bool p.b]) w (by decide)
  go_enter Try.func32, Try.ntmps32
  go_wp2_with fail
  go_ret
  exact ⟨rfl, Below.refl _ _⟩
set_option maxHeartbeats 4000000 in
theorem kind15 (p : Pl) (w : World) : Calls Try.prog 32 #[.iface 88 (.agg #[.int .i64 (nn p 0), .int .i64 (nn p 1)])] w fun e w' => e = .returned (.int .u8 15) ∧ Below w.heap.size w w' := by
  have yes := is15 (.agg #[.int .i64 (nn p 0), .int .i64 (nn p 1)])
  have n1 := fun w => no1 88 (.agg #[.int .i64 (nn p 0), .int .i64 (nn p 1)]) w (by decide)
  have n2 := fun w => no2 88 (.agg #[.int .i64 (nn p 0), .int .i64 (nn p 1)]) w (by decide)
  have n3 := fun w => no3 88 (.agg #[.int .i64 (nn p 0), .int .i64 (nn p 1)]) w (by decide)
  have n4 := fun w => no4 88 (.agg #[.int .i64 (nn p 0), .int .i64 (nn p 1)]) w (by decide)
  have n5 := fun w => no5 88 (.agg #[.int .i64 (nn p 0), .int .i64 (nn p 1)]) w (by decide)
  have n6 := fun w => no6 88 (.agg #[.int .i64 (nn p 0), .int .i64 (nn p 1)]) w (by decide)
  have n7 := fun w => no7 88 (.agg #[.int .i64 (nn p 0), .int .i64 (nn p 1)]) w (by decide)
  have n8 := fun w => no8 88 (.agg #[.int .i64 (nn p 0), .int .i64 (nn p 1)]) w (by decide)
  have n9 := fun w => no9 88 (.agg #[.int .i64 (nn p 0), .int .i64 (nn p 1)]) w (by decide)
  have n10 := fun w => no10 88 (.agg #[.int .i64 (nn p 0), .int .i64 (nn p 1)]) w (by decide)
  have n11 := fun w => no11 88 (.agg #[.int .i64 (nn p 0), .int .i64 (nn p 1)]) w (by decide)
  have n12 := fun w => no12 88 (.agg #[.int .i64 (nn p 0), .int .i64 (nn p 1)]) w (by decide)
  have n13 := fun w => no13 88 (.agg #[.int .i64 (nn p 0), .int .i64 (nn p 1)]) w (by decide)
  have n14 := fun w => no14 88 (.agg #[.int .i64 (nn p 0), .int .i64 (nn p 1)]) w (by decide)
  go_enter Try.func32, Try.ntmps32
  go_wp2_with fail
  go_ret
  exact ⟨rfl, Below.refl _ _⟩
set_option maxHeartbeats 4000000 in
theorem kind_none {u : Value} (hv : None_ u) (w : World) : Calls Try.prog 32 #[u] w fun e w' => e = .returned (.int .u8 0) ∧ Below w.heap.size w w' := by
  have n1 := fun w => none1 hv w
  have n2 := fun w => none2 hv w
  have n3 := fun w => none3 hv w
  have n4 := fun w => none4 hv w
  have n5 := fun w => none5 hv w
  have n6 := fun w => none6 hv w
  have n7 := fun w => none7 hv w
  have n8 := fun w => none8 hv w
  have n9 := fun w => none9 hv w
  have n10 := fun w => none10 hv w
  have n11 := fun w => none11 hv w
  have n12 := fun w => none12 hv w
  have n13 := fun w => none13 hv w
  have n14 := fun w => none14 hv w
  have n15 := fun w => none15 hv w
  clear hv
  go_enter Try.func32, Try.ntmps32
  go_wp2_with fail
  go_ret
  exact ⟨rfl, Below.refl _ _⟩
theorem kind_any (p : Pl) (v : Value) (w : World) (h : AskIs p v) : Calls Try.prog 32 #[v] w fun e w' => e = .returned (.int .u8 (opE p)) ∧ Below w.heap.size w w' := by
  by_cases ho : 1 ≤ p.op ∧ p.op ≤ 15
  · rw [h.1 ho]
    have hk : ∃ k : Nat, p.op = (k : Int) ∧ 1 ≤ k ∧ k ≤ 15 := ⟨p.op.toNat, by omega, by omega, by omega⟩
    have eo : opE p = p.op := by unfold opE; rw [if_neg (by omega)]
    rw [eo]
    obtain ⟨k, hk, k1, k15⟩ := hk
    match k, k1, k15 with
    | 1, _, _ =>
      have e : askV p = .iface 64 (.agg #[.string (mkB p.text), .string (mkB p.more)]) := by unfold askV; rw [hk]; rfl
      rw [e, hk]
      exact kind1 p w
    | 2, _, _ =>
      have e : askV p = .iface 28 (.agg #[]) := by unfold askV; rw [hk]; rfl
      rw [e, hk]
      exact kind2 p w
    | 3, _, _ =>
      have e : askV p = .iface 66 (.agg #[.int .i64 (nn p 0)]) := by unfold askV; rw [hk]; rfl
      rw [e, hk]
      exact kind3 p w
    | 4, _, _ =>
      have e : askV p = .iface 68 (.agg #[.int .i64 (nn p 0), .int .i64 (nn p 1), .int .i64 (nn p 2), .string (mkB p.text)]) := by unfold askV; rw [hk]; rfl
      rw [e, hk]
      exact kind4 p w
    | 5, _, _ =>
      have e : askV p = .iface 70 (.agg #[.int .i64 (nn p 0), .int .i64 (nn p 1), .int .i64 (nn p 2), .int .i64 (nn p 3)]) := by unfold askV; rw [hk]; rfl
      rw [e, hk]
      exact kind5 p w
    | 6, _, _ =>
      have e : askV p = .iface 72 (.agg #[.int .i64 (nn p 0), .int .i64 (nn p 1), .int .i64 (nn p 2), .int .i64 (nn p 3), .int .i64 (nn p 4)]) := by unfold askV; rw [hk]; rfl
      rw [e, hk]
      exact kind6 p w
    | 7, _, _ =>
      have e : askV p = .iface 74 (.agg #[.int .i64 (nn p 0), .int .i64 (nn p 1), .int .i64 (nn p 2), .int .i64 (nn p 3), .int .i64 (nn p 4), .int .i64 (nn p 5)]) := by unfold askV; rw [hk]; rfl
      rw [e, hk]
      exact kind7 p w
    | 8, _, _ =>
      have e : askV p = .iface 76 (.agg #[.int .i64 (nn p 0)]) := by unfold askV; rw [hk]; rfl
      rw [e, hk]
      exact kind8 p w
    | 9, _, _ =>
      have e : askV p = .iface 77 (.agg #[.int .i64 (nn p 0)]) := by unfold askV; rw [hk]; rfl
      rw [e, hk]
      exact kind9 p w
    | 10, _, _ =>
      have e : askV p = .iface 78 (.agg #[.int .i64 (nn p 0)]) := by unfold askV; rw [hk]; rfl
      rw [e, hk]
      exact kind10 p w
    | 11, _, _ =>
      have e : askV p = .iface 80 (.agg #[.int .i64 (nn p 0), .int .i64 (nn p 1), .int .i64 (nn p 2)]) := by unfold askV; rw [hk]; rfl
      rw [e, hk]
      exact kind11 p w
    | 12, _, _ =>
      have e : askV p = .iface 82 (.agg #[.int .i64 (nn p 0), .int .i64 (nn p 1)]) := by unfold askV; rw [hk]; rfl
      rw [e, hk]
      exact kind12 p w
    | 13, _, _ =>
      have e : askV p = .iface 84 (.agg #[.int .i64 (nn p 0), .int .i64 (nn p 1), .int .i64 (nn p 2)]) := by unfold askV; rw [hk]; rfl
      rw [e, hk]
      exact kind13 p w
    | 14, _, _ =>
      have e : askV p = .iface 86 (.agg #[.int .i64 (nn p 0), .int .i64 (nn p 1), .bool p.a, .bool p.b]) := by unfold askV; rw [hk]; rfl
      rw [e, hk]
      exact kind14 p w
    | 15, _, _ =>
      have e : askV p = .iface 88 (.agg #[.int .i64 (nn p 0), .int .i64 (nn p 1)]) := by unfold askV; rw [hk]; rfl
      rw [e, hk]
      exact kind15 p w
  · have eo : opE p = 0 := by unfold opE; rw [if_pos (by omega)]
    rw [eo]
    exact kind_none (h.2 ho) w
set_option maxHeartbeats 4000000 in
theorem op_ok : OpOk := fun p v w h => by
  have C := Lib.hid (kind_any p v w h)
  have h0 : 0 ≤ opE p ∧ opE p ≤ 15 := by unfold opE; split <;> omega
  have q1 : IntKind.i64.wrap (opE p) = opE p := IntWalk.i64_in _ (by omega)
  clear h
  generalize opE p = k at *
  go_enter Try.func11, Try.ntmps11
  go_wp2_with fail
  refine C.out.mono ?_
  rintro e w1 ⟨rfl, b1⟩
  go_wp2_with fail
  go_ret
  exact ⟨rfl, b1⟩
/-- What is asked, put. -/
def askW (p : Pl) (q : List UInt8 × Bool) : List UInt8 × Bool :=
  if opE p = 0 then (q.1, true)
  else if p.op = 1 then tw p.more (tw p.text q)
  else if p.op = 4 then tw p.text (q.1 ++ (p.n.take (countN p.op)).flatMap numL, q.2)
  else if p.op = 14 then (q.1 ++ (p.n.take (countN p.op)).flatMap numL ++ flagL p.a ++ flagL p.b, q.2)
  else (q.1 ++ (p.n.take (countN p.op)).flatMap numL, q.2)
theorem pask_any {base B : Nat} {w : World} {v : Value} {l : List UInt8} {bad : Bool} (h : Wr base w B v l bad) (p : Pl) (u : Value) (hu : AskIs p u) (h6 : p.n.length = 6) (hl : l.length ≤ 200000000) (ht : p.text.length ≤ 9223372036854775807 ∧ p.more.length ≤ 9223372036854775807) : Calls Try.prog 26 #[.pointer (some ⟨B, 0, none⟩), u] w (Put base w B v (askW p (l, bad)).1 (askW p (l, bad)).2) := by
  by_cases ho : 1 ≤ p.op ∧ p.op ≤ 15
  · rw [hu.1 ho]
    have hk : ∃ k : Nat, p.op = (k : Int) ∧ 1 ≤ k ∧ k ≤ 15 := ⟨p.op.toNat, by omega, by omega, by omega⟩
    have eo : ¬ opE p = 0 := by unfold opE; rw [if_neg (by omega)]; omega
    obtain ⟨k, hk, k1, k15⟩ := hk
    unfold askW
    rw [if_neg eo]
    match k, k1, k15 with
    | 1, _, _ =>
      have e : askV p = .iface 64 (.agg #[.string (mkB p.text), .string (mkB p.more)]) := by unfold askV; rw [hk]; rfl
      have c := pask1 h p hl ht
      have hk2 : p.op = 1 := hk
      rw [e]
      rw [if_pos hk2]
      exact c
    | 2, _, _ =>
      have e : askV p = .iface 28 (.agg #[]) := by unfold askV; rw [hk]; rfl
      have c := pask2 h p hl ht
      have hk2 : p.op = 2 := hk
      rw [e]
      have en : (p.n.take (countN p.op)) = [] := by
        rw [hk]
        obtain ⟨op, tok, seq, n, text, more, a, b⟩ := p
        obtain ⟨x0, x1, x2, x3, x4, x5, rfl⟩ := six (show n.length = 6 from h6)
        rfl
      rw [en, if_neg (by rw [hk2]; decide), if_neg (by rw [hk2]; decide), if_neg (by rw [hk2]; decide)]
      exact (by simpa using c)
    | 3, _, _ =>
      have e : askV p = .iface 66 (.agg #[.int .i64 (nn p 0)]) := by unfold askV; rw [hk]; rfl
      have c := pask3 h p hl ht
      have hk2 : p.op = 3 := hk
      rw [e]
      have en : (p.n.take (countN p.op)) = [nn p 0] := by
        rw [hk]
        obtain ⟨op, tok, seq, n, text, more, a, b⟩ := p
        obtain ⟨x0, x1, x2, x3, x4, x5, rfl⟩ := six (show n.length = 6 from h6)
        rfl
      rw [en, if_neg (by rw [hk2]; decide), if_neg (by rw [hk2]; decide), if_neg (by rw [hk2]; decide)]
      exact c
    | 4, _, _ =>
      have e : askV p = .iface 68 (.agg #[.int .i64 (nn p 0), .int .i64 (nn p 1), .int .i64 (nn p 2), .string (mkB p.text)]) := by unfold askV; rw [hk]; rfl
      have c := pask4 h p hl ht
      have hk2 : p.op = 4 := hk
      rw [e]
      have en : (p.n.take (countN p.op)) = [nn p 0, nn p 1, nn p 2] := by
        rw [hk]
        obtain ⟨op, tok, seq, n, text, more, a, b⟩ := p
        obtain ⟨x0, x1, x2, x3, x4, x5, rfl⟩ := six (show n.length = 6 from h6)
        rfl
      rw [en, if_neg (by rw [hk2]; decide), if_pos hk2]
      exact c
    | 5, _, _ =>
      have e : askV p = .iface 70 (.agg #[.int .i64 (nn p 0), .int .i64 (nn p 1), .int .i64 (nn p 2), .int .i64 (nn p 3)]) := by unfold askV; rw [hk]; rfl
      have c := pask5 h p hl ht
      have hk2 : p.op = 5 := hk
      rw [e]
      have en : (p.n.take (countN p.op)) = [nn p 0, nn p 1, nn p 2, nn p 3] := by
        rw [hk]
        obtain ⟨op, tok, seq, n, text, more, a, b⟩ := p
        obtain ⟨x0, x1, x2, x3, x4, x5, rfl⟩ := six (show n.length = 6 from h6)
        rfl
      rw [en, if_neg (by rw [hk2]; decide), if_neg (by rw [hk2]; decide), if_neg (by rw [hk2]; decide)]
      exact c
    | 6, _, _ =>
      have e : askV p = .iface 72 (.agg #[.int .i64 (nn p 0), .int .i64 (nn p 1), .int .i64 (nn p 2), .int .i64 (nn p 3), .int .i64 (nn p 4)]) := by unfold askV; rw [hk]; rfl
      have c := pask6 h p hl ht
      have hk2 : p.op = 6 := hk
      rw [e]
      have en : (p.n.take (countN p.op)) = [nn p 0, nn p 1, nn p 2, nn p 3, nn p 4] := by
        rw [hk]
        obtain ⟨op, tok, seq, n, text, more, a, b⟩ := p
        obtain ⟨x0, x1, x2, x3, x4, x5, rfl⟩ := six (show n.length = 6 from h6)
        rfl
      rw [en, if_neg (by rw [hk2]; decide), if_neg (by rw [hk2]; decide), if_neg (by rw [hk2]; decide)]
      exact c
    | 7, _, _ =>
      have e : askV p = .iface 74 (.agg #[.int .i64 (nn p 0), .int .i64 (nn p 1), .int .i64 (nn p 2), .int .i64 (nn p 3), .int .i64 (nn p 4), .int .i64 (nn p 5)]) := by unfold askV; rw [hk]; rfl
      have c := pask7 h p hl ht
      have hk2 : p.op = 7 := hk
      rw [e]
      have en : (p.n.take (countN p.op)) = [nn p 0, nn p 1, nn p 2, nn p 3, nn p 4, nn p 5] := by
        rw [hk]
        obtain ⟨op, tok, seq, n, text, more, a, b⟩ := p
        obtain ⟨x0, x1, x2, x3, x4, x5, rfl⟩ := six (show n.length = 6 from h6)
        rfl
      rw [en, if_neg (by rw [hk2]; decide), if_neg (by rw [hk2]; decide), if_neg (by rw [hk2]; decide)]
      exact c
    | 8, _, _ =>
      have e : askV p = .iface 76 (.agg #[.int .i64 (nn p 0)]) := by unfold askV; rw [hk]; rfl
      have c := pask8 h p hl ht
      have hk2 : p.op = 8 := hk
      rw [e]
      have en : (p.n.take (countN p.op)) = [nn p 0] := by
        rw [hk]
        obtain ⟨op, tok, seq, n, text, more, a, b⟩ := p
        obtain ⟨x0, x1, x2, x3, x4, x5, rfl⟩ := six (show n.length = 6 from h6)
        rfl
      rw [en, if_neg (by rw [hk2]; decide), if_neg (by rw [hk2]; decide), if_neg (by rw [hk2]; decide)]
      exact c
    | 9, _, _ =>
      have e : askV p = .iface 77 (.agg #[.int .i64 (nn p 0)]) := by unfold askV; rw [hk]; rfl
      have c := pask9 h p hl ht
      have hk2 : p.op = 9 := hk
      rw [e]
      have en : (p.n.take (countN p.op)) = [nn p 0] := by
        rw [hk]
        obtain ⟨op, tok, seq, n, text, more, a, b⟩ := p
        obtain ⟨x0, x1, x2, x3, x4, x5, rfl⟩ := six (show n.length = 6 from h6)
        rfl
      rw [en, if_neg (by rw [hk2]; decide), if_neg (by rw [hk2]; decide), if_neg (by rw [hk2]; decide)]
      exact c
    | 10, _, _ =>
      have e : askV p = .iface 78 (.agg #[.int .i64 (nn p 0)]) := by unfold askV; rw [hk]; rfl
      have c := pask10 h p hl ht
      have hk2 : p.op = 10 := hk
      rw [e]
      have en : (p.n.take (countN p.op)) = [nn p 0] := by
        rw [hk]
        obtain ⟨op, tok, seq, n, text, more, a, b⟩ := p
        obtain ⟨x0, x1, x2, x3, x4, x5, rfl⟩ := six (show n.length = 6 from h6)
        rfl
      rw [en, if_neg (by rw [hk2]; decide), if_neg (by rw [hk2]; decide), if_neg (by rw [hk2]; decide)]
      exact c
    | 11, _, _ =>
      have e : askV p = .iface 80 (.agg #[.int .i64 (nn p 0), .int .i64 (nn p 1), .int .i64 (nn p 2)]) := by unfold askV; rw [hk]; rfl
      have c := pask11 h p hl ht
      have hk2 : p.op = 11 := hk
      rw [e]
      have en : (p.n.take (countN p.op)) = [nn p 0, nn p 1, nn p 2] := by
        rw [hk]
        obtain ⟨op, tok, seq, n, text, more, a, b⟩ := p
        obtain ⟨x0, x1, x2, x3, x4, x5, rfl⟩ := six (show n.length = 6 from h6)
        rfl
      rw [en, if_neg (by rw [hk2]; decide), if_neg (by rw [hk2]; decide), if_neg (by rw [hk2]; decide)]
      exact c
    | 12, _, _ =>
      have e : askV p = .iface 82 (.agg #[.int .i64 (nn p 0), .int .i64 (nn p 1)]) := by unfold askV; rw [hk]; rfl
      have c := pask12 h p hl ht
      have hk2 : p.op = 12 := hk
      rw [e]
      have en : (p.n.take (countN p.op)) = [nn p 0, nn p 1] := by
        rw [hk]
        obtain ⟨op, tok, seq, n, text, more, a, b⟩ := p
        obtain ⟨x0, x1, x2, x3, x4, x5, rfl⟩ := six (show n.length = 6 from h6)
        rfl
      rw [en, if_neg (by rw [hk2]; decide), if_neg (by rw [hk2]; decide), if_neg (by rw [hk2]; decide)]
      exact c
    | 13, _, _ =>
      have e : askV p = .iface 84 (.agg #[.int .i64 (nn p 0), .int .i64 (nn p 1), .int .i64 (nn p 2)]) := by unfold askV; rw [hk]; rfl
      have c := pask13 h p hl ht
      have hk2 : p.op = 13 := hk
      rw [e]
      have en : (p.n.take (countN p.op)) = [nn p 0, nn p 1, nn p 2] := by
        rw [hk]
        obtain ⟨op, tok, seq, n, text, more, a, b⟩ := p
        obtain ⟨x0, x1, x2, x3, x4, x5, rfl⟩ := six (show n.length = 6 from h6)
        rfl
      rw [en, if_neg (by rw [hk2]; decide), if_neg (by rw [hk2]; decide), if_neg (by rw [hk2]; decide)]
      exact c
    | 14, _, _ =>
      have e : askV p = .iface 86 (.agg #[.int .i64 (nn p 0), .int .i64 (nn p 1), .bool p.a, .bool p.b]) := by unfold askV; rw [hk]; rfl
      have c := pask14 h p hl ht
      have hk2 : p.op = 14 := hk
      rw [e]
      have en : (p.n.take (countN p.op)) = [nn p 0, nn p 1] := by
        rw [hk]
        obtain ⟨op, tok, seq, n, text, more, a, b⟩ := p
        obtain ⟨x0, x1, x2, x3, x4, x5, rfl⟩ := six (show n.length = 6 from h6)
        rfl
      rw [en, if_neg (by rw [hk2]; decide), if_neg (by rw [hk2]; decide), if_pos hk2]
      exact c
    | 15, _, _ =>
      have e : askV p = .iface 88 (.agg #[.int .i64 (nn p 0), .int .i64 (nn p 1)]) := by unfold askV; rw [hk]; rfl
      have c := pask15 h p hl ht
      have hk2 : p.op = 15 := hk
      rw [e]
      have en : (p.n.take (countN p.op)) = [nn p 0, nn p 1] := by
        rw [hk]
        obtain ⟨op, tok, seq, n, text, more, a, b⟩ := p
        obtain ⟨x0, x1, x2, x3, x4, x5, rfl⟩ := six (show n.length = 6 from h6)
        rfl
      rw [en, if_neg (by rw [hk2]; decide), if_neg (by rw [hk2]; decide), if_neg (by rw [hk2]; decide)]
      exact c
  · have eo : opE p = 0 := by unfold opE; rw [if_pos (by omega)]
    unfold askW
    rw [if_pos eo]
    exact pask_none h u (hu.2 ho)
end Go.Proofs.Ythegkookfpnbeaa.Wds
