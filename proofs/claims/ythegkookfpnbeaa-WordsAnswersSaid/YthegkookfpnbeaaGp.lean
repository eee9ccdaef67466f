/- Words: the law's Back: a call's plain values. -/
import Derived.Test.YthegkookfpnbeaaGo
import Derived.RegionTactic
import Derived.BigRegion
set_option linter.unusedVariables false
set_option linter.unusedSimpArgs false
set_option maxRecDepth 100000
namespace Go.Proofs.Ythegkookfpnbeaa.Wds
open Go.RowKit Go.Lib Go.Proofs.Ythegkookfpnbeaa.Bx Go.Proofs.Ythegkookfpnbeaa.Frm

theorem mkB_nil : mkB [] = ByteArray.mk #[] := rfl
set_option maxHeartbeats 4000000 in
theorem fin13c {w0 w : World} {R B : Nat} {cs : Array Value} {e : TypeId} (hz : w.heap[R]? = some (.cells cs e (0, 0))) (hs : cs.size = 13) (hb : Below B w0 w) (hB : B ≤ R) (v0 v1 v2 v3 v4 v5 v6 v7 v8 v9 v10 v11 v12 : Value) : (((((((((((((w.setCell ⟨R, 0, none⟩ v0).setCell ⟨R, 1, none⟩ v1).setCell ⟨R, 2, none⟩ v2).setCell ⟨R, 3, none⟩ v3).setCell ⟨R, 4, none⟩ v4).setCell ⟨R, 5, none⟩ v5).setCell ⟨R, 6, none⟩ v6).setCell ⟨R, 7, none⟩ v7).setCell ⟨R, 8, none⟩ v8).setCell ⟨R, 9, none⟩ v9).setCell ⟨R, 10, none⟩ v10).setCell ⟨R, 11, none⟩ v11).setCell ⟨R, 12, none⟩ v12).heap[R]? = some (.cells #[v0, v1, v2, v3, v4, v5, v6, v7, v8, v9, v10, v11, v12] e (0, 0)) ∧ Below B w0 (((((((((((((w.setCell ⟨R, 0, none⟩ v0).setCell ⟨R, 1, none⟩ v1).setCell ⟨R, 2, none⟩ v2).setCell ⟨R, 3, none⟩ v3).setCell ⟨R, 4, none⟩ v4).setCell ⟨R, 5, none⟩ v5).setCell ⟨R, 6, none⟩ v6).setCell ⟨R, 7, none⟩ v7).setCell ⟨R, 8, none⟩ v8).setCell ⟨R, 9, none⟩ v9).setCell ⟨R, 10, none⟩ v10).setCell ⟨R, 11, none⟩ v11).setCell ⟨R, 12, none⟩ v12) := by
  have h : (w.setCells R 0 [v0, v1, v2, v3, v4, v5, v6, v7, v8, v9, v10, v11, v12]).heap[R]? = some (.cells #[v0, v1, v2, v3, v4, v5, v6, v7, v8, v9, v10, v11, v12] e (0, 0)) ∧ Below B w0 (w.setCells R 0 [v0, v1, v2, v3, v4, v5, v6, v7, v8, v9, v10, v11, v12]) := by
    refine ⟨?_, below_setCells hB _ _ _ hb⟩
    obtain ⟨cur', h1, h2⟩ := setCells_full [v0, v1, v2, v3, v4, v5, v6, v7, v8, v9, v10, v11, v12] 0 w _ hz (by rw [hs]; exact Nat.le_refl _)
    rw [h1]
    have e : cur' = #[v0, v1, v2, v3, v4, v5, v6, v7, v8, v9, v10, v11, v12] := by
      apply Array.toList_inj.1
      rw [h2, List.drop_of_length_le (by rw [Array.length_toList, hs]; exact Nat.le_refl _)]
      rfl
    rw [e]
  exact h
theorem heap_drew (w : World) : w.drew.heap = w.heap := rfl
theorem cell13 {w : World} {B : Nat} {e : TypeId} {v0 v1 v2 v3 v4 v5 v6 v7 v8 v9 v10 v11 v12 : Value} (h : w.heap[B]? = some (.cells #[v0, v1, v2, v3, v4, v5, v6, v7, v8, v9, v10, v11, v12] e (0, 0))) : w.cell? ⟨B, 0, none⟩ = some v0 ∧ w.cell? ⟨B, 1, none⟩ = some v1 ∧ w.cell? ⟨B, 2, none⟩ = some v2 ∧ w.cell? ⟨B, 3, none⟩ = some v3 ∧ w.cell? ⟨B, 4, none⟩ = some v4 ∧ w.cell? ⟨B, 5, none⟩ = some v5 ∧ w.cell? ⟨B, 6, none⟩ = some v6 ∧ w.cell? ⟨B, 7, none⟩ = some v7 ∧ w.cell? ⟨B, 8, none⟩ = some v8 ∧ w.cell? ⟨B, 9, none⟩ = some v9 ∧ w.cell? ⟨B, 10, none⟩ = some v10 ∧ w.cell? ⟨B, 11, none⟩ = some v11 ∧ w.cell? ⟨B, 12, none⟩ = some v12 := by
  refine ⟨?_, ?_, ?_, ?_, ?_, ?_, ?_, ?_, ?_, ?_, ?_, ?_, ?_⟩ <;> (rw [cell_of_row _ _ _ _ _ _ h]; rfl)
theorem is1 (v : Value) (w : World) : (Instr.typeAssert (.iface 64 v) 20 64 true).run Try.prog w = .ok (.tuple #[v, .bool true]) w := by
  simp [Instr.typeAssert, run_underlying Try.underlying64]
theorem no1 (t : TypeId) (v : Value) (w : World) (h : t ≠ 64) : (Instr.typeAssert (.iface t v) 20 64 true).run Try.prog w = .ok (.tuple #[.agg #[.string (ByteArray.mk #[]), .string (ByteArray.mk #[])], .bool false]) w := by
  simp [Instr.typeAssert, run_underlying Try.underlying64, h, Try.zeroValue64]
theorem is2 (v : Value) (w : World) : (Instr.typeAssert (.iface 28 v) 20 28 true).run Try.prog w = .ok (.tuple #[v, .bool true]) w := by
  simp [Instr.typeAssert, run_underlying Try.underlying28]
theorem no2 (t : TypeId) (v : Value) (w : World) (h : t ≠ 28) : (Instr.typeAssert (.iface t v) 20 28 true).run Try.prog w = .ok (.tuple #[.agg #[], .bool false]) w := by
  simp [Instr.typeAssert, run_underlying Try.underlying28, h, Try.zeroValue28]
theorem is3 (v : Value) (w : World) : (Instr.typeAssert (.iface 66 v) 20 66 true).run Try.prog w = .ok (.tuple #[v, .bool true]) w := by
  simp [Instr.typeAssert, run_underlying Try.underlying66]
theorem no3 (t : TypeId) (v : Value) (w : World) (h : t ≠ 66) : (Instr.typeAssert (.iface t v) 20 66 true).run Try.prog w = .ok (.tuple #[.agg #[.int .i64 0], .bool false]) w := by
  simp [Instr.typeAssert, run_underlying Try.underlying66, h, Try.zeroValue66]
theorem is4 (v : Value) (w : World) : (Instr.typeAssert (.iface 68 v) 20 68 true).run Try.prog w = .ok (.tuple #[v, .bool true]) w := by
  simp [Instr.typeAssert, run_underlying Try.underlying68]
theorem no4 (t : TypeId) (v : Value) (w : World) (h : t ≠ 68) : (Instr.typeAssert (.iface t v) 20 68 true).run Try.prog w = .ok (.tuple #[.agg #[.int .i64 0, .int .i64 0, .int .i64 0, .string (ByteArray.mk #[])], .bool false]) w := by
  simp [Instr.typeAssert, run_underlying Try.underlying68, h, Try.zeroValue68]
theorem is5 (v : Value) (w : World) : (Instr.typeAssert (.iface 70 v) 20 70 true).run Try.prog w = .ok (.tuple #[v, .bool true]) w := by
  simp [Instr.typeAssert, run_underlying Try.underlying70]
theorem no5 (t : TypeId) (v : Value) (w : World) (h : t ≠ 70) : (Instr.typeAssert (.iface t v) 20 70 true).run Try.prog w = .ok (.tuple #[.agg #[.int .i64 0, .int .i64 0, .int .i64 0, .int .i64 0], .bool false]) w := by
  simp [Instr.typeAssert, run_underlying Try.underlying70, h, Try.zeroValue70]
theorem is6 (v : Value) (w : World) : (Instr.typeAssert (.iface 72 v) 20 72 true).run Try.prog w = .ok (.tuple #[v, .bool true]) w := by
  simp [Instr.typeAssert, run_underlying Try.underlying72]
theorem no6 (t : TypeId) (v : Value) (w : World) (h : t ≠ 72) : (Instr.typeAssert (.iface t v) 20 72 true).run Try.prog w = .ok (.tuple #[.agg #[.int .i64 0, .int .i64 0, .int .i64 0, .int .i64 0, .int .i64 0], .bool false]) w := by
  simp [Instr.typeAssert, run_underlying Try.underlying72, h, Try.zeroValue72]
theorem is7 (v : Value) (w : World) : (Instr.typeAssert (.iface 74 v) 20 74 true).run Try.prog w = .ok (.tuple #[v, .bool true]) w := by
  simp [Instr.typeAssert, run_underlying Try.underlying74]
theorem no7 (t : TypeId) (v : Value) (w : World) (h : t ≠ 74) : (Instr.typeAssert (.iface t v) 20 74 true).run Try.prog w = .ok (.tuple #[.agg #[.int .i64 0, .int .i64 0, .int .i64 0, .int .i64 0, .int .i64 0, .int .i64 0], .bool false]) w := by
  simp [Instr.typeAssert, run_underlying Try.underlying74, h, Try.zeroValue74]
theorem is8 (v : Value) (w : World) : (Instr.typeAssert (.iface 76 v) 20 76 true).run Try.prog w = .ok (.tuple #[v, .bool true]) w := by
  simp [Instr.typeAssert, run_underlying Try.underlying76]
theorem no8 (t : TypeId) (v : Value) (w : World) (h : t ≠ 76) : (Instr.typeAssert (.iface t v) 20 76 true).run Try.prog w = .ok (.tuple #[.agg #[.int .i64 0], .bool false]) w := by
  simp [Instr.typeAssert, run_underlying Try.underlying76, h, Try.zeroValue76]
theorem is9 (v : Value) (w : World) : (Instr.typeAssert (.iface 77 v) 20 77 true).run Try.prog w = .ok (.tuple #[v, .bool true]) w := by
  simp [Instr.typeAssert, run_underlying Try.underlying77]
theorem no9 (t : TypeId) (v : Value) (w : World) (h : t ≠ 77) : (Instr.typeAssert (.iface t v) 20 77 true).run Try.prog w = .ok (.tuple #[.agg #[.int .i64 0], .bool false]) w := by
  simp [Instr.typeAssert, run_underlying Try.underlying77, h, Try.zeroValue77]
theorem is10 (v : Value) (w : World) : (Instr.typeAssert (.iface 78 v) 20 78 true).run Try.prog w = .ok (.tuple #[v, .bool true]) w := by
  simp [Instr.typeAssert, run_underlying Try.underlying78]
theorem no10 (t : TypeId) (v : Value) (w : World) (h : t ≠ 78) : (Instr.typeAssert (.iface t v) 20 78 true).run Try.prog w = .ok (.tuple #[.agg #[.int .i64 0], .bool false]) w := by
  simp [Instr.typeAssert, run_underlying Try.underlying78, h, Try.zeroValue78]
theorem is11 (v : Value) (w : World) : (Instr.typeAssert (.iface 80 v) 20 80 true).run Try.prog w = .ok (.tuple #[v, .bool true]) w := by
  simp [Instr.typeAssert, run_underlying Try.underlying80]
theorem no11 (t : TypeId) (v : Value) (w : World) (h : t ≠ 80) : (Instr.typeAssert (.iface t v) 20 80 true).run Try.prog w = .ok (.tuple #[.agg #[.int .i64 0, .int .i64 0, .int .i64 0], .bool false]) w := by
  simp [Instr.typeAssert, run_underlying Try.underlying80, h, Try.zeroValue80]
theorem is12 (v : Value) (w : World) : (Instr.typeAssert (.iface 82 v) 20 82 true).run Try.prog w = .ok (.tuple #[v, .bool true]) w := by
  simp [Instr.typeAssert, run_underlying Try.underlying82]
theorem no12 (t : TypeId) (v : Value) (w : World) (h : t ≠ 82) : (Instr.typeAssert (.iface t v) 20 82 true).run Try.prog w = .ok (.tuple #[.agg #[.int .i64 0, .int .i64 0], .bool false]) w := by
  simp [Instr.typeAssert, run_underlying Try.underlying82, h, Try.zeroValue82]
theorem is13 (v : Value) (w : World) : (Instr.typeAssert (.iface 84 v) 20 84 true).run Try.prog w = .ok (.tuple #[v, .bool true]) w := by
  simp [Instr.typeAssert, run_underlying Try.underlying84]
theorem no13 (t : TypeId) (v : Value) (w : World) (h : t ≠ 84) : (Instr.typeAssert (.iface t v) 20 84 true).run Try.prog w = .ok (.tuple #[.agg #[.int .i64 0, .int .i64 0, .int .i64 0], .bool false]) w := by
  simp [Instr.typeAssert, run_underlying Try.underlying84, h, Try.zeroValue84]
theorem is14 (v : Value) (w : World) : (Instr.typeAssert (.iface 86 v) 20 86 true).run Try.prog w = .ok (.tuple #[v, .bool true]) w := by
  simp [Instr.typeAssert, run_underlying Try.underlying86]
theorem no14 (t : TypeId) (v : Value) (w : World) (h : t ≠ 86) : (Instr.typeAssert (.iface t v) 20 86 true).run Try.prog w = .ok (.tuple #[.agg #[.int .i64 0, .int .i64 0, .bool false, .bool false], .bool false]) w := by
  simp [Instr.typeAssert, run_underlying Try.underlying86, h, Try.zeroValue86]
theorem is15 (v : Value) (w : World) : (Instr.typeAssert (.iface 88 v) 20 88 true).run Try.prog w = .ok (.tuple #[v, .bool true]) w := by
  simp [Instr.typeAssert, run_underlying Try.underlying88]
theorem no15 (t : TypeId) (v : Value) (w : World) (h : t ≠ 88) : (Instr.typeAssert (.iface t v) 20 88 true).run Try.prog w = .ok (.tuple #[.agg #[.int .i64 0, .int .i64 0], .bool false]) w := by
  simp [Instr.typeAssert, run_underlying Try.underlying88, h, Try.zeroValue88]
end Go.Proofs.Ythegkookfpnbeaa.Wds
