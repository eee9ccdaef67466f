/- Words: the law's Back: a call's plain values. -/
import Derived.Test.YthegkookfpnbeaaGp
import Derived.RegionTactic
import Derived.BigRegion
set_option linter.unusedVariables false
set_option linter.unusedSimpArgs false
set_option maxRecDepth 100000
namespace Go.Proofs.Ythegkookfpnbeaa.Wds
open Go.RowKit Go.Lib Go.Proofs.Ythegkookfpnbeaa.Bx Go.Proofs.Ythegkookfpnbeaa.Frm

set_option maxHeartbeats 8000000 in
theorem back9 (p : Pl) (w : World) : Calls Try.prog 15 #[.agg #[.string (mkB p.tok), .int .i64 p.seq, .iface 77 (.agg #[.int .i64 (nn p 0)])]] w fun e w' => e = .returned (plV (⟨9, p.tok, p.seq, [nn p 0, 0, 0, 0, 0, 0], [], [], false, false⟩ : Pl)) ∧ Below w.heap.size w w' := by
  have hpv : plV (⟨9, p.tok, p.seq, [nn p 0, 0, 0, 0, 0, 0], [], [], false, false⟩ : Pl) = .agg #[.int .i64 9, .string (mkB p.tok), .int .i64 p.seq, .int .i64 (nn p 0), .int .i64 0, .int .i64 0, .int .i64 0, .int .i64 0, .int .i64 0, .string (ByteArray.mk #[]), .string (ByteArray.mk #[]), .bool false, .bool false] := by simp [plV, nn, mkB_nil]
  rw [hpv]
  clear hpv
  obtain ⟨R, hR⟩ : ∃ R, R = w.heap.size := ⟨_, rfl⟩
  obtain ⟨B0, P0, L0⟩ := box1 w #[.string (mkB p.tok), .int .i64 p.seq, .iface 77 (.agg #[.int .i64 (nn p 0)])] 30
  obtain ⟨Wx, hWx⟩ : ∃ Wx, Wx = w.alloc (.cells #[.string (mkB p.tok), .int .i64 p.seq, .iface 77 (.agg #[.int .i64 (nn p 0)])] 30) := ⟨_, rfl⟩
  rw [← hWx] at B0 P0 L0
  obtain ⟨B1, P1, L1⟩ := box1 Wx #[.int .i64 0, .string (ByteArray.mk #[]), .int .i64 0, .int .i64 0, .int .i64 0, .int .i64 0, .int .i64 0, .int .i64 0, .int .i64 0, .string (ByteArray.mk #[]), .string (ByteArray.mk #[]), .bool false, .bool false] 24
  obtain ⟨Wa, hWa⟩ : ∃ Wa, Wa = Wx.alloc (.cells #[.int .i64 0, .string (ByteArray.mk #[]), .int .i64 0, .int .i64 0, .int .i64 0, .int .i64 0, .int .i64 0, .int .i64 0, .int .i64 0, .string (ByteArray.mk #[]), .string (ByteArray.mk #[]), .bool false, .bool false] 24) := ⟨_, rfl⟩
  rw [← hWa] at B1 P1 L1
  obtain ⟨B2, P2, L2⟩ := box1 Wa #[.int .i64 0, .string (mkB p.tok), .int .i64 p.seq, .int .i64 0, .int .i64 0, .int .i64 0, .int .i64 0, .int .i64 0, .int .i64 0, .string (ByteArray.mk #[]), .string (ByteArray.mk #[]), .bool false, .bool false] 24
  obtain ⟨Wb, hWb⟩ : ∃ Wb, Wb = Wa.alloc (.cells #[.int .i64 0, .string (mkB p.tok), .int .i64 p.seq, .int .i64 0, .int .i64 0, .int .i64 0, .int .i64 0, .int .i64 0, .int .i64 0, .string (ByteArray.mk #[]), .string (ByteArray.mk #[]), .bool false, .bool false] 24) := ⟨_, rfl⟩
  rw [← hWb] at B2 P2 L2
  obtain ⟨B3, P3, L3⟩ := box1 Wb #[.int .i64 (nn p 0)] 77
  obtain ⟨Wc, hWc⟩ : ∃ Wc, Wc = Wb.alloc (.cells #[.int .i64 (nn p 0)] 77) := ⟨_, rfl⟩
  rw [← hWc] at B3 P3 L3
  rw [L0, ← hR] at L1 P1
  rw [L1] at P2 L2
  rw [L2] at P3 L3
  rw [← hR] at P0 L0
  have q1 : Wa.heap[R]? = some (.cells #[.string (mkB p.tok), .int .i64 p.seq, .iface 77 (.agg #[.int .i64 (nn p 0)])] 30 (0, 0)) := (B1.block R (by omega)).trans P0
  have q2 : Wb.heap[R]? = some (.cells #[.string (mkB p.tok), .int .i64 p.seq, .iface 77 (.agg #[.int .i64 (nn p 0)])] 30 (0, 0)) := (B2.block R (by omega)).trans q1
  have r3 : Wc.heap[R + 1]? = some (.cells #[.int .i64 0, .string (ByteArray.mk #[]), .int .i64 0, .int .i64 0, .int .i64 0, .int .i64 0, .int .i64 0, .int .i64 0, .int .i64 0, .string (ByteArray.mk #[]), .string (ByteArray.mk #[]), .bool false, .bool false] 24 (0, 0)) := (B3.block (R + 1) (by omega)).trans ((B2.block (R + 1) (by omega)).trans P1)
  have c3 : Wc.heap[R + 1 + 1]? = some (.cells #[.int .i64 0, .string (mkB p.tok), .int .i64 p.seq, .int .i64 0, .int .i64 0, .int .i64 0, .int .i64 0, .int .i64 0, .int .i64 0, .string (ByteArray.mk #[]), .string (ByteArray.mk #[]), .bool false, .bool false] 24 (0, 0)) := (B3.block (R + 1 + 1) (by omega)).trans P2
  have hbl := below_on (below_on (below_on B0 B1) B2) B3
  rw [hWx] at hWa
  have HSA : Hid (Wa.heap.size = R + 1 + 1) := L1
  have HSB : Hid (Wb.heap.size = R + 1 + 1 + 1) := L2
  have HWA := Lib.hid hWa
  have HWB := Lib.hid hWb
  have HWC := Lib.hid hWc
  have HR := Lib.hid hR
  have HBL : Hid (Below R w Wc) := by rw [hR]; exact hbl
  have H2 := Lib.hid q2
  have H3 := Lib.hid (And.intro r3 (And.intro c3 P3))
  obtain ⟨a0, a1, a2⟩ := three_cells q1
  have yes := is9 (.agg #[.int .i64 (nn p 0)])
  have n1 := fun w => no1 77 (.agg #[.int .i64 (nn p 0)]) w (by decide)
  have n2 := fun w => no2 77 (.agg #[.int .i64 (nn p 0)]) w (by decide)
  have n3 := fun w => no3 77 (.agg #[.int .i64 (nn p 0)]) w (by decide)
  have n4 := fun w => no4 77 (.agg #[.int .i64 (nn p 0)]) w (by decide)
  have n5 := fun w => no5 77 (.agg #[.int .i64 (nn p 0)]) w (by decide)
  have n6 := fun w => no6 77 (.agg #[.int .i64 (nn p 0)]) w (by decide)
  have n7 := fun w => no7 77 (.agg #[.int .i64 (nn p 0)]) w (by decide)
  have n8 := fun w => no8 77 (.agg #[.int .i64 (nn p 0)]) w (by decide)
  clear hWx hWa hWb hWc hR B0 P0 L0 B1 P1 L1 B2 P2 L2 B3 P3 L3 q1 q2 r3 c3 hbl
  go_enter Try.func15, Try.ntmps15
  go_upto_region 1 with fail
  rw [← HWA.out, ← HR.out]
  go_upto_region 2 with fail
  rw [← HWB.out, HSA.out]
  clear a0 a1 a2
  obtain ⟨a0, a1, a2⟩ := three_cells H2.out
  go_upto_region 29 with fail
  rw [← HWC.out, HSB.out]
  have hc := H3.out.2.1
  have hf := H3.out.2.2
  obtain ⟨p0, p1, p2, p3, p4, p5, p6, p7, p8, p9, p10, p11, p12⟩ := cell13 hc
  have fp := fun i => free_at (i := i) hc
  have g0 : Wc.cell? ⟨R + 1 + 1 + 1, 0, none⟩ = some (.int .i64 (nn p 0)) := by rw [cell_of_row _ _ _ _ _ _ hf]; rfl
  have HC := Lib.hid hc
  have HZ := Lib.hid H3.out.1
  clear hc hf a0 a1 a2 H2 H3
  go_region
  obtain ⟨WD, hWD⟩ : ∃ WD, WD = (((((((Wc.setCell ⟨R + 1 + 1, 0, none⟩ (.int .i64 9)).setCell ⟨R + 1 + 1, 3, none⟩ (.int .i64 (nn p 0))).setCell ⟨R + 1 + 1, 4, none⟩ (.int .i64 0)).setCell ⟨R + 1 + 1, 5, none⟩ (.int .i64 0)).setCell ⟨R + 1 + 1, 6, none⟩ (.int .i64 0)).setCell ⟨R + 1 + 1, 7, none⟩ (.int .i64 0)).setCell ⟨R + 1 + 1, 8, none⟩ (.int .i64 0)).drew := ⟨_, rfl⟩
  rw [← hWD]
  have b0 : Wc.heap[R + 1 + 1]? = some (.cells #[.int .i64 0, .string (mkB p.tok), .int .i64 p.seq, .int .i64 0, .int .i64 0, .int .i64 0, .int .i64 0, .int .i64 0, .int .i64 0, .string (ByteArray.mk #[]), .string (ByteArray.mk #[]), .bool false, .bool false] 24 (0, 0)) := HC.out
  have b1 : (Wc.setCell ⟨R + 1 + 1, 0, none⟩ (.int .i64 9)).heap[R + 1 + 1]? = some (.cells #[.int .i64 9, .string (mkB p.tok), .int .i64 p.seq, .int .i64 0, .int .i64 0, .int .i64 0, .int .i64 0, .int .i64 0, .int .i64 0, .string (ByteArray.mk #[]), .string (ByteArray.mk #[]), .bool false, .bool false] 24 (0, 0)) := set_block b0
  have b2 : ((Wc.setCell ⟨R + 1 + 1, 0, none⟩ (.int .i64 9)).setCell ⟨R + 1 + 1, 3, none⟩ (.int .i64 (nn p 0))).heap[R + 1 + 1]? = some (.cells #[.int .i64 9, .string (mkB p.tok), .int .i64 p.seq, .int .i64 (nn p 0), .int .i64 0, .int .i64 0, .int .i64 0, .int .i64 0, .int .i64 0, .string (ByteArray.mk #[]), .string (ByteArray.mk #[]), .bool false, .bool false] 24 (0, 0)) := set_block b1
  have b3 : (((Wc.setCell ⟨R + 1 + 1, 0, none⟩ (.int .i64 9)).setCell ⟨R + 1 + 1, 3, none⟩ (.int .i64 (nn p 0))).setCell ⟨R + 1 + 1, 4, none⟩ (.int .i64 0)).heap[R + 1 + 1]? = some (.cells #[.int .i64 9, .string (mkB p.tok), .int .i64 p.seq, .int .i64 (nn p 0), .int .i64 0, .int .i64 0, .int .i64 0, .int .i64 0, .int .i64 0, .string (ByteArray.mk #[]), .string (ByteArray.mk #[]), .bool false, .bool false] 24 (0, 0)) := set_block b2
  have b4 : ((((Wc.setCell ⟨R + 1 + 1, 0, none⟩ (.int .i64 9)).setCell ⟨R + 1 + 1, 3, none⟩ (.int .i64 (nn p 0))).setCell ⟨R + 1 + 1, 4, none⟩ (.int .i64 0)).setCell ⟨R + 1 + 1, 5, none⟩ (.int .i64 0)).heap[R + 1 + 1]? = some (.cells #[.int .i64 9, .string (mkB p.tok), .int .i64 p.seq, .int .i64 (nn p 0), .int .i64 0, .int .i64 0, .int .i64 0, .int .i64 0, .int .i64 0, .string (ByteArray.mk #[]), .string (ByteArray.mk #[]), .bool false, .bool false] 24 (0, 0)) := set_block b3
  have b5 : (((((Wc.setCell ⟨R + 1 + 1, 0, none⟩ (.int .i64 9)).setCell ⟨R + 1 + 1, 3, none⟩ (.int .i64 (nn p 0))).setCell ⟨R + 1 + 1, 4, none⟩ (.int .i64 0)).setCell ⟨R + 1 + 1, 5, none⟩ (.int .i64 0)).setCell ⟨R + 1 + 1, 6, none⟩ (.int .i64 0)).heap[R + 1 + 1]? = some (.cells #[.int .i64 9, .string (mkB p.tok), .int .i64 p.seq, .int .i64 (nn p 0), .int .i64 0, .int .i64 0, .int .i64 0, .int .i64 0, .int .i64 0, .string (ByteArray.mk #[]), .string (ByteArray.mk #[]), .bool false, .bool false] 24 (0, 0)) := set_block b4
  have b6 : ((((((Wc.setCell ⟨R + 1 + 1, 0, none⟩ (.int .i64 9)).setCell ⟨R + 1 + 1, 3, none⟩ (.int .i64 (nn p 0))).setCell ⟨R + 1 + 1, 4, none⟩ (.int .i64 0)).setCell ⟨R + 1 + 1, 5, none⟩ (.int .i64 0)).setCell ⟨R + 1 + 1, 6, none⟩ (.int .i64 0)).setCell ⟨R + 1 + 1, 7, none⟩ (.int .i64 0)).heap[R + 1 + 1]? = some (.cells #[.int .i64 9, .string (mkB p.tok), .int .i64 p.seq, .int .i64 (nn p 0), .int .i64 0, .int .i64 0, .int .i64 0, .int .i64 0, .int .i64 0, .string (ByteArray.mk #[]), .string (ByteArray.mk #[]), .bool false, .bool false] 24 (0, 0)) := set_block b5
  have b7 : (((((((Wc.setCell ⟨R + 1 + 1, 0, none⟩ (.int .i64 9)).setCell ⟨R + 1 + 1, 3, none⟩ (.int .i64 (nn p 0))).setCell ⟨R + 1 + 1, 4, none⟩ (.int .i64 0)).setCell ⟨R + 1 + 1, 5, none⟩ (.int .i64 0)).setCell ⟨R + 1 + 1, 6, none⟩ (.int .i64 0)).setCell ⟨R + 1 + 1, 7, none⟩ (.int .i64 0)).setCell ⟨R + 1 + 1, 8, none⟩ (.int .i64 0)).heap[R + 1 + 1]? = some (.cells #[.int .i64 9, .string (mkB p.tok), .int .i64 p.seq, .int .i64 (nn p 0), .int .i64 0, .int .i64 0, .int .i64 0, .int .i64 0, .int .i64 0, .string (ByteArray.mk #[]), .string (ByteArray.mk #[]), .bool false, .bool false] 24 (0, 0)) := set_block b6
  have hpb : WD.heap[R + 1 + 1]? = some (.cells #[.int .i64 9, .string (mkB p.tok), .int .i64 p.seq, .int .i64 (nn p 0), .int .i64 0, .int .i64 0, .int .i64 0, .int .i64 0, .int .i64 0, .string (ByteArray.mk #[]), .string (ByteArray.mk #[]), .bool false, .bool false] 24 (0, 0)) := by
    rw [hWD, heap_drew]
    exact b7
  have hpz : WD.heap[R + 1]? = some (.cells #[.int .i64 0, .string (ByteArray.mk #[]), .int .i64 0, .int .i64 0, .int .i64 0, .int .i64 0, .int .i64 0, .int .i64 0, .int .i64 0, .string (ByteArray.mk #[]), .string (ByteArray.mk #[]), .bool false, .bool false] 24 (0, 0)) := by
    rw [hWD, heap_drew]
    exact ((Below.heap_setCell _ _ _ _ (by show R + 1 ≠ R + 1 + 1; omega)).trans ((Below.heap_setCell _ _ _ _ (by show R + 1 ≠ R + 1 + 1; omega)).trans ((Below.heap_setCell _ _ _ _ (by show R + 1 ≠ R + 1 + 1; omega)).trans ((Below.heap_setCell _ _ _ _ (by show R + 1 ≠ R + 1 + 1; omega)).trans ((Below.heap_setCell _ _ _ _ (by show R + 1 ≠ R + 1 + 1; omega)).trans ((Below.heap_setCell _ _ _ _ (by show R + 1 ≠ R + 1 + 1; omega)).trans ((Below.heap_setCell _ _ _ _ (by show R + 1 ≠ R + 1 + 1; omega)).trans HZ.out)))))))
  have hbd : Below R w WD := by rw [hWD]; exact (Below.drew (below_put (below_put (below_put (below_put (below_put (below_put (below_put HBL.out (by omega) _) (by omega) _) (by omega) _) (by omega) _) (by omega) _) (by omega) _) (by omega) _))
  clear hWD HC HZ HBL p0 p1 p2 p3 p4 p5 p6 p7 p8 p9 p10 p11 p12 fp g0 b0 b1 b2 b3 b4 b5 b6 b7
  obtain ⟨p0, p1, p2, p3, p4, p5, p6, p7, p8, p9, p10, p11, p12⟩ := cell13 hpb
  obtain ⟨z0, z1, z2, z3, z4, z5, z6, z7, z8, z9, z10, z11, z12⟩ := cell13 hpz
  have fz := fun i => free_at (i := i) hpz
  have HPZ := Lib.hid hpz
  have HBD := Lib.hid hbd
  clear hpb hpz hbd
  go_wp2_with fail
  obtain ⟨WN, hWN⟩ : ∃ WN, WN = (((((((((((((WD.setCell ⟨R + 1, 0, none⟩ (.int .i64 9)).setCell ⟨R + 1, 1, none⟩ (.string (mkB p.tok))).setCell ⟨R + 1, 2, none⟩ (.int .i64 p.seq)).setCell ⟨R + 1, 3, none⟩ (.int .i64 (nn p 0))).setCell ⟨R + 1, 4, none⟩ (.int .i64 0)).setCell ⟨R + 1, 5, none⟩ (.int .i64 0)).setCell ⟨R + 1, 6, none⟩ (.int .i64 0)).setCell ⟨R + 1, 7, none⟩ (.int .i64 0)).setCell ⟨R + 1, 8, none⟩ (.int .i64 0)).setCell ⟨R + 1, 9, none⟩ (.string (ByteArray.mk #[]))).setCell ⟨R + 1, 10, none⟩ (.string (ByteArray.mk #[]))).setCell ⟨R + 1, 11, none⟩ (.bool false)).setCell ⟨R + 1, 12, none⟩ (.bool false)) := ⟨_, rfl⟩
  rw [← hWN]
  have hfin : WN.heap[R + 1]? = some (.cells #[.int .i64 9, .string (mkB p.tok), .int .i64 p.seq, .int .i64 (nn p 0), .int .i64 0, .int .i64 0, .int .i64 0, .int .i64 0, .int .i64 0, .string (ByteArray.mk #[]), .string (ByteArray.mk #[]), .bool false, .bool false] 24 (0, 0)) ∧ Below R w WN := by
    rw [hWN]
    exact fin13c HPZ.out rfl HBD.out (by omega) (.int .i64 9) (.string (mkB p.tok)) (.int .i64 p.seq) (.int .i64 (nn p 0)) (.int .i64 0) (.int .i64 0) (.int .i64 0) (.int .i64 0) (.int .i64 0) (.string (ByteArray.mk #[])) (.string (ByteArray.mk #[])) (.bool false) (.bool false)
  obtain ⟨y0, y1, y2, y3, y4, y5, y6, y7, y8, y9, y10, y11, y12⟩ := cell13 hfin.1
  have hbw := hfin.2
  rw [HR.out] at hbw
  exact bodyPost_ret (v := .agg #[.int .i64 9, .string (mkB p.tok), .int .i64 p.seq, .int .i64 (nn p 0), .int .i64 0, .int .i64 0, .int .i64 0, .int .i64 0, .int .i64 0, .string (ByteArray.mk #[]), .string (ByteArray.mk #[]), .bool false, .bool false]) (by simp [results, Try.results15, go_sem, y0, y1, y2, y3, y4, y5, y6, y7, y8, y9, y10, y11, y12, Try.isAgg24, Try.sizeOf24]) rfl ⟨rfl, hbw⟩
set_option maxHeartbeats 8000000 in
theorem back10 (p : Pl) (w : World) : Calls Try.prog 15 #[.agg #[.string (mkB p.tok), .int .i64 p.seq, .iface 78 (.agg #[.int .i64 (nn p 0)])]] w fun e w' => e = .returned (plV (⟨10, p.tok, p.seq, [nn p 0, 0, 0, 0, 0, 0], [], [], false, false⟩ : Pl)) ∧ Below w.heap.size w w' := by
  have hpv : plV (⟨10, p.tok, p.seq, [nn p 0, 0, 0, 0, 0, 0], [], [], false, false⟩ : Pl) = .agg #[.int .i64 10, .string (mkB p.tok), .int .i64 p.seq, .int .i64 (nn p 0), .int .i64 0, .int .i64 0, .int .i64 0, .int .i64 0, .int .i64 0, .string (ByteArray.mk #[]), .string (ByteArray.mk #[]), .bool false, .bool false] := by simp [plV, nn, mkB_nil]
  rw [hpv]
  clear hpv
  obtain ⟨R, hR⟩ : ∃ R, R = w.heap.size := ⟨_, rfl⟩
  obtain ⟨B0, P0, L0⟩ := box1 w #[.string (mkB p.tok), .int .i64 p.seq, .iface 78 (.agg #[.int .i64 (nn p 0)])] 30
  obtain ⟨Wx, hWx⟩ : ∃ Wx, Wx = w.alloc (.cells #[.string (mkB p.tok), .int .i64 p.seq, .iface 78 (.agg #[.int .i64 (nn p 0)])] 30) := ⟨_, rfl⟩
  rw [← hWx] at B0 P0 L0
  obtain ⟨B1, P1, L1⟩ := box1 Wx #[.int .i64 0, .string (ByteArray.mk #[]), .int .i64 0, .int .i64 0, .int .i64 0, .int .i64 0, .int .i64 0, .int .i64 0, .int .i64 0, .string (ByteArray.mk #[]), .string (ByteArray.mk #[]), .bool false, .bool false] 24
  obtain ⟨Wa, hWa⟩ : ∃ Wa, Wa = Wx.alloc (.cells #[.int .i64 0, .string (ByteArray.mk #[]), .int .i64 0, .int .i64 0, .int .i64 0, .int .i64 0, .int .i64 0, .int .i64 0, .int .i64 0, .string (ByteArray.mk #[]), .string (ByteArray.mk #[]), .bool false, .bool false] 24) := ⟨_, rfl⟩
  rw [← hWa] at B1 P1 L1
  obtain ⟨B2, P2, L2⟩ := box1 Wa #[.int .i64 0, .string (mkB p.tok), .int .i64 p.seq, .int .i64 0, .int .i64 0, .int .i64 0, .int .i64 0, .int .i64 0, .int .i64 0, .string (ByteArray.mk #[]), .string (ByteArray.mk #[]), .bool false, .bool false] 24
  obtain ⟨Wb, hWb⟩ : ∃ Wb, Wb = Wa.alloc (.cells #[.int .i64 0, .string (mkB p.tok), .int .i64 p.seq, .int .i64 0, .int .i64 0, .int .i64 0, .int .i64 0, .int .i64 0, .int .i64 0, .string (ByteArray.mk #[]), .string (ByteArray.mk #[]), .bool false, .bool false] 24) := ⟨_, rfl⟩
  rw [← hWb] at B2 P2 L2
  obtain ⟨B3, P3, L3⟩ := box1 Wb #[.int .i64 (nn p 0)] 78
  obtain ⟨Wc, hWc⟩ : ∃ Wc, Wc = Wb.alloc (.cells #[.int .i64 (nn p 0)] 78) := ⟨_, rfl⟩
  rw [← hWc] at B3 P3 L3
  rw [L0, ← hR] at L1 P1
  rw [L1] at P2 L2
  rw [L2] at P3 L3
  rw [← hR] at P0 L0
  have q1 : Wa.heap[R]? = some (.cells #[.string (mkB p.tok), .int .i64 p.seq, .iface 78 (.agg #[.int .i64 (nn p 0)])] 30 (0, 0)) := (B1.block R (by omega)).trans P0
  have q2 : Wb.heap[R]? = some (.cells #[.string (mkB p.tok), .int .i64 p.seq, .iface 78 (.agg #[.int .i64 (nn p 0)])] 30 (0, 0)) := (B2.block R (by omega)).trans q1
  have r3 : Wc.heap[R + 1]? = some (.cells #[.int .i64 0, .string (ByteArray.mk #[]), .int .i64 0, .int .i64 0, .int .i64 0, .int .i64 0, .int .i64 0, .int .i64 0, .int .i64 0, .string (ByteArray.mk #[]), .string (ByteArray.mk #[]), .bool false, .bool false] 24 (0, 0)) := (B3.block (R + 1) (by omega)).trans ((B2.block (R + 1) (by omega)).trans P1)
  have c3 : Wc.heap[R + 1 + 1]? = some (.cells #[.int .i64 0, .string (mkB p.tok), .int .i64 p.seq, .int .i64 0, .int .i64 0, .int .i64 0, .int .i64 0, .int .i64 0, .int .i64 0, .string (ByteArray.mk #[]), .string (ByteArray.mk #[]), .bool false, .bool false] 24 (0, 0)) := (B3.block (R + 1 + 1) (by omega)).trans P2
  have hbl := below_on (below_on (below_on B0 B1) B2) B3
  rw [hWx] at hWa
  have HSA : Hid (Wa.heap.size = R + 1 + 1) := L1
  have HSB : Hid (Wb.heap.size = R + 1 + 1 + 1) := L2
  have HWA := Lib.hid hWa
  have HWB := Lib.hid hWb
  have HWC := Lib.hid hWc
  have HR := Lib.hid hR
  have HBL : Hid (Below R w Wc) := by rw [hR]; exact hbl
  have H2 := Lib.hid q2
  have H3 := Lib.hid (And.intro r3 (And.intro c3 P3))
  obtain ⟨a0, a1, a2⟩ := three_cells q1
  have yes := is10 (.agg #[.int .i64 (nn p 0)])
  have n1 := fun w => no1 78 (.agg #[.int .i64 (nn p 0)]) w (by decide)
  have n2 := fun w => no2 78 (.agg #[.int .i64 (nn p 0)]) w (by decide)
  have n3 := fun w => no3 78 (.agg #[.int .i64 (nn p 0)]) w (by decide)
  have n4 := fun w => no4 78 (.agg #[.int .i64 (nn p 0)]) w (by decide)
  have n5 := fun w => no5 78 (.agg #[.int .i64 (nn p 0)]) w (by decide)
  have n6 := fun w => no6 78 (.agg #[.int .i64 (nn p 0)]) w (by decide)
  have n7 := fun w => no7 78 (.agg #[.int .i64 (nn p 0)]) w (by decide)
  have n8 := fun w => no8 78 (.agg #[.int .i64 (nn p 0)]) w (by decide)
  have n9 := fun w => no9 78 (.agg #[.int .i64 (nn p 0)]) w (by decide)
  clear hWx hWa hWb hWc hR B0 P0 L0 B1 P1 L1 B2 P2 L2 B3 P3 L3 q1 q2 r3 c3 hbl
  go_enter Try.func15, Try.ntmps15
  go_upto_region 1 with fail
  rw [← HWA.out, ← HR.out]
  go_upto_region 2 with fail
  rw [← HWB.out, HSA.out]
  clear a0 a1 a2
  obtain ⟨a0, a1, a2⟩ := three_cells H2.out
  go_upto_region 32 with fail
  rw [← HWC.out, HSB.out]
  have hc := H3.out.2.1
  have hf := H3.out.2.2
  obtain ⟨p0, p1, p2, p3, p4, p5, p6, p7, p8, p9, p10, p11, p12⟩ := cell13 hc
  have fp := fun i => free_at (i := i) hc
  have g0 : Wc.cell? ⟨R + 1 + 1 + 1, 0, none⟩ = some (.int .i64 (nn p 0)) := by rw [cell_of_row _ _ _ _ _ _ hf]; rfl
  have HC := Lib.hid hc
  have HZ := Lib.hid H3.out.1
  clear hc hf a0 a1 a2 H2 H3
  go_region
  obtain ⟨WD, hWD⟩ : ∃ WD, WD = (((((((Wc.setCell ⟨R + 1 + 1, 0, none⟩ (.int .i64 10)).setCell ⟨R + 1 + 1, 3, none⟩ (.int .i64 (nn p 0))).setCell ⟨R + 1 + 1, 4, none⟩ (.int .i64 0)).setCell ⟨R + 1 + 1, 5, none⟩ (.int .i64 0)).setCell ⟨R + 1 + 1, 6, none⟩ (.int .i64 0)).setCell ⟨R + 1 + 1, 7, none⟩ (.int .i64 0)).setCell ⟨R + 1 + 1, 8, none⟩ (.int .i64 0)).drew := ⟨_, rfl⟩
  rw [← hWD]
  have b0 : Wc.heap[R + 1 + 1]? = some (.cells #[.int .i64 0, .string (mkB p.tok), .int .i64 p.seq, .int .i64 0, .int .i64 0, .int .i64 0, .int .i64 0, .int .i64 0, .int .i64 0, .string (ByteArray.mk #[]), .string (ByteArray.mk #[]), .bool false, .bool false] 24 (0, 0)) := HC.out
  have b1 : (Wc.setCell ⟨R + 1 + 1, 0, none⟩ (.int .i64 10)).heap[R + 1 + 1]? = some (.cells #[.int .i64 10, .string (mkB p.tok), .int .i64 p.seq, .int .i64 0, .int .i64 0, .int .i64 0, .int .i64 0, .int .i64 0, .int .i64 0, .string (ByteArray.mk #[]), .string (ByteArray.mk #[]), .bool false, .bool false] 24 (0, 0)) := set_block b0
  have b2 : ((Wc.setCell ⟨R + 1 + 1, 0, none⟩ (.int .i64 10)).setCell ⟨R + 1 + 1, 3, none⟩ (.int .i64 (nn p 0))).heap[R + 1 + 1]? = some (.cells #[.int .i64 10, .string (mkB p.tok), .int .i64 p.seq, .int .i64 (nn p 0), .int .i64 0, .int .i64 0, .int .i64 0, .int .i64 0, .int .i64 0, .string (ByteArray.mk #[]), .string (ByteArray.mk #[]), .bool false, .bool false] 24 (0, 0)) := set_block b1
  have b3 : (((Wc.setCell ⟨R + 1 + 1, 0, none⟩ (.int .i64 10)).setCell ⟨R + 1 + 1, 3, none⟩ (.int .i64 (nn p 0))).setCell ⟨R + 1 + 1, 4, none⟩ (.int .i64 0)).heap[R + 1 + 1]? = some (.cells #[.int .i64 10, .string (mkB p.tok), .int .i64 p.seq, .int .i64 (nn p 0), .int .i64 0, .int .i64 0, .int .i64 0, .int .i64 0, .int .i64 0, .string (ByteArray.mk #[]), .string (ByteArray.mk #[]), .bool false, .bool false] 24 (0, 0)) := set_block b2
  have b4 : ((((Wc.setCell ⟨R + 1 + 1, 0, none⟩ (.int .i64 10)).setCell ⟨R + 1 + 1, 3, none⟩ (.int .i64 (nn p 0))).setCell ⟨R + 1 + 1, 4, none⟩ (.int .i64 0)).setCell ⟨R + 1 + 1, 5, none⟩ (.int .i64 0)).heap[R + 1 + 1]? = some (.cells #[.int .i64 10, .string (mkB p.tok), .int .i64 p.seq, .int .i64 (nn p 0), .int .i64 0, .int .i64 0, .int .i64 0, .int .i64 0, .int .i64 0, .string (ByteArray.mk #[]), .string (ByteArray.mk #[]), .bool false, .bool false] 24 (0, 0)) := set_block b3
  have b5 : (((((Wc.setCell ⟨R + 1 + 1, 0, none⟩ (.int .i64 10)).setCell ⟨R + 1 + 1, 3, none⟩ (.int .i64 (nn p 0))).setCell ⟨R + 1 + 1, 4, none⟩ (.int .i64 0)).setCell ⟨R + 1 + 1, 5, none⟩ (.int .i64 0)).setCell ⟨R + 1 + 1, 6, none⟩ (.int .i64 0)).heap[R + 1 + 1]? = some (.cells #[.int .i64 10, .string (mkB p.tok), .int .i64 p.seq, .int .i64 (nn p 0), .int .i64 0, .int .i64 0, .int .i64 0, .int .i64 0, .int .i64 0, .string (ByteArray.mk #[]), .string (ByteArray.mk #[]), .bool false, .bool false] 24 (0, 0)) := set_block b4
  have b6 : ((((((Wc.setCell ⟨R + 1 + 1, 0, none⟩ (.int .i64 10)).setCell ⟨R + 1 + 1, 3, none⟩ (.int .i64 (nn p 0))).setCell ⟨R + 1 + 1, 4, none⟩ (.int .i64 0)).setCell ⟨R + 1 + 1, 5, none⟩ (.int .i64 0)).setCell ⟨R + 1 + 1, 6, none⟩ (.int .i64 0)).setCell ⟨R + 1 + 1, 7, none⟩ (.int .i64 0)).heap[R + 1 + 1]? = some (.cells #[.int .i64 10, .string (mkB p.tok), .int .i64 p.seq, .int .i64 (nn p 0), .int .i64 0, .int .i64 0, .int .i64 0, .int .i64 0, .int .i64 0, .string (ByteArray.mk #[]), .string (ByteArray.mk #[]), .bool false, .bool false] 24 (0, 0)) := set_block b5
  have b7 : (((((((Wc.setCell ⟨R + 1 + 1, 0, none⟩ (.int .i64 10)).setCell ⟨R + 1 + 1, 3, none⟩ (.int .i64 (nn p 0))).setCell ⟨R + 1 + 1, 4, none⟩ (.int .i64 0)).setCell ⟨R + 1 + 1, 5, none⟩ (.int .i64 0)).setCell ⟨R + 1 + 1, 6, none⟩ (.int .i64 0)).setCell ⟨R + 1 + 1, 7, none⟩ (.int .i64 0)).setCell ⟨R + 1 + 1, 8, none⟩ (.int .i64 0)).heap[R + 1 + 1]? = some (.cells #[.int .i64 10, .string (mkB p.tok), .int .i64 p.seq, .int .i64 (nn p 0), .int .i64 0, .int .i64 0, .int .i64 0, .int .i64 0, .int .i64 0, .string (ByteArray.mk #[]), .string (ByteArray.mk #[]), .bool false, .bool false] 24 (0, 0)) := set_block b6
  have hpb : WD.heap[R + 1 + 1]? = some (.cells #[.int .i64 10, .string (mkB p.tok), .int .i64 p.seq, .int .i64 (nn p 0), .int .i64 0, .int .i64 0, .int .i64 0, .int .i64 0, .int .i64 0, .string (ByteArray.mk #[]), .string (ByteArray.mk #[]), .bool false, .bool false] 24 (0, 0)) := by
    rw [hWD, heap_drew]
    exact b7
  have hpz : WD.heap[R + 1]? = some (.cells #[.int .i64 0, .string (ByteArray.mk #[]), .int .i64 0, .int .i64 0, .int .i64 0, .int .i64 0, .int .i64 0, .int .i64 0, .int .i64 0, .string (ByteArray.mk #[]), .string (ByteArray.mk #[]), .bool false, .bool false] 24 (0, 0)) := by
    rw [hWD, heap_drew]
    exact ((Below.heap_setCell _ _ _ _ (by show R + 1 ≠ R + 1 + 1; omega)).trans ((Below.heap_setCell _ _ _ _ (by show R + 1 ≠ R + 1 + 1; omega)).trans ((Below.heap_setCell _ _ _ _ (by show R + 1 ≠ R + 1 + 1; omega)).trans ((Below.heap_setCell _ _ _ _ (by show R + 1 ≠ R + 1 + 1; omega)).trans ((Below.heap_setCell _ _ _ _ (by show R + 1 ≠ R + 1 + 1; omega)).trans ((Below.heap_setCell _ _ _ _ (by show R + 1 ≠ R + 1 + 1; omega)).trans ((Below.heap_setCell _ _ _ _ (by show R + 1 ≠ R + 1 + 1; omega)).trans HZ.out)))))))
  have hbd : Below R w WD := by rw [hWD]; exact (Below.drew (below_put (below_put (below_put (below_put (below_put (below_put (below_put HBL.out (by omega) _) (by omega) _) (by omega) _) (by omega) _) (by omega) _) (by omega) _) (by omega) _))
  clear hWD HC HZ HBL p0 p1 p2 p3 p4 p5 p6 p7 p8 p9 p10 p11 p12 fp g0 b0 b1 b2 b3 b4 b5 b6 b7
  obtain ⟨p0, p1, p2, p3, p4, p5, p6, p7, p8, p9, p10, p11, p12⟩ := cell13 hpb
  obtain ⟨z0, z1, z2, z3, z4, z5, z6, z7, z8, z9, z10, z11, z12⟩ := cell13 hpz
  have fz := fun i => free_at (i := i) hpz
  have HPZ := Lib.hid hpz
  have HBD := Lib.hid hbd
  clear hpb hpz hbd
  go_wp2_with fail
  obtain ⟨WN, hWN⟩ : ∃ WN, WN = (((((((((((((WD.setCell ⟨R + 1, 0, none⟩ (.int .i64 10)).setCell ⟨R + 1, 1, none⟩ (.string (mkB p.tok))).setCell ⟨R + 1, 2, none⟩ (.int .i64 p.seq)).setCell ⟨R + 1, 3, none⟩ (.int .i64 (nn p 0))).setCell ⟨R + 1, 4, none⟩ (.int .i64 0)).setCell ⟨R + 1, 5, none⟩ (.int .i64 0)).setCell ⟨R + 1, 6, none⟩ (.int .i64 0)).setCell ⟨R + 1, 7, none⟩ (.int .i64 0)).setCell ⟨R + 1, 8, none⟩ (.int .i64 0)).setCell ⟨R + 1, 9, none⟩ (.string (ByteArray.mk #[]))).setCell ⟨R + 1, 10, none⟩ (.string (ByteArray.mk #[]))).setCell ⟨R + 1, 11, none⟩ (.bool false)).setCell ⟨R + 1, 12, none⟩ (.bool false)) := ⟨_, rfl⟩
  rw [← hWN]
  have hfin : WN.heap[R + 1]? = some (.cells #[.int .i64 10, .string (mkB p.tok), .int .i64 p.seq, .int .i64 (nn p 0), .int .i64 0, .int .i64 0, .int .i64 0, .int .i64 0, .int .i64 0, .string (ByteArray.mk #[]), .string (ByteArray.mk #[]), .bool false, .bool false] 24 (0, 0)) ∧ Below R w WN := by
    rw [hWN]
    exact fin13c HPZ.out rfl HBD.out (by omega) (.int .i64 10) (.string (mkB p.tok)) (.int .i64 p.seq) (.int .i64 (nn p 0)) (.int .i64 0) (.int .i64 0) (.int .i64 0) (.int .i64 0) (.int .i64 0) (.string (ByteArray.mk #[])) (.string (ByteArray.mk #[])) (.bool false) (.bool false)
  obtain ⟨y0, y1, y2, y3, y4, y5, y6, y7, y8, y9, y10, y11, y12⟩ := cell13 hfin.1
  have hbw := hfin.2
  rw [HR.out] at hbw
  exact bodyPost_ret (v := .agg #[.int .i64 10, .string (mkB p.tok), .int .i64 p.seq, .int .i64 (nn p 0), .int .i64 0, .int .i64 0, .int .i64 0, .int .i64 0, .int .i64 0, .string (ByteArray.mk #[]), .string (ByteArray.mk #[]), .bool false, .bool false]) (by simp [results, Try.results15, go_sem, y0, y1, y2, y3, y4, y5, y6, y7, y8, y9, y10, y11, y12, Try.isAgg24, Try.sizeOf24]) rfl ⟨rfl, hbw⟩
set_option maxHeartbeats 8000000 in
theorem back11 (p : Pl) (w : World) : Calls Try.prog 15 #[.agg #[.string (mkB p.tok), .int .i64 p.seq, .iface 80 (.agg #[.int .i64 (nn p 0), .int .i64 (nn p 1), .int .i64 (nn p 2)])]] w fun e w' => e = .returned (plV (⟨11, p.tok, p.seq, [nn p 0, nn p 1, nn p 2, 0, 0, 0], [], [], false, false⟩ : Pl)) ∧ Below w.heap.size w w' := by
  have hpv : plV (⟨11, p.tok, p.seq, [nn p 0, nn p 1, nn p 2, 0, 0, 0], [], [], false, false⟩ : Pl) = .agg #[.int .i64 11, .string (mkB p.tok), .int .i64 p.seq, .int .i64 (nn p 0), .int .i64 (nn p 1), .int .i64 (nn p 2), .int .i64 0, .int .i64 0, .int .i64 0, .string (ByteArray.mk #[]), .string (ByteArray.mk #[]), .bool false, .bool false] := by simp [plV, nn, mkB_nil]
  rw [hpv]
  clear hpv
  obtain ⟨R, hR⟩ : ∃ R, R = w.heap.size := ⟨_, rfl⟩
  obtain ⟨B0, P0, L0⟩ := box1 w #[.string (mkB p.tok), .int .i64 p.seq, .iface 80 (.agg #[.int .i64 (nn p 0), .int .i64 (nn p 1), .int .i64 (nn p 2)])] 30
  obtain ⟨Wx, hWx⟩ : ∃ Wx, Wx = w.alloc (.cells #[.string (mkB p.tok), .int .i64 p.seq, .iface 80 (.agg #[.int .i64 (nn p 0), .int .i64 (nn p 1), .int .i64 (nn p 2)])] 30) := ⟨_, rfl⟩
  rw [← hWx] at B0 P0 L0
  obtain ⟨B1, P1, L1⟩ := box1 Wx #[.int .i64 0, .string (ByteArray.mk #[]), .int .i64 0, .int .i64 0, .int .i64 0, .int .i64 0, .int .i64 0, .int .i64 0, .int .i64 0, .string (ByteArray.mk #[]), .string (ByteArray.mk #[]), .bool false, .bool false] 24
  obtain ⟨Wa, hWa⟩ : ∃ Wa, Wa = Wx.alloc (.cells #[.int .i64 0, .string (ByteArray.mk #[]), .int .i64 0, .int .i64 0, .int .i64 0, .int .i64 0, .int .i64 0, .int .i64 0, .int .i64 0, .string (ByteArray.mk #[]), .string (ByteArray.mk #[]), .bool false, .bool false] 24) := ⟨_, rfl⟩
  rw [← hWa] at B1 P1 L1
  obtain ⟨B2, P2, L2⟩ := box1 Wa #[.int .i64 0, .string (mkB p.tok), .int .i64 p.seq, .int .i64 0, .int .i64 0, .int .i64 0, .int .i64 0, .int .i64 0, .int .i64 0, .string (ByteArray.mk #[]), .string (ByteArray.mk #[]), .bool false, .bool false] 24
  obtain ⟨Wb, hWb⟩ : ∃ Wb, Wb = Wa.alloc (.cells #[.int .i64 0, .string (mkB p.tok), .int .i64 p.seq, .int .i64 0, .int .i64 0, .int .i64 0, .int .i64 0, .int .i64 0, .int .i64 0, .string (ByteArray.mk #[]), .string (ByteArray.mk #[]), .bool false, .bool false] 24) := ⟨_, rfl⟩
  rw [← hWb] at B2 P2 L2
  obtain ⟨B3, P3, L3⟩ := box1 Wb #[.int .i64 (nn p 0), .int .i64 (nn p 1), .int .i64 (nn p 2)] 80
  obtain ⟨Wc, hWc⟩ : ∃ Wc, Wc = Wb.alloc (.cells #[.int .i64 (nn p 0), .int .i64 (nn p 1), .int .i64 (nn p 2)] 80) := ⟨_, rfl⟩
  rw [← hWc] at B3 P3 L3
  rw [L0, ← hR] at L1 P1
  rw [L1] at P2 L2
  rw [L2] at P3 L3
  rw [← hR] at P0 L0
  have q1 : Wa.heap[R]? = some (.cells #[.string (mkB p.tok), .int .i64 p.seq, .iface 80 (.agg #[.int .i64 (nn p 0), .int .i64 (nn p 1), .int .i64 (nn p 2)])] 30 (0, 0)) := (B1.block R (by omega)).trans P0
  have q2 : Wb.heap[R]? = some (.cells #[.string (mkB p.tok), .int .i64 p.seq, .iface 80 (.agg #[.int .i64 (nn p 0), .int .i64 (nn p 1), .int .i64 (nn p 2)])] 30 (0, 0)) := (B2.block R (by omega)).trans q1
  have r3 : Wc.heap[R + 1]? = some (.cells #[.int .i64 0, .string (ByteArray.mk #[]), .int .i64 0, .int .i64 0, .int .i64 0, .int .i64 0, .int .i64 0, .int .i64 0, .int .i64 0, .string (ByteArray.mk #[]), .string (ByteArray.mk #[]), .bool false, .bool false] 24 (0, 0)) := (B3.block (R + 1) (by omega)).trans ((B2.block (R + 1) (by omega)).trans P1)
  have c3 : Wc.heap[R + 1 + 1]? = some (.cells #[.int .i64 0, .string (mkB p.tok), .int .i64 p.seq, .int .i64 0, .int .i64 0, .int .i64 0, .int .i64 0, .int .i64 0, .int .i64 0, .string (ByteArray.mk #[]), .string (ByteArray.mk #[]), .bool false, .bool false] 24 (0, 0)) := (B3.block (R + 1 + 1) (by omega)).trans P2
  have hbl := below_on (below_on (below_on B0 B1) B2) B3
  rw [hWx] at hWa
  have HSA : Hid (Wa.heap.size = R + 1 + 1) := L1
  have HSB : Hid (Wb.heap.size = R + 1 + 1 + 1) := L2
  have HWA := Lib.hid hWa
  have HWB := Lib.hid hWb
  have HWC := Lib.hid hWc
  have HR := Lib.hid hR
  have HBL : Hid (Below R w Wc) := by rw [hR]; exact hbl
  have H2 := Lib.hid q2
  have H3 := Lib.hid (And.intro r3 (And.intro c3 P3))
  obtain ⟨a0, a1, a2⟩ := three_cells q1
  have yes := is11 (.agg #[.int .i64 (nn p 0), .int .i64 (nn p 1), .int .i64 (nn p 2)])
  have n1 := fun w => no1 80 (.agg #[.int .i64 (nn p 0), .int .i64 (nn p 1), .int .i64 (nn p 2)]) w (by decide)
  have n2 := fun w => no2 80 (.agg #[.int .i64 (nn p 0), .int .i64 (nn p 1), .int .i64 (nn p 2)]) w (by decide)
  have n3 := fun w => no3 80 (.agg #[.int .i64 (nn p 0), .int .i64 (nn p 1), .int .i64 (nn p 2)]) w (by decide)
  have n4 := fun w => no4 80 (.agg #[.int .i64 (nn p 0), .int .i64 (nn p 1), .int .i64 (nn p 2)]) w (by decide)
  have n5 := fun w => no5 80 (.agg #[.int .i64 (nn p 0), .int .i64 (nn p 1), .int .i64 (nn p 2)]) w (by decide)
  have n6 := fun w => no6 80 (.agg #[.int .i64 (nn p 0), .int .i64 (nn p 1), .int .i64 (nn p 2)]) w (by decide)
  have n7 := fun w => no7 80 (.agg #[.int .i64 (nn p 0), .int .i64 (nn p 1), .int .i64 (nn p 2)]) w (by decide)
  have n8 := fun w => no8 80 (.agg #[.int .i64 (nn p 0), .int .i64 (nn p 1), .int .i64 (nn p 2)]) w (by decide)
  have n9 := fun w => no9 80 (.agg #[.int .i64 (nn p 0), .int .i64 (nn p 1), .int .i64 (nn p 2)]) w (by decide)
  have n10 := fun w => no10 80 (.agg #[.int .i64 (nn p 0), .int .i64 (nn p 1), .int .i64 (nn p 2)]) w (by decide)
  clear hWx hWa hWb hWc hR B0 P0 L0 B1 P1 L1 B2 P2 L2 B3 P3 L3 q1 q2 r3 c3 hbl
  go_enter Try.func15, Try.ntmps15
  go_upto_region 1 with fail
  rw [← HWA.out, ← HR.out]
  go_upto_region 2 with fail
  rw [← HWB.out, HSA.out]
  clear a0 a1 a2
  obtain ⟨a0, a1, a2⟩ := three_cells H2.out
  go_upto_region 35 with fail
  rw [← HWC.out, HSB.out]
  have hc := H3.out.2.1
  have hf := H3.out.2.2
  obtain ⟨p0, p1, p2, p3, p4, p5, p6, p7, p8, p9, p10, p11, p12⟩ := cell13 hc
  have fp := fun i => free_at (i := i) hc
  have g0 : Wc.cell? ⟨R + 1 + 1 + 1, 0, none⟩ = some (.int .i64 (nn p 0)) := by rw [cell_of_row _ _ _ _ _ _ hf]; rfl
  have g1 : Wc.cell? ⟨R + 1 + 1 + 1, 1, none⟩ = some (.int .i64 (nn p 1)) := by rw [cell_of_row _ _ _ _ _ _ hf]; rfl
  have g2 : Wc.cell? ⟨R + 1 + 1 + 1, 2, none⟩ = some (.int .i64 (nn p 2)) := by rw [cell_of_row _ _ _ _ _ _ hf]; rfl
  have HC := Lib.hid hc
  have HZ := Lib.hid H3.out.1
  clear hc hf a0 a1 a2 H2 H3
  go_region
  obtain ⟨WD, hWD⟩ : ∃ WD, WD = (((((((Wc.setCell ⟨R + 1 + 1, 0, none⟩ (.int .i64 11)).setCell ⟨R + 1 + 1, 3, none⟩ (.int .i64 (nn p 0))).setCell ⟨R + 1 + 1, 4, none⟩ (.int .i64 (nn p 1))).setCell ⟨R + 1 + 1, 5, none⟩ (.int .i64 (nn p 2))).setCell ⟨R + 1 + 1, 6, none⟩ (.int .i64 0)).setCell ⟨R + 1 + 1, 7, none⟩ (.int .i64 0)).setCell ⟨R + 1 + 1, 8, none⟩ (.int .i64 0)).drew := ⟨_, rfl⟩
  rw [← hWD]
  have b0 : Wc.heap[R + 1 + 1]? = some (.cells #[.int .i64 0, .string (mkB p.tok), .int .i64 p.seq, .int .i64 0, .int .i64 0, .int .i64 0, .int .i64 0, .int .i64 0, .int .i64 0, .string (ByteArray.mk #[]), .string (ByteArray.mk #[]), .bool false, .bool false] 24 (0, 0)) := HC.out
  have b1 : (Wc.setCell ⟨R + 1 + 1, 0, none⟩ (.int .i64 11)).heap[R + 1 + 1]? = some (.cells #[.int .i64 11, .string (mkB p.tok), .int .i64 p.seq, .int .i64 0, .int .i64 0, .int .i64 0, .int .i64 0, .int .i64 0, .int .i64 0, .string (ByteArray.mk #[]), .string (ByteArray.mk #[]), .bool false, .bool false] 24 (0, 0)) := set_block b0
  have b2 : ((Wc.setCell ⟨R + 1 + 1, 0, none⟩ (.int .i64 11)).setCell ⟨R + 1 + 1, 3, none⟩ (.int .i64 (nn p 0))).heap[R + 1 + 1]? = some (.cells #[.int .i64 11, .string (mkB p.tok), .int .i64 p.seq, .int .i64 (nn p 0), .int .i64 0, .int .i64 0, .int .i64 0, .int .i64 0, .int .i64 0, .string (ByteArray.mk #[]), .string (ByteArray.mk #[]), .bool false, .bool false] 24 (0, 0)) := set_block b1
  have b3 : (((Wc.setCell ⟨R + 1 + 1, 0, none⟩ (.int .i64 11)).setCell ⟨R + 1 + 1, 3, none⟩ (.int .i64 (nn p 0))).setCell ⟨R + 1 + 1, 4, none⟩ (.int .i64 (nn p 1))).heap[R + 1 + 1]? = some (.cells #[.int .i64 11, .string (mkB p.tok), .int .i64 p.seq, .int .i64 (nn p 0), .int .i64 (nn p 1), .int .i64 0, .int .i64 0, .int .i64 0, .int .i64 0, .string (ByteArray.mk #[]), .string (ByteArray.mk #[]), .bool false, .bool false] 24 (0, 0)) := set_block b2
  have b4 : ((((Wc.setCell ⟨R + 1 + 1, 0, none⟩ (.int .i64 11)).setCell ⟨R + 1 + 1, 3, none⟩ (.int .i64 (nn p 0))).setCell ⟨R + 1 + 1, 4, none⟩ (.int .i64 (nn p 1))).setCell ⟨R + 1 + 1, 5, none⟩ (.int .i64 (nn p 2))).heap[R + 1 + 1]? = some (.cells #[.int .i64 11, .string (mkB p.tok), .int .i64 p.seq, .int .i64 (nn p 0), .int .i64 (nn p 1), .int .i64 (nn p 2), .int .i64 0, .int .i64 0, .int .i64 0, .string (ByteArray.mk #[]), .string (ByteArray.mk #[]), .bool false, .bool false] 24 (0, 0)) := set_block b3
  have b5 : (((((Wc.setCell ⟨R + 1 + 1, 0, none⟩ (.int .i64 11)).setCell ⟨R + 1 + 1, 3, none⟩ (.int .i64 (nn p 0))).setCell ⟨R + 1 + 1, 4, none⟩ (.int .i64 (nn p 1))).setCell ⟨R + 1 + 1, 5, none⟩ (.int .i64 (nn p 2))).setCell ⟨R + 1 + 1, 6, none⟩ (.int .i64 0)).heap[R + 1 + 1]? = some (.cells #[.int .i64 11, .string (mkB p.tok), .int .i64 p.seq, .int .i64 (nn p 0), .int .i64 (nn p 1), .int .i64 (nn p 2), .int .i64 0, .int .i64 0, .int .i64 0, .string (ByteArray.mk #[]), .string (ByteArray.mk #[]), .bool false, .bool false] 24 (0, 0)) := set_block b4
  have b6 : ((((((Wc.setCell ⟨R + 1 + 1, 0, none⟩ (.int .i64 11)).setCell ⟨R + 1 + 1, 3, none⟩ (.int .i64 (nn p 0))).setCell ⟨R + 1 + 1, 4, none⟩ (.int .i64 (nn p 1))).setCell ⟨R + 1 + 1, 5, none⟩ (.int .i64 (nn p 2))).setCell ⟨R + 1 + 1, 6, none⟩ (.int .i64 0)).setCell ⟨R + 1 + 1, 7, none⟩ (.int .i64 0)).heap[R + 1 + 1]? = some (.cells #[.int .i64 11, .string (mkB p.tok), .int .i64 p.seq, .int .i64 (nn p 0), .int .i64 (nn p 1), .int .i64 (nn p 2), .int .i64 0, .int .i64 0, .int .i64 0, .string (ByteArray.mk #[]), .string (ByteArray.mk #[]), .bool false, .bool false] 24 (0, 0)) := set_block b5
  have b7 : (((((((Wc.setCell ⟨R + 1 + 1, 0, none⟩ (.int .i64 11)).setCell ⟨R + 1 + 1, 3, none⟩ (.int .i64 (nn p 0))).setCell ⟨R + 1 + 1, 4, none⟩ (.int .i64 (nn p 1))).setCell ⟨R + 1 + 1, 5, none⟩ (.int .i64 (nn p 2))).setCell ⟨R + 1 + 1, 6, none⟩ (.int .i64 0)).setCell ⟨R + 1 + 1, 7, none⟩ (.int .i64 0)).setCell ⟨R + 1 + 1, 8, none⟩ (.int .i64 0)).heap[R + 1 + 1]? = some (.cells #[.int .i64 11, .string (mkB p.tok), .int .i64 p.seq, .int .i64 (nn p 0), .int .i64 (nn p 1), .int .i64 (nn p 2), .int .i64 0, .int .i64 0, .int .i64 0, .string (ByteArray.mk #[]), .string (ByteArray.mk #[]), .bool false, .bool false] 24 (0, 0)) := set_block b6
  have hpb : WD.heap[R + 1 + 1]? = some (.cells #[.int .i64 11, .string (mkB p.tok), .int .i64 p.seq, .int .i64 (nn p 0), .int .i64 (nn p 1), .int .i64 (nn p 2), .int .i64 0, .int .i64 0, .int .i64 0, .string (ByteArray.mk #[]), .string (ByteArray.mk #[]), .bool false, .bool false] 24 (0, 0)) := by
    rw [hWD, heap_drew]
    exact b7
  have hpz : WD.heap[R + 1]? = some (.cells #[.int .i64 0, .string (ByteArray.mk #[]), .int .i64 0, .int .i64 0, .int .i64 0, .int .i64 0, .int .i64 0, .int .i64 0, .int .i64 0, .string (ByteArray.mk #[]), .string (ByteArray.mk #[]), .bool false, .bool false] 24 (0, 0)) := by
    rw [hWD, heap_drew]
    exact ((Below.heap_setCell _ _ _ _ (by show R + 1 ≠ R + 1 + 1; omega)).trans ((Below.heap_setCell _ _ _ _ (by show R + 1 ≠ R + 1 + 1; omega)).trans ((Below.heap_setCell _ _ _ _ (by show R + 1 ≠ R + 1 + 1; omega)).trans ((Below.heap_setCell _ _ _ _ (by show R + 1 ≠ R + 1 + 1; omega)).trans ((Below.heap_setCell _ _ _ _ (by show R + 1 ≠ R + 1 + 1; omega)).trans ((Below.heap_setCell _ _ _ _ (by show R + 1 ≠ R + 1 + 1; omega)).trans ((Below.heap_setCell _ _ _ _ (by show R + 1 ≠ R + 1 + 1; omega)).trans HZ.out)))))))
  have hbd : Below R w WD := by rw [hWD]; exact (Below.drew (below_put (below_put (below_put (below_put (below_put (below_put (below_put HBL.out (by omega) _) (by omega) _) (by omega) _) (by omega) _) (by omega) _) (by omega) _) (by omega) _))
  clear hWD HC HZ HBL p0 p1 p2 p3 p4 p5 p6 p7 p8 p9 p10 p11 p12 fp g0 g1 g2 b0 b1 b2 b3 b4 b5 b6 b7
  obtain ⟨p0, p1, p2, p3, p4, p5, p6, p7, p8, p9, p10, p11, p12⟩ := cell13 hpb
  obtain ⟨z0, z1, z2, z3, z4, z5, z6, z7, z8, z9, z10, z11, z12⟩ := cell13 hpz
  have fz := fun i => free_at (i := i) hpz
  have HPZ := Lib.hid hpz
  have HBD := Lib.hid hbd
  clear hpb hpz hbd
  go_wp2_with fail
  obtain ⟨WN, hWN⟩ : ∃ WN, WN = (((((((((((((WD.setCell ⟨R + 1, 0, none⟩ (.int .i64 11)).setCell ⟨R + 1, 1, none⟩ (.string (mkB p.tok))).setCell ⟨R + 1, 2, none⟩ (.int .i64 p.seq)).setCell ⟨R + 1, 3, none⟩ (.int .i64 (nn p 0))).setCell ⟨R + 1, 4, none⟩ (.int .i64 (nn p 1))).setCell ⟨R + 1, 5, none⟩ (.int .i64 (nn p 2))).setCell ⟨R + 1, 6, none⟩ (.int .i64 0)).setCell ⟨R + 1, 7, none⟩ (.int .i64 0)).setCell ⟨R + 1, 8, none⟩ (.int .i64 0)).setCell ⟨R + 1, 9, none⟩ (.string (ByteArray.mk #[]))).setCell ⟨R + 1, 10, none⟩ (.string (ByteArray.mk #[]))).setCell ⟨R + 1, 11, none⟩ (.bool false)).setCell ⟨R + 1, 12, none⟩ (.bool false)) := ⟨_, rfl⟩
  rw [← hWN]
  have hfin : WN.heap[R + 1]? = some (.cells #[.int .i64 11, .string (mkB p.tok), .int .i64 p.seq, .int .i64 (nn p 0), .int .i64 (nn p 1), .int .i64 (nn p 2), .int .i64 0, .int .i64 0, .int .i64 0, .string (ByteArray.mk #[]), .string (ByteArray.mk #[]), .bool false, .bool false] 24 (0, 0)) ∧ Below R w WN := by
    rw [hWN]
    exact fin13c HPZ.out rfl HBD.out (by omega) (.int .i64 11) (.string (mkB p.tok)) (.int .i64 p.seq) (.int .i64 (nn p 0)) (.int .i64 (nn p 1)) (.int .i64 (nn p 2)) (.int .i64 0) (.int .i64 0) (.int .i64 0) (.string (ByteArray.mk #[])) (.string (ByteArray.mk #[])) (.bool false) (.bool false)
  obtain ⟨y0, y1, y2, y3, y4, y5, y6, y7, y8, y9, y10, y11, y12⟩ := cell13 hfin.1
  have hbw := hfin.2
  rw [HR.out] at hbw
  exact bodyPost_ret (v := .agg #[.int .i64 11, .string (mkB p.tok), .int .i64 p.seq, .int .i64 (nn p 0), .int .i64 (nn p 1), .int .i64 (nn p 2), .int .i64 0, .int .i64 0, .int .i64 0, .string (ByteArray.mk #[]), .string (ByteArray.mk #[]), .bool false, .bool false]) (by simp [results, Try.results15, go_sem, y0, y1, y2, y3, y4, y5, y6, y7, y8, y9, y10, y11, y12, Try.isAgg24, Try.sizeOf24]) rfl ⟨rfl, hbw⟩
set_option maxHeartbeats 8000000 in
theorem back12 (p : Pl) (w : World) : Calls Try.prog 15 #[.agg #[.string (mkB p.tok), .int .i64 p.seq, .iface 82 (.agg #[.int .i64 (nn p 0), .int .i64 (nn p 1)])]] w fun e w' => e = .returned (plV (⟨12, p.tok, p.seq, [nn p 0, nn p 1, 0, 0, 0, 0], [], [], false, false⟩ : Pl)) ∧ Below w.heap.size w w' := by
  have hpv : plV (⟨12, p.tok, p.seq, [nn p 0, nn p 1, 0, 0, 0, 0], [], [], false, false⟩ : Pl) = .agg #[.int .i64 12, .string (mkB p.tok), .int .i64 p.seq, .int .i64 (nn p 0), .int .i64 (nn p 1), .int .i64 0, .int .i64 0, .int .i64 0, .int .i64 0, .string (ByteArray.mk #[]), .string (ByteArray.mk #[]), .bool false, .bool false] := by simp [plV, nn, mkB_nil]
  rw [hpv]
  clear hpv
  obtain ⟨R, hR⟩ : ∃ R, R = w.heap.size := ⟨_, rfl⟩
  obtain ⟨B0, P0, L0⟩ := box1 w #[.string (mkB p.tok), .int .i64 p.seq, .iface 82 (.agg #[.int .i64 (nn p 0), .int .i64 (nn p 1)])] 30
  obtain ⟨Wx, hWx⟩ : ∃ Wx, Wx = w.alloc (.cells #[.string (mkB p.tok), .int .i64 p.seq, .iface 82 (.agg #[.int .i64 (nn p 0), .int .i64 (nn p 1)])] 30) := ⟨_, rfl⟩
  rw [← hWx] at B0 P0 L0
  obtain ⟨B1, P1, L1⟩ := box1 Wx #[.int .i64 0, .string (ByteArray.mk #[]), .int .i64 0, .int .i64 0, .int .i64 0, .int .i64 0, .int .i64 0, .int .i64 0, .int .i64 0, .string (ByteArray.mk #[]), .string (ByteArray.mk #[]), .bool false, .bool false] 24
  obtain ⟨Wa, hWa⟩ : ∃ Wa, Wa = Wx.alloc (.cells #[.int .i64 0, .string (ByteArray.mk #[]), .int .i64 0, .int .i64 0, .int .i64 0, .int .i64 0, .int .i64 0, .int .i64 0, .int .i64 0, .string (ByteArray.mk #[]), .string (ByteArray.mk #[]), .bool false, .bool false] 24) := ⟨_, rfl⟩
  rw [← hWa] at B1 P1 L1
  obtain ⟨B2, P2, L2⟩ := box1 Wa #[.int .i64 0, .string (mkB p.tok), .int .i64 p.seq, .int .i64 0, .int .i64 0, .int .i64 0, .int .i64 0, .int .i64 0, .int .i64 0, .string (ByteArray.mk #[]), .string (ByteArray.mk #[]), .bool false, .bool false] 24
  obtain ⟨Wb, hWb⟩ : ∃ Wb, Wb = Wa.alloc (.cells #[.int .i64 0, .string (mkB p.tok), .int .i64 p.seq, .int .i64 0, .int .i64 0, .int .i64 0, .int .i64 0, .int .i64 0, .int .i64 0, .string (ByteArray.mk #[]), .string (ByteArray.mk #[]), .bool false, .bool false] 24) := ⟨_, rfl⟩
  rw [← hWb] at B2 P2 L2
  obtain ⟨B3, P3, L3⟩ := box1 Wb #[.int .i64 (nn p 0), .int .i64 (nn p 1)] 82
  obtain ⟨Wc, hWc⟩ : ∃ Wc, Wc = Wb.alloc (.cells #[.int .i64 (nn p 0), .int .i64 (nn p 1)] 82) := ⟨_, rfl⟩
  rw [← hWc] at B3 P3 L3
  rw [L0, ← hR] at L1 P1
  rw [L1] at P2 L2
  rw [L2] at P3 L3
  rw [← hR] at P0 L0
  have q1 : Wa.heap[R]? = some (.cells #[.string (mkB p.tok), .int .i64 p.seq, .iface 82 (.agg #[.int .i64 (nn p 0), .int .i64 (nn p 1)])] 30 (0, 0)) := (B1.block R (by omega)).trans P0
  have q2 : Wb.heap[R]? = some (.cells #[.string (mkB p.tok), .int .i64 p.seq, .iface 82 (.agg #[.int .i64 (nn p 0), .int .i64 (nn p 1)])] 30 (0, 0)) := (B2.block R (by omega)).trans q1
  have r3 : Wc.heap[R + 1]? = some (.cells #[.int .i64 0, .string (ByteArray.mk #[]), .int .i64 0, .int .i64 0, .int .i64 0, .int .i64 0, .int .i64 0, .int .i64 0, .int .i64 0, .string (ByteArray.mk #[]), .string (ByteArray.mk #[]), .bool false, .bool false] 24 (0, 0)) := (B3.block (R + 1) (by omega)).trans ((B2.block (R + 1) (by omega)).trans P1)
  have c3 : Wc.heap[R + 1 + 1]? = some (.cells #[.int .i64 0, .string (mkB p.tok), .int .i64 p.seq, .int .i64 0, .int .i64 0, .int .i64 0, .int .i64 0, .int .i64 0, .int .i64 0, .string (ByteArray.mk #[]), .string (ByteArray.mk #[]), .bool false, .bool false] 24 (0, 0)) := (B3.block (R + 1 + 1) (by omega)).trans P2
  have hbl := below_on (below_on (below_on B0 B1) B2) B3
  rw [hWx] at hWa
  have HSA : Hid (Wa.heap.size = R + 1 + 1) := L1
  have HSB : Hid (Wb.heap.size = R + 1 + 1 + 1) := L2
  have HWA := Lib.hid hWa
  have HWB := Lib.hid hWb
  have HWC := Lib.hid hWc
  have HR := Lib.hid hR
  have HBL : Hid (Below R w Wc) := by rw [hR]; exact hbl
  have H2 := Lib.hid q2
  have H3 := Lib.hid (And.intro r3 (And.intro c3 P3))
  obtain ⟨a0, a1, a2⟩ := three_cells q1
  have yes := is12 (.agg #[.int .i64 (nn p 0), .int .i64 (nn p 1)])
  have n1 := fun w => no1 82 (.agg #[.int .i64 (nn p 0), .int .i64 (nn p 1)]) w (by decide)
  have n2 := fun w => no2 82 (.agg #[.int .i64 (nn p 0), .int .i64 (nn p 1)]) w (by decide)
  have n3 := fun w => no3 82 (.agg #[.int .i64 (nn p 0), .int .i64 (nn p 1)]) w (by decide)
  have n4 := fun w => no4 82 (.agg #[.int .i64 (nn p 0), .int .i64 (nn p 1)]) w (by decide)
  have n5 := fun w => no5 82 (.agg #[.int .i64 (nn p 0), .int .i64 (nn p 1)]) w (by decide)
  have n6 := fun w => no6 82 (.agg #[.int .i64 (nn p 0), .int .i64 (nn p 1)]) w (by decide)
  have n7 := fun w => no7 82 (.agg #[.int .i64 (nn p 0), .int .i64 (nn p 1)]) w (by decide)
  have n8 := fun w => no8 82 (.agg #[.int .i64 (nn p 0), .int .i64 (nn p 1)]) w (by decide)
  have n9 := fun w => no9 82 (.agg #[.int .i64 (nn p 0), .int .i64 (nn p 1)]) w (by decide)
  have n10 := fun w => no10 82 (.agg #[.int .i64 (nn p 0), .int .i64 (nn p 1)]) w (by decide)
  have n11 := fun w => no11 82 (.agg #[.int .i64 (nn p 0), .int .i64 (nn p 1)]) w (by decide)
  clear hWx hWa hWb hWc hR B0 P0 L0 B1 P1 L1 B2 P2 L2 B3 P3 L3 q1 q2 r3 c3 hbl
  go_enter Try.func15, Try.ntmps15
  go_upto_region 1 with fail
  rw [← HWA.out, ← HR.out]
  go_upto_region 2 with fail
  rw [← HWB.out, HSA.out]
  clear a0 a1 a2
  obtain ⟨a0, a1, a2⟩ := three_cells H2.out
  go_upto_region 38 with fail
  rw [← HWC.out, HSB.out]
  have hc := H3.out.2.1
  have hf := H3.out.2.2
  obtain ⟨p0, p1, p2, p3, p4, p5, p6, p7, p8, p9, p10, p11, p12⟩ := cell13 hc
  have fp := fun i => free_at (i := i) hc
  have g0 : Wc.cell? ⟨R + 1 + 1 + 1, 0, none⟩ = some (.int .i64 (nn p 0)) := by rw [cell_of_row _ _ _ _ _ _ hf]; rfl
  have g1 : Wc.cell? ⟨R + 1 + 1 + 1, 1, none⟩ = some (.int .i64 (nn p 1)) := by rw [cell_of_row _ _ _ _ _ _ hf]; rfl
  have HC := Lib.hid hc
  have HZ := Lib.hid H3.out.1
  clear hc hf a0 a1 a2 H2 H3
  go_region
  obtain ⟨WD, hWD⟩ : ∃ WD, WD = (((((((Wc.setCell ⟨R + 1 + 1, 0, none⟩ (.int .i64 12)).setCell ⟨R + 1 + 1, 3, none⟩ (.int .i64 (nn p 0))).setCell ⟨R + 1 + 1, 4, none⟩ (.int .i64 (nn p 1))).setCell ⟨R + 1 + 1, 5, none⟩ (.int .i64 0)).setCell ⟨R + 1 + 1, 6, none⟩ (.int .i64 0)).setCell ⟨R + 1 + 1, 7, none⟩ (.int .i64 0)).setCell ⟨R + 1 + 1, 8, none⟩ (.int .i64 0)).drew := ⟨_, rfl⟩
  rw [← hWD]
  have b0 : Wc.heap[R + 1 + 1]? = some (.cells #[.int .i64 0, .string (mkB p.tok), .int .i64 p.seq, .int .i64 0, .int .i64 0, .int .i64 0, .int .i64 0, .int .i64 0, .int .i64 0, .string (ByteArray.mk #[]), .string (ByteArray.mk #[]), .bool false, .bool false] 24 (0, 0)) := HC.out
  have b1 : (Wc.setCell ⟨R + 1 + 1, 0, none⟩ (.int .i64 12)).heap[R + 1 + 1]? = some (.cells #[.int .i64 12, .string (mkB p.tok), .int .i64 p.seq, .int .i64 0, .int .i64 0, .int .i64 0, .int .i64 0, .int .i64 0, .int .i64 0, .string (ByteArray.mk #[]), .string (ByteArray.mk #[]), .bool false, .bool false] 24 (0, 0)) := set_block b0
  have b2 : ((Wc.setCell ⟨R + 1 + 1, 0, none⟩ (.int .i64 12)).setCell ⟨R + 1 + 1, 3, none⟩ (.int .i64 (nn p 0))).heap[R + 1 + 1]? = some (.cells #[.int .i64 12, .string (mkB p.tok), .int .i64 p.seq, .int .i64 (nn p 0), .int .i64 0, .int .i64 0, .int .i64 0, .int .i64 0, .int .i64 0, .string (ByteArray.mk #[]), .string (ByteArray.mk #[]), .bool false, .bool false] 24 (0, 0)) := set_block b1
  have b3 : (((Wc.setCell ⟨R + 1 + 1, 0, none⟩ (.int .i64 12)).setCell ⟨R + 1 + 1, 3, none⟩ (.int .i64 (nn p 0))).setCell ⟨R + 1 + 1, 4, none⟩ (.int .i64 (nn p 1))).heap[R + 1 + 1]? = some (.cells #[.int .i64 12, .string (mkB p.tok), .int .i64 p.seq, .int .i64 (nn p 0), .int .i64 (nn p 1), .int .i64 0, .int .i64 0, .int .i64 0, .int .i64 0, .string (ByteArray.mk #[]), .string (ByteArray.mk #[]), .bool false, .bool false] 24 (0, 0)) := set_block b2
  have b4 : ((((Wc.setCell ⟨R + 1 + 1, 0, none⟩ (.int .i64 12)).setCell ⟨R + 1 + 1, 3, none⟩ (.int .i64 (nn p 0))).setCell ⟨R + 1 + 1, 4, none⟩ (.int .i64 (nn p 1))).setCell ⟨R + 1 + 1, 5, none⟩ (.int .i64 0)).heap[R + 1 + 1]? = some (.cells #[.int .i64 12, .string (mkB p.tok), .int .i64 p.seq, .int .i64 (nn p 0), .int .i64 (nn p 1), .int .i64 0, .int .i64 0, .int .i64 0, .int .i64 0, .string (ByteArray.mk #[]), .string (ByteArray.mk #[]), .bool false, .bool false] 24 (0, 0)) := set_block b3
  have b5 : (((((Wc.setCell ⟨R + 1 + 1, 0, none⟩ (.int .i64 12)).setCell ⟨R + 1 + 1, 3, none⟩ (.int .i64 (nn p 0))).setCell ⟨R + 1 + 1, 4, none⟩ (.int .i64 (nn p 1))).setCell ⟨R + 1 + 1, 5, none⟩ (.int .i64 0)).setCell ⟨R + 1 + 1, 6, none⟩ (.int .i64 0)).heap[R + 1 + 1]? = some (.cells #[.int .i64 12, .string (mkB p.tok), .int .i64 p.seq, .int .i64 (nn p 0), .int .i64 (nn p 1), .int .i64 0, .int .i64 0, .int .i64 0, .int .i64 0, .string (ByteArray.mk #[]), .string (ByteArray.mk #[]), .bool false, .bool false] 24 (0, 0)) := set_block b4
  have b6 : ((((((Wc.setCell ⟨R + 1 + 1, 0, none⟩ (.int .i64 12)).setCell ⟨R + 1 + 1, 3, none⟩ (.int .i64 (nn p 0))).setCell ⟨R + 1 + 1, 4, none⟩ (.int .i64 (nn p 1))).setCell ⟨R + 1 + 1, 5, none⟩ (.int .i64 0)).setCell ⟨R + 1 + 1, 6, none⟩ (.int .i64 0)).setCell ⟨R + 1 + 1, 7, none⟩ (.int .i64 0)).heap[R + 1 + 1]? = some (.cells #[.int .i64 12, .string (mkB p.tok), .int .i64 p.seq, .int .i64 (nn p 0), .int .i64 (nn p 1), .int .i64 0, .int .i64 0, .int .i64 0, .int .i64 0, .string (ByteArray.mk #[]), .string (ByteArray.mk #[]), .bool false, .bool false] 24 (0, 0)) := set_block b5
  have b7 : (((((((Wc.setCell ⟨R + 1 + 1, 0, none⟩ (.int .i64 12)).setCell ⟨R + 1 + 1, 3, none⟩ (.int .i64 (nn p 0))).setCell ⟨R + 1 + 1, 4, none⟩ (.int .i64 (nn p 1))).setCell ⟨R + 1 + 1, 5, none⟩ (.int .i64 0)).setCell ⟨R + 1 + 1, 6, none⟩ (.int .i64 0)).setCell ⟨R + 1 + 1, 7, none⟩ (.int .i64 0)).setCell ⟨R + 1 + 1, 8, none⟩ (.int .i64 0)).heap[R + 1 + 1]? = some (.cells #[.int .i64 12, .string (mkB p.tok), .int .i64 p.seq, .int .i64 (nn p 0), .int .i64 (nn p 1), .int .i64 0, .int .i64 0, .int .i64 0, .int .i64 0, .string (ByteArray.mk #[]), .string (ByteArray.mk #[]), .bool false, .bool false] 24 (0, 0)) := set_block b6
  have hpb : WD.heap[R + 1 + 1]? = some (.cells #[.int .i64 12, .string (mkB p.tok), .int .i64 p.seq, .int .i64 (nn p 0), .int .i64 (nn p 1), .int .i64 0, .int .i64 0, .int .i64 0, .int .i64 0, .string (ByteArray.mk #[]), .string (ByteArray.mk #[]), .bool false, .bool false] 24 (0, 0)) := by
    rw [hWD, heap_drew]
    exact b7
  have hpz : WD.heap[R + 1]? = some (.cells #[.int .i64 0, .string (ByteArray.mk #[]), .int .i64 0, .int .i64 0, .int .i64 0, .int .i64 0, .int .i64 0, .int .i64 0, .int .i64 0, .string (ByteArray.mk #[]), .string (ByteArray.mk #[]), .bool false, .bool false] 24 (0, 0)) := by
    rw [hWD, heap_drew]
    exact ((Below.heap_setCell _ _ _ _ (by show R + 1 ≠ R + 1 + 1; omega)).trans ((Below.heap_setCell _ _ _ _ (by show R + 1 ≠ R + 1 + 1; omega)).trans ((Below.heap_setCell _ _ _ _ (by show R + 1 ≠ R + 1 + 1; omega)).trans ((Below.heap_setCell _ _ _ _ (by show R + 1 ≠ R + 1 + 1; omega)).trans ((Below.heap_setCell _ _ _ _ (by show R + 1 ≠ R + 1 + 1; omega)).trans ((Below.heap_setCell _ _ _ _ (by show R + 1 ≠ R + 1 + 1; omega)).trans ((Below.heap_setCell _ _ _ _ (by show R + 1 ≠ R + 1 + 1; omega)).trans HZ.out)))))))
  have hbd : Below R w WD := by rw [hWD]; exact (Below.drew (below_put (below_put (below_put (below_put (below_put (below_put (below_put HBL.out (by omega) _) (by omega) _) (by omega) _) (by omega) _) (by omega) _) (by omega) _) (by omega) _))
  clear hWD HC HZ HBL p0 p1 p2 p3 p4 p5 p6 p7 p8 p9 p10 p11 p12 fp g0 g1 b0 b1 b2 b3 b4 b5 b6 b7
  obtain ⟨p0, p1, p2, p3, p4, p5, p6, p7, p8, p9, p10, p11, p12⟩ := cell13 hpb
  obtain ⟨z0, z1, z2, z3, z4, z5, z6, z7, z8, z9, z10, z11, z12⟩ := cell13 hpz
  have fz := fun i => free_at (i := i) hpz
  have HPZ := Lib.hid hpz
  have HBD := Lib.hid hbd
  clear hpb hpz hbd
  go_wp2_with fail
  obtain ⟨WN, hWN⟩ : ∃ WN, WN = (((((((((((((WD.setCell ⟨R + 1, 0, none⟩ (.int .i64 12)).setCell ⟨R + 1, 1, none⟩ (.string (mkB p.tok))).setCell ⟨R + 1, 2, none⟩ (.int .i64 p.seq)).setCell ⟨R + 1, 3, none⟩ (.int .i64 (nn p 0))).setCell ⟨R + 1, 4, none⟩ (.int .i64 (nn p 1))).setCell ⟨R + 1, 5, none⟩ (.int .i64 0)).setCell ⟨R + 1, 6, none⟩ (.int .i64 0)).setCell ⟨R + 1, 7, none⟩ (.int .i64 0)).setCell ⟨R + 1, 8, none⟩ (.int .i64 0)).setCell ⟨R + 1, 9, none⟩ (.string (ByteArray.mk #[]))).setCell ⟨R + 1, 10, none⟩ (.string (ByteArray.mk #[]))).setCell ⟨R + 1, 11, none⟩ (.bool false)).setCell ⟨R + 1, 12, none⟩ (.bool false)) := ⟨_, rfl⟩
  rw [← hWN]
  have hfin : WN.heap[R + 1]? = some (.cells #[.int .i64 12, .string (mkB p.tok), .int .i64 p.seq, .int .i64 (nn p 0), .int .i64 (nn p 1), .int .i64 0, .int .i64 0, .int .i64 0, .int .i64 0, .string (ByteArray.mk #[]), .string (ByteArray.mk #[]), .bool false, .bool false] 24 (0, 0)) ∧ Below R w WN := by
    rw [hWN]
    exact fin13c HPZ.out rfl HBD.out (by omega) (.int .i64 12) (.string (mkB p.tok)) (.int .i64 p.seq) (.int .i64 (nn p 0)) (.int .i64 (nn p 1)) (.int .i64 0) (.int .i64 0) (.int .i64 0) (.int .i64 0) (.string (ByteArray.mk #[])) (.string (ByteArray.mk #[])) (.bool false) (.bool false)
  obtain ⟨y0, y1, y2, y3, y4, y5, y6, y7, y8, y9, y10, y11, y12⟩ := cell13 hfin.1
  have hbw := hfin.2
  rw [HR.out] at hbw
  exact bodyPost_ret (v := .agg #[.int .i64 12, .string (mkB p.tok), .int .i64 p.seq, .int .i64 (nn p 0), .int .i64 (nn p 1), .int .i64 0, .int .i64 0, .int .i64 0, .int .i64 0, .string (ByteArray.mk #[]), .string (ByteArray.mk #[]), .bool false, .bool false]) (by simp [results, Try.results15, go_sem, y0, y1, y2, y3, y4, y5, y6, y7, y8, y9, y10, y11, y12, Try.isAgg24, Try.sizeOf24]) rfl ⟨rfl, hbw⟩
end Go.Proofs.Ythegkookfpnbeaa.Wds
