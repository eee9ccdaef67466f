/- Words: the law's Back: a call's plain values. -/
import Derived.Test.YthegkookfpnbeaaGp
import Derived.RegionTactic
import Derived.Deep.RegionHeld3
import Derived.BigRegion
set_option linter.unusedVariables false
set_option linter.unusedSimpArgs false
set_option maxRecDepth 100000
namespace Go.Proofs.Ythegkookfpnbeaa.Wds
open Go.RowKit Go.Lib Go.Proofs.Ythegkookfpnbeaa.Bx Go.Proofs.Ythegkookfpnbeaa.Frm

set_option maxHeartbeats 8000000 in
theorem back5 (p : Pl) (w : World) : Calls Try.prog 15 #[.agg #[.string (mkB p.tok), .int .i64 p.seq, .iface 70 (.agg #[.int .i64 (nn p 0), .int .i64 (nn p 1), .int .i64 (nn p 2), .int .i64 (nn p 3)])]] w fun e w' => e = .returned (plV (⟨5, p.tok, p.seq, [nn p 0, nn p 1, nn p 2, nn p 3, 0, 0], [], [], false, false⟩ : Pl)) ∧ Below w.heap.size w w' := by
  have hpv : plV (⟨5, p.tok, p.seq, [nn p 0, nn p 1, nn p 2, nn p 3, 0, 0], [], [], false, false⟩ : Pl) = .agg #[.int .i64 5, .string (mkB p.tok), .int .i64 p.seq, .int .i64 (nn p 0), .int .i64 (nn p 1), .int .i64 (nn p 2), .int .i64 (nn p 3), .int .i64 0, .int .i64 0, .string (ByteArray.mk #[]), .string (ByteArray.mk #[]), .bool false, .bool false] := by simp [plV, nn, mkB_nil]
  rw [hpv]
  clear hpv
  obtain ⟨R, hR⟩ : ∃ R, R = w.heap.size := ⟨_, rfl⟩
  obtain ⟨B0, P0, L0⟩ := box1 w #[.string (mkB p.tok), .int .i64 p.seq, .iface 70 (.agg #[.int .i64 (nn p 0), .int .i64 (nn p 1), .int .i64 (nn p 2), .int .i64 (nn p 3)])] 30
  obtain ⟨Wx, hWx⟩ : ∃ Wx, Wx = w.alloc (.cells #[.string (mkB p.tok), .int .i64 p.seq, .iface 70 (.agg #[.int .i64 (nn p 0), .int .i64 (nn p 1), .int .i64 (nn p 2), .int .i64 (nn p 3)])] 30) := ⟨_, rfl⟩
  rw [← hWx] at B0 P0 L0
  obtain ⟨B1, P1, L1⟩ := box1 Wx #[.int .i64 0, .string (ByteArray.mk #[]), .int .i64 0, .int .i64 0, .int .i64 0, .int .i64 0, .int .i64 0, .int .i64 0, .int .i64 0, .string (ByteArray.mk #[]), .string (ByteArray.mk #[]), .bool false, .bool false] 24
  obtain ⟨Wa, hWa⟩ : ∃ Wa, Wa = Wx.alloc (.cells #[.int .i64 0, .string (ByteArray.mk #[]), .int .i64 0, .int .i64 0, .int .i64 0, .int .i64 0, .int .i64 0, .int .i64 0, .int .i64 0, .string (ByteArray.mk #[]), .string (ByteArray.mk #[]), .bool false, .bool false] 24) := ⟨_, rfl⟩
  rw [← hWa] at B1 P1 L1
  obtain ⟨B2, P2, L2⟩ := box1 Wa #[.int .i64 0, .string (mkB p.tok), .int .i64 p.seq, .int .i64 0, .int .i64 0, .int .i64 0, .int .i64 0, .int .i64 0, .int .i64 0, .string (ByteArray.mk #[]), .string (ByteArray.mk #[]), .bool false, .bool false] 24
  obtain ⟨Wb, hWb⟩ : ∃ Wb, Wb = Wa.alloc (.cells #[.int .i64 0, .string (mkB p.tok), .int .i64 p.seq, .int .i64 0, .int .i64 0, .int .i64 0, .int .i64 0, .int .i64 0, .int .i64 0, .string (ByteArray.mk #[]), .string (ByteArray.mk #[]), .bool false, .bool false] 24) := ⟨_, rfl⟩
  rw [← hWb] at B2 P2 L2
  obtain ⟨B3, P3, L3⟩ := box1 Wb #[.int .i64 (nn p 0), .int .i64 (nn p 1), .int .i64 (nn p 2), .int .i64 (nn p 3)] 70
  obtain ⟨Wc, hWc⟩ : ∃ Wc, Wc = Wb.alloc (.cells #[.int .i64 (nn p 0), .int .i64 (nn p 1), .int .i64 (nn p 2), .int .i64 (nn p 3)] 70) := ⟨_, rfl⟩
  rw [← hWc] at B3 P3 L3
  rw [L0, ← hR] at L1 P1
  rw [L1] at P2 L2
  rw [L2] at P3 L3
  rw [← hR] at P0 L0
  have q1 : Wa.heap[R]? = some (.cells #[.string (mkB p.tok), .int .i64 p.seq, .iface 70 (.agg #[.int .i64 (nn p 0), .int .i64 (nn p 1), .int .i64 (nn p 2), .int .i64 (nn p 3)])] 30 (0, 0)) := (B1.block R (by omega)).trans P0
  have q2 : Wb.heap[R]? = some (.cells #[.string (mkB p.tok), .int .i64 p.seq, .iface 70 (.agg #[.int .i64 (nn p 0), .int .i64 (nn p 1), .int .i64 (nn p 2), .int .i64 (nn p 3)])] 30 (0, 0)) := (B2.block R (by omega)).trans q1
  have r3 : Wc.heap[R + 1]? = some (.cells #[.int .i64 0, .string (ByteArray.mk #[]), .int .i64 0, .int .i64 0, .int .i64 0, .int .i64 0, .int .i64 0, .int .i64 0, .int .i64 0, .string (ByteArray.mk #[]), .string (ByteArray.mk #[]), .bool false, .bool false] 24 (0, 0)) := (B3.block (R + 1) (by omega)).trans ((B2.block (R + 1) (by omega)).trans P1)
  have c3 : Wc.heap[R + 1 + 1]? = some (.cells #[.int .i64 0, .string (mkB p.tok), .int .i64 p.seq, .int .i64 0, .int .i64 0, .int .i64 0, .int .i64 0, .int .i64 0, .int .i64 0, .string (ByteArray.mk #[]), .string (ByteArray.mk #[]), .bool false, .bool false] 24 (0, 0)) := (B3.block (R + 1 + 1) (by omega)).trans P2
  have hbl := below_on (below_on (below_on B0 B1) B2) B3
  rw [hWx] at hWa
  have HSA : Hid (Wa.heap.size = R + 1 + 1) := L1
  have HSB : Hid (Wb.heap.size = R + 1 + 1 + 1) := L2
  have HWA := Lib.hid hWa
  have HWB := Lib.hid hWb
  have HWC := Lib.hid hWc
  have HR := Lib.hid hR
  have HBL : Hid (Below R w Wc) := by rw [hR]; exact hbl
  have H2 := Lib.hid q2
  have H3 := Lib.hid (And.intro r3 (And.intro c3 P3))
  obtain ⟨a0, a1, a2⟩ := three_cells q1
  have yes := is5 (.agg #[.int .i64 (nn p 0), .int .i64 (nn p 1), .int .i64 (nn p 2), .int .i64 (nn p 3)])
  have n1 := fun w => no1 70 (.agg #[.int .i64 (nn p 0), .int .i64 (nn p 1), .int .i64 (nn p 2), .int .i64 (nn p 3)]) w (by decide)
  have n2 := fun w => no2 70 (.agg #[.int .i64 (nn p 0), .int .i64 (nn p 1), .int .i64 (nn p 2), .int .i64 (nn p 3)]) w (by decide)
  have n3 := fun w => no3 70 (.agg #[.int .i64 (nn p 0), .int .i64 (nn p 1), .int .i64 (nn p 2), .int .i64 (nn p 3)]) w (by decide)
  have n4 := fun w => no4 70 (.agg #[.int .i64 (nn p 0), .int .i64 (nn p 1), .int .i64 (nn p 2), .int .i64 (nn p 3)]) w (by decide)
  clear hWx hWa hWb hWc hR B0 P0 L0 B1 P1 L1 B2 P2 L2 B3 P3 L3 q1 q2 r3 c3 hbl
  go_enter Try.func15, Try.ntmps15
  go_upto_region 1 with fail
  rw [← HWA.out, ← HR.out]
  go_upto_region 2 with fail
  rw [← HWB.out, HSA.out]
  clear a0 a1 a2
  obtain ⟨a0, a1, a2⟩ := three_cells H2.out
  go_upto_region 17 with fail
  rw [← HWC.out, HSB.out]
  have hc := H3.out.2.1
  have hf := H3.out.2.2
  obtain ⟨p0, p1, p2, p3, p4, p5, p6, p7, p8, p9, p10, p11, p12⟩ := cell13 hc
  have fp := fun i => free_at (i := i) hc
  have g0 : Wc.cell? ⟨R + 1 + 1 + 1, 0, none⟩ = some (.int .i64 (nn p 0)) := by rw [cell_of_row _ _ _ _ _ _ hf]; rfl
  have g1 : Wc.cell? ⟨R + 1 + 1 + 1, 1, none⟩ = some (.int .i64 (nn p 1)) := by rw [cell_of_row _ _ _ _ _ _ hf]; rfl
  have g2 : Wc.cell? ⟨R + 1 + 1 + 1, 2, none⟩ = some (.int .i64 (nn p 2)) := by rw [cell_of_row _ _ _ _ _ _ hf]; rfl
  have g3 : Wc.cell? ⟨R + 1 + 1 + 1, 3, none⟩ = some (.int .i64 (nn p 3)) := by rw [cell_of_row _ _ _ _ _ _ hf]; rfl
  have HC := Lib.hid hc
  have HZ := Lib.hid H3.out.1
  clear hc hf a0 a1 a2 H2 H3
  go_region
  obtain ⟨WD, hWD⟩ : ∃ WD, WD = (((((((Wc.setCell ⟨R + 1 + 1, 0, none⟩ (.int .i64 5)).setCell ⟨R + 1 + 1, 3, none⟩ (.int .i64 (nn p 0))).setCell ⟨R + 1 + 1, 4, none⟩ (.int .i64 (nn p 1))).setCell ⟨R + 1 + 1, 5, none⟩ (.int .i64 (nn p 2))).setCell ⟨R + 1 + 1, 6, none⟩ (.int .i64 (nn p 3))).setCell ⟨R + 1 + 1, 7, none⟩ (.int .i64 0)).setCell ⟨R + 1 + 1, 8, none⟩ (.int .i64 0)).drew := ⟨_, rfl⟩
  rw [← hWD]
  have b0 : Wc.heap[R + 1 + 1]? = some (.cells #[.int .i64 0, .string (mkB p.tok), .int .i64 p.seq, .int .i64 0, .int .i64 0, .int .i64 0, .int .i64 0, .int .i64 0, .int .i64 0, .string (ByteArray.mk #[]), .string (ByteArray.mk #[]), .bool false, .bool false] 24 (0, 0)) := HC.out
  have b1 : (Wc.setCell ⟨R + 1 + 1, 0, none⟩ (.int .i64 5)).heap[R + 1 + 1]? = some (.cells #[.int .i64 5, .string (mkB p.tok), .int .i64 p.seq, .int .i64 0, .int .i64 0, .int .i64 0, .int .i64 0, .int .i64 0, .int .i64 0, .string (ByteArray.mk #[]), .string (ByteArray.mk #[]), .bool false, .bool false] 24 (0, 0)) := set_block b0
  have b2 : ((Wc.setCell ⟨R + 1 + 1, 0, none⟩ (.int .i64 5)).setCell ⟨R + 1 + 1, 3, none⟩ (.int .i64 (nn p 0))).heap[R + 1 + 1]? = some (.cells #[.int .i64 5, .string (mkB p.tok), .int .i64 p.seq, .int .i64 (nn p 0), .int .i64 0, .int .i64 0, .int .i64 0, .int .i64 0, .int .i64 0, .string (ByteArray.mk #[]), .string (ByteArray.mk #[]), .bool false, .bool false] 24 (0, 0)) := set_block b1
  have b3 : (((Wc.setCell ⟨R + 1 + 1, 0, none⟩ (.int .i64 5)).setCell ⟨R + 1 + 1, 3, none⟩ (.int .i64 (nn p 0))).setCell ⟨R + 1 + 1, 4, none⟩ (.int .i64 (nn p 1))).heap[R + 1 + 1]? = some (.cells #[.int .i64 5, .string (mkB p.tok), .int .i64 p.seq, .int .i64 (nn p 0), .int .i64 (nn p 1), .int .i64 0, .int .i64 0, .int .i64 0, .int .i64 0, .string (ByteArray.mk #[]), .string (ByteArray.mk #[]), .bool false, .bool false] 24 (0, 0)) := set_block b2
  have b4 : ((((Wc.setCell ⟨R + 1 + 1, 0, none⟩ (.int .i64 5)).setCell ⟨R + 1 + 1, 3, none⟩ (.int .i64 (nn p 0))).setCell ⟨R + 1 + 1, 4, none⟩ (.int .i64 (nn p 1))).setCell ⟨R + 1 + 1, 5, none⟩ (.int .i64 (nn p 2))).heap[R + 1 + 1]? = some (.cells #[.int .i64 5, .string (mkB p.tok), .int .i64 p.seq, .int .i64 (nn p 0), .int .i64 (nn p 1), .int .i64 (nn p 2), .int .i64 0, .int .i64 0, .int .i64 0, .string (ByteArray.mk #[]), .string (ByteArray.mk #[]), .bool false, .bool false] 24 (0, 0)) := set_block b3
  have b5 : (((((Wc.setCell ⟨R + 1 + 1, 0, none⟩ (.int .i64 5)).setCell ⟨R + 1 + 1, 3, none⟩ (.int .i64 (nn p 0))).setCell ⟨R + 1 + 1, 4, none⟩ (.int .i64 (nn p 1))).setCell ⟨R + 1 + 1, 5, none⟩ (.int .i64 (nn p 2))).setCell ⟨R + 1 + 1, 6, none⟩ (.int .i64 (nn p 3))).heap[R + 1 + 1]? = some (.cells #[.int .i64 5, .string (mkB p.tok), .int .i64 p.seq, .int .i64 (nn p 0), .int .i64 (nn p 1), .int .i64 (nn p 2), .int .i64 (nn p 3), .int .i64 0, .int .i64 0, .string (ByteArray.mk #[]), .string (ByteArray.mk #[]), .bool false, .bool false] 24 (0, 0)) := set_block b4
  have b6 : ((((((Wc.setCell ⟨R + 1 + 1, 0, none⟩ (.int .i64 5)).setCell ⟨R + 1 + 1, 3, none⟩ (.int .i64 (nn p 0))).setCell ⟨R + 1 + 1, 4, none⟩ (.int .i64 (nn p 1))).setCell ⟨R + 1 + 1, 5, none⟩ (.int .i64 (nn p 2))).setCell ⟨R + 1 + 1, 6, none⟩ (.int .i64 (nn p 3))).setCell ⟨R + 1 + 1, 7, none⟩ (.int .i64 0)).heap[R + 1 + 1]? = some (.cells #[.int .i64 5, .string (mkB p.tok), .int .i64 p.seq, .int .i64 (nn p 0), .int .i64 (nn p 1), .int .i64 (nn p 2), .int .i64 (nn p 3), .int .i64 0, .int .i64 0, .string (ByteArray.mk #[]), .string (ByteArray.mk #[]), .bool false, .bool false] 24 (0, 0)) := set_block b5
  have b7 : (((((((Wc.setCell ⟨R + 1 + 1, 0, none⟩ (.int .i64 5)).setCell ⟨R + 1 + 1, 3, none⟩ (.int .i64 (nn p 0))).setCell ⟨R + 1 + 1, 4, none⟩ (.int .i64 (nn p 1))).setCell ⟨R + 1 + 1, 5, none⟩ (.int .i64 (nn p 2))).setCell ⟨R + 1 + 1, 6, none⟩ (.int .i64 (nn p 3))).setCell ⟨R + 1 + 1, 7, none⟩ (.int .i64 0)).setCell ⟨R + 1 + 1, 8, none⟩ (.int .i64 0)).heap[R + 1 + 1]? = some (.cells #[.int .i64 5, .string (mkB p.tok), .int .i64 p.seq, .int .i64 (nn p 0), .int .i64 (nn p 1), .int .i64 (nn p 2), .int .i64 (nn p 3), .int .i64 0, .int .i64 0, .string (ByteArray.mk #[]), .string (ByteArray.mk #[]), .bool false, .bool false] 24 (0, 0)) := set_block b6
  have hpb : WD.heap[R + 1 + 1]? = some (.cells #[.int .i64 5, .string (mkB p.tok), .int .i64 p.seq, .int .i64 (nn p 0), .int .i64 (nn p 1), .int .i64 (nn p 2), .int .i64 (nn p 3), .int .i64 0, .int .i64 0, .string (ByteArray.mk #[]), .string (ByteArray.mk #[]), .bool false, .bool false] 24 (0, 0)) := by
    rw [hWD, heap_drew]
    exact b7
  have hpz : WD.heap[R + 1]? = some (.cells #[.int .i64 0, .string (ByteArray.mk #[]), .int .i64 0, .int .i64 0, .int .i64 0, .int .i64 0, .int .i64 0, .int .i64 0, .int .i64 0, .string (ByteArray.mk #[]), .string (ByteArray.mk #[]), .bool false, .bool false] 24 (0, 0)) := by
    rw [hWD, heap_drew]
    exact ((Below.heap_setCell _ _ _ _ (by show R + 1 ≠ R + 1 + 1; omega)).trans ((Below.heap_setCell _ _ _ _ (by show R + 1 ≠ R + 1 + 1; omega)).trans ((Below.heap_setCell _ _ _ _ (by show R + 1 ≠ R + 1 + 1; omega)).trans ((Below.heap_setCell _ _ _ _ (by show R + 1 ≠ R + 1 + 1; omega)).trans ((Below.heap_setCell _ _ _ _ (by show R + 1 ≠ R + 1 + 1; omega)).trans ((Below.heap_setCell _ _ _ _ (by show R + 1 ≠ R + 1 + 1; omega)).trans ((Below.heap_setCell _ _ _ _ (by show R + 1 ≠ R + 1 + 1; omega)).trans HZ.out)))))))
  have hbd : Below R w WD := by rw [hWD]; exact (Below.drew (below_put (below_put (below_put (below_put (below_put (below_put (below_put HBL.out (by omega) _) (by omega) _) (by omega) _) (by omega) _) (by omega) _) (by omega) _) (by omega) _))
  clear hWD HC HZ HBL p0 p1 p2 p3 p4 p5 p6 p7 p8 p9 p10 p11 p12 fp g0 g1 g2 g3 b0 b1 b2 b3 b4 b5 b6 b7
  obtain ⟨p0, p1, p2, p3, p4, p5, p6, p7, p8, p9, p10, p11, p12⟩ := cell13 hpb
  obtain ⟨z0, z1, z2, z3, z4, z5, z6, z7, z8, z9, z10, z11, z12⟩ := cell13 hpz
  have fz := fun i => free_at (i := i) hpz
  have HPZ := Lib.hid hpz
  have HBD := Lib.hid hbd
  clear hpb hpz hbd
  go_wp2_with fail
  obtain ⟨WN, hWN⟩ : ∃ WN, WN = (((((((((((((WD.setCell ⟨R + 1, 0, none⟩ (.int .i64 5)).setCell ⟨R + 1, 1, none⟩ (.string (mkB p.tok))).setCell ⟨R + 1, 2, none⟩ (.int .i64 p.seq)).setCell ⟨R + 1, 3, none⟩ (.int .i64 (nn p 0))).setCell ⟨R + 1, 4, none⟩ (.int .i64 (nn p 1))).setCell ⟨R + 1, 5, none⟩ (.int .i64 (nn p 2))).setCell ⟨R + 1, 6, none⟩ (.int .i64 (nn p 3))).setCell ⟨R + 1, 7, none⟩ (.int .i64 0)).setCell ⟨R + 1, 8, none⟩ (.int .i64 0)).setCell ⟨R + 1, 9, none⟩ (.string (ByteArray.mk #[]))).setCell ⟨R + 1, 10, none⟩ (.string (ByteArray.mk #[]))).setCell ⟨R + 1, 11, none⟩ (.bool false)).setCell ⟨R + 1, 12, none⟩ (.bool false)) := ⟨_, rfl⟩
  rw [← hWN]
  have hfin : WN.heap[R + 1]? = some (.cells #[.int .i64 5, .string (mkB p.tok), .int .i64 p.seq, .int .i64 (nn p 0), .int .i64 (nn p 1), .int .i64 (nn p 2), .int .i64 (nn p 3), .int .i64 0, .int .i64 0, .string (ByteArray.mk #[]), .string (ByteArray.mk #[]), .bool false, .bool false] 24 (0, 0)) ∧ Below R w WN := by
    rw [hWN]
    exact fin13c HPZ.out rfl HBD.out (by omega) (.int .i64 5) (.string (mkB p.tok)) (.int .i64 p.seq) (.int .i64 (nn p 0)) (.int .i64 (nn p 1)) (.int .i64 (nn p 2)) (.int .i64 (nn p 3)) (.int .i64 0) (.int .i64 0) (.string (ByteArray.mk #[])) (.string (ByteArray.mk #[])) (.bool false) (.bool false)
  obtain ⟨y0, y1, y2, y3, y4, y5, y6, y7, y8, y9, y10, y11, y12⟩ := cell13 hfin.1
  have hbw := hfin.2
  rw [HR.out] at hbw
  exact bodyPost_ret (v := .agg #[.int .i64 5, .string (mkB p.tok), .int .i64 p.seq, .int .i64 (nn p 0), .int .i64 (nn p 1), .int .i64 (nn p 2), .int .i64 (nn p 3), .int .i64 0, .int .i64 0, .string (ByteArray.mk #[]), .string (ByteArray.mk #[]), .bool false, .bool false]) (by simp [results, Try.results15, go_sem, y0, y1, y2, y3, y4, y5, y6, y7, y8, y9, y10, y11, y12, Try.isAgg24, Try.sizeOf24]) rfl ⟨rfl, hbw⟩
set_option maxHeartbeats 8000000 in
theorem back6 (p : Pl) (w : World) : Calls Try.prog 15 #[.agg #[.string (mkB p.tok), .int .i64 p.seq, .iface 72 (.agg #[.int .i64 (nn p 0), .int .i64 (nn p 1), .int .i64 (nn p 2), .int .i64 (nn p 3), .int .i64 (nn p 4)])]] w fun e w' => e = .returned (plV (⟨6, p.tok, p.seq, [nn p 0, nn p 1, nn p 2, nn p 3, nn p 4, 0], [], [], false, false⟩ : Pl)) ∧ Below w.heap.size w w' := by
  have hpv : plV (⟨6, p.tok, p.seq, [nn p 0, nn p 1, nn p 2, nn p 3, nn p 4, 0], [], [], false, false⟩ : Pl) = .agg #[.int .i64 6, .string (mkB p.tok), .int .i64 p.seq, .int .i64 (nn p 0), .int .i64 (nn p 1), .int .i64 (nn p 2), .int .i64 (nn p 3), .int .i64 (nn p 4), .int .i64 0, .string (ByteArray.mk #[]), .string (ByteArray.mk #[]), .bool false, .bool false] := by simp [plV, nn, mkB_nil]
  rw [hpv]
  clear hpv
  obtain ⟨R, hR⟩ : ∃ R, R = w.heap.size := ⟨_, rfl⟩
  obtain ⟨B0, P0, L0⟩ := box1 w #[.string (mkB p.tok), .int .i64 p.seq, .iface 72 (.agg #[.int .i64 (nn p 0), .int .i64 (nn p 1), .int .i64 (nn p 2), .int .i64 (nn p 3), .int .i64 (nn p 4)])] 30
  obtain ⟨Wx, hWx⟩ : ∃ Wx, Wx = w.alloc (.cells #[.string (mkB p.tok), .int .i64 p.seq, .iface 72 (.agg #[.int .i64 (nn p 0), .int .i64 (nn p 1), .int .i64 (nn p 2), .int .i64 (nn p 3), .int .i64 (nn p 4)])] 30) := ⟨_, rfl⟩
  rw [← hWx] at B0 P0 L0
  obtain ⟨B1, P1, L1⟩ := box1 Wx #[.int .i64 0, .string (ByteArray.mk #[]), .int .i64 0, .int .i64 0, .int .i64 0, .int .i64 0, .int .i64 0, .int .i64 0, .int .i64 0, .string (ByteArray.mk #[]), .string (ByteArray.mk #[]), .bool false, .bool false] 24
  obtain ⟨Wa, hWa⟩ : ∃ Wa, Wa = Wx.alloc (.cells #[.int .i64 0, .string (ByteArray.mk #[]), .int .i64 0, .int .i64 0, .int .i64 0, .int .i64 0, .int .i64 0, .int .i64 0, .int .i64 0, .string (ByteArray.mk #[]), .string (ByteArray.mk #[]), .bool false, .bool false] 24) := ⟨_, rfl⟩
  rw [← hWa] at B1 P1 L1
  obtain ⟨B2, P2, L2⟩ := box1 Wa #[.int .i64 0, .string (mkB p.tok), .int .i64 p.seq, .int .i64 0, .int .i64 0, .int .i64 0, .int .i64 0, .int .i64 0, .int .i64 0, .string (ByteArray.mk #[]), .string (ByteArray.mk #[]), .bool false, .bool false] 24
  obtain ⟨Wb, hWb⟩ : ∃ Wb, Wb = Wa.alloc (.cells #[.int .i64 0, .string (mkB p.tok), .int .i64 p.seq, .int .i64 0, .int .i64 0, .int .i64 0, .int .i64 0, .int .i64 0, .int .i64 0, .string (ByteArray.mk #[]), .string (ByteArray.mk #[]), .bool false, .bool false] 24) := ⟨_, rfl⟩
  rw [← hWb] at B2 P2 L2
  obtain ⟨B3, P3, L3⟩ := box1 Wb #[.int .i64 (nn p 0), .int .i64 (nn p 1), .int .i64 (nn p 2), .int .i64 (nn p 3), .int .i64 (nn p 4)] 72
  obtain ⟨Wc, hWc⟩ : ∃ Wc, Wc = Wb.alloc (.cells #[.int .i64 (nn p 0), .int .i64 (nn p 1), .int .i64 (nn p 2), .int .i64 (nn p 3), .int .i64 (nn p 4)] 72) := ⟨_, rfl⟩
  rw [← hWc] at B3 P3 L3
  rw [L0, ← hR] at L1 P1
  rw [L1] at P2 L2
  rw [L2] at P3 L3
  rw [← hR] at P0 L0
  have q1 : Wa.heap[R]? = some (.cells #[.string (mkB p.tok), .int .i64 p.seq, .iface 72 (.agg #[.int .i64 (nn p 0), .int .i64 (nn p 1), .int .i64 (nn p 2), .int .i64 (nn p 3), .int .i64 (nn p 4)])] 30 (0, 0)) := (B1.block R (by omega)).trans P0
  have q2 : Wb.heap[R]? = some (.cells #[.string (mkB p.tok), .int .i64 p.seq, .iface 72 (.agg #[.int .i64 (nn p 0), .int .i64 (nn p 1), .int .i64 (nn p 2), .int .i64 (nn p 3), .int .i64 (nn p 4)])] 30 (0, 0)) := (B2.block R (by omega)).trans q1
  have r3 : Wc.heap[R + 1]? = some (.cells #[.int .i64 0, .string (ByteArray.mk #[]), .int .i64 0, .int .i64 0, .int .i64 0, .int .i64 0, .int .i64 0, .int .i64 0, .int .i64 0, .string (ByteArray.mk #[]), .string (ByteArray.mk #[]), .bool false, .bool false] 24 (0, 0)) := (B3.block (R + 1) (by omega)).trans ((B2.block (R + 1) (by omega)).trans P1)
  have c3 : Wc.heap[R + 1 + 1]? = some (.cells #[.int .i64 0, .string (mkB p.tok), .int .i64 p.seq, .int .i64 0, .int .i64 0, .int .i64 0, .int .i64 0, .int .i64 0, .int .i64 0, .string (ByteArray.mk #[]), .string (ByteArray.mk #[]), .bool false, .bool false] 24 (0, 0)) := (B3.block (R + 1 + 1) (by omega)).trans P2
  have hbl := below_on (below_on (below_on B0 B1) B2) B3
  rw [hWx] at hWa
  have HSA : Hid (Wa.heap.size = R + 1 + 1) := L1
  have HSB : Hid (Wb.heap.size = R + 1 + 1 + 1) := L2
  have HWA := Lib.hid hWa
  have HWB := Lib.hid hWb
  have HWC := Lib.hid hWc
  have HR := Lib.hid hR
  have HBL : Hid (Below R w Wc) := by rw [hR]; exact hbl
  have H2 := Lib.hid q2
  have H3 := Lib.hid (And.intro r3 (And.intro c3 P3))
  obtain ⟨a0, a1, a2⟩ := three_cells q1
  have yes := is6 (.agg #[.int .i64 (nn p 0), .int .i64 (nn p 1), .int .i64 (nn p 2), .int .i64 (nn p 3), .int .i64 (nn p 4)])
  have n1 := fun w => no1 72 (.agg #[.int .i64 (nn p 0), .int .i64 (nn p 1), .int .i64 (nn p 2), .int .i64 (nn p 3), .int .i64 (nn p 4)]) w (by decide)
  have n2 := fun w => no2 72 (.agg #[.int .i64 (nn p 0), .int .i64 (nn p 1), .int .i64 (nn p 2), .int .i64 (nn p 3), .int .i64 (nn p 4)]) w (by decide)
  have n3 := fun w => no3 72 (.agg #[.int .i64 (nn p 0), .int .i64 (nn p 1), .int .i64 (nn p 2), .int .i64 (nn p 3), .int .i64 (nn p 4)]) w (by decide)
  have n4 := fun w => no4 72 (.agg #[.int .i64 (nn p 0), .int .i64 (nn p 1), .int .i64 (nn p 2), .int .i64 (nn p 3), .int .i64 (nn p 4)]) w (by decide)
  have n5 := fun w => no5 72 (.agg #[.int .i64 (nn p 0), .int .i64 (nn p 1), .int .i64 (nn p 2), .int .i64 (nn p 3), .int .i64 (nn p 4)]) w (by decide)
  clear hWx hWa hWb hWc hR B0 P0 L0 B1 P1 L1 B2 P2 L2 B3 P3 L3 q1 q2 r3 c3 hbl
  go_enter Try.func15, Try.ntmps15
  go_upto_region 1 with fail
  rw [← HWA.out, ← HR.out]
  go_upto_region 2 with fail
  rw [← HWB.out, HSA.out]
  clear a0 a1 a2
  obtain ⟨a0, a1, a2⟩ := three_cells H2.out
  go_upto_region 20 with fail
  rw [← HWC.out, HSB.out]
  have hc := H3.out.2.1
  have hf := H3.out.2.2
  obtain ⟨p0, p1, p2, p3, p4, p5, p6, p7, p8, p9, p10, p11, p12⟩ := cell13 hc
  have fp := fun i => free_at (i := i) hc
  have g0 : Wc.cell? ⟨R + 1 + 1 + 1, 0, none⟩ = some (.int .i64 (nn p 0)) := by rw [cell_of_row _ _ _ _ _ _ hf]; rfl
  have g1 : Wc.cell? ⟨R + 1 + 1 + 1, 1, none⟩ = some (.int .i64 (nn p 1)) := by rw [cell_of_row _ _ _ _ _ _ hf]; rfl
  have g2 : Wc.cell? ⟨R + 1 + 1 + 1, 2, none⟩ = some (.int .i64 (nn p 2)) := by rw [cell_of_row _ _ _ _ _ _ hf]; rfl
  have g3 : Wc.cell? ⟨R + 1 + 1 + 1, 3, none⟩ = some (.int .i64 (nn p 3)) := by rw [cell_of_row _ _ _ _ _ _ hf]; rfl
  have g4 : Wc.cell? ⟨R + 1 + 1 + 1, 4, none⟩ = some (.int .i64 (nn p 4)) := by rw [cell_of_row _ _ _ _ _ _ hf]; rfl
  have HC := Lib.hid hc
  have HZ := Lib.hid H3.out.1
  clear hc hf a0 a1 a2 H2 H3
  have hne : R + 1 + 1 ≠ R + 1 + 1 + 1 := by omega
  have KS : Hid (∀ (w9 : World) (i : Nat) (u : Value), (w9.cell? ⟨R + 1 + 1 + 1, 0, none⟩ = some (.int .i64 (nn p 0)) ∧ w9.cell? ⟨R + 1 + 1 + 1, 1, none⟩ = some (.int .i64 (nn p 1)) ∧ w9.cell? ⟨R + 1 + 1 + 1, 2, none⟩ = some (.int .i64 (nn p 2)) ∧ w9.cell? ⟨R + 1 + 1 + 1, 3, none⟩ = some (.int .i64 (nn p 3)) ∧ w9.cell? ⟨R + 1 + 1 + 1, 4, none⟩ = some (.int .i64 (nn p 4))) → ((w9.setCell ⟨R + 1 + 1, i, none⟩ u).cell? ⟨R + 1 + 1 + 1, 0, none⟩ = some (.int .i64 (nn p 0)) ∧ (w9.setCell ⟨R + 1 + 1, i, none⟩ u).cell? ⟨R + 1 + 1 + 1, 1, none⟩ = some (.int .i64 (nn p 1)) ∧ (w9.setCell ⟨R + 1 + 1, i, none⟩ u).cell? ⟨R + 1 + 1 + 1, 2, none⟩ = some (.int .i64 (nn p 2)) ∧ (w9.setCell ⟨R + 1 + 1, i, none⟩ u).cell? ⟨R + 1 + 1 + 1, 3, none⟩ = some (.int .i64 (nn p 3)) ∧ (w9.setCell ⟨R + 1 + 1, i, none⟩ u).cell? ⟨R + 1 + 1 + 1, 4, none⟩ = some (.int .i64 (nn p 4)))) := fun w9 i u h => by
    refine ⟨?_, ?_, ?_, ?_, ?_⟩ <;> (rw [World.cell?_setCell_far _ _ _ _ hne]; first | exact h.1 | exact h.2.1 | exact h.2.2.1 | exact h.2.2.2.1 | exact h.2.2.2.2 | exact h.2.2.2.2.1 | exact h.2.2.2.2.2)
  have KD : Hid (∀ (w9 : World), (w9.cell? ⟨R + 1 + 1 + 1, 0, none⟩ = some (.int .i64 (nn p 0)) ∧ w9.cell? ⟨R + 1 + 1 + 1, 1, none⟩ = some (.int .i64 (nn p 1)) ∧ w9.cell? ⟨R + 1 + 1 + 1, 2, none⟩ = some (.int .i64 (nn p 2)) ∧ w9.cell? ⟨R + 1 + 1 + 1, 3, none⟩ = some (.int .i64 (nn p 3)) ∧ w9.cell? ⟨R + 1 + 1 + 1, 4, none⟩ = some (.int .i64 (nn p 4))) → (w9.drew.cell? ⟨R + 1 + 1 + 1, 0, none⟩ = some (.int .i64 (nn p 0)) ∧ w9.drew.cell? ⟨R + 1 + 1 + 1, 1, none⟩ = some (.int .i64 (nn p 1)) ∧ w9.drew.cell? ⟨R + 1 + 1 + 1, 2, none⟩ = some (.int .i64 (nn p 2)) ∧ w9.drew.cell? ⟨R + 1 + 1 + 1, 3, none⟩ = some (.int .i64 (nn p 3)) ∧ w9.drew.cell? ⟨R + 1 + 1 + 1, 4, none⟩ = some (.int .i64 (nn p 4)))) := fun w9 h => h
  have K0 : Hid (Wc.cell? ⟨R + 1 + 1 + 1, 0, none⟩ = some (.int .i64 (nn p 0)) ∧ Wc.cell? ⟨R + 1 + 1 + 1, 1, none⟩ = some (.int .i64 (nn p 1)) ∧ Wc.cell? ⟨R + 1 + 1 + 1, 2, none⟩ = some (.int .i64 (nn p 2)) ∧ Wc.cell? ⟨R + 1 + 1 + 1, 3, none⟩ = some (.int .i64 (nn p 3)) ∧ Wc.cell? ⟨R + 1 + 1 + 1, 4, none⟩ = some (.int .i64 (nn p 4))) := ⟨g0, g1, g2, g3, g4⟩
  clear hne
  refine wp_region_held_drew (S := fun w' => w'.cell? ⟨R + 1 + 1 + 1, 0, none⟩ = some (.int .i64 (nn p 0)) ∧ w'.cell? ⟨R + 1 + 1 + 1, 1, none⟩ = some (.int .i64 (nn p 1)) ∧ w'.cell? ⟨R + 1 + 1 + 1, 2, none⟩ = some (.int .i64 (nn p 2)) ∧ w'.cell? ⟨R + 1 + 1 + 1, 3, none⟩ = some (.int .i64 (nn p 3)) ∧ w'.cell? ⟨R + 1 + 1 + 1, 4, none⟩ = some (.int .i64 (nn p 4))) (by kernel_rfl) ?_ (fun hHeld => ?_)
  focus (exact K0.out)
  refine' wpAnyH_take (i := 0) (v := _) rfl (by kernel_rfl) (by kernel_rfl) (by kernel_rfl) (fun _ _ _ h => h) (Or.inl ⟨by rfl, ?hy0⟩) (by assumption) ?rest0
  case hy0 => (intro w hSw; (try dsimp only at hSw); go_simp; try with_reducible rfl)
  try simp only [Act.put, List.getElem_toArray, List.getElem_cons_zero, List.getElem_cons_succ, List.setIfInBounds_toArray, List.set_cons_zero, List.set_cons_succ]
  refine' wpAnyH_take (i := 1) (v := _) rfl (by kernel_rfl) (by kernel_rfl) (by kernel_rfl) (fun _ _ _ h => h) (Or.inl ⟨by rfl, ?hy1⟩) (by assumption) ?rest1
  case hy1 => (intro w hSw; (try dsimp only at hSw); go_simp; try with_reducible rfl)
  try simp only [Act.put, List.getElem_toArray, List.getElem_cons_zero, List.getElem_cons_succ, List.setIfInBounds_toArray, List.set_cons_zero, List.set_cons_succ]
  refine' wpAnyH_take (i := 2) (v := _) rfl (by kernel_rfl) (by kernel_rfl) (by kernel_rfl) (fun _ _ _ h => h) (Or.inl ⟨by rfl, ?hy2⟩) (by assumption) ?rest2
  case hy2 => (intro w hSw; (try dsimp only at hSw); go_simp; try with_reducible rfl)
  try simp only [Act.put, List.getElem_toArray, List.getElem_cons_zero, List.getElem_cons_succ, List.setIfInBounds_toArray, List.set_cons_zero, List.set_cons_succ]
  refine' wpAnyH_take (i := 3) (v := _) rfl (by kernel_rfl) (by kernel_rfl) (by kernel_rfl) (fun _ _ _ h => h) (Or.inl ⟨by rfl, ?hy3⟩) (by assumption) ?rest3
  case hy3 => (intro w hSw; (try dsimp only at hSw); go_simp; try with_reducible rfl)
  try simp only [Act.put, List.getElem_toArray, List.getElem_cons_zero, List.getElem_cons_succ, List.setIfInBounds_toArray, List.set_cons_zero, List.set_cons_succ]
  refine' wpAnyH_take (i := 4) (v := _) rfl (by kernel_rfl) (by kernel_rfl) (by kernel_rfl) (fun _ _ _ h => h) (Or.inl ⟨by rfl, ?hy4⟩) (by assumption) ?rest4
  case hy4 => (intro w hSw; (try dsimp only at hSw); go_simp; try with_reducible rfl)
  try simp only [Act.put, List.getElem_toArray, List.getElem_cons_zero, List.getElem_cons_succ, List.setIfInBounds_toArray, List.set_cons_zero, List.set_cons_succ]
  refine' wpAnyH_take (i := 5) (v := _) rfl (by kernel_rfl) (by kernel_rfl) (by kernel_rfl) (fun _ _ _ h => h) (Or.inl ⟨by rfl, ?hy5⟩) (by assumption) ?rest5
  case hy5 => (intro w hSw; (try dsimp only at hSw); go_simp; try with_reducible rfl)
  try simp only [Act.put, List.getElem_toArray, List.getElem_cons_zero, List.getElem_cons_succ, List.setIfInBounds_toArray, List.set_cons_zero, List.set_cons_succ]
  refine' wpAnyH_take (i := 6) (v := _) rfl (by kernel_rfl) (by kernel_rfl) (by kernel_rfl) (fun _ _ _ h => h) (Or.inl ⟨by rfl, ?hy6⟩) (by assumption) ?rest6
  case hy6 => (intro w hSw; (try dsimp only at hSw); go_simp; try with_reducible rfl)
  try simp only [Act.put, List.getElem_toArray, List.getElem_cons_zero, List.getElem_cons_succ, List.setIfInBounds_toArray, List.set_cons_zero, List.set_cons_succ]
  refine' wpAnyH_take (i := 7) (v := _) rfl (by kernel_rfl) (by kernel_rfl) (by kernel_rfl) (fun _ _ _ h => h) (Or.inl ⟨by rfl, ?hy7⟩) (by assumption) ?rest7
  case hy7 => (intro w hSw; (try dsimp only at hSw); go_simp; try with_reducible rfl)
  try simp only [Act.put, List.getElem_toArray, List.getElem_cons_zero, List.getElem_cons_succ, List.setIfInBounds_toArray, List.set_cons_zero, List.set_cons_succ]
  refine' wpAnyH_take (i := 8) (v := _) rfl (by kernel_rfl) (by kernel_rfl) (by kernel_rfl) (fun _ _ _ h => h) (Or.inl ⟨by rfl, ?hy8⟩) (by assumption) ?rest8
  case hy8 => (intro w hSw; (try dsimp only at hSw); go_simp; try with_reducible rfl)
  try simp only [Act.put, List.getElem_toArray, List.getElem_cons_zero, List.getElem_cons_succ, List.setIfInBounds_toArray, List.set_cons_zero, List.set_cons_succ]
  refine' wpAnyH_take (i := 9) (v := _) rfl (by kernel_rfl) (by kernel_rfl) (by kernel_rfl) (fun _ _ _ h => h) (Or.inl ⟨by rfl, ?hy9⟩) (by assumption) ?rest9
  case hy9 => (intro w hSw; (try dsimp only at hSw); go_simp; try with_reducible rfl)
  try simp only [Act.put, List.getElem_toArray, List.getElem_cons_zero, List.getElem_cons_succ, List.setIfInBounds_toArray, List.set_cons_zero, List.set_cons_succ]
  refine' wpAnyH_take (i := 10) (v := _) rfl (by kernel_rfl) (by kernel_rfl) (by kernel_rfl) (fun _ _ _ h => h) (Or.inl ⟨by rfl, ?hy10⟩) (by assumption) ?rest10
  case hy10 => (intro w hSw; (try dsimp only at hSw); go_simp; try with_reducible rfl)
  try simp only [Act.put, List.getElem_toArray, List.getElem_cons_zero, List.getElem_cons_succ, List.setIfInBounds_toArray, List.set_cons_zero, List.set_cons_succ]
  refine' wpAnyH_take (i := 11) (v := _) rfl (by kernel_rfl) (by kernel_rfl) (by kernel_rfl) (fun _ _ _ h => h) (Or.inl ⟨by rfl, ?hy11⟩) (by assumption) ?rest11
  case hy11 => (intro w hSw; (try dsimp only at hSw); go_simp; try with_reducible rfl)
  try simp only [Act.put, List.getElem_toArray, List.getElem_cons_zero, List.getElem_cons_succ, List.setIfInBounds_toArray, List.set_cons_zero, List.set_cons_succ]
  refine wpAnyH_ready (rs := [12]) (by kernel_rfl) (by simp) ?_
  refine AllReadyH.cons rfl (fun K hK => ?_) AllReadyH.nil
  go_simp
  refine hK.out _ _ ?_ (fun hHeld => ?_)
  focus ((repeat first | with_reducible exact K0.out | with_reducible assumption | with_reducible refine KD.out _ ?_ | with_reducible refine KS.out _ _ _ ?_); done)
  clear hK K
  try simp only [Act.put, List.getElem_toArray, List.getElem_cons_zero, List.getElem_cons_succ, List.setIfInBounds_toArray, List.set_cons_zero, List.set_cons_succ]
  refine' wpAnyH_take (i := 13) (v := _) rfl (by kernel_rfl) (by kernel_rfl) (by kernel_rfl) (fun _ _ _ h => h) (Or.inl ⟨by rfl, ?hy13⟩) (by assumption) ?rest13
  case hy13 => (intro w hSw; (try dsimp only at hSw); go_simp; try with_reducible rfl)
  try simp only [Act.put, List.getElem_toArray, List.getElem_cons_zero, List.getElem_cons_succ, List.setIfInBounds_toArray, List.set_cons_zero, List.set_cons_succ]
  refine wpAnyH_ready (rs := [14]) (by kernel_rfl) (by simp) ?_
  refine AllReadyH.cons rfl (fun K hK => ?_) AllReadyH.nil
  go_simp
  refine hK.out _ _ ?_ (fun hHeld => ?_)
  focus ((repeat first | with_reducible exact K0.out | with_reducible assumption | with_reducible refine KD.out _ ?_ | with_reducible refine KS.out _ _ _ ?_); done)
  clear hK K
  try simp only [Act.put, List.getElem_toArray, List.getElem_cons_zero, List.getElem_cons_succ, List.setIfInBounds_toArray, List.set_cons_zero, List.set_cons_succ]
  refine wpAnyH_done (by kernel_rfl) ?_ _
  obtain ⟨WD, hWD⟩ : ∃ WD, WD = (((((((Wc.setCell ⟨R + 1 + 1, 0, none⟩ (.int .i64 6)).setCell ⟨R + 1 + 1, 3, none⟩ (.int .i64 (nn p 0))).setCell ⟨R + 1 + 1, 4, none⟩ (.int .i64 (nn p 1))).setCell ⟨R + 1 + 1, 5, none⟩ (.int .i64 (nn p 2))).setCell ⟨R + 1 + 1, 6, none⟩ (.int .i64 (nn p 3))).setCell ⟨R + 1 + 1, 7, none⟩ (.int .i64 (nn p 4))).setCell ⟨R + 1 + 1, 8, none⟩ (.int .i64 0)).drew := ⟨_, rfl⟩
  rw [← hWD]
  have b0 : Wc.heap[R + 1 + 1]? = some (.cells #[.int .i64 0, .string (mkB p.tok), .int .i64 p.seq, .int .i64 0, .int .i64 0, .int .i64 0, .int .i64 0, .int .i64 0, .int .i64 0, .string (ByteArray.mk #[]), .string (ByteArray.mk #[]), .bool false, .bool false] 24 (0, 0)) := HC.out
  have b1 : (Wc.setCell ⟨R + 1 + 1, 0, none⟩ (.int .i64 6)).heap[R + 1 + 1]? = some (.cells #[.int .i64 6, .string (mkB p.tok), .int .i64 p.seq, .int .i64 0, .int .i64 0, .int .i64 0, .int .i64 0, .int .i64 0, .int .i64 0, .string (ByteArray.mk #[]), .string (ByteArray.mk #[]), .bool false, .bool false] 24 (0, 0)) := set_block b0
  have b2 : ((Wc.setCell ⟨R + 1 + 1, 0, none⟩ (.int .i64 6)).setCell ⟨R + 1 + 1, 3, none⟩ (.int .i64 (nn p 0))).heap[R + 1 + 1]? = some (.cells #[.int .i64 6, .string (mkB p.tok), .int .i64 p.seq, .int .i64 (nn p 0), .int .i64 0, .int .i64 0, .int .i64 0, .int .i64 0, .int .i64 0, .string (ByteArray.mk #[]), .string (ByteArray.mk #[]), .bool false, .bool false] 24 (0, 0)) := set_block b1
  have b3 : (((Wc.setCell ⟨R + 1 + 1, 0, none⟩ (.int .i64 6)).setCell ⟨R + 1 + 1, 3, none⟩ (.int .i64 (nn p 0))).setCell ⟨R + 1 + 1, 4, none⟩ (.int .i64 (nn p 1))).heap[R + 1 + 1]? = some (.cells #[.int .i64 6, .string (mkB p.tok), .int .i64 p.seq, .int .i64 (nn p 0), .int .i64 (nn p 1), .int .i64 0, .int .i64 0, .int .i64 0, .int .i64 0, .string (ByteArray.mk #[]), .string (ByteArray.mk #[]), .bool false, .bool false] 24 (0, 0)) := set_block b2
  have b4 : ((((Wc.setCell ⟨R + 1 + 1, 0, none⟩ (.int .i64 6)).setCell ⟨R + 1 + 1, 3, none⟩ (.int .i64 (nn p 0))).setCell ⟨R + 1 + 1, 4, none⟩ (.int .i64 (nn p 1))).setCell ⟨R + 1 + 1, 5, none⟩ (.int .i64 (nn p 2))).heap[R + 1 + 1]? = some (.cells #[.int .i64 6, .string (mkB p.tok), .int .i64 p.seq, .int .i64 (nn p 0), .int .i64 (nn p 1), .int .i64 (nn p 2), .int .i64 0, .int .i64 0, .int .i64 0, .string (ByteArray.mk #[]), .string (ByteArray.mk #[]), .bool false, .bool false] 24 (0, 0)) := set_block b3
  have b5 : (((((Wc.setCell ⟨R + 1 + 1, 0, none⟩ (.int .i64 6)).setCell ⟨R + 1 + 1, 3, none⟩ (.int .i64 (nn p 0))).setCell ⟨R + 1 + 1, 4, none⟩ (.int .i64 (nn p 1))).setCell ⟨R + 1 + 1, 5, none⟩ (.int .i64 (nn p 2))).setCell ⟨R + 1 + 1, 6, none⟩ (.int .i64 (nn p 3))).heap[R + 1 + 1]? = some (.cells #[.int .i64 6, .string (mkB p.tok), .int .i64 p.seq, .int .i64 (nn p 0), .int .i64 (nn p 1), .int .i64 (nn p 2), .int .i64 (nn p 3), .int .i64 0, .int .i64 0, .string (ByteArray.mk #[]), .string (ByteArray.mk #[]), .bool false, .bool false] 24 (0, 0)) := set_block b4
  have b6 : ((((((Wc.setCell ⟨R + 1 + 1, 0, none⟩ (.int .i64 6)).setCell ⟨R + 1 + 1, 3, none⟩ (.int .i64 (nn p 0))).setCell ⟨R + 1 + 1, 4, none⟩ (.int .i64 (nn p 1))).setCell ⟨R + 1 + 1, 5, none⟩ (.int .i64 (nn p 2))).setCell ⟨R + 1 + 1, 6, none⟩ (.int .i64 (nn p 3))).setCell ⟨R + 1 + 1, 7, none⟩ (.int .i64 (nn p 4))).heap[R + 1 + 1]? = some (.cells #[.int .i64 6, .string (mkB p.tok), .int .i64 p.seq, .int .i64 (nn p 0), .int .i64 (nn p 1), .int .i64 (nn p 2), .int .i64 (nn p 3), .int .i64 (nn p 4), .int .i64 0, .string (ByteArray.mk #[]), .string (ByteArray.mk #[]), .bool false, .bool false] 24 (0, 0)) := set_block b5
  have b7 : (((((((Wc.setCell ⟨R + 1 + 1, 0, none⟩ (.int .i64 6)).setCell ⟨R + 1 + 1, 3, none⟩ (.int .i64 (nn p 0))).setCell ⟨R + 1 + 1, 4, none⟩ (.int .i64 (nn p 1))).setCell ⟨R + 1 + 1, 5, none⟩ (.int .i64 (nn p 2))).setCell ⟨R + 1 + 1, 6, none⟩ (.int .i64 (nn p 3))).setCell ⟨R + 1 + 1, 7, none⟩ (.int .i64 (nn p 4))).setCell ⟨R + 1 + 1, 8, none⟩ (.int .i64 0)).heap[R + 1 + 1]? = some (.cells #[.int .i64 6, .string (mkB p.tok), .int .i64 p.seq, .int .i64 (nn p 0), .int .i64 (nn p 1), .int .i64 (nn p 2), .int .i64 (nn p 3), .int .i64 (nn p 4), .int .i64 0, .string (ByteArray.mk #[]), .string (ByteArray.mk #[]), .bool false, .bool false] 24 (0, 0)) := set_block b6
  have hpb : WD.heap[R + 1 + 1]? = some (.cells #[.int .i64 6, .string (mkB p.tok), .int .i64 p.seq, .int .i64 (nn p 0), .int .i64 (nn p 1), .int .i64 (nn p 2), .int .i64 (nn p 3), .int .i64 (nn p 4), .int .i64 0, .string (ByteArray.mk #[]), .string (ByteArray.mk #[]), .bool false, .bool false] 24 (0, 0)) := by
    rw [hWD, heap_drew]
    exact b7
  have hpz : WD.heap[R + 1]? = some (.cells #[.int .i64 0, .string (ByteArray.mk #[]), .int .i64 0, .int .i64 0, .int .i64 0, .int .i64 0, .int .i64 0, .int .i64 0, .int .i64 0, .string (ByteArray.mk #[]), .string (ByteArray.mk #[]), .bool false, .bool false] 24 (0, 0)) := by
    rw [hWD, heap_drew]
    exact ((Below.heap_setCell _ _ _ _ (by show R + 1 ≠ R + 1 + 1; omega)).trans ((Below.heap_setCell _ _ _ _ (by show R + 1 ≠ R + 1 + 1; omega)).trans ((Below.heap_setCell _ _ _ _ (by show R + 1 ≠ R + 1 + 1; omega)).trans ((Below.heap_setCell _ _ _ _ (by show R + 1 ≠ R + 1 + 1; omega)).trans ((Below.heap_setCell _ _ _ _ (by show R + 1 ≠ R + 1 + 1; omega)).trans ((Below.heap_setCell _ _ _ _ (by show R + 1 ≠ R + 1 + 1; omega)).trans ((Below.heap_setCell _ _ _ _ (by show R + 1 ≠ R + 1 + 1; omega)).trans HZ.out)))))))
  have hbd : Below R w WD := by rw [hWD]; exact (Below.drew (below_put (below_put (below_put (below_put (below_put (below_put (below_put HBL.out (by omega) _) (by omega) _) (by omega) _) (by omega) _) (by omega) _) (by omega) _) (by omega) _))
  clear hWD HC HZ HBL p0 p1 p2 p3 p4 p5 p6 p7 p8 p9 p10 p11 p12 fp g0 g1 g2 g3 g4 b0 b1 b2 b3 b4 b5 b6 b7
  obtain ⟨p0, p1, p2, p3, p4, p5, p6, p7, p8, p9, p10, p11, p12⟩ := cell13 hpb
  obtain ⟨z0, z1, z2, z3, z4, z5, z6, z7, z8, z9, z10, z11, z12⟩ := cell13 hpz
  have fz := fun i => free_at (i := i) hpz
  have HPZ := Lib.hid hpz
  have HBD := Lib.hid hbd
  clear hpb hpz hbd
  go_wp2_with fail
  obtain ⟨WN, hWN⟩ : ∃ WN, WN = (((((((((((((WD.setCell ⟨R + 1, 0, none⟩ (.int .i64 6)).setCell ⟨R + 1, 1, none⟩ (.string (mkB p.tok))).setCell ⟨R + 1, 2, none⟩ (.int .i64 p.seq)).setCell ⟨R + 1, 3, none⟩ (.int .i64 (nn p 0))).setCell ⟨R + 1, 4, none⟩ (.int .i64 (nn p 1))).setCell ⟨R + 1, 5, none⟩ (.int .i64 (nn p 2))).setCell ⟨R + 1, 6, none⟩ (.int .i64 (nn p 3))).setCell ⟨R + 1, 7, none⟩ (.int .i64 (nn p 4))).setCell ⟨R + 1, 8, none⟩ (.int .i64 0)).setCell ⟨R + 1, 9, none⟩ (.string (ByteArray.mk #[]))).setCell ⟨R + 1, 10, none⟩ (.string (ByteArray.mk #[]))).setCell ⟨R + 1, 11, none⟩ (.bool false)).setCell ⟨R + 1, 12, none⟩ (.bool false)) := ⟨_, rfl⟩
  rw [← hWN]
  have hfin : WN.heap[R + 1]? = some (.cells #[.int .i64 6, .string (mkB p.tok), .int .i64 p.seq, .int .i64 (nn p 0), .int .i64 (nn p 1), .int .i64 (nn p 2), .int .i64 (nn p 3), .int .i64 (nn p 4), .int .i64 0, .string (ByteArray.mk #[]), .string (ByteArray.mk #[]), .bool false, .bool false] 24 (0, 0)) ∧ Below R w WN := by
    rw [hWN]
    exact fin13c HPZ.out rfl HBD.out (by omega) (.int .i64 6) (.string (mkB p.tok)) (.int .i64 p.seq) (.int .i64 (nn p 0)) (.int .i64 (nn p 1)) (.int .i64 (nn p 2)) (.int .i64 (nn p 3)) (.int .i64 (nn p 4)) (.int .i64 0) (.string (ByteArray.mk #[])) (.string (ByteArray.mk #[])) (.bool false) (.bool false)
  obtain ⟨y0, y1, y2, y3, y4, y5, y6, y7, y8, y9, y10, y11, y12⟩ := cell13 hfin.1
  have hbw := hfin.2
  rw [HR.out] at hbw
  exact bodyPost_ret (v := .agg #[.int .i64 6, .string (mkB p.tok), .int .i64 p.seq, .int .i64 (nn p 0), .int .i64 (nn p 1), .int .i64 (nn p 2), .int .i64 (nn p 3), .int .i64 (nn p 4), .int .i64 0, .string (ByteArray.mk #[]), .string (ByteArray.mk #[]), .bool false, .bool false]) (by simp [results, Try.results15, go_sem, y0, y1, y2, y3, y4, y5, y6, y7, y8, y9, y10, y11, y12, Try.isAgg24, Try.sizeOf24]) rfl ⟨rfl, hbw⟩
set_option maxHeartbeats 8000000 in
theorem back7 (p : Pl) (w : World) : Calls Try.prog 15 #[.agg #[.string (mkB p.tok), .int .i64 p.seq, .iface 74 (.agg #[.int .i64 (nn p 0), .int .i64 (nn p 1), .int .i64 (nn p 2), .int .i64 (nn p 3), .int .i64 (nn p 4), .int .i64 (nn p 5)])]] w fun e w' => e = .returned (plV (⟨7, p.tok, p.seq, [nn p 0, nn p 1, nn p 2, nn p 3, nn p 4, nn p 5], [], [], false, false⟩ : Pl)) ∧ Below w.heap.size w w' := by
  have hpv : plV (⟨7, p.tok, p.seq, [nn p 0, nn p 1, nn p 2, nn p 3, nn p 4, nn p 5], [], [], false, false⟩ : Pl) = .agg #[.int .i64 7, .string (mkB p.tok), .int .i64 p.seq, .int .i64 (nn p 0), .int .i64 (nn p 1), .int .i64 (nn p 2), .int .i64 (nn p 3), .int .i64 (nn p 4), .int .i64 (nn p 5), .string (ByteArray.mk #[]), .string (ByteArray.mk #[]), .bool false, .bool false] := by simp [plV, nn, mkB_nil]
  rw [hpv]
  clear hpv
  obtain ⟨R, hR⟩ : ∃ R, R = w.heap.size := ⟨_, rfl⟩
  obtain ⟨B0, P0, L0⟩ := box1 w #[.string (mkB p.tok), .int .i64 p.seq, .iface 74 (.agg #[.int .i64 (nn p 0), .int .i64 (nn p 1), .int .i64 (nn p 2), .int .i64 (nn p 3), .int .i64 (nn p 4), .int .i64 (nn p 5)])] 30
  obtain ⟨Wx, hWx⟩ : ∃ Wx, Wx = w.alloc (.cells #[.string (mkB p.tok), .int .i64 p.seq, .iface 74 (.agg #[.int .i64 (nn p 0), .int .i64 (nn p 1), .int .i64 (nn p 2), .int .i64 (nn p 3), .int .i64 (nn p 4), .int .i64 (nn p 5)])] 30) := ⟨_, rfl⟩
  rw [← hWx] at B0 P0 L0
  obtain ⟨B1, P1, L1⟩ := box1 Wx #[.int .i64 0, .string (ByteArray.mk #[]), .int .i64 0, .int .i64 0, .int .i64 0, .int .i64 0, .int .i64 0, .int .i64 0, .int .i64 0, .string (ByteArray.mk #[]), .string (ByteArray.mk #[]), .bool false, .bool false] 24
  obtain ⟨Wa, hWa⟩ : ∃ Wa, Wa = Wx.alloc (.cells #[.int .i64 0, .string (ByteArray.mk #[]), .int .i64 0, .int .i64 0, .int .i64 0, .int .i64 0, .int .i64 0, .int .i64 0, .int .i64 0, .string (ByteArray.mk #[]), .string (ByteArray.mk #[]), .bool false, .bool false] 24) := ⟨_, rfl⟩
  rw [← hWa] at B1 P1 L1
  obtain ⟨B2, P2, L2⟩ := box1 Wa #[.int .i64 0, .string (mkB p.tok), .int .i64 p.seq, .int .i64 0, .int .i64 0, .int .i64 0, .int .i64 0, .int .i64 0, .int .i64 0, .string (ByteArray.mk #[]), .string (ByteArray.mk #[]), .bool false, .bool false] 24
  obtain ⟨Wb, hWb⟩ : ∃ Wb, Wb = Wa.alloc (.cells #[.int .i64 0, .string (mkB p.tok), .int .i64 p.seq, .int .i64 0, .int .i64 0, .int .i64 0, .int .i64 0, .int .i64 0, .int .i64 0, .string (ByteArray.mk #[]), .string (ByteArray.mk #[]), .bool false, .bool false] 24) := ⟨_, rfl⟩
  rw [← hWb] at B2 P2 L2
  obtain ⟨B3, P3, L3⟩ := box1 Wb #[.int .i64 (nn p 0), .int .i64 (nn p 1), .int .i64 (nn p 2), .int .i64 (nn p 3), .int .i64 (nn p 4), .int .i64 (nn p 5)] 74
  obtain ⟨Wc, hWc⟩ : ∃ Wc, Wc = Wb.alloc (.cells #[.int .i64 (nn p 0), .int .i64 (nn p 1), .int .i64 (nn p 2), .int .i64 (nn p 3), .int .i64 (nn p 4), .int .i64 (nn p 5)] 74) := ⟨_, rfl⟩
  rw [← hWc] at B3 P3 L3
  rw [L0, ← hR] at L1 P1
  rw [L1] at P2 L2
  rw [L2] at P3 L3
  rw [← hR] at P0 L0
  have q1 : Wa.heap[R]? = some (.cells #[.string (mkB p.tok), .int .i64 p.seq, .iface 74 (.agg #[.int .i64 (nn p 0), .int .i64 (nn p 1), .int .i64 (nn p 2), .int .i64 (nn p 3), .int .i64 (nn p 4), .int .i64 (nn p 5)])] 30 (0, 0)) := (B1.block R (by omega)).trans P0
  have q2 : Wb.heap[R]? = some (.cells #[.string (mkB p.tok), .int .i64 p.seq, .iface 74 (.agg #[.int .i64 (nn p 0), .int .i64 (nn p 1), .int .i64 (nn p 2), .int .i64 (nn p 3), .int .i64 (nn p 4), .int .i64 (nn p 5)])] 30 (0, 0)) := (B2.block R (by omega)).trans q1
  have r3 : Wc.heap[R + 1]? = some (.cells #[.int .i64 0, .string (ByteArray.mk #[]), .int .i64 0, .int .i64 0, .int .i64 0, .int .i64 0, .int .i64 0, .int .i64 0, .int .i64 0, .string (ByteArray.mk #[]), .string (ByteArray.mk #[]), .bool false, .bool false] 24 (0, 0)) := (B3.block (R + 1) (by omega)).trans ((B2.block (R + 1) (by omega)).trans P1)
  have c3 : Wc.heap[R + 1 + 1]? = some (.cells #[.int .i64 0, .string (mkB p.tok), .int .i64 p.seq, .int .i64 0, .int .i64 0, .int .i64 0, .int .i64 0, .int .i64 0, .int .i64 0, .string (ByteArray.mk #[]), .string (ByteArray.mk #[]), .bool false, .bool false] 24 (0, 0)) := (B3.block (R + 1 + 1) (by omega)).trans P2
  have hbl := below_on (below_on (below_on B0 B1) B2) B3
  rw [hWx] at hWa
  have HSA : Hid (Wa.heap.size = R + 1 + 1) := L1
  have HSB : Hid (Wb.heap.size = R + 1 + 1 + 1) := L2
  have HWA := Lib.hid hWa
  have HWB := Lib.hid hWb
  have HWC := Lib.hid hWc
  have HR := Lib.hid hR
  have HBL : Hid (Below R w Wc) := by rw [hR]; exact hbl
  have H2 := Lib.hid q2
  have H3 := Lib.hid (And.intro r3 (And.intro c3 P3))
  obtain ⟨a0, a1, a2⟩ := three_cells q1
  have yes := is7 (.agg #[.int .i64 (nn p 0), .int .i64 (nn p 1), .int .i64 (nn p 2), .int .i64 (nn p 3), .int .i64 (nn p 4), .int .i64 (nn p 5)])
  have n1 := fun w => no1 74 (.agg #[.int .i64 (nn p 0), .int .i64 (nn p 1), .int .i64 (nn p 2), .int .i64 (nn p 3), .int .i64 (nn p 4), .int .i64 (nn p 5)]) w (by decide)
  have n2 := fun w => no2 74 (.agg #[.int .i64 (nn p 0), .int .i64 (nn p 1), .int .i64 (nn p 2), .int .i64 (nn p 3), .int .i64 (nn p 4), .int .i64 (nn p 5)]) w (by decide)
  have n3 := fun w => no3 74 (.agg #[.int .i64 (nn p 0), .int .i64 (nn p 1), .int .i64 (nn p 2), .int .i64 (nn p 3), .int .i64 (nn p 4), .int .i64 (nn p 5)]) w (by decide)
  have n4 := fun w => no4 74 (.agg #[.int .i64 (nn p 0), .int .i64 (nn p 1), .int .i64 (nn p 2), .int .i64 (nn p 3), .int .i64 (nn p 4), .int .i64 (nn p 5)]) w (by decide)
  have n5 := fun w => no5 74 (.agg #[.int .i64 (nn p 0), .int .i64 (nn p 1), .int .i64 (nn p 2), .int .i64 (nn p 3), .int .i64 (nn p 4), .int .i64 (nn p 5)]) w (by decide)
  have n6 := fun w => no6 74 (.agg #[.int .i64 (nn p 0), .int .i64 (nn p 1), .int .i64 (nn p 2), .int .i64 (nn p 3), .int .i64 (nn p 4), .int .i64 (nn p 5)]) w (by decide)
  clear hWx hWa hWb hWc hR B0 P0 L0 B1 P1 L1 B2 P2 L2 B3 P3 L3 q1 q2 r3 c3 hbl
  go_enter Try.func15, Try.ntmps15
  go_upto_region 1 with fail
  rw [← HWA.out, ← HR.out]
  go_upto_region 2 with fail
  rw [← HWB.out, HSA.out]
  clear a0 a1 a2
  obtain ⟨a0, a1, a2⟩ := three_cells H2.out
  go_upto_region 23 with fail
  rw [← HWC.out, HSB.out]
  have hc := H3.out.2.1
  have hf := H3.out.2.2
  obtain ⟨p0, p1, p2, p3, p4, p5, p6, p7, p8, p9, p10, p11, p12⟩ := cell13 hc
  have fp := fun i => free_at (i := i) hc
  have g0 : Wc.cell? ⟨R + 1 + 1 + 1, 0, none⟩ = some (.int .i64 (nn p 0)) := by rw [cell_of_row _ _ _ _ _ _ hf]; rfl
  have g1 : Wc.cell? ⟨R + 1 + 1 + 1, 1, none⟩ = some (.int .i64 (nn p 1)) := by rw [cell_of_row _ _ _ _ _ _ hf]; rfl
  have g2 : Wc.cell? ⟨R + 1 + 1 + 1, 2, none⟩ = some (.int .i64 (nn p 2)) := by rw [cell_of_row _ _ _ _ _ _ hf]; rfl
  have g3 : Wc.cell? ⟨R + 1 + 1 + 1, 3, none⟩ = some (.int .i64 (nn p 3)) := by rw [cell_of_row _ _ _ _ _ _ hf]; rfl
  have g4 : Wc.cell? ⟨R + 1 + 1 + 1, 4, none⟩ = some (.int .i64 (nn p 4)) := by rw [cell_of_row _ _ _ _ _ _ hf]; rfl
  have g5 : Wc.cell? ⟨R + 1 + 1 + 1, 5, none⟩ = some (.int .i64 (nn p 5)) := by rw [cell_of_row _ _ _ _ _ _ hf]; rfl
  have HC := Lib.hid hc
  have HZ := Lib.hid H3.out.1
  clear hc hf a0 a1 a2 H2 H3
  have hne : R + 1 + 1 ≠ R + 1 + 1 + 1 := by omega
  have KS : Hid (∀ (w9 : World) (i : Nat) (u : Value), (w9.cell? ⟨R + 1 + 1 + 1, 0, none⟩ = some (.int .i64 (nn p 0)) ∧ w9.cell? ⟨R + 1 + 1 + 1, 1, none⟩ = some (.int .i64 (nn p 1)) ∧ w9.cell? ⟨R + 1 + 1 + 1, 2, none⟩ = some (.int .i64 (nn p 2)) ∧ w9.cell? ⟨R + 1 + 1 + 1, 3, none⟩ = some (.int .i64 (nn p 3)) ∧ w9.cell? ⟨R + 1 + 1 + 1, 4, none⟩ = some (.int .i64 (nn p 4)) ∧ w9.cell? ⟨R + 1 + 1 + 1, 5, none⟩ = some (.int .i64 (nn p 5))) → ((w9.setCell ⟨R + 1 + 1, i, none⟩ u).cell? ⟨R + 1 + 1 + 1, 0, none⟩ = some (.int .i64 (nn p 0)) ∧ (w9.setCell ⟨R + 1 + 1, i, none⟩ u).cell? ⟨R + 1 + 1 + 1, 1, none⟩ = some (.int .i64 (nn p 1)) ∧ (w9.setCell ⟨R + 1 + 1, i, none⟩ u).cell? ⟨R + 1 + 1 + 1, 2, none⟩ = some (.int .i64 (nn p 2)) ∧ (w9.setCell ⟨R + 1 + 1, i, none⟩ u).cell? ⟨R + 1 + 1 + 1, 3, none⟩ = some (.int .i64 (nn p 3)) ∧ (w9.setCell ⟨R + 1 + 1, i, none⟩ u).cell? ⟨R + 1 + 1 + 1, 4, none⟩ = some (.int .i64 (nn p 4)) ∧ (w9.setCell ⟨R + 1 + 1, i, none⟩ u).cell? ⟨R + 1 + 1 + 1, 5, none⟩ = some (.int .i64 (nn p 5)))) := fun w9 i u h => by
    refine ⟨?_, ?_, ?_, ?_, ?_, ?_⟩ <;> (rw [World.cell?_setCell_far _ _ _ _ hne]; first | exact h.1 | exact h.2.1 | exact h.2.2.1 | exact h.2.2.2.1 | exact h.2.2.2.2 | exact h.2.2.2.2.1 | exact h.2.2.2.2.2)
  have KD : Hid (∀ (w9 : World), (w9.cell? ⟨R + 1 + 1 + 1, 0, none⟩ = some (.int .i64 (nn p 0)) ∧ w9.cell? ⟨R + 1 + 1 + 1, 1, none⟩ = some (.int .i64 (nn p 1)) ∧ w9.cell? ⟨R + 1 + 1 + 1, 2, none⟩ = some (.int .i64 (nn p 2)) ∧ w9.cell? ⟨R + 1 + 1 + 1, 3, none⟩ = some (.int .i64 (nn p 3)) ∧ w9.cell? ⟨R + 1 + 1 + 1, 4, none⟩ = some (.int .i64 (nn p 4)) ∧ w9.cell? ⟨R + 1 + 1 + 1, 5, none⟩ = some (.int .i64 (nn p 5))) → (w9.drew.cell? ⟨R + 1 + 1 + 1, 0, none⟩ = some (.int .i64 (nn p 0)) ∧ w9.drew.cell? ⟨R + 1 + 1 + 1, 1, none⟩ = some (.int .i64 (nn p 1)) ∧ w9.drew.cell? ⟨R + 1 + 1 + 1, 2, none⟩ = some (.int .i64 (nn p 2)) ∧ w9.drew.cell? ⟨R + 1 + 1 + 1, 3, none⟩ = some (.int .i64 (nn p 3)) ∧ w9.drew.cell? ⟨R + 1 + 1 + 1, 4, none⟩ = some (.int .i64 (nn p 4)) ∧ w9.drew.cell? ⟨R + 1 + 1 + 1, 5, none⟩ = some (.int .i64 (nn p 5)))) := fun w9 h => h
  have K0 : Hid (Wc.cell? ⟨R + 1 + 1 + 1, 0, none⟩ = some (.int .i64 (nn p 0)) ∧ Wc.cell? ⟨R + 1 + 1 + 1, 1, none⟩ = some (.int .i64 (nn p 1)) ∧ Wc.cell? ⟨R + 1 + 1 + 1, 2, none⟩ = some (.int .i64 (nn p 2)) ∧ Wc.cell? ⟨R + 1 + 1 + 1, 3, none⟩ = some (.int .i64 (nn p 3)) ∧ Wc.cell? ⟨R + 1 + 1 + 1, 4, none⟩ = some (.int .i64 (nn p 4)) ∧ Wc.cell? ⟨R + 1 + 1 + 1, 5, none⟩ = some (.int .i64 (nn p 5))) := ⟨g0, g1, g2, g3, g4, g5⟩
  clear hne
  refine wp_region_held_drew (S := fun w' => w'.cell? ⟨R + 1 + 1 + 1, 0, none⟩ = some (.int .i64 (nn p 0)) ∧ w'.cell? ⟨R + 1 + 1 + 1, 1, none⟩ = some (.int .i64 (nn p 1)) ∧ w'.cell? ⟨R + 1 + 1 + 1, 2, none⟩ = some (.int .i64 (nn p 2)) ∧ w'.cell? ⟨R + 1 + 1 + 1, 3, none⟩ = some (.int .i64 (nn p 3)) ∧ w'.cell? ⟨R + 1 + 1 + 1, 4, none⟩ = some (.int .i64 (nn p 4)) ∧ w'.cell? ⟨R + 1 + 1 + 1, 5, none⟩ = some (.int .i64 (nn p 5))) (by kernel_rfl) ?_ (fun hHeld => ?_)
  focus (exact K0.out)
  refine' wpAnyH_take (i := 0) (v := _) rfl (by kernel_rfl) (by kernel_rfl) (by kernel_rfl) (fun _ _ _ h => h) (Or.inl ⟨by rfl, ?hy0⟩) (by assumption) ?rest0
  case hy0 => (intro w hSw; (try dsimp only at hSw); go_simp; try with_reducible rfl)
  try simp only [Act.put, List.getElem_toArray, List.getElem_cons_zero, List.getElem_cons_succ, List.setIfInBounds_toArray, List.set_cons_zero, List.set_cons_succ]
  refine' wpAnyH_take (i := 1) (v := _) rfl (by kernel_rfl) (by kernel_rfl) (by kernel_rfl) (fun _ _ _ h => h) (Or.inl ⟨by rfl, ?hy1⟩) (by assumption) ?rest1
  case hy1 => (intro w hSw; (try dsimp only at hSw); go_simp; try with_reducible rfl)
  try simp only [Act.put, List.getElem_toArray, List.getElem_cons_zero, List.getElem_cons_succ, List.setIfInBounds_toArray, List.set_cons_zero, List.set_cons_succ]
  refine' wpAnyH_take (i := 2) (v := _) rfl (by kernel_rfl) (by kernel_rfl) (by kernel_rfl) (fun _ _ _ h => h) (Or.inl ⟨by rfl, ?hy2⟩) (by assumption) ?rest2
  case hy2 => (intro w hSw; (try dsimp only at hSw); go_simp; try with_reducible rfl)
  try simp only [Act.put, List.getElem_toArray, List.getElem_cons_zero, List.getElem_cons_succ, List.setIfInBounds_toArray, List.set_cons_zero, List.set_cons_succ]
  refine' wpAnyH_take (i := 3) (v := _) rfl (by kernel_rfl) (by kernel_rfl) (by kernel_rfl) (fun _ _ _ h => h) (Or.inl ⟨by rfl, ?hy3⟩) (by assumption) ?rest3
  case hy3 => (intro w hSw; (try dsimp only at hSw); go_simp; try with_reducible rfl)
  try simp only [Act.put, List.getElem_toArray, List.getElem_cons_zero, List.getElem_cons_succ, List.setIfInBounds_toArray, List.set_cons_zero, List.set_cons_succ]
  refine' wpAnyH_take (i := 4) (v := _) rfl (by kernel_rfl) (by kernel_rfl) (by kernel_rfl) (fun _ _ _ h => h) (Or.inl ⟨by rfl, ?hy4⟩) (by assumption) ?rest4
  case hy4 => (intro w hSw; (try dsimp only at hSw); go_simp; try with_reducible rfl)
  try simp only [Act.put, List.getElem_toArray, List.getElem_cons_zero, List.getElem_cons_succ, List.setIfInBounds_toArray, List.set_cons_zero, List.set_cons_succ]
  refine' wpAnyH_take (i := 5) (v := _) rfl (by kernel_rfl) (by kernel_rfl) (by kernel_rfl) (fun _ _ _ h => h) (Or.inl ⟨by rfl, ?hy5⟩) (by assumption) ?rest5
  case hy5 => (intro w hSw; (try dsimp only at hSw); go_simp; try with_reducible rfl)
  try simp only [Act.put, List.getElem_toArray, List.getElem_cons_zero, List.getElem_cons_succ, List.setIfInBounds_toArray, List.set_cons_zero, List.set_cons_succ]
  refine' wpAnyH_take (i := 6) (v := _) rfl (by kernel_rfl) (by kernel_rfl) (by kernel_rfl) (fun _ _ _ h => h) (Or.inl ⟨by rfl, ?hy6⟩) (by assumption) ?rest6
  case hy6 => (intro w hSw; (try dsimp only at hSw); go_simp; try with_reducible rfl)
  try simp only [Act.put, List.getElem_toArray, List.getElem_cons_zero, List.getElem_cons_succ, List.setIfInBounds_toArray, List.set_cons_zero, List.set_cons_succ]
  refine' wpAnyH_take (i := 7) (v := _) rfl (by kernel_rfl) (by kernel_rfl) (by kernel_rfl) (fun _ _ _ h => h) (Or.inl ⟨by rfl, ?hy7⟩) (by assumption) ?rest7
  case hy7 => (intro w hSw; (try dsimp only at hSw); go_simp; try with_reducible rfl)
  try simp only [Act.put, List.getElem_toArray, List.getElem_cons_zero, List.getElem_cons_succ, List.setIfInBounds_toArray, List.set_cons_zero, List.set_cons_succ]
  refine' wpAnyH_take (i := 8) (v := _) rfl (by kernel_rfl) (by kernel_rfl) (by kernel_rfl) (fun _ _ _ h => h) (Or.inl ⟨by rfl, ?hy8⟩) (by assumption) ?rest8
  case hy8 => (intro w hSw; (try dsimp only at hSw); go_simp; try with_reducible rfl)
  try simp only [Act.put, List.getElem_toArray, List.getElem_cons_zero, List.getElem_cons_succ, List.setIfInBounds_toArray, List.set_cons_zero, List.set_cons_succ]
  refine' wpAnyH_take (i := 9) (v := _) rfl (by kernel_rfl) (by kernel_rfl) (by kernel_rfl) (fun _ _ _ h => h) (Or.inl ⟨by rfl, ?hy9⟩) (by assumption) ?rest9
  case hy9 => (intro w hSw; (try dsimp only at hSw); go_simp; try with_reducible rfl)
  try simp only [Act.put, List.getElem_toArray, List.getElem_cons_zero, List.getElem_cons_succ, List.setIfInBounds_toArray, List.set_cons_zero, List.set_cons_succ]
  refine' wpAnyH_take (i := 10) (v := _) rfl (by kernel_rfl) (by kernel_rfl) (by kernel_rfl) (fun _ _ _ h => h) (Or.inl ⟨by rfl, ?hy10⟩) (by assumption) ?rest10
  case hy10 => (intro w hSw; (try dsimp only at hSw); go_simp; try with_reducible rfl)
  try simp only [Act.put, List.getElem_toArray, List.getElem_cons_zero, List.getElem_cons_succ, List.setIfInBounds_toArray, List.set_cons_zero, List.set_cons_succ]
  refine' wpAnyH_take (i := 11) (v := _) rfl (by kernel_rfl) (by kernel_rfl) (by kernel_rfl) (fun _ _ _ h => h) (Or.inl ⟨by rfl, ?hy11⟩) (by assumption) ?rest11
  case hy11 => (intro w hSw; (try dsimp only at hSw); go_simp; try with_reducible rfl)
  try simp only [Act.put, List.getElem_toArray, List.getElem_cons_zero, List.getElem_cons_succ, List.setIfInBounds_toArray, List.set_cons_zero, List.set_cons_succ]
  refine' wpAnyH_take (i := 12) (v := _) rfl (by kernel_rfl) (by kernel_rfl) (by kernel_rfl) (fun _ _ _ h => h) (Or.inl ⟨by rfl, ?hy12⟩) (by assumption) ?rest12
  case hy12 => (intro w hSw; (try dsimp only at hSw); go_simp; try with_reducible rfl)
  try simp only [Act.put, List.getElem_toArray, List.getElem_cons_zero, List.getElem_cons_succ, List.setIfInBounds_toArray, List.set_cons_zero, List.set_cons_succ]
  refine' wpAnyH_take (i := 13) (v := _) rfl (by kernel_rfl) (by kernel_rfl) (by kernel_rfl) (fun _ _ _ h => h) (Or.inl ⟨by rfl, ?hy13⟩) (by assumption) ?rest13
  case hy13 => (intro w hSw; (try dsimp only at hSw); go_simp; try with_reducible rfl)
  try simp only [Act.put, List.getElem_toArray, List.getElem_cons_zero, List.getElem_cons_succ, List.setIfInBounds_toArray, List.set_cons_zero, List.set_cons_succ]
  refine wpAnyH_ready (rs := [14]) (by kernel_rfl) (by simp) ?_
  refine AllReadyH.cons rfl (fun K hK => ?_) AllReadyH.nil
  go_simp
  refine hK.out _ _ ?_ (fun hHeld => ?_)
  focus ((repeat first | with_reducible exact K0.out | with_reducible assumption | with_reducible refine KD.out _ ?_ | with_reducible refine KS.out _ _ _ ?_); done)
  clear hK K
  try simp only [Act.put, List.getElem_toArray, List.getElem_cons_zero, List.getElem_cons_succ, List.setIfInBounds_toArray, List.set_cons_zero, List.set_cons_succ]
  refine' wpAnyH_take (i := 15) (v := _) rfl (by kernel_rfl) (by kernel_rfl) (by kernel_rfl) (fun _ _ _ h => h) (Or.inl ⟨by rfl, ?hy15⟩) (by assumption) ?rest15
  case hy15 => (intro w hSw; (try dsimp only at hSw); go_simp; try with_reducible rfl)
  try simp only [Act.put, List.getElem_toArray, List.getElem_cons_zero, List.getElem_cons_succ, List.setIfInBounds_toArray, List.set_cons_zero, List.set_cons_succ]
  refine wpAnyH_ready (rs := [16]) (by kernel_rfl) (by simp) ?_
  refine AllReadyH.cons rfl (fun K hK => ?_) AllReadyH.nil
  go_simp
  refine hK.out _ _ ?_ (fun hHeld => ?_)
  focus ((repeat first | with_reducible exact K0.out | with_reducible assumption | with_reducible refine KD.out _ ?_ | with_reducible refine KS.out _ _ _ ?_); done)
  clear hK K
  try simp only [Act.put, List.getElem_toArray, List.getElem_cons_zero, List.getElem_cons_succ, List.setIfInBounds_toArray, List.set_cons_zero, List.set_cons_succ]
  refine wpAnyH_done (by kernel_rfl) ?_ _
  obtain ⟨WD, hWD⟩ : ∃ WD, WD = (((((((Wc.setCell ⟨R + 1 + 1, 0, none⟩ (.int .i64 7)).setCell ⟨R + 1 + 1, 3, none⟩ (.int .i64 (nn p 0))).setCell ⟨R + 1 + 1, 4, none⟩ (.int .i64 (nn p 1))).setCell ⟨R + 1 + 1, 5, none⟩ (.int .i64 (nn p 2))).setCell ⟨R + 1 + 1, 6, none⟩ (.int .i64 (nn p 3))).setCell ⟨R + 1 + 1, 7, none⟩ (.int .i64 (nn p 4))).setCell ⟨R + 1 + 1, 8, none⟩ (.int .i64 (nn p 5))).drew := ⟨_, rfl⟩
  rw [← hWD]
  have b0 : Wc.heap[R + 1 + 1]? = some (.cells #[.int .i64 0, .string (mkB p.tok), .int .i64 p.seq, .int .i64 0, .int .i64 0, .int .i64 0, .int .i64 0, .int .i64 0, .int .i64 0, .string (ByteArray.mk #[]), .string (ByteArray.mk #[]), .bool false, .bool false] 24 (0, 0)) := HC.out
  have b1 : (Wc.setCell ⟨R + 1 + 1, 0, none⟩ (.int .i64 7)).heap[R + 1 + 1]? = some (.cells #[.int .i64 7, .string (mkB p.tok), .int .i64 p.seq, .int .i64 0, .int .i64 0, .int .i64 0, .int .i64 0, .int .i64 0, .int .i64 0, .string (ByteArray.mk #[]), .string (ByteArray.mk #[]), .bool false, .bool false] 24 (0, 0)) := set_block b0
  have b2 : ((Wc.setCell ⟨R + 1 + 1, 0, none⟩ (.int .i64 7)).setCell ⟨R + 1 + 1, 3, none⟩ (.int .i64 (nn p 0))).heap[R + 1 + 1]? = some (.cells #[.int .i64 7, .string (mkB p.tok), .int .i64 p.seq, .int .i64 (nn p 0), .int .i64 0, .int .i64 0, .int .i64 0, .int .i64 0, .int .i64 0, .string (ByteArray.mk #[]), .string (ByteArray.mk #[]), .bool false, .bool false] 24 (0, 0)) := set_block b1
  have b3 : (((Wc.setCell ⟨R + 1 + 1, 0, none⟩ (.int .i64 7)).setCell ⟨R + 1 + 1, 3, none⟩ (.int .i64 (nn p 0))).setCell ⟨R + 1 + 1, 4, none⟩ (.int .i64 (nn p 1))).heap[R + 1 + 1]? = some (.cells #[.int .i64 7, .string (mkB p.tok), .int .i64 p.seq, .int .i64 (nn p 0), .int .i64 (nn p 1), .int .i64 0, .int .i64 0, .int .i64 0, .int .i64 0, .string (ByteArray.mk #[]), .string (ByteArray.mk #[]), .bool false, .bool false] 24 (0, 0)) := set_block b2
  have b4 : ((((Wc.setCell ⟨R + 1 + 1, 0, none⟩ (.int .i64 7)).setCell ⟨R + 1 + 1, 3, none⟩ (.int .i64 (nn p 0))).setCell ⟨R + 1 + 1, 4, none⟩ (.int .i64 (nn p 1))).setCell ⟨R + 1 + 1, 5, none⟩ (.int .i64 (nn p 2))).heap[R + 1 + 1]? = some (.cells #[.int .i64 7, .string (mkB p.tok), .int .i64 p.seq, .int .i64 (nn p 0), .int .i64 (nn p 1), .int .i64 (nn p 2), .int .i64 0, .int .i64 0, .int .i64 0, .string (ByteArray.mk #[]), .string (ByteArray.mk #[]), .bool false, .bool false] 24 (0, 0)) := set_block b3
  have b5 : (((((Wc.setCell ⟨R + 1 + 1, 0, none⟩ (.int .i64 7)).setCell ⟨R + 1 + 1, 3, none⟩ (.int .i64 (nn p 0))).setCell ⟨R + 1 + 1, 4, none⟩ (.int .i64 (nn p 1))).setCell ⟨R + 1 + 1, 5, none⟩ (.int .i64 (nn p 2))).setCell ⟨R + 1 + 1, 6, none⟩ (.int .i64 (nn p 3))).heap[R + 1 + 1]? = some (.cells #[.int .i64 7, .string (mkB p.tok), .int .i64 p.seq, .int .i64 (nn p 0), .int .i64 (nn p 1), .int .i64 (nn p 2), .int .i64 (nn p 3), .int .i64 0, .int .i64 0, .string (ByteArray.mk #[]), .string (ByteArray.mk #[]), .bool false, .bool false] 24 (0, 0)) := set_block b4
  have b6 : ((((((Wc.setCell ⟨R + 1 + 1, 0, none⟩ (.int .i64 7)).setCell ⟨R + 1 + 1, 3, none⟩ (.int .i64 (nn p 0))).setCell ⟨R + 1 + 1, 4, none⟩ (.int .i64 (nn p 1))).setCell ⟨R + 1 + 1, 5, none⟩ (.int .i64 (nn p 2))).setCell ⟨R + 1 + 1, 6, none⟩ (.int .i64 (nn p 3))).setCell ⟨R + 1 + 1, 7, none⟩ (.int .i64 (nn p 4))).heap[R + 1 + 1]? = some (.cells #[.int .i64 7, .string (mkB p.tok), .int .i64 p.seq, .int .i64 (nn p 0), .int .i64 (nn p 1), .int .i64 (nn p 2), .int .i64 (nn p 3), .int .i64 (nn p 4), .int .i64 0, .string (ByteArray.mk #[]), .string (ByteArray.mk #[]), .bool false, .bool false] 24 (0, 0)) := set_block b5
  have b7 : (((((((Wc.setCell ⟨R + 1 + 1, 0, none⟩ (.int .i64 7)).setCell ⟨R + 1 + 1, 3, none⟩ (.int .i64 (nn p 0))).setCell ⟨R + 1 + 1, 4, none⟩ (.int .i64 (nn p 1))).setCell ⟨R + 1 + 1, 5, none⟩ (.int .i64 (nn p 2))).setCell ⟨R + 1 + 1, 6, none⟩ (.int .i64 (nn p 3))).setCell ⟨R + 1 + 1, 7, none⟩ (.int .i64 (nn p 4))).setCell ⟨R + 1 + 1, 8, none⟩ (.int .i64 (nn p 5))).heap[R + 1 + 1]? = some (.cells #[.int .i64 7, .string (mkB p.tok), .int .i64 p.seq, .int .i64 (nn p 0), .int .i64 (nn p 1), .int .i64 (nn p 2), .int .i64 (nn p 3), .int .i64 (nn p 4), .int .i64 (nn p 5), .string (ByteArray.mk #[]), .string (ByteArray.mk #[]), .bool false, .bool false] 24 (0, 0)) := set_block b6
  have hpb : WD.heap[R + 1 + 1]? = some (.cells #[.int .i64 7, .string (mkB p.tok), .int .i64 p.seq, .int .i64 (nn p 0), .int .i64 (nn p 1), .int .i64 (nn p 2), .int .i64 (nn p 3), .int .i64 (nn p 4), .int .i64 (nn p 5), .string (ByteArray.mk #[]), .string (ByteArray.mk #[]), .bool false, .bool false] 24 (0, 0)) := by
    rw [hWD, heap_drew]
    exact b7
  have hpz : WD.heap[R + 1]? = some (.cells #[.int .i64 0, .string (ByteArray.mk #[]), .int .i64 0, .int .i64 0, .int .i64 0, .int .i64 0, .int .i64 0, .int .i64 0, .int .i64 0, .string (ByteArray.mk #[]), .string (ByteArray.mk #[]), .bool false, .bool false] 24 (0, 0)) := by
    rw [hWD, heap_drew]
    exact ((Below.heap_setCell _ _ _ _ (by show R + 1 ≠ R + 1 + 1; omega)).trans ((Below.heap_setCell _ _ _ _ (by show R + 1 ≠ R + 1 + 1; omega)).trans ((Below.heap_setCell _ _ _ _ (by show R + 1 ≠ R + 1 + 1; omega)).trans ((Below.heap_setCell _ _ _ _ (by show R + 1 ≠ R + 1 + 1; omega)).trans ((Below.heap_setCell _ _ _ _ (by show R + 1 ≠ R + 1 + 1; omega)).trans ((Below.heap_setCell _ _ _ _ (by show R + 1 ≠ R + 1 + 1; omega)).trans ((Below.heap_setCell _ _ _ _ (by show R + 1 ≠ R + 1 + 1; omega)).trans HZ.out)))))))
  have hbd : Below R w WD := by rw [hWD]; exact (Below.drew (below_put (below_put (below_put (below_put (below_put (below_put (below_put HBL.out (by omega) _) (by omega) _) (by omega) _) (by omega) _) (by omega) _) (by omega) _) (by omega) _))
  clear hWD HC HZ HBL p0 p1 p2 p3 p4 p5 p6 p7 p8 p9 p10 p11 p12 fp g0 g1 g2 g3 g4 g5 b0 b1 b2 b3 b4 b5 b6 b7
  obtain ⟨p0, p1, p2, p3, p4, p5, p6, p7, p8, p9, p10, p11, p12⟩ := cell13 hpb
  obtain ⟨z0, z1, z2, z3, z4, z5, z6, z7, z8, z9, z10, z11, z12⟩ := cell13 hpz
  have fz := fun i => free_at (i := i) hpz
  have HPZ := Lib.hid hpz
  have HBD := Lib.hid hbd
  clear hpb hpz hbd
  go_wp2_with fail
  obtain ⟨WN, hWN⟩ : ∃ WN, WN = (((((((((((((WD.setCell ⟨R + 1, 0, none⟩ (.int .i64 7)).setCell ⟨R + 1, 1, none⟩ (.string (mkB p.tok))).setCell ⟨R + 1, 2, none⟩ (.int .i64 p.seq)).setCell ⟨R + 1, 3, none⟩ (.int .i64 (nn p 0))).setCell ⟨R + 1, 4, none⟩ (.int .i64 (nn p 1))).setCell ⟨R + 1, 5, none⟩ (.int .i64 (nn p 2))).setCell ⟨R + 1, 6, none⟩ (.int .i64 (nn p 3))).setCell ⟨R + 1, 7, none⟩ (.int .i64 (nn p 4))).setCell ⟨R + 1, 8, none⟩ (.int .i64 (nn p 5))).setCell ⟨R + 1, 9, none⟩ (.string (ByteArray.mk #[]))).setCell ⟨R + 1, 10, none⟩ (.string (ByteArray.mk #[]))).setCell ⟨R + 1, 11, none⟩ (.bool false)).setCell ⟨R + 1, 12, none⟩ (.bool false)) := ⟨_, rfl⟩
  rw [← hWN]
  have hfin : WN.heap[R + 1]? = some (.cells #[.int .i64 7, .string (mkB p.tok), .int .i64 p.seq, .int .i64 (nn p 0), .int .i64 (nn p 1), .int .i64 (nn p 2), .int .i64 (nn p 3), .int .i64 (nn p 4), .int .i64 (nn p 5), .string (ByteArray.mk #[]), .string (ByteArray.mk #[]), .bool false, .bool false] 24 (0, 0)) ∧ Below R w WN := by
    rw [hWN]
    exact fin13c HPZ.out rfl HBD.out (by omega) (.int .i64 7) (.string (mkB p.tok)) (.int .i64 p.seq) (.int .i64 (nn p 0)) (.int .i64 (nn p 1)) (.int .i64 (nn p 2)) (.int .i64 (nn p 3)) (.int .i64 (nn p 4)) (.int .i64 (nn p 5)) (.string (ByteArray.mk #[])) (.string (ByteArray.mk #[])) (.bool false) (.bool false)
  obtain ⟨y0, y1, y2, y3, y4, y5, y6, y7, y8, y9, y10, y11, y12⟩ := cell13 hfin.1
  have hbw := hfin.2
  rw [HR.out] at hbw
  exact bodyPost_ret (v := .agg #[.int .i64 7, .string (mkB p.tok), .int .i64 p.seq, .int .i64 (nn p 0), .int .i64 (nn p 1), .int .i64 (nn p 2), .int .i64 (nn p 3), .int .i64 (nn p 4), .int .i64 (nn p 5), .string (ByteArray.mk #[]), .string (ByteArray.mk #[]), .bool false, .bool false]) (by simp [results, Try.results15, go_sem, y0, y1, y2, y3, y4, y5, y6, y7, y8, y9, y10, y11, y12, Try.isAgg24, Try.sizeOf24]) rfl ⟨rfl, hbw⟩
set_option maxHeartbeats 8000000 in
theorem back8 (p : Pl) (w : World) : Calls Try.prog 15 #[.agg #[.string (mkB p.tok), .int .i64 p.seq, .iface 76 (.agg #[.int .i64 (nn p 0)])]] w fun e w' => e = .returned (plV (⟨8, p.tok, p.seq, [nn p 0, 0, 0, 0, 0, 0], [], [], false, false⟩ : Pl)) ∧ Below w.heap.size w w' := by
  have hpv : plV (⟨8, p.tok, p.seq, [nn p 0, 0, 0, 0, 0, 0], [], [], false, false⟩ : Pl) = .agg #[.int .i64 8, .string (mkB p.tok), .int .i64 p.seq, .int .i64 (nn p 0), .int .i64 0, .int .i64 0, .int .i64 0, .int .i64 0, .int .i64 0, .string (ByteArray.mk #[]), .string (ByteArray.mk #[]), .bool false, .bool false] := by simp [plV, nn, mkB_nil]
  rw [hpv]
  clear hpv
  obtain ⟨R, hR⟩ : ∃ R, R = w.heap.size := ⟨_, rfl⟩
  obtain ⟨B0, P0, L0⟩ := box1 w #[.string (mkB p.tok), .int .i64 p.seq, .iface 76 (.agg #[.int .i64 (nn p 0)])] 30
  obtain ⟨Wx, hWx⟩ : ∃ Wx, Wx = w.alloc (.cells #[.string (mkB p.tok), .int .i64 p.seq, .iface 76 (.agg #[.int .i64 (nn p 0)])] 30) := ⟨_, rfl⟩
  rw [← hWx] at B0 P0 L0
  obtain ⟨B1, P1, L1⟩ := box1 Wx #[.int .i64 0, .string (ByteArray.mk #[]), .int .i64 0, .int .i64 0, .int .i64 0, .int .i64 0, .int .i64 0, .int .i64 0, .int .i64 0, .string (ByteArray.mk #[]), .string (ByteArray.mk #[]), .bool false, .bool false] 24
  obtain ⟨Wa, hWa⟩ : ∃ Wa, Wa = Wx.alloc (.cells #[.int .i64 0, .string (ByteArray.mk #[]), .int .i64 0, .int .i64 0, .int .i64 0, .int .i64 0, .int .i64 0, .int .i64 0, .int .i64 0, .string (ByteArray.mk #[]), .string (ByteArray.mk #[]), .bool false, .bool false] 24) := ⟨_, rfl⟩
  rw [← hWa] at B1 P1 L1
  obtain ⟨B2, P2, L2⟩ := box1 Wa #[.int .i64 0, .string (mkB p.tok), .int .i64 p.seq, .int .i64 0, .int .i64 0, .int .i64 0, .int .i64 0, .int .i64 0, .int .i64 0, .string (ByteArray.mk #[]), .string (ByteArray.mk #[]), .bool false, .bool false] 24
  obtain ⟨Wb, hWb⟩ : ∃ Wb, Wb = Wa.alloc (.cells #[.int .i64 0, .string (mkB p.tok), .int .i64 p.seq, .int .i64 0, .int .i64 0, .int .i64 0, .int .i64 0, .int .i64 0, .int .i64 0, .string (ByteArray.mk #[]), .string (ByteArray.mk #[]), .bool false, .bool false] 24) := ⟨_, rfl⟩
  rw [← hWb] at B2 P2 L2
  obtain ⟨B3, P3, L3⟩ := box1 Wb #[.int .i64 (nn p 0)] 76
  obtain ⟨Wc, hWc⟩ : ∃ Wc, Wc = Wb.alloc (.cells #[.int .i64 (nn p 0)] 76) := ⟨_, rfl⟩
  rw [← hWc] at B3 P3 L3
  rw [L0, ← hR] at L1 P1
  rw [L1] at P2 L2
  rw [L2] at P3 L3
  rw [← hR] at P0 L0
  have q1 : Wa.heap[R]? = some (.cells #[.string (mkB p.tok), .int .i64 p.seq, .iface 76 (.agg #[.int .i64 (nn p 0)])] 30 (0, 0)) := (B1.block R (by omega)).trans P0
  have q2 : Wb.heap[R]? = some (.cells #[.string (mkB p.tok), .int .i64 p.seq, .iface 76 (.agg #[.int .i64 (nn p 0)])] 30 (0, 0)) := (B2.block R (by omega)).trans q1
  have r3 : Wc.heap[R + 1]? = some (.cells #[.int .i64 0, .string (ByteArray.mk #[]), .int .i64 0, .int .i64 0, .int .i64 0, .int .i64 0, .int .i64 0, .int .i64 0, .int .i64 0, .string (ByteArray.mk #[]), .string (ByteArray.mk #[]), .bool false, .bool false] 24 (0, 0)) := (B3.block (R + 1) (by omega)).trans ((B2.block (R + 1) (by omega)).trans P1)
  have c3 : Wc.heap[R + 1 + 1]? = some (.cells #[.int .i64 0, .string (mkB p.tok), .int .i64 p.seq, .int .i64 0, .int .i64 0, .int .i64 0, .int .i64 0, .int .i64 0, .int .i64 0, .string (ByteArray.mk #[]), .string (ByteArray.mk #[]), .bool false, .bool false] 24 (0, 0)) := (B3.block (R + 1 + 1) (by omega)).trans P2
  have hbl := below_on (below_on (below_on B0 B1) B2) B3
  rw [hWx] at hWa
  have HSA : Hid (Wa.heap.size = R + 1 + 1) := L1
  have HSB : Hid (Wb.heap.size = R + 1 + 1 + 1) := L2
  have HWA := Lib.hid hWa
  have HWB := Lib.hid hWb
  have HWC := Lib.hid hWc
  have HR := Lib.hid hR
  have HBL : Hid (Below R w Wc) := by rw [hR]; exact hbl
  have H2 := Lib.hid q2
  have H3 := Lib.hid (And.intro r3 (And.intro c3 P3))
  obtain ⟨a0, a1, a2⟩ := three_cells q1
  have yes := is8 (.agg #[.int .i64 (nn p 0)])
  have n1 := fun w => no1 76 (.agg #[.int .i64 (nn p 0)]) w (by decide)
  have n2 := fun w => no2 76 (.agg #[.int .i64 (nn p 0)]) w (by decide)
  have n3 := fun w => no3 76 (.agg #[.int .i64 (nn p 0)]) w (by decide)
  have n4 := fun w => no4 76 (.agg #[.int .i64 (nn p 0)]) w (by decide)
  have n5 := fun w => no5 76 (.agg #[.int .i64 (nn p 0)]) w (by decide)
  have n6 := fun w => no6 76 (.agg #[.int .i64 (nn p 0)]) w (by decide)
  have n7 := fun w => no7 76 (.agg #[.int .i64 (nn p 0)]) w (by decide)
  clear hWx hWa hWb hWc hR B0 P0 L0 B1 P1 L1 B2 P2 L2 B3 P3 L3 q1 q2 r3 c3 hbl
  go_enter Try.func15, Try.ntmps15
  go_upto_region 1 with fail
  rw [← HWA.out, ← HR.out]
  go_upto_region 2 with fail
  rw [← HWB.out, HSA.out]
  clear a0 a1 a2
  obtain ⟨a0, a1, a2⟩ := three_cells H2.out
  go_upto_region 26 with fail
  rw [← HWC.out, HSB.out]
  have hc := H3.out.2.1
  have hf := H3.out.2.2
  obtain ⟨p0, p1, p2, p3, p4, p5, p6, p7, p8, p9, p10, p11, p12⟩ := cell13 hc
  have fp := fun i => free_at (i := i) hc
  have g0 : Wc.cell? ⟨R + 1 + 1 + 1, 0, none⟩ = some (.int .i64 (nn p 0)) := by rw [cell_of_row _ _ _ _ _ _ hf]; rfl
  have HC := Lib.hid hc
  have HZ := Lib.hid H3.out.1
  clear hc hf a0 a1 a2 H2 H3
  go_region
  obtain ⟨WD, hWD⟩ : ∃ WD, WD = (((((((Wc.setCell ⟨R + 1 + 1, 0, none⟩ (.int .i64 8)).setCell ⟨R + 1 + 1, 3, none⟩ (.int .i64 (nn p 0))).setCell ⟨R + 1 + 1, 4, none⟩ (.int .i64 0)).setCell ⟨R + 1 + 1, 5, none⟩ (.int .i64 0)).setCell ⟨R + 1 + 1, 6, none⟩ (.int .i64 0)).setCell ⟨R + 1 + 1, 7, none⟩ (.int .i64 0)).setCell ⟨R + 1 + 1, 8, none⟩ (.int .i64 0)).drew := ⟨_, rfl⟩
  rw [← hWD]
  have b0 : Wc.heap[R + 1 + 1]? = some (.cells #[.int .i64 0, .string (mkB p.tok), .int .i64 p.seq, .int .i64 0, .int .i64 0, .int .i64 0, .int .i64 0, .int .i64 0, .int .i64 0, .string (ByteArray.mk #[]), .string (ByteArray.mk #[]), .bool false, .bool false] 24 (0, 0)) := HC.out
  have b1 : (Wc.setCell ⟨R + 1 + 1, 0, none⟩ (.int .i64 8)).heap[R + 1 + 1]? = some (.cells #[.int .i64 8, .string (mkB p.tok), .int .i64 p.seq, .int .i64 0, .int .i64 0, .int .i64 0, .int .i64 0, .int .i64 0, .int .i64 0, .string (ByteArray.mk #[]), .string (ByteArray.mk #[]), .bool false, .bool false] 24 (0, 0)) := set_block b0
  have b2 : ((Wc.setCell ⟨R + 1 + 1, 0, none⟩ (.int .i64 8)).setCell ⟨R + 1 + 1, 3, none⟩ (.int .i64 (nn p 0))).heap[R + 1 + 1]? = some (.cells #[.int .i64 8, .string (mkB p.tok), .int .i64 p.seq, .int .i64 (nn p 0), .int .i64 0, .int .i64 0, .int .i64 0, .int .i64 0, .int .i64 0, .string (ByteArray.mk #[]), .string (ByteArray.mk #[]), .bool false, .bool false] 24 (0, 0)) := set_block b1
  have b3 : (((Wc.setCell ⟨R + 1 + 1, 0, none⟩ (.int .i64 8)).setCell ⟨R + 1 + 1, 3, none⟩ (.int .i64 (nn p 0))).setCell ⟨R + 1 + 1, 4, none⟩ (.int .i64 0)).heap[R + 1 + 1]? = some (.cells #[.int .i64 8, .string (mkB p.tok), .int .i64 p.seq, .int .i64 (nn p 0), .int .i64 0, .int .i64 0, .int .i64 0, .int .i64 0, .int .i64 0, .string (ByteArray.mk #[]), .string (ByteArray.mk #[]), .bool false, .bool false] 24 (0, 0)) := set_block b2
  have b4 : ((((Wc.setCell ⟨R + 1 + 1, 0, none⟩ (.int .i64 8)).setCell ⟨R + 1 + 1, 3, none⟩ (.int .i64 (nn p 0))).setCell ⟨R + 1 + 1, 4, none⟩ (.int .i64 0)).setCell ⟨R + 1 + 1, 5, none⟩ (.int .i64 0)).heap[R + 1 + 1]? = some (.cells #[.int .i64 8, .string (mkB p.tok), .int .i64 p.seq, .int .i64 (nn p 0), .int .i64 0, .int .i64 0, .int .i64 0, .int .i64 0, .int .i64 0, .string (ByteArray.mk #[]), .string (ByteArray.mk #[]), .bool false, .bool false] 24 (0, 0)) := set_block b3
  have b5 : (((((Wc.setCell ⟨R + 1 + 1, 0, none⟩ (.int .i64 8)).setCell ⟨R + 1 + 1, 3, none⟩ (.int .i64 (nn p 0))).setCell ⟨R + 1 + 1, 4, none⟩ (.int .i64 0)).setCell ⟨R + 1 + 1, 5, none⟩ (.int .i64 0)).setCell ⟨R + 1 + 1, 6, none⟩ (.int .i64 0)).heap[R + 1 + 1]? = some (.cells #[.int .i64 8, .string (mkB p.tok), .int .i64 p.seq, .int .i64 (nn p 0), .int .i64 0, .int .i64 0, .int .i64 0, .int .i64 0, .int .i64 0, .string (ByteArray.mk #[]), .string (ByteArray.mk #[]), .bool false, .bool false] 24 (0, 0)) := set_block b4
  have b6 : ((((((Wc.setCell ⟨R + 1 + 1, 0, none⟩ (.int .i64 8)).setCell ⟨R + 1 + 1, 3, none⟩ (.int .i64 (nn p 0))).setCell ⟨R + 1 + 1, 4, none⟩ (.int .i64 0)).setCell ⟨R + 1 + 1, 5, none⟩ (.int .i64 0)).setCell ⟨R + 1 + 1, 6, none⟩ (.int .i64 0)).setCell ⟨R + 1 + 1, 7, none⟩ (.int .i64 0)).heap[R + 1 + 1]? = some (.cells #[.int .i64 8, .string (mkB p.tok), .int .i64 p.seq, .int .i64 (nn p 0), .int .i64 0, .int .i64 0, .int .i64 0, .int .i64 0, .int .i64 0, .string (ByteArray.mk #[]), .string (ByteArray.mk #[]), .bool false, .bool false] 24 (0, 0)) := set_block b5
  have b7 : (((((((Wc.setCell ⟨R + 1 + 1, 0, none⟩ (.int .i64 8)).setCell ⟨R + 1 + 1, 3, none⟩ (.int .i64 (nn p 0))).setCell ⟨R + 1 + 1, 4, none⟩ (.int .i64 0)).setCell ⟨R + 1 + 1, 5, none⟩ (.int .i64 0)).setCell ⟨R + 1 + 1, 6, none⟩ (.int .i64 0)).setCell ⟨R + 1 + 1, 7, none⟩ (.int .i64 0)).setCell ⟨R + 1 + 1, 8, none⟩ (.int .i64 0)).heap[R + 1 + 1]? = some (.cells #[.int .i64 8, .string (mkB p.tok), .int .i64 p.seq, .int .i64 (nn p 0), .int .i64 0, .int .i64 0, .int .i64 0, .int .i64 0, .int .i64 0, .string (ByteArray.mk #[]), .string (ByteArray.mk #[]), .bool false, .bool false] 24 (0, 0)) := set_block b6
  have hpb : WD.heap[R + 1 + 1]? = some (.cells #[.int .i64 8, .string (mkB p.tok), .int .i64 p.seq, .int .i64 (nn p 0), .int .i64 0, .int .i64 0, .int .i64 0, .int .i64 0, .int .i64 0, .string (ByteArray.mk #[]), .string (ByteArray.mk #[]), .bool false, .bool false] 24 (0, 0)) := by
    rw [hWD, heap_drew]
    exact b7
  have hpz : WD.heap[R + 1]? = some (.cells #[.int .i64 0, .string (ByteArray.mk #[]), .int .i64 0, .int .i64 0, .int .i64 0, .int .i64 0, .int .i64 0, .int .i64 0, .int .i64 0, .string (ByteArray.mk #[]), .string (ByteArray.mk #[]), .bool false, .bool false] 24 (0, 0)) := by
    rw [hWD, heap_drew]
    exact ((Below.heap_setCell _ _ _ _ (by show R + 1 ≠ R + 1 + 1; omega)).trans ((Below.heap_setCell _ _ _ _ (by show R + 1 ≠ R + 1 + 1; omega)).trans ((Below.heap_setCell _ _ _ _ (by show R + 1 ≠ R + 1 + 1; omega)).trans ((Below.heap_setCell _ _ _ _ (by show R + 1 ≠ R + 1 + 1; omega)).trans ((Below.heap_setCell _ _ _ _ (by show R + 1 ≠ R + 1 + 1; omega)).trans ((Below.heap_setCell _ _ _ _ (by show R + 1 ≠ R + 1 + 1; omega)).trans ((Below.heap_setCell _ _ _ _ (by show R + 1 ≠ R + 1 + 1; omega)).trans HZ.out)))))))
  have hbd : Below R w WD := by rw [hWD]; exact (Below.drew (below_put (below_put (below_put (below_put (below_put (below_put (below_put HBL.out (by omega) _) (by omega) _) (by omega) _) (by omega) _) (by omega) _) (by omega) _) (by omega) _))
  clear hWD HC HZ HBL p0 p1 p2 p3 p4 p5 p6 p7 p8 p9 p10 p11 p12 fp g0 b0 b1 b2 b3 b4 b5 b6 b7
  obtain ⟨p0, p1, p2, p3, p4, p5, p6, p7, p8, p9, p10, p11, p12⟩ := cell13 hpb
  obtain ⟨z0, z1, z2, z3, z4, z5, z6, z7, z8, z9, z10, z11, z12⟩ := cell13 hpz
  have fz := fun i => free_at (i := i) hpz
  have HPZ := Lib.hid hpz
  have HBD := Lib.hid hbd
  clear hpb hpz hbd
  go_wp2_with fail
  obtain ⟨WN, hWN⟩ : ∃ WN, WN = (((((((((((((WD.setCell ⟨R + 1, 0, none⟩ (.int .i64 8)).setCell ⟨R + 1, 1, none⟩ (.string (mkB p.tok))).setCell ⟨R + 1, 2, none⟩ (.int .i64 p.seq)).setCell ⟨R + 1, 3, none⟩ (.int .i64 (nn p 0))).setCell ⟨R + 1, 4, none⟩ (.int .i64 0)).setCell ⟨R + 1, 5, none⟩ (.int .i64 0)).setCell ⟨R + 1, 6, none⟩ (.int .i64 0)).setCell ⟨R + 1, 7, none⟩ (.int .i64 0)).setCell ⟨R + 1, 8, none⟩ (.int .i64 0)).setCell ⟨R + 1, 9, none⟩ (.string (ByteArray.mk #[]))).setCell ⟨R + 1, 10, none⟩ (.string (ByteArray.mk #[]))).setCell ⟨R + 1, 11, none⟩ (.bool false)).setCell ⟨R + 1, 12, none⟩ (.bool false)) := ⟨_, rfl⟩
  rw [← hWN]
  have hfin : WN.heap[R + 1]? = some (.cells #[.int .i64 8, .string (mkB p.tok), .int .i64 p.seq, .int .i64 (nn p 0), .int .i64 0, .int .i64 0, .int .i64 0, .int .i64 0, .int .i64 0, .string (ByteArray.mk #[]), .string (ByteArray.mk #[]), .bool false, .bool false] 24 (0, 0)) ∧ Below R w WN := by
    rw [hWN]
    exact fin13c HPZ.out rfl HBD.out (by omega) (.int .i64 8) (.string (mkB p.tok)) (.int .i64 p.seq) (.int .i64 (nn p 0)) (.int .i64 0) (.int .i64 0) (.int .i64 0) (.int .i64 0) (.int .i64 0) (.string (ByteArray.mk #[])) (.string (ByteArray.mk #[])) (.bool false) (.bool false)
  obtain ⟨y0, y1, y2, y3, y4, y5, y6, y7, y8, y9, y10, y11, y12⟩ := cell13 hfin.1
  have hbw := hfin.2
  rw [HR.out] at hbw
  exact bodyPost_ret (v := .agg #[.int .i64 8, .string (mkB p.tok), .int .i64 p.seq, .int .i64 (nn p 0), .int .i64 0, .int .i64 0, .int .i64 0, .int .i64 0, .int .i64 0, .string (ByteArray.mk #[]), .string (ByteArray.mk #[]), .bool false, .bool false]) (by simp [results, Try.results15, go_sem, y0, y1, y2, y3, y4, y5, y6, y7, y8, y9, y10, y11, y12, Try.isAgg24, Try.sizeOf24]) rfl ⟨rfl, hbw⟩
end Go.Proofs.Ythegkookfpnbeaa.Wds
