/- Words: the law's Of: a call of plain values. -/
import Derived.Test.YthegkookfpnbeaaGn
set_option linter.unusedVariables false
set_option linter.unusedSimpArgs false
set_option maxRecDepth 100000
namespace Go.Proofs.Ythegkookfpnbeaa.Wds
open Go.RowKit Go.Lib Go.Proofs.Ythegkookfpnbeaa.Bx Go.Proofs.Ythegkookfpnbeaa.Frm

/-- What is asked, as a value. -/
def askV (p : Pl) : Value :=
  if p.op = 1 then .iface 64 (.agg #[.string (mkB p.text), .string (mkB p.more)])
  else if p.op = 2 then .iface 28 (.agg #[])
  else if p.op = 3 then .iface 66 (.agg #[.int .i64 (nn p 0)])
  else if p.op = 4 then .iface 68 (.agg #[.int .i64 (nn p 0), .int .i64 (nn p 1), .int .i64 (nn p 2), .string (mkB p.text)])
  else if p.op = 5 then .iface 70 (.agg #[.int .i64 (nn p 0), .int .i64 (nn p 1), .int .i64 (nn p 2), .int .i64 (nn p 3)])
  else if p.op = 6 then .iface 72 (.agg #[.int .i64 (nn p 0), .int .i64 (nn p 1), .int .i64 (nn p 2), .int .i64 (nn p 3), .int .i64 (nn p 4)])
  else if p.op = 7 then .iface 74 (.agg #[.int .i64 (nn p 0), .int .i64 (nn p 1), .int .i64 (nn p 2), .int .i64 (nn p 3), .int .i64 (nn p 4), .int .i64 (nn p 5)])
  else if p.op = 8 then .iface 76 (.agg #[.int .i64 (nn p 0)])
  else if p.op = 9 then .iface 77 (.agg #[.int .i64 (nn p 0)])
  else if p.op = 10 then .iface 78 (.agg #[.int .i64 (nn p 0)])
  else if p.op = 11 then .iface 80 (.agg #[.int .i64 (nn p 0), .int .i64 (nn p 1), .int .i64 (nn p 2)])
  else if p.op = 12 then .iface 82 (.agg #[.int .i64 (nn p 0), .int .i64 (nn p 1)])
  else if p.op = 13 then .iface 84 (.agg #[.int .i64 (nn p 0), .int .i64 (nn p 1), .int .i64 (nn p 2)])
  else if p.op = 14 then .iface 86 (.agg #[.int .i64 (nn p 0), .int .i64 (nn p 1), .bool p.a, .bool p.b])
  else if p.op = 15 then .iface 88 (.agg #[.int .i64 (nn p 0), .int .i64 (nn p 1)])
  else .nilIface
def asks : List TypeId := [64, 28, 66, 68, 70, 72, 74, 76, 77, 78, 80, 82, 84, 86, 88]
def AskIs (p : Pl) (v : Value) : Prop := (1 ≤ p.op ∧ p.op ≤ 15 → v = askV p) ∧ (¬ (1 ≤ p.op ∧ p.op ≤ 15) → v = .nilIface ∨ ∃ t x, v = .iface t x ∧ t ∉ asks)
theorem fin3 {w W : World} {R : Nat} {a0 a1 a2 : Value} (hr : W.heap[R + 1]? = some (.cells #[a0, a1, a2] 30 (0, 0))) (hb : Below R w W) (u0 u1 u2 : Value) : (((W.setCell ⟨R + 1, 0, none⟩ u0).setCell ⟨R + 1, 1, none⟩ u1).setCell ⟨R + 1, 2, none⟩ u2).heap[R + 1]? = some (.cells #[u0, u1, u2] 30 (0, 0)) ∧ Below R w (((W.setCell ⟨R + 1, 0, none⟩ u0).setCell ⟨R + 1, 1, none⟩ u1).setCell ⟨R + 1, 2, none⟩ u2) :=
  ⟨set_block (set_block (set_block hr)), below_put (below_put (below_put hb (Nat.le_succ _) _) (Nat.le_succ _) _) (Nat.le_succ _) _⟩
set_option maxHeartbeats 16000000 in
theorem of_any (p : Pl) (w : World) : Calls Try.prog 9 #[plV p] w fun e w' => ∃ v, e = .returned (.agg #[.string (mkB p.tok), .int .i64 p.seq, v]) ∧ AskIs p v ∧ Below w.heap.size w w' := by
  obtain ⟨R, hR⟩ : ∃ R, R = w.heap.size := ⟨_, rfl⟩
  obtain ⟨B0, P0, L0⟩ := box1 w #[.int .i64 p.op, .string (mkB p.tok), .int .i64 p.seq, .int .i64 (nn p 0), .int .i64 (nn p 1), .int .i64 (nn p 2), .int .i64 (nn p 3), .int .i64 (nn p 4), .int .i64 (nn p 5), .string (mkB p.text), .string (mkB p.more), .bool p.a, .bool p.b] 24
  obtain ⟨Wx, hWx⟩ : ∃ Wx, Wx = w.alloc (.cells #[.int .i64 p.op, .string (mkB p.tok), .int .i64 p.seq, .int .i64 (nn p 0), .int .i64 (nn p 1), .int .i64 (nn p 2), .int .i64 (nn p 3), .int .i64 (nn p 4), .int .i64 (nn p 5), .string (mkB p.text), .string (mkB p.more), .bool p.a, .bool p.b] 24) := ⟨_, rfl⟩
  rw [← hWx] at B0 P0 L0
  obtain ⟨B1, P1, L1⟩ := box1 Wx #[.string (ByteArray.mk #[]), .int .i64 0, .nilIface] 30
  obtain ⟨Wa, hWa⟩ : ∃ Wa, Wa = Wx.alloc (.cells #[.string (ByteArray.mk #[]), .int .i64 0, .nilIface] 30) := ⟨_, rfl⟩
  rw [← hWa] at B1 P1 L1
  obtain ⟨B2, P2, L2⟩ := box1 Wa #[.string (mkB p.tok), .int .i64 p.seq, .nilIface] 30
  obtain ⟨Wb, hWb⟩ : ∃ Wb, Wb = Wa.alloc (.cells #[.string (mkB p.tok), .int .i64 p.seq, .nilIface] 30) := ⟨_, rfl⟩
  rw [← hWb] at B2 P2 L2
  obtain ⟨B3, P3, L3⟩ := box1 Wb #[.int .i64 (nn p 0), .int .i64 (nn p 1), .int .i64 (nn p 2), .int .i64 (nn p 3), .int .i64 (nn p 4), .int .i64 (nn p 5)] 22
  obtain ⟨Wc, hWc⟩ : ∃ Wc, Wc = Wb.alloc (.cells #[.int .i64 (nn p 0), .int .i64 (nn p 1), .int .i64 (nn p 2), .int .i64 (nn p 3), .int .i64 (nn p 4), .int .i64 (nn p 5)] 22) := ⟨_, rfl⟩
  rw [← hWc] at B3 P3 L3
  rw [L0, ← hR] at L1 P1
  rw [L1] at P2 L2
  rw [L2] at P3 L3
  rw [← hR] at P0 L0
  have q1 : BlkP Wa R p := (B1.block R (by omega)).trans P0
  have q2 : BlkP Wb R p := (B2.block R (by omega)).trans q1
  have q3 : BlkP Wc R p := (B3.block R (by omega)).trans q2
  have r3 : Wc.heap[R + 1]? = some (.cells #[.string (ByteArray.mk #[]), .int .i64 0, .nilIface] 30 (0, 0)) := (B3.block (R + 1) (by omega)).trans ((B2.block (R + 1) (by omega)).trans P1)
  have c3 : Wc.heap[R + 1 + 1]? = some (.cells #[.string (mkB p.tok), .int .i64 p.seq, .nilIface] 30 (0, 0)) := (B3.block (R + 1 + 1) (by omega)).trans P2
  have hbl := below_on (below_on (below_on B0 B1) B2) B3
  rw [hWx] at hWa
  have HSA : Hid (Wa.heap.size = R + 1 + 1) := L1
  have HSB : Hid (Wb.heap.size = R + 1 + 1 + 1) := L2
  have HWA := Lib.hid hWa
  have HWB := Lib.hid hWb
  have HWC := Lib.hid hWc
  have HR := Lib.hid hR
  have HBL : Hid (Below R w Wc) := by rw [hR]; exact hbl
  have H2 := Lib.hid q2.all
  have H3 := Lib.hid (And.intro q3.all (And.intro r3 (And.intro c3 P3)))
  obtain ⟨p0, p1, p2, p3, p4, p5, p6, p7, p8, p9, p10, p11, p12⟩ := q1.all
  have HV : Hid (∀ k : Nat, p.op = (k : Int) → 1 ≤ k → k ≤ 15 → AskIs p (askV p)) := fun k hk h1 h2 => ⟨fun _ => rfl, fun h => absurd (by omega) h⟩
  have HN : Hid (¬ (1 ≤ p.op ∧ p.op ≤ 15) → ∀ v, (v = .nilIface ∨ ∃ t x, v = .iface t x ∧ t ∉ asks) → AskIs p v) := fun h v hv => ⟨fun h1 => absurd h1 h, fun _ => hv⟩
  unfold plV
  clear hWx hWa hWb hWc hR B0 P0 L0 B1 P1 L1 B2 P2 L2 B3 P3 L3 q1 q2 q3 r3 c3 hbl
  go_enter Try.func9, Try.ntmps9
  go_upto_region 1 with fail
  rw [← HWA.out, ← HR.out]
  go_upto_region 2 with fail
  rw [← HWB.out, HSA.out]
  clear p0 p1 p2 p3 p4 p5 p6 p7 p8 p9 p10 p11 p12
  obtain ⟨p0, p1, p2, p3, p4, p5, p6, p7, p8, p9, p10, p11, p12⟩ := H2.out
  go_upto_region 3 with fail
  rw [← HWC.out, HSB.out]
  clear p0 p1 p2 p3 p4 p5 p6 p7 p8 p9 p10 p11 p12
  obtain ⟨⟨p0, p1, p2, p3, p4, p5, p6, p7, p8, p9, p10, p11, p12⟩, hr3, hc3, hn3⟩ := H3.out
  obtain ⟨y0, y1, y2⟩ := three_cells hr3
  obtain ⟨x0, x1, x2⟩ := three_cells hc3
  have fr := fun i => free_at (i := i) hr3
  have fc := fun i => free_at (i := i) hc3
  have m0 : Wc.cell? ⟨R + 1 + 1 + 1, 0, none⟩ = some (.int .i64 (nn p 0)) := by rw [cell_of_row _ _ _ _ _ _ hn3]; rfl
  have m1 : Wc.cell? ⟨R + 1 + 1 + 1, 1, none⟩ = some (.int .i64 (nn p 1)) := by rw [cell_of_row _ _ _ _ _ _ hn3]; rfl
  have m2 : Wc.cell? ⟨R + 1 + 1 + 1, 2, none⟩ = some (.int .i64 (nn p 2)) := by rw [cell_of_row _ _ _ _ _ _ hn3]; rfl
  have m3 : Wc.cell? ⟨R + 1 + 1 + 1, 3, none⟩ = some (.int .i64 (nn p 3)) := by rw [cell_of_row _ _ _ _ _ _ hn3]; rfl
  have m4 : Wc.cell? ⟨R + 1 + 1 + 1, 4, none⟩ = some (.int .i64 (nn p 4)) := by rw [cell_of_row _ _ _ _ _ _ hn3]; rfl
  have m5 : Wc.cell? ⟨R + 1 + 1 + 1, 5, none⟩ = some (.int .i64 (nn p 5)) := by rw [cell_of_row _ _ _ _ _ _ hn3]; rfl
  have HF := Lib.hid hr3
  have HFC := Lib.hid hc3
  clear hr3 hc3 hn3 H2 H3 HWA HWB HWC HSA HSB
  obtain ⟨o, ho⟩ : ∃ o, o = p.op := ⟨_, rfl⟩
  rw [← ho] at p0
  have HO := Lib.hid ho
  by_cases e1 : o = 1
  · have HO2 : p.op = ((1 : Nat) : Int) := by rw [← HO.out]; exact e1
    have hmi : ∀ (x : Value) (w : World), (Instr.makeInterface 64 x).run Try.prog w = .ok (.iface 64 x) w := fun x w => run_makeInterface _ _ _ (by kernel_rfl)
    subst e1
    have HO3 := Lib.hid HO2
    clear HO2 HO ho
    go_wp2_with fail
    have HO2 := HO3.out
    have hfin := fin3 (w := w) (R := R) (W := (Wc.setCell ⟨R + 1 + 1, 2, none⟩ (.iface 64 (.agg #[.string (mkB p.text), .string (mkB p.more)])))) (((Below.heap_setCell _ _ _ _ (by show R + 1 ≠ R + 1 + 1; omega))).trans HF.out) (below_put HBL.out (by omega) _) (.string (mkB p.tok)) (.int .i64 p.seq) (.iface 64 (.agg #[.string (mkB p.text), .string (mkB p.more)]))
    obtain ⟨WN, hWN⟩ : ∃ WN, WN = ((((Wc.setCell ⟨R + 1 + 1, 2, none⟩ (.iface 64 (.agg #[.string (mkB p.text), .string (mkB p.more)]))).setCell ⟨R + 1, 0, none⟩ (.string (mkB p.tok))).setCell ⟨R + 1, 1, none⟩ (.int .i64 p.seq)).setCell ⟨R + 1, 2, none⟩ (.iface 64 (.agg #[.string (mkB p.text), .string (mkB p.more)]))) := ⟨_, rfl⟩
    rw [← hWN] at hfin ⊢
    obtain ⟨k0, k1, k2⟩ := three_cells hfin.1
    have hbw := hfin.2
    rw [HR.out] at hbw
    exact bodyPost_ret (v := .agg #[.string (mkB p.tok), .int .i64 p.seq, .iface 64 (.agg #[.string (mkB p.text), .string (mkB p.more)])]) (by simp [results, Try.results9, go_sem, k0, k1, k2, Try.isAgg30, Try.sizeOf30]) rfl ⟨_, rfl, (show AskIs p _ from (by have h := HV.out 1 HO2 (by decide) (by decide); have e : askV p = .iface 64 (.agg #[.string (mkB p.text), .string (mkB p.more)]) := (by unfold askV; rw [HO2]; rfl); rw [e] at h; exact h)), hbw⟩
  · skip
    by_cases e2 : o = 2
    · have HO2 : p.op = ((2 : Nat) : Int) := by rw [← HO.out]; exact e2
      have hmi : ∀ (x : Value) (w : World), (Instr.makeInterface 28 x).run Try.prog w = .ok (.iface 28 x) w := fun x w => run_makeInterface _ _ _ (by kernel_rfl)
      subst e2
      have HO3 := Lib.hid HO2
      clear HO2 HO ho
      go_wp2_with fail
      have HO2 := HO3.out
      have hfin := fin3 (w := w) (R := R) (W := (Wc.setCell ⟨R + 1 + 1, 2, none⟩ (.iface 28 (.agg #[])))) (((Below.heap_setCell _ _ _ _ (by show R + 1 ≠ R + 1 + 1; omega))).trans HF.out) (below_put HBL.out (by omega) _) (.string (mkB p.tok)) (.int .i64 p.seq) (.iface 28 (.agg #[]))
      obtain ⟨WN, hWN⟩ : ∃ WN, WN = ((((Wc.setCell ⟨R + 1 + 1, 2, none⟩ (.iface 28 (.agg #[]))).setCell ⟨R + 1, 0, none⟩ (.string (mkB p.tok))).setCell ⟨R + 1, 1, none⟩ (.int .i64 p.seq)).setCell ⟨R + 1, 2, none⟩ (.iface 28 (.agg #[]))) := ⟨_, rfl⟩
      rw [← hWN] at hfin ⊢
      obtain ⟨k0, k1, k2⟩ := three_cells hfin.1
      have hbw := hfin.2
      rw [HR.out] at hbw
      exact bodyPost_ret (v := .agg #[.string (mkB p.tok), .int .i64 p.seq, .iface 28 (.agg #[])]) (by simp [results, Try.results9, go_sem, k0, k1, k2, Try.isAgg30, Try.sizeOf30]) rfl ⟨_, rfl, (show AskIs p _ from (by have h := HV.out 2 HO2 (by decide) (by decide); have e : askV p = .iface 28 (.agg #[]) := (by unfold askV; rw [HO2]; rfl); rw [e] at h; exact h)), hbw⟩
    · skip
      by_cases e3 : o = 3
      · have HO2 : p.op = ((3 : Nat) : Int) := by rw [← HO.out]; exact e3
        have hmi : ∀ (x : Value) (w : World), (Instr.makeInterface 66 x).run Try.prog w = .ok (.iface 66 x) w := fun x w => run_makeInterface _ _ _ (by kernel_rfl)
        subst e3
        have HO3 := Lib.hid HO2
        clear HO2 HO ho
        go_wp2_with fail
        have HO2 := HO3.out
        have hfin := fin3 (w := w) (R := R) (W := (Wc.setCell ⟨R + 1 + 1, 2, none⟩ (.iface 66 (.agg #[.int .i64 (nn p 0)])))) (((Below.heap_setCell _ _ _ _ (by show R + 1 ≠ R + 1 + 1; omega))).trans HF.out) (below_put HBL.out (by omega) _) (.string (mkB p.tok)) (.int .i64 p.seq) (.iface 66 (.agg #[.int .i64 (nn p 0)]))
        obtain ⟨WN, hWN⟩ : ∃ WN, WN = ((((Wc.setCell ⟨R + 1 + 1, 2, none⟩ (.iface 66 (.agg #[.int .i64 (nn p 0)]))).setCell ⟨R + 1, 0, none⟩ (.string (mkB p.tok))).setCell ⟨R + 1, 1, none⟩ (.int .i64 p.seq)).setCell ⟨R + 1, 2, none⟩ (.iface 66 (.agg #[.int .i64 (nn p 0)]))) := ⟨_, rfl⟩
        rw [← hWN] at hfin ⊢
        obtain ⟨k0, k1, k2⟩ := three_cells hfin.1
        have hbw := hfin.2
        rw [HR.out] at hbw
        exact bodyPost_ret (v := .agg #[.string (mkB p.tok), .int .i64 p.seq, .iface 66 (.agg #[.int .i64 (nn p 0)])]) (by simp [results, Try.results9, go_sem, k0, k1, k2, Try.isAgg30, Try.sizeOf30]) rfl ⟨_, rfl, (show AskIs p _ from (by have h := HV.out 3 HO2 (by decide) (by decide); have e : askV p = .iface 66 (.agg #[.int .i64 (nn p 0)]) := (by unfold askV; rw [HO2]; rfl); rw [e] at h; exact h)), hbw⟩
      · skip
        by_cases e4 : o = 4
        · have HO2 : p.op = ((4 : Nat) : Int) := by rw [← HO.out]; exact e4
          have hmi : ∀ (x : Value) (w : World), (Instr.makeInterface 68 x).run Try.prog w = .ok (.iface 68 x) w := fun x w => run_makeInterface _ _ _ (by kernel_rfl)
          subst e4
          have HO3 := Lib.hid HO2
          clear HO2 HO ho
          go_wp2_with fail
          have HO2 := HO3.out
          have hfin := fin3 (w := w) (R := R) (W := (Wc.setCell ⟨R + 1 + 1, 2, none⟩ (.iface 68 (.agg #[.int .i64 (nn p 0), .int .i64 (nn p 1), .int .i64 (nn p 2), .string (mkB p.text)])))) (((Below.heap_setCell _ _ _ _ (by show R + 1 ≠ R + 1 + 1; omega))).trans HF.out) (below_put HBL.out (by omega) _) (.string (mkB p.tok)) (.int .i64 p.seq) (.iface 68 (.agg #[.int .i64 (nn p 0), .int .i64 (nn p 1), .int .i64 (nn p 2), .string (mkB p.text)]))
          obtain ⟨WN, hWN⟩ : ∃ WN, WN = ((((Wc.setCell ⟨R + 1 + 1, 2, none⟩ (.iface 68 (.agg #[.int .i64 (nn p 0), .int .i64 (nn p 1), .int .i64 (nn p 2), .string (mkB p.text)]))).setCell ⟨R + 1, 0, none⟩ (.string (mkB p.tok))).setCell ⟨R + 1, 1, none⟩ (.int .i64 p.seq)).setCell ⟨R + 1, 2, none⟩ (.iface 68 (.agg #[.int .i64 (nn p 0), .int .i64 (nn p 1), .int .i64 (nn p 2), .string (mkB p.text)]))) := ⟨_, rfl⟩
          rw [← hWN] at hfin ⊢
          obtain ⟨k0, k1, k2⟩ := three_cells hfin.1
          have hbw := hfin.2
          rw [HR.out] at hbw
          exact bodyPost_ret (v := .agg #[.string (mkB p.tok), .int .i64 p.seq, .iface 68 (.agg #[.int .i64 (nn p 0), .int .i64 (nn p 1), .int .i64 (nn p 2), .string (mkB p.text)])]) (by simp [results, Try.results9, go_sem, k0, k1, k2, Try.isAgg30, Try.sizeOf30]) rfl ⟨_, rfl, (show AskIs p _ from (by have h := HV.out 4 HO2 (by decide) (by decide); have e : askV p = .iface 68 (.agg #[.int .i64 (nn p 0), .int .i64 (nn p 1), .int .i64 (nn p 2), .string (mkB p.text)]) := (by unfold askV; rw [HO2]; rfl); rw [e] at h; exact h)), hbw⟩
        · skip
          by_cases e5 : o = 5
          · have HO2 : p.op = ((5 : Nat) : Int) := by rw [← HO.out]; exact e5
            have hmi : ∀ (x : Value) (w : World), (Instr.makeInterface 70 x).run Try.prog w = .ok (.iface 70 x) w := fun x w => run_makeInterface _ _ _ (by kernel_rfl)
            subst e5
            have HO3 := Lib.hid HO2
            clear HO2 HO ho
            go_wp2_with fail
            have HO2 := HO3.out
            have hfin := fin3 (w := w) (R := R) (W := (Wc.setCell ⟨R + 1 + 1, 2, none⟩ (.iface 70 (.agg #[.int .i64 (nn p 0), .int .i64 (nn p 1), .int .i64 (nn p 2), .int .i64 (nn p 3)])))) (((Below.heap_setCell _ _ _ _ (by show R + 1 ≠ R + 1 + 1; omega))).trans HF.out) (below_put HBL.out (by omega) _) (.string (mkB p.tok)) (.int .i64 p.seq) (.iface 70 (.agg #[.int .i64 (nn p 0), .int .i64 (nn p 1), .int .i64 (nn p 2), .int .i64 (nn p 3)]))
            obtain ⟨WN, hWN⟩ : ∃ WN, WN = ((((Wc.setCell ⟨R + 1 + 1, 2, none⟩ (.iface 70 (.agg #[.int .i64 (nn p 0), .int .i64 (nn p 1), .int .i64 (nn p 2), .int .i64 (nn p 3)]))).setCell ⟨R + 1, 0, none⟩ (.string (mkB p.tok))).setCell ⟨R + 1, 1, none⟩ (.int .i64 p.seq)).setCell ⟨R + 1, 2, none⟩ (.iface 70 (.agg #[.int .i64 (nn p 0), .int .i64 (nn p 1), .int .i64 (nn p 2), .int .i64 (nn p 3)]))) := ⟨_, rfl⟩
            rw [← hWN] at hfin ⊢
            obtain ⟨k0, k1, k2⟩ := three_cells hfin.1
            have hbw := hfin.2
            rw [HR.out] at hbw
            exact bodyPost_ret (v := .agg #[.string (mkB p.tok), .int .i64 p.seq, .iface 70 (.agg #[.int .i64 (nn p 0), .int .i64 (nn p 1), .int .i64 (nn p 2), .int .i64 (nn p 3)])]) (by simp [results, Try.results9, go_sem, k0, k1, k2, Try.isAgg30, Try.sizeOf30]) rfl ⟨_, rfl, (show AskIs p _ from (by have h := HV.out 5 HO2 (by decide) (by decide); have e : askV p = .iface 70 (.agg #[.int .i64 (nn p 0), .int .i64 (nn p 1), .int .i64 (nn p 2), .int .i64 (nn p 3)]) := (by unfold askV; rw [HO2]; rfl); rw [e] at h; exact h)), hbw⟩
          · skip
            by_cases e6 : o = 6
            · have HO2 : p.op = ((6 : Nat) : Int) := by rw [← HO.out]; exact e6
              have hmi : ∀ (x : Value) (w : World), (Instr.makeInterface 72 x).run Try.prog w = .ok (.iface 72 x) w := fun x w => run_makeInterface _ _ _ (by kernel_rfl)
              subst e6
              have HO3 := Lib.hid HO2
              clear HO2 HO ho
              go_wp2_with fail
              have HO2 := HO3.out
              have hfin := fin3 (w := w) (R := R) (W := (Wc.setCell ⟨R + 1 + 1, 2, none⟩ (.iface 72 (.agg #[.int .i64 (nn p 0), .int .i64 (nn p 1), .int .i64 (nn p 2), .int .i64 (nn p 3), .int .i64 (nn p 4)])))) (((Below.heap_setCell _ _ _ _ (by show R + 1 ≠ R + 1 + 1; omega))).trans HF.out) (below_put HBL.out (by omega) _) (.string (mkB p.tok)) (.int .i64 p.seq) (.iface 72 (.agg #[.int .i64 (nn p 0), .int .i64 (nn p 1), .int .i64 (nn p 2), .int .i64 (nn p 3), .int .i64 (nn p 4)]))
              obtain ⟨WN, hWN⟩ : ∃ WN, WN = ((((Wc.setCell ⟨R + 1 + 1, 2, none⟩ (.iface 72 (.agg #[.int .i64 (nn p 0), .int .i64 (nn p 1), .int .i64 (nn p 2), .int .i64 (nn p 3), .int .i64 (nn p 4)]))).setCell ⟨R + 1, 0, none⟩ (.string (mkB p.tok))).setCell ⟨R + 1, 1, none⟩ (.int .i64 p.seq)).setCell ⟨R + 1, 2, none⟩ (.iface 72 (.agg #[.int .i64 (nn p 0), .int .i64 (nn p 1), .int .i64 (nn p 2), .int .i64 (nn p 3), .int .i64 (nn p 4)]))) := ⟨_, rfl⟩
              rw [← hWN] at hfin ⊢
              obtain ⟨k0, k1, k2⟩ := three_cells hfin.1
              have hbw := hfin.2
              rw [HR.out] at hbw
              exact bodyPost_ret (v := .agg #[.string (mkB p.tok), .int .i64 p.seq, .iface 72 (.agg #[.int .i64 (nn p 0), .int .i64 (nn p 1), .int .i64 (nn p 2), .int .i64 (nn p 3), .int .i64 (nn p 4)])]) (by simp [results, Try.results9, go_sem, k0, k1, k2, Try.isAgg30, Try.sizeOf30]) rfl ⟨_, rfl, (show AskIs p _ from (by have h := HV.out 6 HO2 (by decide) (by decide); have e : askV p = .iface 72 (.agg #[.int .i64 (nn p 0), .int .i64 (nn p 1), .int .i64 (nn p 2), .int .i64 (nn p 3), .int .i64 (nn p 4)]) := (by unfold askV; rw [HO2]; rfl); rw [e] at h; exact h)), hbw⟩
            · skip
              by_cases e7 : o = 7
              · have HO2 : p.op = ((7 : Nat) : Int) := by rw [← HO.out]; exact e7
                have hmi : ∀ (x : Value) (w : World), (Instr.makeInterface 74 x).run Try.prog w = .ok (.iface 74 x) w := fun x w => run_makeInterface _ _ _ (by kernel_rfl)
                subst e7
                have HO3 := Lib.hid HO2
                clear HO2 HO ho
                go_wp2_with fail
                have HO2 := HO3.out
                have hfin := fin3 (w := w) (R := R) (W := (Wc.setCell ⟨R + 1 + 1, 2, none⟩ (.iface 74 (.agg #[.int .i64 (nn p 0), .int .i64 (nn p 1), .int .i64 (nn p 2), .int .i64 (nn p 3), .int .i64 (nn p 4), .int .i64 (nn p 5)])))) (((Below.heap_setCell _ _ _ _ (by show R + 1 ≠ R + 1 + 1; omega))).trans HF.out) (below_put HBL.out (by omega) _) (.string (mkB p.tok)) (.int .i64 p.seq) (.iface 74 (.agg #[.int .i64 (nn p 0), .int .i64 (nn p 1), .int .i64 (nn p 2), .int .i64 (nn p 3), .int .i64 (nn p 4), .int .i64 (nn p 5)]))
                obtain ⟨WN, hWN⟩ : ∃ WN, WN = ((((Wc.setCell ⟨R + 1 + 1, 2, none⟩ (.iface 74 (.agg #[.int .i64 (nn p 0), .int .i64 (nn p 1), .int .i64 (nn p 2), .int .i64 (nn p 3), .int .i64 (nn p 4), .int .i64 (nn p 5)]))).setCell ⟨R + 1, 0, none⟩ (.string (mkB p.tok))).setCell ⟨R + 1, 1, none⟩ (.int .i64 p.seq)).setCell ⟨R + 1, 2, none⟩ (.iface 74 (.agg #[.int .i64 (nn p 0), .int .i64 (nn p 1), .int .i64 (nn p 2), .int .i64 (nn p 3), .int .i64 (nn p 4), .int .i64 (nn p 5)]))) := ⟨_, rfl⟩
                rw [← hWN] at hfin ⊢
                obtain ⟨k0, k1, k2⟩ := three_cells hfin.1
                have hbw := hfin.2
                rw [HR.out] at hbw
                exact bodyPost_ret (v := .agg #[.string (mkB p.tok), .int .i64 p.seq, .iface 74 (.agg #[.int .i64 (nn p 0), .int .i64 (nn p 1), .int .i64 (nn p 2), .int .i64 (nn p 3), .int .i64 (nn p 4), .int .i64 (nn p 5)])]) (by simp [results, Try.results9, go_sem, k0, k1, k2, Try.isAgg30, Try.sizeOf30]) rfl ⟨_, rfl, (show AskIs p _ from (by have h := HV.out 7 HO2 (by decide) (by decide); have e : askV p = .iface 74 (.agg #[.int .i64 (nn p 0), .int .i64 (nn p 1), .int .i64 (nn p 2), .int .i64 (nn p 3), .int .i64 (nn p 4), .int .i64 (nn p 5)]) := (by unfold askV; rw [HO2]; rfl); rw [e] at h; exact h)), hbw⟩
              · skip
                by_cases e8 : o = 8
                · have HO2 : p.op = ((8 : Nat) : Int) := by rw [← HO.out]; exact e8
                  have hmi : ∀ (x : Value) (w : World), (Instr.makeInterface 76 x).run Try.prog w = .ok (.iface 76 x) w := fun x w => run_makeInterface _ _ _ (by kernel_rfl)
                  subst e8
                  have HO3 := Lib.hid HO2
                  clear HO2 HO ho
                  go_wp2_with fail
                  have HO2 := HO3.out
                  have hfin := fin3 (w := w) (R := R) (W := (Wc.setCell ⟨R + 1 + 1, 2, none⟩ (.iface 76 (.agg #[.int .i64 (nn p 0)])))) (((Below.heap_setCell _ _ _ _ (by show R + 1 ≠ R + 1 + 1; omega))).trans HF.out) (below_put HBL.out (by omega) _) (.string (mkB p.tok)) (.int .i64 p.seq) (.iface 76 (.agg #[.int .i64 (nn p 0)]))
                  obtain ⟨WN, hWN⟩ : ∃ WN, WN = ((((Wc.setCell ⟨R + 1 + 1, 2, none⟩ (.iface 76 (.agg #[.int .i64 (nn p 0)]))).setCell ⟨R + 1, 0, none⟩ (.string (mkB p.tok))).setCell ⟨R + 1, 1, none⟩ (.int .i64 p.seq)).setCell ⟨R + 1, 2, none⟩ (.iface 76 (.agg #[.int .i64 (nn p 0)]))) := ⟨_, rfl⟩
                  rw [← hWN] at hfin ⊢
                  obtain ⟨k0, k1, k2⟩ := three_cells hfin.1
                  have hbw := hfin.2
                  rw [HR.out] at hbw
                  exact bodyPost_ret (v := .agg #[.string (mkB p.tok), .int .i64 p.seq, .iface 76 (.agg #[.int .i64 (nn p 0)])]) (by simp [results, Try.results9, go_sem, k0, k1, k2, Try.isAgg30, Try.sizeOf30]) rfl ⟨_, rfl, (show AskIs p _ from (by have h := HV.out 8 HO2 (by decide) (by decide); have e : askV p = .iface 76 (.agg #[.int .i64 (nn p 0)]) := (by unfold askV; rw [HO2]; rfl); rw [e] at h; exact h)), hbw⟩
                · skip
                  by_cases e9 : o = 9
                  · have HO2 : p.op = ((9 : Nat) : Int) := by rw [← HO.out]; exact e9
                    have hmi : ∀ (x : Value) (w : World), (Instr.makeInterface 77 x).run Try.prog w = .ok (.iface 77 x) w := fun x w => run_makeInterface _ _ _ (by kernel_rfl)
                    subst e9
                    have HO3 := Lib.hid HO2
                    clear HO2 HO ho
                    go_wp2_with fail
                    have HO2 := HO3.out
                    have hfin := fin3 (w := w) (R := R) (W := (Wc.setCell ⟨R + 1 + 1, 2, none⟩ (.iface 77 (.agg #[.int .i64 (nn p 0)])))) (((Below.heap_setCell _ _ _ _ (by show R + 1 ≠ R + 1 + 1; omega))).trans HF.out) (below_put HBL.out (by omega) _) (.string (mkB p.tok)) (.int .i64 p.seq) (.iface 77 (.agg #[.int .i64 (nn p 0)]))
                    obtain ⟨WN, hWN⟩ : ∃ WN, WN = ((((Wc.setCell ⟨R + 1 + 1, 2, none⟩ (.iface 77 (.agg #[.int .i64 (nn p 0)]))).setCell ⟨R + 1, 0, none⟩ (.string (mkB p.tok))).setCell ⟨R + 1, 1, none⟩ (.int .i64 p.seq)).setCell ⟨R + 1, 2, none⟩ (.iface 77 (.agg #[.int .i64 (nn p 0)]))) := ⟨_, rfl⟩
                    rw [← hWN] at hfin ⊢
                    obtain ⟨k0, k1, k2⟩ := three_cells hfin.1
                    have hbw := hfin.2
                    rw [HR.out] at hbw
                    exact bodyPost_ret (v := .agg #[.string (mkB p.tok), .int .i64 p.seq, .iface 77 (.agg #[.int .i64 (nn p 0)])]) (by simp [results, Try.results9, go_sem, k0, k1, k2, Try.isAgg30, Try.sizeOf30]) rfl ⟨_, rfl, (show AskIs p _ from (by have h := HV.out 9 HO2 (by decide) (by decide); have e : askV p = .iface 77 (.agg #[.int .i64 (nn p 0)]) := (by unfold askV; rw [HO2]; rfl); rw [e] at h; exact h)), hbw⟩
                  · skip
                    by_cases e10 : o = 10
                    · have HO2 : p.op = ((10 : Nat) : Int) := by rw [← HO.out]; exact e10
                      have hmi : ∀ (x : Value) (w : World), (Instr.makeInterface 78 x).run Try.prog w = .ok (.iface 78 x) w := fun x w => run_makeInterface _ _ _ (by kernel_rfl)
                      subst e10
                      have HO3 := Lib.hid HO2
                      clear HO2 HO ho
                      go_wp2_with fail
                      have HO2 := HO3.out
                      have hfin := fin3 (w := w) (R := R) (W := (Wc.setCell ⟨R + 1 + 1, 2, none⟩ (.iface 78 (.agg #[.int .i64 (nn p 0)])))) (((Below.heap_setCell _ _ _ _ (by show R + 1 ≠ R + 1 + 1; omega))).trans HF.out) (below_put HBL.out (by omega) _) (.string (mkB p.tok)) (.int .i64 p.seq) (.iface 78 (.agg #[.int .i64 (nn p 0)]))
                      obtain ⟨WN, hWN⟩ : ∃ WN, WN = ((((Wc.setCell ⟨R + 1 + 1, 2, none⟩ (.iface 78 (.agg #[.int .i64 (nn p 0)]))).setCell ⟨R + 1, 0, none⟩ (.string (mkB p.tok))).setCell ⟨R + 1, 1, none⟩ (.int .i64 p.seq)).setCell ⟨R + 1, 2, none⟩ (.iface 78 (.agg #[.int .i64 (nn p 0)]))) := ⟨_, rfl⟩
                      rw [← hWN] at hfin ⊢
                      obtain ⟨k0, k1, k2⟩ := three_cells hfin.1
                      have hbw := hfin.2
                      rw [HR.out] at hbw
                      exact bodyPost_ret (v := .agg #[.string (mkB p.tok), .int .i64 p.seq, .iface 78 (.agg #[.int .i64 (nn p 0)])]) (by simp [results, Try.results9, go_sem, k0, k1, k2, Try.isAgg30, Try.sizeOf30]) rfl ⟨_, rfl, (show AskIs p _ from (by have h := HV.out 10 HO2 (by decide) (by decide); have e : askV p = .iface 78 (.agg #[.int .i64 (nn p 0)]) := (by unfold askV; rw [HO2]; rfl); rw [e] at h; exact h)), hbw⟩
                    · skip
                      by_cases e11 : o = 11
                      · have HO2 : p.op = ((11 : Nat) : Int) := by rw [← HO.out]; exact e11
                        have hmi : ∀ (x : Value) (w : World), (Instr.makeInterface 80 x).run Try.prog w = .ok (.iface 80 x) w := fun x w => run_makeInterface _ _ _ (by kernel_rfl)
                        subst e11
                        have HO3 := Lib.hid HO2
                        clear HO2 HO ho
                        go_wp2_with fail
                        have HO2 := HO3.out
                        have hfin := fin3 (w := w) (R := R) (W := (Wc.setCell ⟨R + 1 + 1, 2, none⟩ (.iface 80 (.agg #[.int .i64 (nn p 0), .int .i64 (nn p 1), .int .i64 (nn p 2)])))) (((Below.heap_setCell _ _ _ _ (by show R + 1 ≠ R + 1 + 1; omega))).trans HF.out) (below_put HBL.out (by omega) _) (.string (mkB p.tok)) (.int .i64 p.seq) (.iface 80 (.agg #[.int .i64 (nn p 0), .int .i64 (nn p 1), .int .i64 (nn p 2)]))
                        obtain ⟨WN, hWN⟩ : ∃ WN, WN = ((((Wc.setCell ⟨R + 1 + 1, 2, none⟩ (.iface 80 (.agg #[.int .i64 (nn p 0), .int .i64 (nn p 1), .int .i64 (nn p 2)]))).setCell ⟨R + 1, 0, none⟩ (.string (mkB p.tok))).setCell ⟨R + 1, 1, none⟩ (.int .i64 p.seq)).setCell ⟨R + 1, 2, none⟩ (.iface 80 (.agg #[.int .i64 (nn p 0), .int .i64 (nn p 1), .int .i64 (nn p 2)]))) := ⟨_, rfl⟩
                        rw [← hWN] at hfin ⊢
                        obtain ⟨k0, k1, k2⟩ := three_cells hfin.1
                        have hbw := hfin.2
                        rw [HR.out] at hbw
                        exact bodyPost_ret (v := .agg #[.string (mkB p.tok), .int .i64 p.seq, .iface 80 (.agg #[.int .i64 (nn p 0), .int .i64 (nn p 1), .int .i64 (nn p 2)])]) (by simp [results, Try.results9, go_sem, k0, k1, k2, Try.isAgg30, Try.sizeOf30]) rfl ⟨_, rfl, (show AskIs p _ from (by have h := HV.out 11 HO2 (by decide) (by decide); have e : askV p = .iface 80 (.agg #[.int .i64 (nn p 0), .int .i64 (nn p 1), .int .i64 (nn p 2)]) := (by unfold askV; rw [HO2]; rfl); rw [e] at h; exact h)), hbw⟩
                      · skip
                        by_cases e12 : o = 12
                        · have HO2 : p.op = ((12 : Nat) : Int) := by rw [← HO.out]; exact e12
                          have hmi : ∀ (x : Value) (w : World), (Instr.makeInterface 82 x).run Try.prog w = .ok (.iface 82 x) w := fun x w => run_makeInterface _ _ _ (by kernel_rfl)
                          subst e12
                          have HO3 := Lib.hid HO2
                          clear HO2 HO ho
                          go_wp2_with fail
                          have HO2 := HO3.out
                          have hfin := fin3 (w := w) (R := R) (W := (Wc.setCell ⟨R + 1 + 1, 2, none⟩ (.iface 82 (.agg #[.int .i64 (nn p 0), .int .i64 (nn p 1)])))) (((Below.heap_setCell _ _ _ _ (by show R + 1 ≠ R + 1 + 1; omega))).trans HF.out) (below_put HBL.out (by omega) _) (.string (mkB p.tok)) (.int .i64 p.seq) (.iface 82 (.agg #[.int .i64 (nn p 0), .int .i64 (nn p 1)]))
                          obtain ⟨WN, hWN⟩ : ∃ WN, WN = ((((Wc.setCell ⟨R + 1 + 1, 2, none⟩ (.iface 82 (.agg #[.int .i64 (nn p 0), .int .i64 (nn p 1)]))).setCell ⟨R + 1, 0, none⟩ (.string (mkB p.tok))).setCell ⟨R + 1, 1, none⟩ (.int .i64 p.seq)).setCell ⟨R + 1, 2, none⟩ (.iface 82 (.agg #[.int .i64 (nn p 0), .int .i64 (nn p 1)]))) := ⟨_, rfl⟩
                          rw [← hWN] at hfin ⊢
                          obtain ⟨k0, k1, k2⟩ := three_cells hfin.1
                          have hbw := hfin.2
                          rw [HR.out] at hbw
                          exact bodyPost_ret (v := .agg #[.string (mkB p.tok), .int .i64 p.seq, .iface 82 (.agg #[.int .i64 (nn p 0), .int .i64 (nn p 1)])]) (by simp [results, Try.results9, go_sem, k0, k1, k2, Try.isAgg30, Try.sizeOf30]) rfl ⟨_, rfl, (show AskIs p _ from (by have h := HV.out 12 HO2 (by decide) (by decide); have e : askV p = .iface 82 (.agg #[.int .i64 (nn p 0), .int .i64 (nn p 1)]) := (by unfold askV; rw [HO2]; rfl); rw [e] at h; exact h)), hbw⟩
                        · skip
                          by_cases e13 : o = 13
                          · have HO2 : p.op = ((13 : Nat) : Int) := by rw [← HO.out]; exact e13
                            have hmi : ∀ (x : Value) (w : World), (Instr.makeInterface 84 x).run Try.prog w = .ok (.iface 84 x) w := fun x w => run_makeInterface _ _ _ (by kernel_rfl)
                            subst e13
                            have HO3 := Lib.hid HO2
                            clear HO2 HO ho
                            go_wp2_with fail
                            have HO2 := HO3.out
                            have hfin := fin3 (w := w) (R := R) (W := (Wc.setCell ⟨R + 1 + 1, 2, none⟩ (.iface 84 (.agg #[.int .i64 (nn p 0), .int .i64 (nn p 1), .int .i64 (nn p 2)])))) (((Below.heap_setCell _ _ _ _ (by show R + 1 ≠ R + 1 + 1; omega))).trans HF.out) (below_put HBL.out (by omega) _) (.string (mkB p.tok)) (.int .i64 p.seq) (.iface 84 (.agg #[.int .i64 (nn p 0), .int .i64 (nn p 1), .int .i64 (nn p 2)]))
                            obtain ⟨WN, hWN⟩ : ∃ WN, WN = ((((Wc.setCell ⟨R + 1 + 1, 2, none⟩ (.iface 84 (.agg #[.int .i64 (nn p 0), .int .i64 (nn p 1), .int .i64 (nn p 2)]))).setCell ⟨R + 1, 0, none⟩ (.string (mkB p.tok))).setCell ⟨R + 1, 1, none⟩ (.int .i64 p.seq)).setCell ⟨R + 1, 2, none⟩ (.iface 84 (.agg #[.int .i64 (nn p 0), .int .i64 (nn p 1), .int .i64 (nn p 2)]))) := ⟨_, rfl⟩
                            rw [← hWN] at hfin ⊢
                            obtain ⟨k0, k1, k2⟩ := three_cells hfin.1
                            have hbw := hfin.2
                            rw [HR.out] at hbw
                            exact bodyPost_ret (v := .agg #[.string (mkB p.tok), .int .i64 p.seq, .iface 84 (.agg #[.int .i64 (nn p 0), .int .i64 (nn p 1), .int .i64 (nn p 2)])]) (by simp [results, Try.results9, go_sem, k0, k1, k2, Try.isAgg30, Try.sizeOf30]) rfl ⟨_, rfl, (show AskIs p _ from (by have h := HV.out 13 HO2 (by decide) (by decide); have e : askV p = .iface 84 (.agg #[.int .i64 (nn p 0), .int .i64 (nn p 1), .int .i64 (nn p 2)]) := (by unfold askV; rw [HO2]; rfl); rw [e] at h; exact h)), hbw⟩
                          · skip
                            by_cases e14 : o = 14
                            · have HO2 : p.op = ((14 : Nat) : Int) := by rw [← HO.out]; exact e14
                              have hmi : ∀ (x : Value) (w : World), (Instr.makeInterface 86 x).run Try.prog w = .ok (.iface 86 x) w := fun x w => run_makeInterface _ _ _ (by kernel_rfl)
                              subst e14
                              have HO3 := Lib.hid HO2
                              clear HO2 HO ho
                              go_wp2_with fail
                              have HO2 := HO3.out
                              have hfin := fin3 (w := w) (R := R) (W := (Wc.setCell ⟨R + 1 + 1, 2, none⟩ (.iface 86 (.agg #[.int .i64 (nn p 0), .int .i64 (nn p 1), .bool p.a, .bool p.b])))) (((Below.heap_setCell _ _ _ _ (by show R + 1 ≠ R + 1 + 1; omega))).trans HF.out) (below_put HBL.out (by omega) _) (.string (mkB p.tok)) (.int .i64 p.seq) (.iface 86 (.agg #[.int .i64 (nn p 0), .int .i64 (nn p 1), .bool p.a, .bool p.b]))
                              obtain ⟨WN, hWN⟩ : ∃ WN, WN = ((((Wc.setCell ⟨R + 1 + 1, 2, none⟩ (.iface 86 (.agg #[.int .i64 (nn p 0), .int .i64 (nn p 1), .bool p.a, .bool p.b]))).setCell ⟨R + 1, 0, none⟩ (.string (mkB p.tok))).setCell ⟨R + 1, 1, none⟩ (.int .i64 p.seq)).setCell ⟨R + 1, 2, none⟩ (.iface 86 (.agg #[.int .i64 (nn p 0), .int .i64 (nn p 1), .bool p.a, .bool p.b]))) := ⟨_, rfl⟩
                              rw [← hWN] at hfin ⊢
                              obtain ⟨k0, k1, k2⟩ := three_cells hfin.1
                              have hbw := hfin.2
                              rw [HR.out] at hbw
                              exact bodyPost_ret (v := .agg #[.string (mkB p.tok), .int .i64 p.seq, .iface 86 (.agg #[.int .i64 (nn p 0), .int .i64 (nn p 1), .bool p.a, .bool p.b])]) (by simp [results, Try.results9, go_sem, k0, k1, k2, Try.isAgg30, Try.sizeOf30]) rfl ⟨_, rfl, (show AskIs p _ from (by have h := HV.out 14 HO2 (by decide) (by decide); have e : askV p = .iface 86 (.agg #[.int .i64 (nn p 0), .int .i64 (nn p 1), .bool p.a, .bool p.b]) := (by unfold askV; rw [HO2]; rfl); rw [e] at h; exact h)), hbw⟩
                            · skip
                              by_cases e15 : o = 15
                              · have HO2 : p.op = ((15 : Nat) : Int) := by rw [← HO.out]; exact e15
                                have hmi : ∀ (x : Value) (w : World), (Instr.makeInterface 88 x).run Try.prog w = .ok (.iface 88 x) w := fun x w => run_makeInterface _ _ _ (by kernel_rfl)
                                subst e15
                                have HO3 := Lib.hid HO2
                                clear HO2 HO ho
                                go_wp2_with fail
                                have HO2 := HO3.out
                                have hfin := fin3 (w := w) (R := R) (W := (Wc.setCell ⟨R + 1 + 1, 2, none⟩ (.iface 88 (.agg #[.int .i64 (nn p 0), .int .i64 (nn p 1)])))) (((Below.heap_setCell _ _ _ _ (by show R + 1 ≠ R + 1 + 1; omega))).trans HF.out) (below_put HBL.out (by omega) _) (.string (mkB p.tok)) (.int .i64 p.seq) (.iface 88 (.agg #[.int .i64 (nn p 0), .int .i64 (nn p 1)]))
                                obtain ⟨WN, hWN⟩ : ∃ WN, WN = ((((Wc.setCell ⟨R + 1 + 1, 2, none⟩ (.iface 88 (.agg #[.int .i64 (nn p 0), .int .i64 (nn p 1)]))).setCell ⟨R + 1, 0, none⟩ (.string (mkB p.tok))).setCell ⟨R + 1, 1, none⟩ (.int .i64 p.seq)).setCell ⟨R + 1, 2, none⟩ (.iface 88 (.agg #[.int .i64 (nn p 0), .int .i64 (nn p 1)]))) := ⟨_, rfl⟩
                                rw [← hWN] at hfin ⊢
                                obtain ⟨k0, k1, k2⟩ := three_cells hfin.1
                                have hbw := hfin.2
                                rw [HR.out] at hbw
                                exact bodyPost_ret (v := .agg #[.string (mkB p.tok), .int .i64 p.seq, .iface 88 (.agg #[.int .i64 (nn p 0), .int .i64 (nn p 1)])]) (by simp [results, Try.results9, go_sem, k0, k1, k2, Try.isAgg30, Try.sizeOf30]) rfl ⟨_, rfl, (show AskIs p _ from (by have h := HV.out 15 HO2 (by decide) (by decide); have e : askV p = .iface 88 (.agg #[.int .i64 (nn p 0), .int .i64 (nn p 1)]) := (by unfold askV; rw [HO2]; rfl); rw [e] at h; exact h)), hbw⟩
                              · skip
                                by_cases e17 : o = 17
                                · have HO3 : Hid (p.op = 17) := by show _ = _; rw [← HO.out]; exact e17
                                  have hmi : ∀ (x : Value) (w : World), (Instr.makeInterface 9 x).run Try.prog w = .ok (.iface 9 x) w := fun x w => run_makeInterface _ _ _ (by kernel_rfl)
                                  subst e17
                                  clear HO ho
                                  go_wp2_with fail
                                  have hfin := fin3 (w := w) (R := R) (W := (Wc.setCell ⟨R + 1 + 1, 2, none⟩ (.iface 9 (.string (mkB p.text))))) (((Below.heap_setCell _ _ _ _ (by show R + 1 ≠ R + 1 + 1; omega))).trans HF.out) (below_put HBL.out (by omega) _) (.string (mkB p.tok)) (.int .i64 p.seq) (.iface 9 (.string (mkB p.text)))
                                  obtain ⟨WN, hWN⟩ : ∃ WN, WN = ((((Wc.setCell ⟨R + 1 + 1, 2, none⟩ (.iface 9 (.string (mkB p.text)))).setCell ⟨R + 1, 0, none⟩ (.string (mkB p.tok))).setCell ⟨R + 1, 1, none⟩ (.int .i64 p.seq)).setCell ⟨R + 1, 2, none⟩ (.iface 9 (.string (mkB p.text)))) := ⟨_, rfl⟩
                                  rw [← hWN] at hfin ⊢
                                  obtain ⟨k0, k1, k2⟩ := three_cells hfin.1
                                  have hbw := hfin.2
                                  rw [HR.out] at hbw
                                  exact bodyPost_ret (v := .agg #[.string (mkB p.tok), .int .i64 p.seq, .iface 9 (.string (mkB p.text))]) (by simp [results, Try.results9, go_sem, k0, k1, k2, Try.isAgg30, Try.sizeOf30]) rfl ⟨_, rfl, HN.out (by rw [HO3.out]; omega) _ (.inr ⟨_, _, rfl, by decide⟩), hbw⟩
                                · skip
                                  by_cases e16 : o = 16
                                  · have HO3 : Hid (p.op = 16) := by show _ = _; rw [← HO.out]; exact e16
                                    have hmi : ∀ (x : Value) (w : World), (Instr.makeInterface 89 x).run Try.prog w = .ok (.iface 89 x) w := fun x w => run_makeInterface _ _ _ (by kernel_rfl)
                                    subst e16
                                    clear HO ho
                                    have hA : Below Wc.heap.size Wc (Wc.alloc (.cells #[] 28)) := below_al (Below.refl _ _) _
                                    have HFA : Hid ((Wc.alloc (.cells #[] 28)).heap[R + 1]? = some (.cells #[.string (ByteArray.mk #[]), .int .i64 0, .nilIface] 30 (0, 0))) := (hA.block (R + 1) (Array.getElem?_eq_some_iff.1 HF.out).1).trans HF.out
                                    have HFCA : Hid ((Wc.alloc (.cells #[] 28)).heap[R + 1 + 1]? = some (.cells #[.string (mkB p.tok), .int .i64 p.seq, .nilIface] 30 (0, 0))) := (hA.block (R + 1 + 1) (Array.getElem?_eq_some_iff.1 HFC.out).1).trans HFC.out
                                    have HBA : Hid (Below R w (Wc.alloc (.cells #[] 28))) := HBL.out.alloc (Nat.le_trans (by omega) (Nat.le_of_lt (Array.getElem?_eq_some_iff.1 HF.out).1)) _
                                    clear hA y0 y1 y2 x0 x1 x2 fr fc m0 m1 m2 m3 m4 m5
                                    obtain ⟨y0, y1, y2⟩ := three_cells HFA.out
                                    obtain ⟨x0, x1, x2⟩ := three_cells HFCA.out
                                    have fr := fun i => free_at (i := i) HFA.out
                                    have fc := fun i => free_at (i := i) HFCA.out
                                    clear HF HFC HBL
                                    go_wp2_with fail
                                    have hfin := fin3 (w := w) (R := R) (W := ((Wc.alloc (.cells #[] 28)).setCell ⟨R + 1 + 1, 2, none⟩ (.iface 89 (.pointer (some ⟨Wc.heap.size, 0, none⟩))))) (((Below.heap_setCell _ _ _ _ (by show R + 1 ≠ R + 1 + 1; omega))).trans HFA.out) (below_put HBA.out (by omega) _) (.string (mkB p.tok)) (.int .i64 p.seq) (.iface 89 (.pointer (some ⟨Wc.heap.size, 0, none⟩)))
                                    obtain ⟨WN, hWN⟩ : ∃ WN, WN = (((((Wc.alloc (.cells #[] 28)).setCell ⟨R + 1 + 1, 2, none⟩ (.iface 89 (.pointer (some ⟨Wc.heap.size, 0, none⟩)))).setCell ⟨R + 1, 0, none⟩ (.string (mkB p.tok))).setCell ⟨R + 1, 1, none⟩ (.int .i64 p.seq)).setCell ⟨R + 1, 2, none⟩ (.iface 89 (.pointer (some ⟨Wc.heap.size, 0, none⟩)))) := ⟨_, rfl⟩
                                    rw [← hWN] at hfin ⊢
                                    obtain ⟨k0, k1, k2⟩ := three_cells hfin.1
                                    have hbw := hfin.2
                                    rw [HR.out] at hbw
                                    exact bodyPost_ret (v := .agg #[.string (mkB p.tok), .int .i64 p.seq, .iface 89 (.pointer (some ⟨Wc.heap.size, 0, none⟩))]) (by simp [results, Try.results9, go_sem, k0, k1, k2, Try.isAgg30, Try.sizeOf30]) rfl ⟨_, rfl, HN.out (by rw [HO3.out]; omega) _ (.inr ⟨_, _, rfl, by decide⟩), hbw⟩
                                  · skip
                                    have HO3 : Hid (¬ (1 ≤ p.op ∧ p.op ≤ 15)) := by show ¬ _; rw [← HO.out]; omega
                                    clear HO ho
                                    have n1 : (o == 1) = false := beq_eq_false_iff_ne.2 e1
                                    have n2 : (o == 2) = false := beq_eq_false_iff_ne.2 e2
                                    have n3 : (o == 3) = false := beq_eq_false_iff_ne.2 e3
                                    have n4 : (o == 4) = false := beq_eq_false_iff_ne.2 e4
                                    have n5 : (o == 5) = false := beq_eq_false_iff_ne.2 e5
                                    have n6 : (o == 6) = false := beq_eq_false_iff_ne.2 e6
                                    have n7 : (o == 7) = false := beq_eq_false_iff_ne.2 e7
                                    have n8 : (o == 8) = false := beq_eq_false_iff_ne.2 e8
                                    have n9 : (o == 9) = false := beq_eq_false_iff_ne.2 e9
                                    have n10 : (o == 10) = false := beq_eq_false_iff_ne.2 e10
                                    have n11 : (o == 11) = false := beq_eq_false_iff_ne.2 e11
                                    have n12 : (o == 12) = false := beq_eq_false_iff_ne.2 e12
                                    have n13 : (o == 13) = false := beq_eq_false_iff_ne.2 e13
                                    have n14 : (o == 14) = false := beq_eq_false_iff_ne.2 e14
                                    have n15 : (o == 15) = false := beq_eq_false_iff_ne.2 e15
                                    have n16 : (o == 16) = false := beq_eq_false_iff_ne.2 e16
                                    have n17 : (o == 17) = false := beq_eq_false_iff_ne.2 e17
                                    go_wp2_with fail
                                    have hfin := fin3 (w := w) (R := R) (W := Wc) HF.out HBL.out (.string (mkB p.tok)) (.int .i64 p.seq) (.nilIface)
                                    obtain ⟨WN, hWN⟩ : ∃ WN, WN = (((Wc.setCell ⟨R + 1, 0, none⟩ (.string (mkB p.tok))).setCell ⟨R + 1, 1, none⟩ (.int .i64 p.seq)).setCell ⟨R + 1, 2, none⟩ (.nilIface)) := ⟨_, rfl⟩
                                    rw [← hWN] at hfin ⊢
                                    obtain ⟨k0, k1, k2⟩ := three_cells hfin.1
                                    have hbw := hfin.2
                                    rw [HR.out] at hbw
                                    exact bodyPost_ret (v := .agg #[.string (mkB p.tok), .int .i64 p.seq, .nilIface]) (by simp [results, Try.results9, go_sem, k0, k1, k2, Try.isAgg30, Try.sizeOf30]) rfl ⟨_, rfl, HN.out HO3.out _ (.inl rfl), hbw⟩
end Go.Proofs.Ythegkookfpnbeaa.Wds
