/- Words: the program's Ask: a call of bytes. -/
import Derived.Test.YthegkookfpnbeaaJn
set_option linter.unusedVariables false
set_option linter.unusedSimpArgs false
set_option maxRecDepth 100000
namespace Go.Proofs.Ythegkookfpnbeaa.Wds
open Go.RowKit Go.Lib Go.Proofs.Ythegkookfpnbeaa.Bx Go.Proofs.Ythegkookfpnbeaa.Frm

theorem empty_yes : (mkB []).toList.isEmpty = true := by rw [Lib.toList_data]; rfl
theorem empty_no {l : List UInt8} (h : l ≠ []) : (mkB l).toList.isEmpty = false := by
  rw [Lib.toList_data, mkB_data]
  cases l with
  | nil => exact absurd rfl h
  | cons x l => rfl
/-- All that was to be read was, and nothing is left. -/
def wholeB (r : Rd) : Bool := decide (r.bad = false ∧ r.s = [])
set_option maxHeartbeats 4000000 in
theorem whole_call {B : Nat} {w : World} {l : List UInt8} (h : At1 w B l) (x0 : ByteArray) (x1 : Int) (x2 : Value) (hx : x2 = .nilIface ∨ ∃ t x, x2 = .iface t x) (r : Rd) (f : Value) (hf : f = .func (.func 35) #[.pointer (some ⟨B, 0, none⟩)] #[])
    (C : ∀ w', At1 w' B l → Calls Try.prog 35 #[.pointer (some ⟨B, 0, none⟩)] w' (Got w' B (.agg #[.string x0, .int .i64 x1, x2]) r)) :
    Calls Try.prog 34 #[.pointer (some ⟨B, 0, none⟩), f] w fun e w' => e = .returned (.tuple #[if wholeB r = true then .agg #[.string x0, .int .i64 x1, x2] else .agg #[.string (ByteArray.mk #[]), .int .i64 0, .nilIface], .bool (wholeB r)]) ∧ w.grownBy w' (some B) := by
  subst hf
  obtain ⟨B0, P0, L0⟩ := box1 w #[.string (ByteArray.mk #[]), .int .i64 0, .nilIface] 30
  obtain ⟨W0, hW0⟩ : ∃ W0, W0 = w.alloc (.cells #[.string (ByteArray.mk #[]), .int .i64 0, .nilIface] 30) := ⟨_, rfl⟩
  rw [← hW0] at B0 P0 L0
  obtain ⟨R, hR⟩ : ∃ R, R = w.heap.size := ⟨_, rfl⟩
  rw [← hR] at P0 L0
  have hRB : R ≠ B := by have := h.cell.2.1; omega
  have HW0 := Lib.hid hW0
  have HR := Lib.hid hR
  have CC := Lib.hid (C W0 (h.below B0))
  have HG : Hid (∀ w', W0.grownBy w' (some B) → w.grownBy w' (some B) ∧ w'.heap[R]? = some (.cells #[.string (ByteArray.mk #[]), .int .i64 0, .nilIface] 30 (0, 0)) ∧ R < w'.heap.size) := fun w' g => ⟨grown_trans (grown_of _ _ B0 _) g, (g.block R (by omega) (by simpa using hRB)).trans P0, by have := g.size; omega⟩
  have HRs : Hid (w.heap.size ≤ R) := by rw [← hR]; exact Nat.le_refl _
  have hmf : ∀ (fn : Fn) (first cap : Array Value) (w : World), (Instr.makeFunc fn first cap).run Try.prog w = .ok (.func fn first cap) w := fun _ _ _ _ => rfl
  have hmi := hmi
  clear hR hRB hW0 B0 P0 L0 h C
  rcases hx with rfl | ⟨tt, xx, rfl⟩
  · obtain ⟨q, hq⟩ : ∃ q, q = (if wholeB r = true then (Value.agg #[.string x0, .int .i64 x1, .nilIface]) else (Value.agg #[.string (ByteArray.mk #[]), .int .i64 0, .nilIface])) := ⟨_, rfl⟩
    obtain ⟨bb, hbb⟩ : ∃ bb, bb = wholeB r := ⟨_, rfl⟩
    have HQ := Lib.hid hq
    have HB := Lib.hid hbb
    rw [← hq, ← hbb]
    clear hq hbb
    go_enter_defers Try.func34, Try.ntmps34
    go_wp2_with fail
    rw [← HW0.out]
    refine CC.out.mono ?_
    rintro e w1 ⟨G, (⟨hb, rfl, K⟩ | ⟨hb, rfl⟩)⟩
    · obtain ⟨g1, z1, s1⟩ := HG.out _ G
      obtain ⟨B2, P2, L2⟩ := box1 w1 #[.string x0, .int .i64 x1, .nilIface] 30
      obtain ⟨W2, hW2⟩ : ∃ W2, W2 = w1.alloc (.cells #[.string x0, .int .i64 x1, .nilIface] 30) := ⟨_, rfl⟩
      rw [← hW2] at B2 P2 L2
      have z2 : W2.heap[R]? = some (.cells #[.string (ByteArray.mk #[]), .int .i64 0, .nilIface] 30 (0, 0)) := (B2.block R s1).trans z1
      obtain ⟨a0, a1, a2⟩ := three_cells P2
      obtain ⟨c0, hB, f0⟩ := (K.below B2).cell
      obtain ⟨r0, r1, r2⟩ := three_cells z2
      have fr0 := free_at (i := 0) z2
      have fr1 := free_at (i := 1) z2
      have fr2 := free_at (i := 2) z2
      have HS1 : Hid (w.heap.size ≤ w1.heap.size ∧ R ≠ w1.heap.size) := ⟨Nat.le_trans HRs.out (Nat.le_of_lt s1), by omega⟩
      have HW2 := Lib.hid hW2
      have HZ2 := Lib.hid z2
      have HP2 := Lib.hid P2
      have G2 : Hid (w.grownBy W2 (some B)) := grown_below g1 B2
      have HRR : Hid (w.heap.size = R) := HR.out.symm
      by_cases hs : r.s = []
      · have hE := empty_yes
        rw [hs] at c0
        have hw : wholeB r = true := decide_eq_true ⟨hb, hs⟩
        have HQ1 : Hid (q = (Value.agg #[.string x0, .int .i64 x1, .nilIface])) := HQ.out.trans (by rw [hw]; rfl)
        have HQ2 := Lib.hid (HB.out.trans hw)
        obtain ⟨WN, hWN⟩ : ∃ WN, WN = ((W2.setCell ⟨R, 0, none⟩ (.string x0)).setCell ⟨R, 1, none⟩ (.int .i64 x1)).setCell ⟨R, 2, none⟩ .nilIface := ⟨_, rfl⟩
        have zz : WN.heap[R]? = some (.cells #[.string x0, .int .i64 x1, .nilIface] 30 (0, 0)) := by
          rw [hWN]
          exact set_block (set_block (set_block HZ2.out))
        have GN : Hid (w.grownBy WN (some B)) := by
          rw [hWN]
          exact grown_new (grown_new (grown_new G2.out HRs.out _) HRs.out _) HRs.out _
        have HWN := Lib.hid hWN
        have HZZ := Lib.hid zz
        clear G g1 z1 B2 P2 L2 hW2 z2 hb K hs hw hWN zz HG CC HZ2
        go_upto_region 3 with fail
        rw [← HW2.out, HRR.out]
        go_wp2_with fail
        rw [← HWN.out]
        refine leaves_cons (f := 56) (args := #[]) (by simp) (by simp [go_sem]) ?_
        refine (idle_call _).mono ?_
        rintro e u' w'' ⟨rfl, rfl, b3⟩
        have z3 := (b3.block R (Array.getElem?_eq_some_iff.1 HZZ.out).1).trans HZZ.out
        obtain ⟨y0, y1, y2⟩ := three_cells z3
        have GF := grown_below GN.out b3
        simp [Leaves, settle, results, Try.results34, go_sem, HQ1.out, HQ2.out, y0, y1, y2, Try.isAgg30, Try.sizeOf30]
        exact GF
      · have hE := empty_no hs
        have hw : wholeB r = false := decide_eq_false (fun h => hs h.2)
        have HQ1 : Hid (q = (Value.agg #[.string (ByteArray.mk #[]), .int .i64 0, .nilIface])) := HQ.out.trans (by rw [hw]; rfl)
        have HQ2 := Lib.hid (HB.out.trans hw)
        generalize mkB r.s = u at *
        clear G g1 z1 B2 P2 L2 hW2 z2 hb K hs hw HG CC
        go_upto_region 3 with fail
        rw [← HW2.out, HRR.out]
        go_wp2_with fail
        refine (giveup_any B _).mono ?_
        rintro e wg ⟨rfl, rfl⟩
        go_wp2_with fail
        refine leaves_cons (f := 56) (args := #[]) (by simp) (by simp [go_sem]) ?_
        refine (catch_call [] _).mono ?_
        rintro e u' w'' ⟨rfl, rfl, b3⟩
        have z3 := (b3.block R (Array.getElem?_eq_some_iff.1 HZ2.out).1).trans HZ2.out
        obtain ⟨y0, y1, y2⟩ := three_cells z3
        have GF := grown_below G2.out b3
        simp [Leaves, settle, results, Try.results34, go_sem, HQ1.out, HQ2.out, y0, y1, y2, Try.isAgg30, Try.sizeOf30]
        exact GF
    · obtain ⟨g1, z1, s1⟩ := HG.out _ G
      have hw : wholeB r = false := decide_eq_false (fun h => by rw [hb] at h; cases h.1)
      have HQ1 : Hid (q = (Value.agg #[.string (ByteArray.mk #[]), .int .i64 0, .nilIface])) := HQ.out.trans (by rw [hw]; rfl)
      have HQ2 := Lib.hid (HB.out.trans hw)
      have HZ1 := Lib.hid z1
      have G1 := Lib.hid g1
      have HRR : Hid (w.heap.size = R) := HR.out.symm
      clear G g1 z1 hb hw HG CC
      go_wp2_with fail
      rw [HRR.out]
      refine leaves_cons (f := 56) (args := #[]) (by simp) (by simp [go_sem]) ?_
      refine (catch_call [] _).mono ?_
      rintro e u' w'' ⟨rfl, rfl, b3⟩
      have z3 := (b3.block R (Array.getElem?_eq_some_iff.1 HZ1.out).1).trans HZ1.out
      obtain ⟨y0, y1, y2⟩ := three_cells z3
      have GF := grown_below G1.out b3
      simp [Leaves, settle, results, Try.results34, go_sem, HQ1.out, HQ2.out, y0, y1, y2, Try.isAgg30, Try.sizeOf30]
      exact GF
  · obtain ⟨q, hq⟩ : ∃ q, q = (if wholeB r = true then (Value.agg #[.string x0, .int .i64 x1, (.iface tt xx)]) else (Value.agg #[.string (ByteArray.mk #[]), .int .i64 0, .nilIface])) := ⟨_, rfl⟩
    obtain ⟨bb, hbb⟩ : ∃ bb, bb = wholeB r := ⟨_, rfl⟩
    have HQ := Lib.hid hq
    have HB := Lib.hid hbb
    rw [← hq, ← hbb]
    clear hq hbb
    go_enter_defers Try.func34, Try.ntmps34
    go_wp2_with fail
    rw [← HW0.out]
    refine CC.out.mono ?_
    rintro e w1 ⟨G, (⟨hb, rfl, K⟩ | ⟨hb, rfl⟩)⟩
    · obtain ⟨g1, z1, s1⟩ := HG.out _ G
      obtain ⟨B2, P2, L2⟩ := box1 w1 #[.string x0, .int .i64 x1, (.iface tt xx)] 30
      obtain ⟨W2, hW2⟩ : ∃ W2, W2 = w1.alloc (.cells #[.string x0, .int .i64 x1, (.iface tt xx)] 30) := ⟨_, rfl⟩
      rw [← hW2] at B2 P2 L2
      have z2 : W2.heap[R]? = some (.cells #[.string (ByteArray.mk #[]), .int .i64 0, .nilIface] 30 (0, 0)) := (B2.block R s1).trans z1
      obtain ⟨a0, a1, a2⟩ := three_cells P2
      obtain ⟨c0, hB, f0⟩ := (K.below B2).cell
      obtain ⟨r0, r1, r2⟩ := three_cells z2
      have fr0 := free_at (i := 0) z2
      have fr1 := free_at (i := 1) z2
      have fr2 := free_at (i := 2) z2
      have HS1 : Hid (w.heap.size ≤ w1.heap.size ∧ R ≠ w1.heap.size) := ⟨Nat.le_trans HRs.out (Nat.le_of_lt s1), by omega⟩
      have HW2 := Lib.hid hW2
      have HZ2 := Lib.hid z2
      have HP2 := Lib.hid P2
      have G2 : Hid (w.grownBy W2 (some B)) := grown_below g1 B2
      have HRR : Hid (w.heap.size = R) := HR.out.symm
      by_cases hs : r.s = []
      · have hE := empty_yes
        rw [hs] at c0
        have hw : wholeB r = true := decide_eq_true ⟨hb, hs⟩
        have HQ1 : Hid (q = (Value.agg #[.string x0, .int .i64 x1, (.iface tt xx)])) := HQ.out.trans (by rw [hw]; rfl)
        have HQ2 := Lib.hid (HB.out.trans hw)
        obtain ⟨WN, hWN⟩ : ∃ WN, WN = ((W2.setCell ⟨R, 0, none⟩ (.string x0)).setCell ⟨R, 1, none⟩ (.int .i64 x1)).setCell ⟨R, 2, none⟩ (.iface tt xx) := ⟨_, rfl⟩
        have zz : WN.heap[R]? = some (.cells #[.string x0, .int .i64 x1, (.iface tt xx)] 30 (0, 0)) := by
          rw [hWN]
          exact set_block (set_block (set_block HZ2.out))
        have GN : Hid (w.grownBy WN (some B)) := by
          rw [hWN]
          exact grown_new (grown_new (grown_new G2.out HRs.out _) HRs.out _) HRs.out _
        have HWN := Lib.hid hWN
        have HZZ := Lib.hid zz
        clear G g1 z1 B2 P2 L2 hW2 z2 hb K hs hw hWN zz HG CC HZ2
        go_upto_region 3 with fail
        rw [← HW2.out, HRR.out]
        go_wp2_with fail
        rw [← HWN.out]
        refine leaves_cons (f := 56) (args := #[]) (by simp) (by simp [go_sem]) ?_
        refine (idle_call _).mono ?_
        rintro e u' w'' ⟨rfl, rfl, b3⟩
        have z3 := (b3.block R (Array.getElem?_eq_some_iff.1 HZZ.out).1).trans HZZ.out
        obtain ⟨y0, y1, y2⟩ := three_cells z3
        have GF := grown_below GN.out b3
        simp [Leaves, settle, results, Try.results34, go_sem, HQ1.out, HQ2.out, y0, y1, y2, Try.isAgg30, Try.sizeOf30]
        exact GF
      · have hE := empty_no hs
        have hw : wholeB r = false := decide_eq_false (fun h => hs h.2)
        have HQ1 : Hid (q = (Value.agg #[.string (ByteArray.mk #[]), .int .i64 0, .nilIface])) := HQ.out.trans (by rw [hw]; rfl)
        have HQ2 := Lib.hid (HB.out.trans hw)
        generalize mkB r.s = u at *
        clear G g1 z1 B2 P2 L2 hW2 z2 hb K hs hw HG CC
        go_upto_region 3 with fail
        rw [← HW2.out, HRR.out]
        go_wp2_with fail
        refine (giveup_any B _).mono ?_
        rintro e wg ⟨rfl, rfl⟩
        go_wp2_with fail
        refine leaves_cons (f := 56) (args := #[]) (by simp) (by simp [go_sem]) ?_
        refine (catch_call [] _).mono ?_
        rintro e u' w'' ⟨rfl, rfl, b3⟩
        have z3 := (b3.block R (Array.getElem?_eq_some_iff.1 HZ2.out).1).trans HZ2.out
        obtain ⟨y0, y1, y2⟩ := three_cells z3
        have GF := grown_below G2.out b3
        simp [Leaves, settle, results, Try.results34, go_sem, HQ1.out, HQ2.out, y0, y1, y2, Try.isAgg30, Try.sizeOf30]
        exact GF
    · obtain ⟨g1, z1, s1⟩ := HG.out _ G
      have hw : wholeB r = false := decide_eq_false (fun h => by rw [hb] at h; cases h.1)
      have HQ1 : Hid (q = (Value.agg #[.string (ByteArray.mk #[]), .int .i64 0, .nilIface])) := HQ.out.trans (by rw [hw]; rfl)
      have HQ2 := Lib.hid (HB.out.trans hw)
      have HZ1 := Lib.hid z1
      have G1 := Lib.hid g1
      have HRR : Hid (w.heap.size = R) := HR.out.symm
      clear G g1 z1 hb hw HG CC
      go_wp2_with fail
      rw [HRR.out]
      refine leaves_cons (f := 56) (args := #[]) (by simp) (by simp [go_sem]) ?_
      refine (catch_call [] _).mono ?_
      rintro e u' w'' ⟨rfl, rfl, b3⟩
      have z3 := (b3.block R (Array.getElem?_eq_some_iff.1 HZ1.out).1).trans HZ1.out
      obtain ⟨y0, y1, y2⟩ := three_cells z3
      have GF := grown_below G1.out b3
      simp [Leaves, settle, results, Try.results34, go_sem, HQ1.out, HQ2.out, y0, y1, y2, Try.isAgg30, Try.sizeOf30]
      exact GF
end Go.Proofs.Ythegkookfpnbeaa.Wds
