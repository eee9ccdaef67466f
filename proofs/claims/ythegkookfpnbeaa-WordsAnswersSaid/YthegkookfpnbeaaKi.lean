/- Words: the program's writer: a run, an entry; lists of them. -/
import Derived.Test.YthegkookfpnbeaaKh
set_option linter.unusedVariables false
set_option linter.unusedSimpArgs false
set_option maxRecDepth 100000
namespace Go.Proofs.Ythegkookfpnbeaa.Wds
open Go.RowKit Go.Lib Go.Proofs.Ythegkookfpnbeaa.Bx Go.Proofs.Ythegkookfpnbeaa.Frm

/-- The runs of a row that writing leaves alone. -/
def RStays (w : World) (B : Nat) (v : Value) (a : Option Addr) (xs : List Run) : Prop := ∀ w' v', Stp w B v w' v' → ∀ j (h : j < xs.length), ∃ b off, a = some ⟨b, off, none⟩ ∧ w'.cell? ⟨b, off + j * 4, none⟩ = some (.int .i64 xs[j].i) ∧ w'.cell? ⟨b, off + j * 4 + 1, none⟩ = some (.int .i64 xs[j].l) ∧ w'.cell? ⟨b, off + j * 4 + 2, none⟩ = some (.bool xs[j].o) ∧ w'.cell? ⟨b, off + j * 4 + 3, none⟩ = some (.string (mkB xs[j].t)) ∧ xs[j].t.length ≤ 9223372036854775807
def EStays (w : World) (B : Nat) (v : Value) (a : Option Addr) (xs : List Ent) : Prop := ∀ w' v', Stp w B v w' v' → ∀ j (h : j < xs.length), ∃ b off sa sc la lc, a = some ⟨b, off, none⟩ ∧ w'.cell? ⟨b, off + j * 5, none⟩ = some (.int .i64 xs[j].u) ∧ w'.cell? ⟨b, off + j * 5 + 1, none⟩ = some (.int .i64 xs[j].o) ∧ w'.cell? ⟨b, off + j * 5 + 2, none⟩ = some (.int .i64 xs[j].s) ∧ w'.cell? ⟨b, off + j * 5 + 3, none⟩ = some (.slice sa xs[j].S.length sc) ∧ w'.cell? ⟨b, off + j * 5 + 4, none⟩ = some (.slice la xs[j].L.length lc) ∧ Stays w' B v' sa xs[j].S ∧ Stays w' B v' la xs[j].L ∧ xs[j].S.length ≤ 9223372036854775807 ∧ xs[j].L.length ≤ 9223372036854775807
theorem RStays.on {w w1 : World} {B : Nat} {v v1 : Value} {a : Option Addr} {xs : List Run} (h : RStays w B v a xs) (s : Stp w B v w1 v1) : RStays w1 B v1 a xs := fun w' v' s' => h w' v' (s.trans s')
theorem EStays.on {w w1 : World} {B : Nat} {v v1 : Value} {a : Option Addr} {xs : List Ent} (h : EStays w B v a xs) (s : Stp w B v w1 v1) : EStays w1 B v1 a xs := fun w' v' s' => h w' v' (s.trans s')
set_option maxHeartbeats 4000000 in
theorem prun_put {base B : Nat} {w : World} {v : Value} {l : List UInt8} {bad : Bool} (h : Wr base w B v l bad) (x : Run) (ht : x.t.length ≤ 9223372036854775807) (hl : l.length ≤ 290000000) : Calls Try.prog 42 #[.pointer (some ⟨B, 0, none⟩), .agg #[.int .i64 x.i, .int .i64 x.l, .bool x.o, .string (mkB x.t)]] w (Put base w B v (runW x (l, bad)).1 (runW x (l, bad)).2) := by
  obtain ⟨B1, P1, L1⟩ := box1 w #[.int .i64 x.i, .int .i64 x.l, .bool x.o, .string (mkB x.t)] 114
  obtain ⟨Wa, hWa⟩ : ∃ Wa, Wa = w.alloc (.cells #[.int .i64 x.i, .int .i64 x.l, .bool x.o, .string (mkB x.t)] 114) := ⟨_, rfl⟩
  rw [← hWa] at B1 P1 L1
  have HWA := Lib.hid hWa
  have HW := Lib.hid h
  have HL := Lib.hid hl
  obtain ⟨B2, P2, L2⟩ := box1 Wa #[.int .i64 x.i, .int .i64 x.l] 3
  obtain ⟨Wb, hWb⟩ : ∃ Wb, Wb = (Wa.alloc (.cells #[.int .i64 x.i, .int .i64 x.l] 3)).drew := ⟨_, rfl⟩
  have ST := stays_drew (stays_new h B1 #[.int .i64 x.i, .int .i64 x.l] [x.i, x.l] rfl)
  replace B2 := Below.drew B2
  rw [← hWb] at B2 ST
  have L2 : Wb.heap.size = Wa.heap.size + 1 := by rw [hWb]; exact L2
  have B12 := below_on B1 B2
  have C := Lib.hid (pnums_any (h.below B12) _ 2 [x.i, x.l] ST (by show l.length + 8 * 2 ≤ 300000000; omega))
  have HWB : Hid (Wb = (Wa.alloc (.cells #[.int .i64 x.i, .int .i64 x.l] 3)).drew) := hWb
  have HP1 := Lib.hid P1
  have HLA := Lib.hid L1
  have HLB : Hid (Wb.heap.size = w.heap.size + 1 + 1) := by rw [← L1]; exact L2
  have HQ1 : Hid (Wb.heap[w.heap.size]? = some (.cells #[.int .i64 x.i, .int .i64 x.l, .bool x.o, .string (mkB x.t)] 114 (0, 0))) := (B2.block _ (by omega)).trans P1
  have HB12 := Lib.hid B12
  have HT := Lib.hid ht
  have a0 : Wa.cell? ⟨w.heap.size, 0, none⟩ = some (.int .i64 x.i) := by rw [cell_of_row _ _ _ _ _ _ P1]; rfl
  have a1 : Wa.cell? ⟨w.heap.size, 1, none⟩ = some (.int .i64 x.l) := by rw [cell_of_row _ _ _ _ _ _ P1]; rfl
  clear h hWa B1 P1 L1 ht hl B2 P2 L2 hWb ST B12
  go_enter Try.func42, Try.ntmps42
  go_upto_region 1 with fail
  rw [← HWA.out]
  have KR : Hid (Below Wa.heap.size Wa Wa) := Below.refl _ _
  have BX : Hid (∀ w', Below Wa.heap.size Wa w' → w'.cell? ⟨w.heap.size, 0, none⟩ = some (.int .i64 x.i) ∧ w'.cell? ⟨w.heap.size, 1, none⟩ = some (.int .i64 x.l)) := fun w' hb => by
    have zz : w'.heap[w.heap.size]? = some (.cells #[.int .i64 x.i, .int .i64 x.l, .bool x.o, .string (mkB x.t)] 114 (0, 0)) := (hb.block _ (by rw [HLA.out]; omega)).trans HP1.out
    exact ⟨by rw [cell_of_row _ _ _ _ _ _ zz]; rfl, by rw [cell_of_row _ _ _ _ _ _ zz]; rfl⟩
  go_region_held3 (fun w' => w'.cell? ⟨w.heap.size, 0, none⟩ = some (.int .i64 x.i) ∧ w'.cell? ⟨w.heap.size, 1, none⟩ = some (.int .i64 x.l))
    (first
      | exact k5.out
      | (refine BX.out _ ?_; focus ((repeat first | assumption | exact KR.out | apply Below.drew | apply below_drews | refine Below.alloc ?_ (Nat.le_refl _) _); done)))
    (first
      | (go_at_call 40; rw [← HWB.out]; (refine C.out.mono ?_); rintro e w5 ⟨rfl, v5, K5, S5⟩; have Z5 : w5.heap[w.heap.size]? = some (.cells #[.int .i64 x.i, .int .i64 x.l, .bool x.o, .string (mkB x.t)] 114 (0, 0)) := Stp.keep HW.out S5 (Nat.le_refl _) (by have := HLB.out; omega) HQ1.out; have k5 : Hid (w5.cell? ⟨w.heap.size, 0, none⟩ = some (.int .i64 x.i) ∧ w5.cell? ⟨w.heap.size, 1, none⟩ = some (.int .i64 x.l)) := ⟨by rw [cell_of_row _ _ _ _ _ _ Z5]; rfl, by rw [cell_of_row _ _ _ _ _ _ Z5]; rfl⟩))
  have HS5 := Lib.hid (HW.out.first HB12.out S5)
  have HQ : Hid (∀ {w7 : World} {v7 : Value}, Stp w5 B v5 w7 v7 → Stp Wb B v w7 v7) := fun s => S5.trans s
  clear a0 a1 k5 BX KR
  have a2 : w5.cell? ⟨w.heap.size, 2, none⟩ = some (.bool x.o) := by rw [cell_of_row _ _ _ _ _ _ Z5]; rfl
  have C2 := Lib.hid ((pbool_any K5.drew x.o (by rw [List.length_append, pnums_len]; have := HL.out; simp only [List.length_cons, List.length_nil]; omega)).mono fun _ _ => Put.undrew)
  clear K5 S5 Z5 C
  go_upto_region 2 with fail
  refine still_tailW 5 (by kernel_rfl) (by kernel_rfl) ?_
  simp only [List.take_succ_cons, List.take_zero, List.drop_succ_cons, List.drop_zero]
  have da2 := drew_cell a2
  generalize w5.drew = We at *
  repeat still_step
  refine wpStill_nil ?_
  clear da2
  go_wp2_with fail
  refine C2.out.mono ?_
  rintro e w6 ⟨rfl, v6, K6, S6⟩
  have Z6 : w6.heap[w.heap.size]? = some (.cells #[.int .i64 x.i, .int .i64 x.l, .bool x.o, .string (mkB x.t)] 114 (0, 0)) := Stp.keep HW.out (w1 := Wb) (HQ.out S6) (Nat.le_refl _) (by have := HLB.out; omega) HQ1.out
  have a3 : w6.cell? ⟨w.heap.size, 3, none⟩ = some (.string (mkB x.t)) := by rw [cell_of_row _ _ _ _ _ _ Z6]; rfl
  have C3 := Lib.hid ((ptext_any K6.drew x.t (by rw [List.length_append, List.length_append, pnums_len]; have := HL.out; show l.length + 8 * 2 + 1 ≤ _; omega) HT.out).mono fun _ _ => Put.undrew)
  have HS6 := Lib.hid (HS5.out.trans S6)
  clear K6 S6 C2 Z6 a2
  go_upto_region 3 with fail
  refine still_tailW 5 (by kernel_rfl) (by kernel_rfl) ?_
  simp only [List.take_succ_cons, List.take_zero, List.drop_succ_cons, List.drop_zero]
  have da3 := drew_cell a3
  generalize w6.drew = Wf at *
  repeat still_step
  refine wpStill_nil ?_
  clear da3
  go_wp2_with fail
  refine C3.out.mono ?_
  rintro e w7 ⟨rfl, v7, K7, S7⟩
  have FE : Hid (Put base w B v (runW x (l, bad)).1 (runW x (l, bad)).2 (.returned (.tuple #[])) w7) := ⟨rfl, v7, K7, HS6.out.trans S7⟩
  clear K7 S7 C3
  go_wp2_with fail
  all_goals exact bodyPost_ret (v := .tuple #[]) (by simp [results, Try.results42, go_sem]) rfl FE.out
set_option maxHeartbeats 4000000 in
theorem pent_put {base B : Nat} {w : World} {v : Value} {l : List UInt8} {bad : Bool} (h : Wr base w B v l bad) (x : Ent) (sa : Option Addr) (sc : Nat) (la : Option Addr) (lc : Nat) (hS : Stays w B v sa x.S) (hL : Stays w B v la x.L) (hn : x.S.length ≤ 9223372036854775807 ∧ x.L.length ≤ 9223372036854775807) (hl : l.length + sE x ≤ 290000000) : Calls Try.prog 44 #[.pointer (some ⟨B, 0, none⟩), .agg #[.int .i64 x.u, .int .i64 x.o, .int .i64 x.s, .slice sa x.S.length sc, .slice la x.L.length lc]] w (Put base w B v (entW x (l, bad)).1 (entW x (l, bad)).2) := by
  unfold sE at hl
  obtain ⟨B1, P1, L1⟩ := box1 w #[.int .i64 x.u, .int .i64 x.o, .int .i64 x.s, .slice sa x.S.length sc, .slice la x.L.length lc] 119
  obtain ⟨Wa, hWa⟩ : ∃ Wa, Wa = w.alloc (.cells #[.int .i64 x.u, .int .i64 x.o, .int .i64 x.s, .slice sa x.S.length sc, .slice la x.L.length lc] 119) := ⟨_, rfl⟩
  rw [← hWa] at B1 P1 L1
  have HWA := Lib.hid hWa
  have HW := Lib.hid h
  have HL := Lib.hid hl
  obtain ⟨B2, P2, L2⟩ := box1 Wa #[.int .i64 x.u, .int .i64 x.o, .int .i64 x.s] 3
  obtain ⟨Wb, hWb⟩ : ∃ Wb, Wb = (Wa.alloc (.cells #[.int .i64 x.u, .int .i64 x.o, .int .i64 x.s] 3)).drew := ⟨_, rfl⟩
  have ST := stays_drew (stays_new h B1 #[.int .i64 x.u, .int .i64 x.o, .int .i64 x.s] [x.u, x.o, x.s] rfl)
  replace B2 := Below.drew B2
  rw [← hWb] at B2 ST
  have L2 : Wb.heap.size = Wa.heap.size + 1 := by rw [hWb]; exact L2
  have B12 := below_on B1 B2
  have C := Lib.hid (pnums_any (h.below B12) _ 3 [x.u, x.o, x.s] ST (by show l.length + 8 * 3 ≤ 300000000; omega))
  have HWB : Hid (Wb = (Wa.alloc (.cells #[.int .i64 x.u, .int .i64 x.o, .int .i64 x.s] 3)).drew) := hWb
  have HP1 := Lib.hid P1
  have HLA := Lib.hid L1
  have HLB : Hid (Wb.heap.size = w.heap.size + 1 + 1) := by rw [← L1]; exact L2
  have HQ1 : Hid (Wb.heap[w.heap.size]? = some (.cells #[.int .i64 x.u, .int .i64 x.o, .int .i64 x.s, .slice sa x.S.length sc, .slice la x.L.length lc] 119 (0, 0))) := (B2.block _ (by omega)).trans P1
  have HB12 := Lib.hid B12
  have a0 : Wa.cell? ⟨w.heap.size, 0, none⟩ = some (.int .i64 x.u) := by rw [cell_of_row _ _ _ _ _ _ P1]; rfl
  have a1 : Wa.cell? ⟨w.heap.size, 1, none⟩ = some (.int .i64 x.o) := by rw [cell_of_row _ _ _ _ _ _ P1]; rfl
  have a2 : Wa.cell? ⟨w.heap.size, 2, none⟩ = some (.int .i64 x.s) := by rw [cell_of_row _ _ _ _ _ _ P1]; rfl
  have hmf : ∀ (fn : Fn) (first cap : Array Value) (w : World), (Instr.makeFunc fn first cap).run Try.prog w = .ok (.func fn first cap) w := fun _ _ _ _ => rfl
  have HSS : Hid (Stays Wb B v sa x.S) := hS.on (h.first B12 (Stp.refl _ _ _))
  have HSL : Hid (Stays Wb B v la x.L) := hL.on (h.first B12 (Stp.refl _ _ _))
  have HNN := Lib.hid hn
  clear h hWa B1 P1 L1 hl B2 P2 L2 hWb ST B12 hS hL hn
  go_enter Try.func44, Try.ntmps44
  go_upto_region 1 with fail
  rw [← HWA.out]
  have KR : Hid (Below Wa.heap.size Wa Wa) := Below.refl _ _
  have BX : Hid (∀ w', Below Wa.heap.size Wa w' → w'.cell? ⟨w.heap.size, 0, none⟩ = some (.int .i64 x.u) ∧ w'.cell? ⟨w.heap.size, 1, none⟩ = some (.int .i64 x.o) ∧ w'.cell? ⟨w.heap.size, 2, none⟩ = some (.int .i64 x.s)) := fun w' hb => by
    have zz : w'.heap[w.heap.size]? = some (.cells #[.int .i64 x.u, .int .i64 x.o, .int .i64 x.s, .slice sa x.S.length sc, .slice la x.L.length lc] 119 (0, 0)) := (hb.block _ (by rw [HLA.out]; omega)).trans HP1.out
    exact ⟨by rw [cell_of_row _ _ _ _ _ _ zz]; rfl, by rw [cell_of_row _ _ _ _ _ _ zz]; rfl, by rw [cell_of_row _ _ _ _ _ _ zz]; rfl⟩
  go_region_held3 (fun w' => w'.cell? ⟨w.heap.size, 0, none⟩ = some (.int .i64 x.u) ∧ w'.cell? ⟨w.heap.size, 1, none⟩ = some (.int .i64 x.o) ∧ w'.cell? ⟨w.heap.size, 2, none⟩ = some (.int .i64 x.s))
    (first
      | exact k5.out
      | (refine BX.out _ ?_; focus ((repeat first | assumption | exact KR.out | apply Below.drew | apply below_drews | refine Below.alloc ?_ (Nat.le_refl _) _); done)))
    (first
      | (go_at_call 40; rw [← HWB.out]; (refine C.out.mono ?_); rintro e w5 ⟨rfl, v5, K5, S5⟩; have Z5 : w5.heap[w.heap.size]? = some (.cells #[.int .i64 x.u, .int .i64 x.o, .int .i64 x.s, .slice sa x.S.length sc, .slice la x.L.length lc] 119 (0, 0)) := Stp.keep HW.out S5 (Nat.le_refl _) (by have := HLB.out; omega) HQ1.out; have k5 : Hid (w5.cell? ⟨w.heap.size, 0, none⟩ = some (.int .i64 x.u) ∧ w5.cell? ⟨w.heap.size, 1, none⟩ = some (.int .i64 x.o) ∧ w5.cell? ⟨w.heap.size, 2, none⟩ = some (.int .i64 x.s)) := ⟨by rw [cell_of_row _ _ _ _ _ _ Z5]; rfl, by rw [cell_of_row _ _ _ _ _ _ Z5]; rfl, by rw [cell_of_row _ _ _ _ _ _ Z5]; rfl⟩))
  have HS5 := Lib.hid (HW.out.first HB12.out S5)
  have HQ : Hid (∀ {w7 : World} {v7 : Value}, Stp w5 B v5 w7 v7 → Stp Wb B v w7 v7) := fun s => S5.trans s
  clear a0 a1 a2 k5 BX KR
  have a3 : w5.cell? ⟨w.heap.size, 3, none⟩ = some (.slice sa x.S.length sc) := by rw [cell_of_row _ _ _ _ _ _ Z5]; rfl
  have C2 := Lib.hid ((plistW K5.drew sa sc x.S (stays_drew (HSS.out.on S5)) HNN.out.1 (by rw [List.length_append, pnums_len]; have := HL.out; simp only [List.length_cons, List.length_nil]; omega) (fun h9 => by rw [List.length_append, pnums_len, sum_8]; have := HL.out; simp only [List.length_cons, List.length_nil]; omega)).mono fun _ _ => Put.undrew)
  obtain ⟨q2, hq2⟩ : ∃ q2, q2 = listW numW x.S (l ++ [x.u, x.o, x.s].flatMap numL, bad) := ⟨_, rfl⟩
  have HQ2 : Hid (entW x (l, bad) = listW numW x.L q2 ∧ q2.1.length ≤ l.length + 24 + 1 + 8 * min x.S.length 255) := ⟨by rw [hq2]; rfl, by
    have h1 := nums_listW_len x.S (l ++ [x.u, x.o, x.s].flatMap numL, bad)
    rw [hq2]
    simp only [List.length_append, pnums_len, List.length_cons, List.length_nil] at h1
    omega⟩
  rw [← hq2] at C2
  have HL2 : Hid (q2.1.length + 1 + 8 * min x.L.length 255 ≤ 290000000) := by show _ ≤ _; have := HQ2.out.2; have := HL.out; omega
  clear K5 S5 Z5 C hq2
  generalize x.S.length = ns at *
  go_upto_region 2 with fail
  refine still_tailW 7 (by kernel_rfl) (by kernel_rfl) ?_
  simp only [List.take_succ_cons, List.take_zero, List.drop_succ_cons, List.drop_zero]
  have da3 := drew_cell a3
  generalize w5.drew = We at *
  repeat still_step
  refine wpStill_nil ?_
  clear da3
  go_wp2_with fail
  refine C2.out.mono ?_
  rintro e w6 ⟨rfl, v6, K6, S6⟩
  have Z6 : w6.heap[w.heap.size]? = some (.cells #[.int .i64 x.u, .int .i64 x.o, .int .i64 x.s, .slice sa ns sc, .slice la x.L.length lc] 119 (0, 0)) := Stp.keep HW.out (w1 := Wb) (HQ.out S6) (Nat.le_refl _) (by have := HLB.out; omega) HQ1.out
  have a4 : w6.cell? ⟨w.heap.size, 4, none⟩ = some (.slice la x.L.length lc) := by rw [cell_of_row _ _ _ _ _ _ Z6]; rfl
  have C3 := Lib.hid ((plistW K6.drew la lc x.L (stays_drew (HSL.out.on (HQ.out S6))) HNN.out.2 (by have := HL2.out; have := HQ2.out.2; have := HL.out; omega) (fun h9 => by rw [sum_8]; have := HL2.out; omega)).mono fun _ _ => Put.undrew)
  have HS6 := Lib.hid (HS5.out.trans S6)
  clear K6 S6 C2 Z6 a3
  generalize x.L.length = nl at *
  go_upto_region 3 with fail
  refine still_tailW 7 (by kernel_rfl) (by kernel_rfl) ?_
  simp only [List.take_succ_cons, List.take_zero, List.drop_succ_cons, List.drop_zero]
  have da4 := drew_cell a4
  generalize w6.drew = Wf at *
  repeat still_step
  refine wpStill_nil ?_
  clear da4
  go_wp2_with fail
  refine C3.out.mono ?_
  rintro e w7 ⟨rfl, v7, K7, S7⟩
  have FE : Hid (Put base w B v (entW x (l, bad)).1 (entW x (l, bad)).2 (.returned (.tuple #[])) w7) := by
    show Put _ _ _ _ _ _ _ _
    rw [HQ2.out.1]
    exact ⟨rfl, v7, K7, HS6.out.trans S7⟩
  clear K7 S7 C3
  go_wp2_with fail
  all_goals exact bodyPost_ret (v := .tuple #[]) (by simp [results, Try.results44, go_sem]) rfl FE.out
set_option maxHeartbeats 8000000 in
theorem prunsW0 {base B : Nat} {w : World} {v : Value} {q0 : List UInt8 × Bool} (h : Wr base w B v q0.1 q0.2) (a : Option Addr) (c : Nat) (xs : List Run) (hq : RStays w B v a xs) (hn9 : xs.length ≤ 9223372036854775807) (hl : q0.2 = false → q0.1.length + (xs.map sR).sum ≤ 290000000) : Calls Try.prog 62 #[.pointer (some ⟨B, 0, none⟩), .slice a xs.length c, .func (.func 42) #[.pointer (some ⟨B, 0, none⟩)] #[]] w (Put base w B v (foldW runW xs q0).1 (foldW runW xs q0).2) := by
  obtain ⟨n, hn⟩ : ∃ n, n = xs.length := ⟨_, rfl⟩
  obtain ⟨QF, hQF⟩ : ∃ QF, QF = foldW runW xs q0 := ⟨_, rfl⟩
  have HF : Hid (QF = foldW runW xs q0) := hQF
  have HL : Hid ((q0.2 = false → q0.1.length + (xs.map sR).sum ≤ 290000000) ∧ n = xs.length) := ⟨hl, hn⟩
  rw [← hQF]
  rw [← hn] at hn9 ⊢
  have HQ := Lib.hid hq
  have HK1 := Lib.hid h
  have HS1 : Hid (Stp w B v w v) := Stp.refl _ _ _
  clear h hl hq hn hQF
  go_enter Try.func62, Try.ntmps62
  go_wp2_with fail
  go_loopg [10] n (fun gg i_ wr => ∃ (i : Nat) (u : Value) (q : List UInt8 × Bool), i ≤ n ∧ n - i ≤ gg ∧ i_ = .int .i64 (i : Nat) ∧ Hid (Wr base wr B u q.1 q.2) ∧ Hid (Stp w B v wr u) ∧ Hid (QF = foldW runW (xs.drop i) q) ∧ Hid (q.2 = false → q.1.length + ((xs.drop i).map sR).sum ≤ 290000000))
  case atStart => exact ⟨0, v, q0, by omega, by omega, rfl, HK1, HS1, HF, HL.out.1⟩
  case round =>
    obtain ⟨i, u, ⟨ql, qb⟩, hi, hg, rfl, HR, HS, HT, HLL⟩ := hrel
    by_cases hin : i < n
    · have iw : ((i : Nat) : Int) < (n : Int) := by omega
      have n0 : (0 : Int) ≤ ((i : Nat) : Int) := by omega
      have hix : i < xs.length := by rw [← HL.out.2]; exact hin
      have HN : Hid (QF = if qb = true then (ql, qb) else foldW runW (xs.drop (i + 1)) (runW xs[i] (ql, qb))) := by show _ = _; rw [HT.out]; exact fold_next hix _
      have HLN : Hid (qb = false → ql.length + (sR xs[i] + ((xs.drop (i + 1)).map sR).sum) ≤ 290000000) := fun h9 => by rw [← drop_sum sR hix]; exact HLL.out h9
      obtain ⟨b, off, rfl, hc0, hc1, hc2, hc3, htx⟩ := HQ.out _ _ HS.out i hix
      generalize xs[i] = x at *
      obtain ⟨xi, xl, xo, xt⟩ := x
      simp only at hc0 hc1 hc2 hc3 htx
      have HTX := Lib.hid htx
      clear htx
      obtain ⟨y, hy⟩ : ∃ y, y = mkB xt := ⟨_, rfl⟩
      rw [← hy] at hc3
      have HY := Lib.hid hy
      clear hy
      obtain ⟨Wa, hWa⟩ : ∃ Wa, Wa = wr.alloc (.cells #[.int .i64 xi, .int .i64 xl, .bool xo, .string y] 114) := ⟨_, rfl⟩
      have bA : Below wr.heap.size wr Wa := by rw [hWa]; exact (box1 wr _ _).1
      have zA : Wa.heap[wr.heap.size]? = some (.cells #[.int .i64 xi, .int .i64 xl, .bool xo, .string y] 114 (0, 0)) := by rw [hWa]; exact (box1 wr _ _).2.1
      have KA := HR.out.below bA
      have HWA := Lib.hid hWa
      have wa1 : Wa.cell? ⟨B, 1, none⟩ = some (.bool qb) := KA.cells.2.1
      have HSA : Hid (Stp w B v Wa u) := HS.out.trans (HR.out.first bA (Stp.refl _ _ _))
      obtain ⟨m0, m1, m2, m3⟩ := four_cells zA
      cases qb with
      | true =>
        have FE : Hid (Put base w B v QF.1 QF.2 (.returned (.tuple #[])) Wa) := by
          have e := HN.out
          rw [if_pos rfl] at e
          show Put _ _ _ _ _ _ _ _
          rw [e]
          exact ⟨rfl, u, KA, HSA.out⟩
        clear HN HT HR HS HLN HLL KA HSA zA hWa bA
        go_upto_region 3 with fail
        rw [← HWA.out]
        go_wp2_with fail
        all_goals exact bodyPost_ret (v := .tuple #[]) (by simp [results, Try.results62, go_sem]) rfl FE.out
      | false =>
        have C2 := Lib.hid (prun_put KA ⟨xi, xl, xo, xt⟩ HTX.out (by have := HLN.out rfl; show ql.length ≤ _; omega))
        have HN2 : Hid (QF = foldW runW (xs.drop (i + 1)) (runW ⟨xi, xl, xo, xt⟩ (ql, false))) := HN.out
        have HLN2 : Hid ((runW ⟨xi, xl, xo, xt⟩ (ql, false)).2 = false → (runW ⟨xi, xl, xo, xt⟩ (ql, false)).1.length + ((xs.drop (i + 1)).map sR).sum ≤ 290000000) := fun _ => by
          have h1 := runW_len ⟨xi, xl, xo, xt⟩ (ql, false)
          have h2 := HLN.out rfl
          simp only at h1 h2 ⊢
          omega
        rw [show mkB (⟨xi, xl, xo, xt⟩ : Run).t = y from HY.out.symm] at C2
        obtain ⟨q2, hq2⟩ : ∃ q2, q2 = runW ⟨xi, xl, xo, xt⟩ (ql, false) := ⟨_, rfl⟩
        rw [← hq2] at HN2 HLN2
        have C3 : Hid (Calls Try.prog 42 #[.pointer (some ⟨B, 0, none⟩), .agg #[.int .i64 xi, .int .i64 xl, .bool xo, .string y]] Wa (Put base Wa B u q2.1 q2.2)) := by rw [hq2]; exact C2.out
        clear HN HT HR HS HLN HLL KA C2 hq2 zA hWa bA
        go_upto_region 3 with fail
        rw [← HWA.out]
        go_wp2_with fail
        refine C3.out.mono ?_
        rintro e w5 ⟨rfl, u5, K5, S5⟩
        have HK5 := Lib.hid K5
        have HS5 := Lib.hid (HSA.out.trans S5)
        clear K5 S5 C3 HSA
        go_wp2_with fail
        go_roundg (n - (i + 1))
        case measure => omega
        case rel => exact ⟨i + 1, u5, q2, by omega, Nat.le_refl _, by go_num, HK5, HS5, HN2, HLN2⟩
    · obtain rfl : i = n := by omega
      have iw : ¬ ((i : Nat) : Int) < ((i : Nat) : Int) := by omega
      have FE : Hid (Put base w B v QF.1 QF.2 (.returned (.tuple #[])) wr) := by
        have e := HT.out
        rw [List.drop_of_length_le (by rw [← HL.out.2]; exact Nat.le_refl _)] at e
        show Put _ _ _ _ _ _ _ _
        rw [e]
        exact ⟨rfl, u, HR.out, HS.out⟩
      clear HR HS HT HLL
      go_wp2_with fail
      all_goals exact bodyPost_ret (v := .tuple #[]) (by simp [results, Try.results62, go_sem]) rfl FE.out
set_option maxHeartbeats 8000000 in
theorem prunsW {base B : Nat} {w : World} {v : Value} {l : List UInt8} {bad : Bool} (h : Wr base w B v l bad) (a : Option Addr) (c : Nat) (xs : List Run) (hq : RStays w B v a xs) (hn9 : xs.length ≤ 9223372036854775807) (hl : l.length ≤ 295000000) (hl2 : xs.length ≤ 255 → l.length + 1 + (xs.map sR).sum ≤ 290000000) : Calls Try.prog 41 #[.pointer (some ⟨B, 0, none⟩), .slice a xs.length c, .func (.func 42) #[.pointer (some ⟨B, 0, none⟩)] #[]] w (Put base w B v (listW runW xs (l, bad)).1 (listW runW xs (l, bad)).2) := by
  obtain ⟨n, hn⟩ : ∃ n, n = xs.length := ⟨_, rfl⟩
  obtain ⟨q0, hq0⟩ : ∃ q0, q0 = byteW xs.length (l, bad) := ⟨_, rfl⟩
  have C0 := Lib.hid (pbyteW_any h (xs.length : Int) (by omega))
  have HL : q0.2 = false → q0.1.length + (xs.map sR).sum ≤ 290000000 := fun h9 => by
    have h8 : xs.length ≤ 255 := by
      rw [hq0] at h9
      unfold byteW at h9
      split at h9
      · omega
      · cases h9
    have := byteW_len xs.length (l, bad)
    rw [← hq0] at this
    have := hl2 h8
    simp only at *
    omega
  have CI : Hid (∀ w1 v1, Wr base w1 B v1 q0.1 q0.2 → Stp w B v w1 v1 → Calls Try.prog 62 #[.pointer (some ⟨B, 0, none⟩), .slice a n c, .func (.func 42) #[.pointer (some ⟨B, 0, none⟩)] #[]] w1 (Put base w B v (listW runW xs (l, bad)).1 (listW runW xs (l, bad)).2)) := fun w1 v1 k s => by
    rw [hn]
    have e : listW runW xs (l, bad) = foldW runW xs q0 := by rw [hq0]; rfl
    rw [e]
    exact (prunsW0 k a c xs (RStays.on hq s) hn9 HL).mono fun _ _ hh => Put.then s hh
  rw [← hq0] at C0
  generalize listW runW xs (l, bad) = QF at *
  rw [← hn] at C0 hn9 ⊢
  clear h hl hl2 hq hn hq0 HL
  go_enter Try.func41, Try.ntmps41
  go_wp2_with fail
  refine C0.out.mono ?_
  rintro e w1 ⟨rfl, v1, K1, S1⟩
  have C1 := Lib.hid (CI.out w1 v1 K1 S1)
  clear K1 S1 C0 CI
  go_wp2_with fail
  refine C1.out.mono ?_
  rintro e w2 ⟨rfl, H⟩
  have HH := Lib.hid H
  clear H C1
  go_wp2_with fail
  all_goals exact bodyPost_ret (v := .tuple #[]) (by simp [results, Try.results41, go_sem]) rfl ⟨rfl, HH.out⟩
set_option maxHeartbeats 8000000 in
theorem pentsW0 {base B : Nat} {w : World} {v : Value} {q0 : List UInt8 × Bool} (h : Wr base w B v q0.1 q0.2) (a : Option Addr) (c : Nat) (xs : List Ent) (hq : EStays w B v a xs) (hn9 : xs.length ≤ 9223372036854775807) (hl : q0.2 = false → q0.1.length + (xs.map sE).sum ≤ 290000000) : Calls Try.prog 63 #[.pointer (some ⟨B, 0, none⟩), .slice a xs.length c, .func (.func 44) #[.pointer (some ⟨B, 0, none⟩)] #[]] w (Put base w B v (foldW entW xs q0).1 (foldW entW xs q0).2) := by
  obtain ⟨n, hn⟩ : ∃ n, n = xs.length := ⟨_, rfl⟩
  obtain ⟨QF, hQF⟩ : ∃ QF, QF = foldW entW xs q0 := ⟨_, rfl⟩
  have HF : Hid (QF = foldW entW xs q0) := hQF
  have HL : Hid ((q0.2 = false → q0.1.length + (xs.map sE).sum ≤ 290000000) ∧ n = xs.length) := ⟨hl, hn⟩
  rw [← hQF]
  rw [← hn] at hn9 ⊢
  have HQ := Lib.hid hq
  have HK1 := Lib.hid h
  have HS1 : Hid (Stp w B v w v) := Stp.refl _ _ _
  clear h hl hq hn hQF
  go_enter Try.func63, Try.ntmps63
  go_wp2_with fail
  go_loopg [10] n (fun gg i_ wr => ∃ (i : Nat) (u : Value) (q : List UInt8 × Bool), i ≤ n ∧ n - i ≤ gg ∧ i_ = .int .i64 (i : Nat) ∧ Hid (Wr base wr B u q.1 q.2) ∧ Hid (Stp w B v wr u) ∧ Hid (QF = foldW entW (xs.drop i) q) ∧ Hid (q.2 = false → q.1.length + ((xs.drop i).map sE).sum ≤ 290000000))
  case atStart => exact ⟨0, v, q0, by omega, by omega, rfl, HK1, HS1, HF, HL.out.1⟩
  case round =>
    obtain ⟨i, u, ⟨ql, qb⟩, hi, hg, rfl, HR, HS, HT, HLL⟩ := hrel
    by_cases hin : i < n
    · have iw : ((i : Nat) : Int) < (n : Int) := by omega
      have n0 : (0 : Int) ≤ ((i : Nat) : Int) := by omega
      have hix : i < xs.length := by rw [← HL.out.2]; exact hin
      have HN : Hid (QF = if qb = true then (ql, qb) else foldW entW (xs.drop (i + 1)) (entW xs[i] (ql, qb))) := by show _ = _; rw [HT.out]; exact fold_next hix _
      have HLN : Hid (qb = false → ql.length + (sE xs[i] + ((xs.drop (i + 1)).map sE).sum) ≤ 290000000) := fun h9 => by rw [← drop_sum sE hix]; exact HLL.out h9
      obtain ⟨b, off, sa, sc, la, lc, rfl, hc0, hc1, hc2, hc3, hc4, hs1, hs2, hn1, hn2⟩ := HQ.out _ _ HS.out i hix
      generalize xs[i] = x at *
      obtain ⟨xu, xo, xs_, xS, xL⟩ := x
      simp only at hc0 hc1 hc2 hc3 hc4 hs1 hs2 hn1 hn2
      have HSS := Lib.hid hs1
      have HSL := Lib.hid hs2
      have HNN := Lib.hid (And.intro hn1 hn2)
      clear hs1 hs2 hn1 hn2
      obtain ⟨ns, hns⟩ : ∃ ns, ns = xS.length := ⟨_, rfl⟩
      obtain ⟨nl, hnl⟩ : ∃ nl, nl = xL.length := ⟨_, rfl⟩
      rw [← hns] at hc3
      rw [← hnl] at hc4
      have HNS := Lib.hid hns
      have HNL := Lib.hid hnl
      clear hns hnl
      obtain ⟨Wa, hWa⟩ : ∃ Wa, Wa = wr.alloc (.cells #[.int .i64 xu, .int .i64 xo, .int .i64 xs_, .slice sa ns sc, .slice la nl lc] 119) := ⟨_, rfl⟩
      have bA : Below wr.heap.size wr Wa := by rw [hWa]; exact (box1 wr _ _).1
      have zA : Wa.heap[wr.heap.size]? = some (.cells #[.int .i64 xu, .int .i64 xo, .int .i64 xs_, .slice sa ns sc, .slice la nl lc] 119 (0, 0)) := by rw [hWa]; exact (box1 wr _ _).2.1
      have KA := HR.out.below bA
      have HWA := Lib.hid hWa
      have wa1 : Wa.cell? ⟨B, 1, none⟩ = some (.bool qb) := KA.cells.2.1
      have HSA : Hid (Stp w B v Wa u) := HS.out.trans (HR.out.first bA (Stp.refl _ _ _))
      obtain ⟨m0, m1, m2, m3, m4⟩ := five_cells zA
      cases qb with
      | true =>
        have FE : Hid (Put base w B v QF.1 QF.2 (.returned (.tuple #[])) Wa) := by
          have e := HN.out
          rw [if_pos rfl] at e
          show Put _ _ _ _ _ _ _ _
          rw [e]
          exact ⟨rfl, u, KA, HSA.out⟩
        clear HN HT HR HS HLN HLL KA HSA zA hWa bA
        go_upto_region 3 with fail
        rw [← HWA.out]
        go_wp2_with fail
        all_goals exact bodyPost_ret (v := .tuple #[]) (by simp [results, Try.results63, go_sem]) rfl FE.out
      | false =>
        have C2 := Lib.hid (pent_put KA ⟨xu, xo, xs_, xS, xL⟩ sa sc la lc (HSS.out.on (HR.out.first bA (Stp.refl _ _ _))) (HSL.out.on (HR.out.first bA (Stp.refl _ _ _))) HNN.out (Nat.le_trans (Nat.add_le_add_left (Nat.le_add_right _ _) _) (HLN.out rfl)))
        have HN2 : Hid (QF = foldW entW (xs.drop (i + 1)) (entW ⟨xu, xo, xs_, xS, xL⟩ (ql, false))) := HN.out
        have HLN2 : Hid ((entW ⟨xu, xo, xs_, xS, xL⟩ (ql, false)).2 = false → (entW ⟨xu, xo, xs_, xS, xL⟩ (ql, false)).1.length + ((xs.drop (i + 1)).map sE).sum ≤ 290000000) := fun _ => by
          have h1 := entW_len ⟨xu, xo, xs_, xS, xL⟩ (ql, false)
          have h2 := HLN.out rfl
          simp only at h1 h2 ⊢
          omega
        rw [show (⟨xu, xo, xs_, xS, xL⟩ : Ent).S.length = ns from HNS.out.symm, show (⟨xu, xo, xs_, xS, xL⟩ : Ent).L.length = nl from HNL.out.symm] at C2
        obtain ⟨q2, hq2⟩ : ∃ q2, q2 = entW ⟨xu, xo, xs_, xS, xL⟩ (ql, false) := ⟨_, rfl⟩
        rw [← hq2] at HN2 HLN2
        have C3 : Hid (Calls Try.prog 44 #[.pointer (some ⟨B, 0, none⟩), .agg #[.int .i64 xu, .int .i64 xo, .int .i64 xs_, .slice sa ns sc, .slice la nl lc]] Wa (Put base Wa B u q2.1 q2.2)) := by rw [hq2]; exact C2.out
        clear HN HT HR HS HLN HLL KA C2 hq2 zA hWa bA
        go_upto_region 3 with fail
        rw [← HWA.out]
        go_wp2_with fail
        refine C3.out.mono ?_
        rintro e w5 ⟨rfl, u5, K5, S5⟩
        have HK5 := Lib.hid K5
        have HS5 := Lib.hid (HSA.out.trans S5)
        clear K5 S5 C3 HSA
        go_wp2_with fail
        go_roundg (n - (i + 1))
        case measure => omega
        case rel => exact ⟨i + 1, u5, q2, by omega, Nat.le_refl _, by go_num, HK5, HS5, HN2, HLN2⟩
    · obtain rfl : i = n := by omega
      have iw : ¬ ((i : Nat) : Int) < ((i : Nat) : Int) := by omega
      have FE : Hid (Put base w B v QF.1 QF.2 (.returned (.tuple #[])) wr) := by
        have e := HT.out
        rw [List.drop_of_length_le (by rw [← HL.out.2]; exact Nat.le_refl _)] at e
        show Put _ _ _ _ _ _ _ _
        rw [e]
        exact ⟨rfl, u, HR.out, HS.out⟩
      clear HR HS HT HLL
      go_wp2_with fail
      all_goals exact bodyPost_ret (v := .tuple #[]) (by simp [results, Try.results63, go_sem]) rfl FE.out
set_option maxHeartbeats 8000000 in
theorem pentsW {base B : Nat} {w : World} {v : Value} {l : List UInt8} {bad : Bool} (h : Wr base w B v l bad) (a : Option Addr) (c : Nat) (xs : List Ent) (hq : EStays w B v a xs) (hn9 : xs.length ≤ 9223372036854775807) (hl : l.length ≤ 295000000) (hl2 : xs.length ≤ 255 → l.length + 1 + (xs.map sE).sum ≤ 290000000) : Calls Try.prog 43 #[.pointer (some ⟨B, 0, none⟩), .slice a xs.length c, .func (.func 44) #[.pointer (some ⟨B, 0, none⟩)] #[]] w (Put base w B v (listW entW xs (l, bad)).1 (listW entW xs (l, bad)).2) := by
  obtain ⟨n, hn⟩ : ∃ n, n = xs.length := ⟨_, rfl⟩
  obtain ⟨q0, hq0⟩ : ∃ q0, q0 = byteW xs.length (l, bad) := ⟨_, rfl⟩
  have C0 := Lib.hid (pbyteW_any h (xs.length : Int) (by omega))
  have HL : q0.2 = false → q0.1.length + (xs.map sE).sum ≤ 290000000 := fun h9 => by
    have h8 : xs.length ≤ 255 := by
      rw [hq0] at h9
      unfold byteW at h9
      split at h9
      · omega
      · cases h9
    have := byteW_len xs.length (l, bad)
    rw [← hq0] at this
    have := hl2 h8
    simp only at *
    omega
  have CI : Hid (∀ w1 v1, Wr base w1 B v1 q0.1 q0.2 → Stp w B v w1 v1 → Calls Try.prog 63 #[.pointer (some ⟨B, 0, none⟩), .slice a n c, .func (.func 44) #[.pointer (some ⟨B, 0, none⟩)] #[]] w1 (Put base w B v (listW entW xs (l, bad)).1 (listW entW xs (l, bad)).2)) := fun w1 v1 k s => by
    rw [hn]
    have e : listW entW xs (l, bad) = foldW entW xs q0 := by rw [hq0]; rfl
    rw [e]
    exact (pentsW0 k a c xs (EStays.on hq s) hn9 HL).mono fun _ _ hh => Put.then s hh
  rw [← hq0] at C0
  generalize listW entW xs (l, bad) = QF at *
  rw [← hn] at C0 hn9 ⊢
  clear h hl hl2 hq hn hq0 HL
  go_enter Try.func43, Try.ntmps43
  go_wp2_with fail
  refine C0.out.mono ?_
  rintro e w1 ⟨rfl, v1, K1, S1⟩
  have C1 := Lib.hid (CI.out w1 v1 K1 S1)
  clear K1 S1 C0 CI
  go_wp2_with fail
  refine C1.out.mono ?_
  rintro e w2 ⟨rfl, H⟩
  have HH := Lib.hid H
  clear H C1
  go_wp2_with fail
  all_goals exact bodyPost_ret (v := .tuple #[]) (by simp [results, Try.results43, go_sem]) rfl ⟨rfl, HH.out⟩
end Go.Proofs.Ythegkookfpnbeaa.Wds
