/- Words: the program's writer: what is asked. -/
import Derived.Test.YthegkookfpnbeaaNa
import Derived.Test.YthegkookfpnbeaaGp
import Derived.StillTailTactics
import Derived.Deep.RegionHeld3
set_option linter.unusedVariables false
set_option linter.unusedSimpArgs false
set_option maxRecDepth 100000
namespace Go.Proofs.Ythegkookfpnbeaa.Wds
open Go.RowKit Go.Lib Go.Proofs.Ythegkookfpnbeaa.Bx Go.Proofs.Ythegkookfpnbeaa.Frm

theorem still_tailW {P : Program} {id : Nat} {Q : Exit → Act → World → Prop} {a : Act} {w : World} {l : List Oper} (n : Nat) (hm : P.follows .mixedOrders = true) (hB : Region.lexTailB .any l.toArray n = true)
    (h : wpStill P l.toArray w.drew (fun a' => wpList P l.toArray Q (l.drop n) a' w.drew) (l.take n) a) : (Code.region id l.toArray true).wp P Q a w := wp_region_still_tail n hm hB h
theorem Wr.drew {base B : Nat} {w : World} {v : Value} {l : List UInt8} {bad : Bool} (h : Wr base w B v l bad) : Wr base w.drew B v l bad := h.below (Below.drew (Below.refl _ _))
theorem Put.undrew {base B : Nat} {w w' : World} {v : Value} {l : List UInt8} {bad : Bool} {e : Ending} (h : Put base w.drew B v l bad e w') : Put base w B v l bad e w' := by
  obtain ⟨e1, v1, h1, h2⟩ := h
  exact ⟨e1, v1, h1, ⟨h2.os, h2.tape, h2.output, h2.size, h2.block, h2.new⟩⟩
theorem drew_cell {w : World} {p : Addr} {x : Value} (h : w.cell? p = some x) : w.drew.cell? p = some x := h
/-- A text put. -/
def tw (t : List UInt8) (q : List UInt8 × Bool) : List UInt8 × Bool := if t.length ≤ 65535 then (q.1 ++ textX q.2 t, q.2) else (q.1, true)
theorem tw_len (t : List UInt8) (q : List UInt8 × Bool) : (tw t q).1.length ≤ q.1.length + 65537 := by
  unfold tw
  split
  · rw [List.length_append]; have := textX_len q.2 t; omega
  · show q.1.length ≤ _; omega
theorem ptext_any {base B : Nat} {w : World} {v : Value} {l : List UInt8} {bad : Bool} (h : Wr base w B v l bad) (t : List UInt8) (hl : l.length ≤ 300000000) (ht : t.length ≤ 9223372036854775807) : Calls Try.prog 24 #[.pointer (some ⟨B, 0, none⟩), .string (mkB t)] w (Put base w B v (tw t (l, bad)).1 (tw t (l, bad)).2) := by
  unfold tw
  by_cases h1 : t.length ≤ 65535
  · rw [if_pos h1]; exact ptext_yes h t h1 hl
  · rw [if_neg h1]; exact ptext_no h t (by omega) ht
theorem stays_new {base B : Nat} {w W : World} {v : Value} {l : List UInt8} {bad : Bool} (q : Wr base w B v l bad) (hb : Below w.heap.size w W) (cs : Array Value) (xs : List Int) (hcs : cs.toList = xs.map (Value.int .i64)) : Stays (W.alloc (.cells cs 3)) B v (some ⟨W.heap.size, 0, none⟩) xs := fun w' v' s j hj => by
  obtain ⟨b1, p1, l1⟩ := box1 W cs 3
  have z := Stp.keep q s (b := W.heap.size) hb.size (by omega) p1
  refine ⟨_, _, rfl, ?_⟩
  rw [cell_of_row _ _ _ _ _ _ z, Nat.zero_add, ← Array.getElem?_toList, hcs, List.getElem?_map, List.getElem?_eq_getElem hj, List.getD_eq_getElem?_getD, List.getElem?_eq_getElem hj]
  rfl
theorem stays_drew {w : World} {B : Nat} {v : Value} {a : Option Addr} {xs : List Int} (h : Stays w B v a xs) : Stays w.drew B v a xs := fun w' v' s => h w' v' ⟨s.os, s.tape, s.output, s.size, s.block, s.new⟩
theorem Put.then {base B : Nat} {w w1 w2 : World} {v v1 : Value} {l : List UInt8} {bad : Bool} {e : Ending} (s : Stp w B v w1 v1) (h : Put base w1 B v1 l bad e w2) : Put base w B v l bad e w2 := by
  obtain ⟨e1, v2, h1, h2⟩ := h
  exact ⟨e1, v2, h1, s.trans h2⟩
set_option maxHeartbeats 4000000 in
theorem pask1 {base B : Nat} {w : World} {v : Value} {l : List UInt8} {bad : Bool} (h : Wr base w B v l bad) (p : Pl) (hl : l.length ≤ 200000000) (ht : p.text.length ≤ 9223372036854775807 ∧ p.more.length ≤ 9223372036854775807) : Calls Try.prog 26 #[.pointer (some ⟨B, 0, none⟩), .iface 64 (.agg #[.string (mkB p.text), .string (mkB p.more)])] w (Put base w B v (tw p.more (tw p.text (l, bad))).1 (tw p.more (tw p.text (l, bad))).2) := by
  obtain ⟨B1, P1, L1⟩ := box1 w #[.string (mkB p.text), .string (mkB p.more)] 64
  obtain ⟨Wa, hWa⟩ : ∃ Wa, Wa = w.alloc (.cells #[.string (mkB p.text), .string (mkB p.more)] 64) := ⟨_, rfl⟩
  rw [← hWa] at B1 P1 L1
  have HWA := Lib.hid hWa
  have yes := is1 (.agg #[.string (mkB p.text), .string (mkB p.more)])
  have HT := Lib.hid ht
  have HL := Lib.hid hl
  have a0 : Wa.cell? ⟨w.heap.size, 0, none⟩ = some (.string (mkB p.text)) := by rw [cell_of_row _ _ _ _ _ _ P1]; rfl
  have a1 : Wa.cell? ⟨w.heap.size, 1, none⟩ = some (.string (mkB p.more)) := by rw [cell_of_row _ _ _ _ _ _ P1]; rfl
  have HW := Lib.hid h
  have HP1 := Lib.hid P1
  have HL1 := Lib.hid L1
  have HB1 := Lib.hid B1
  have C := Lib.hid ((ptext_any (h.below B1).drew p.text (by omega) ht.1).mono fun _ _ => Put.undrew)
  clear h hWa B1 P1 L1 ht hl
  go_enter Try.func26, Try.ntmps26
  go_upto_region 5 with fail
  rw [← HWA.out]
  refine still_tailW 5 (by kernel_rfl) (by kernel_rfl) ?_
  simp only [List.take_succ_cons, List.take_zero, List.drop_succ_cons, List.drop_zero]
  have d0 := drew_cell a0
  generalize Wa.drew = Wd at *
  repeat still_step
  refine wpStill_nil ?_
  clear d0
  go_wp2_with fail
  refine C.out.mono ?_
  rintro e w5 ⟨rfl, v5, K5, S5⟩
  have S5' := HW.out.first HB1.out S5
  have Z5 : w5.heap[w.heap.size]? = some (.cells #[.string (mkB p.text), .string (mkB p.more)] 64 (0, 0)) := Stp.keep HW.out S5 (Nat.le_refl _) (by have := HL1.out; omega) HP1.out
  clear a0 a1
  have a0 : w5.cell? ⟨w.heap.size, 0, none⟩ = some (.string (mkB p.text)) := by rw [cell_of_row _ _ _ _ _ _ Z5]; rfl
  have a1 : w5.cell? ⟨w.heap.size, 1, none⟩ = some (.string (mkB p.more)) := by rw [cell_of_row _ _ _ _ _ _ Z5]; rfl
  have C2 := Lib.hid ((ptext_any K5.drew p.more (by have := tw_len p.text (l, bad); have := HL.out; simp only at *; omega) HT.out.2).mono fun _ _ => Put.undrew)
  have HS5 := Lib.hid S5'
  have HZ5 := Lib.hid Z5
  clear K5 S5 S5' Z5 C
  go_upto_region 6 with fail
  refine still_tailW 5 (by kernel_rfl) (by kernel_rfl) ?_
  simp only [List.take_succ_cons, List.take_zero, List.drop_succ_cons, List.drop_zero]
  have d1 := drew_cell a1
  generalize w5.drew = We at *
  repeat still_step
  refine wpStill_nil ?_
  clear d1
  go_wp2_with fail
  refine C2.out.mono ?_
  rintro e w6 ⟨rfl, v6, K6, S6⟩
  have FE : Hid (Put base w B v (tw p.more (tw p.text (l, bad))).1 (tw p.more (tw p.text (l, bad))).2 (.returned (.tuple #[])) w6) := ⟨rfl, v6, K6, HS5.out.trans S6⟩
  clear K6 S6 C2
  go_wp2_with fail
  all_goals exact bodyPost_ret (v := .tuple #[]) (by simp [results, Try.results26, go_sem]) rfl FE.out
set_option maxHeartbeats 4000000 in
theorem pask2 {base B : Nat} {w : World} {v : Value} {l : List UInt8} {bad : Bool} (h : Wr base w B v l bad) (p : Pl) (hl : l.length ≤ 200000000) (ht : p.text.length ≤ 9223372036854775807 ∧ p.more.length ≤ 9223372036854775807) : Calls Try.prog 26 #[.pointer (some ⟨B, 0, none⟩), .iface 28 (.agg #[])] w (Put base w B v l bad) := by
  obtain ⟨B1, P1, L1⟩ := box1 w #[] 28
  obtain ⟨Wa, hWa⟩ : ∃ Wa, Wa = w.alloc (.cells #[] 28) := ⟨_, rfl⟩
  rw [← hWa] at B1 P1 L1
  have HWA := Lib.hid hWa
  have yes := is2 (.agg #[])
  have n1 := fun w => no1 28 (.agg #[]) w (by decide)
  have HT := Lib.hid ht
  have HL := Lib.hid hl
  have HW := Lib.hid h
  have HP1 := Lib.hid P1
  have HL1 := Lib.hid L1
  have HB1 := Lib.hid B1
  have FE : Hid (Put base w B v l bad (.returned (.tuple #[])) Wa) := ⟨rfl, v, h.below B1, h.first B1 (Stp.refl _ _ _)⟩
  rw [hWa] at FE
  clear h hWa B1 P1 L1 HW HP1 HL1 HB1 HWA ht hl
  go_enter Try.func26, Try.ntmps26
  go_wp2_with fail
  all_goals exact bodyPost_ret (v := .tuple #[]) (by simp [results, Try.results26, go_sem]) rfl FE.out
set_option maxHeartbeats 4000000 in
theorem pask3 {base B : Nat} {w : World} {v : Value} {l : List UInt8} {bad : Bool} (h : Wr base w B v l bad) (p : Pl) (hl : l.length ≤ 200000000) (ht : p.text.length ≤ 9223372036854775807 ∧ p.more.length ≤ 9223372036854775807) : Calls Try.prog 26 #[.pointer (some ⟨B, 0, none⟩), .iface 66 (.agg #[.int .i64 (nn p 0)])] w (Put base w B v (l ++ [nn p 0].flatMap numL) bad) := by
  obtain ⟨B1, P1, L1⟩ := box1 w #[.int .i64 (nn p 0)] 66
  obtain ⟨Wa, hWa⟩ : ∃ Wa, Wa = w.alloc (.cells #[.int .i64 (nn p 0)] 66) := ⟨_, rfl⟩
  rw [← hWa] at B1 P1 L1
  have HWA := Lib.hid hWa
  have yes := is3 (.agg #[.int .i64 (nn p 0)])
  have n1 := fun w => no1 66 (.agg #[.int .i64 (nn p 0)]) w (by decide)
  have n2 := fun w => no2 66 (.agg #[.int .i64 (nn p 0)]) w (by decide)
  have HT := Lib.hid ht
  have HL := Lib.hid hl
  have a0 : Wa.cell? ⟨w.heap.size, 0, none⟩ = some (.int .i64 (nn p 0)) := by rw [cell_of_row _ _ _ _ _ _ P1]; rfl
  have HW := Lib.hid h
  have HP1 := Lib.hid P1
  have HL1 := Lib.hid L1
  have HB1 := Lib.hid B1
  have C := Lib.hid ((pnum_any (h.below B1).drew (nn p 0) (by omega)).mono fun _ _ => Put.undrew)
  clear h hWa B1 P1 L1 ht hl
  go_enter Try.func26, Try.ntmps26
  go_upto_region 11 with fail
  rw [← HWA.out]
  refine still_tailW 5 (by kernel_rfl) (by kernel_rfl) ?_
  simp only [List.take_succ_cons, List.take_zero, List.drop_succ_cons, List.drop_zero]
  have d0 := drew_cell a0
  generalize Wa.drew = Wd at *
  repeat still_step
  refine wpStill_nil ?_
  clear d0
  go_wp2_with fail
  refine C.out.mono ?_
  rintro e w5 ⟨rfl, v5, K5, S5⟩
  rw [show numL (nn p 0) = [nn p 0].flatMap numL from (by simp)] at K5
  have FE : Hid (Put base w B v (l ++ [nn p 0].flatMap numL) bad (.returned (.tuple #[])) w5) := ⟨rfl, v5, K5, HW.out.first HB1.out S5⟩
  clear K5 S5 C
  go_wp2_with fail
  all_goals exact bodyPost_ret (v := .tuple #[]) (by simp [results, Try.results26, go_sem]) rfl FE.out
set_option maxHeartbeats 4000000 in
theorem pask4 {base B : Nat} {w : World} {v : Value} {l : List UInt8} {bad : Bool} (h : Wr base w B v l bad) (p : Pl) (hl : l.length ≤ 200000000) (ht : p.text.length ≤ 9223372036854775807 ∧ p.more.length ≤ 9223372036854775807) : Calls Try.prog 26 #[.pointer (some ⟨B, 0, none⟩), .iface 68 (.agg #[.int .i64 (nn p 0), .int .i64 (nn p 1), .int .i64 (nn p 2), .string (mkB p.text)])] w (Put base w B v (tw p.text ((l ++ [nn p 0, nn p 1, nn p 2].flatMap numL), bad)).1 (tw p.text ((l ++ [nn p 0, nn p 1, nn p 2].flatMap numL), bad)).2) := by
  obtain ⟨B1, P1, L1⟩ := box1 w #[.int .i64 (nn p 0), .int .i64 (nn p 1), .int .i64 (nn p 2), .string (mkB p.text)] 68
  obtain ⟨Wa, hWa⟩ : ∃ Wa, Wa = w.alloc (.cells #[.int .i64 (nn p 0), .int .i64 (nn p 1), .int .i64 (nn p 2), .string (mkB p.text)] 68) := ⟨_, rfl⟩
  rw [← hWa] at B1 P1 L1
  have HWA := Lib.hid hWa
  have yes := is4 (.agg #[.int .i64 (nn p 0), .int .i64 (nn p 1), .int .i64 (nn p 2), .string (mkB p.text)])
  have n1 := fun w => no1 68 (.agg #[.int .i64 (nn p 0), .int .i64 (nn p 1), .int .i64 (nn p 2), .string (mkB p.text)]) w (by decide)
  have n2 := fun w => no2 68 (.agg #[.int .i64 (nn p 0), .int .i64 (nn p 1), .int .i64 (nn p 2), .string (mkB p.text)]) w (by decide)
  have n3 := fun w => no3 68 (.agg #[.int .i64 (nn p 0), .int .i64 (nn p 1), .int .i64 (nn p 2), .string (mkB p.text)]) w (by decide)
  have HT := Lib.hid ht
  have HL := Lib.hid hl
  have a0 : Wa.cell? ⟨w.heap.size, 0, none⟩ = some (.int .i64 (nn p 0)) := by rw [cell_of_row _ _ _ _ _ _ P1]; rfl
  have a1 : Wa.cell? ⟨w.heap.size, 1, none⟩ = some (.int .i64 (nn p 1)) := by rw [cell_of_row _ _ _ _ _ _ P1]; rfl
  have a2 : Wa.cell? ⟨w.heap.size, 2, none⟩ = some (.int .i64 (nn p 2)) := by rw [cell_of_row _ _ _ _ _ _ P1]; rfl
  have a3 : Wa.cell? ⟨w.heap.size, 3, none⟩ = some (.string (mkB p.text)) := by rw [cell_of_row _ _ _ _ _ _ P1]; rfl
  have HW := Lib.hid h
  have HP1 := Lib.hid P1
  have HL1 := Lib.hid L1
  have HB1 := Lib.hid B1
  obtain ⟨B2, P2, L2⟩ := box1 Wa #[.int .i64 (nn p 0), .int .i64 (nn p 1), .int .i64 (nn p 2)] 3
  obtain ⟨Wb, hWb⟩ : ∃ Wb, Wb = (Wa.alloc (.cells #[.int .i64 (nn p 0), .int .i64 (nn p 1), .int .i64 (nn p 2)] 3)).drew := ⟨_, rfl⟩
  have ST := stays_drew (stays_new h B1 #[.int .i64 (nn p 0), .int .i64 (nn p 1), .int .i64 (nn p 2)] [nn p 0, nn p 1, nn p 2] rfl)
  replace B2 := Below.drew B2
  rw [← hWb] at B2 ST
  have L2 : Wb.heap.size = Wa.heap.size + 1 := by rw [hWb]; exact L2
  have B12 := below_on B1 B2
  have C := Lib.hid (pnums_any (h.below B12) _ 3 [nn p 0, nn p 1, nn p 2] ST (by show l.length + 8 * 3 ≤ 300000000; omega))
  have HWB : Hid (Wb = (Wa.alloc (.cells #[.int .i64 (nn p 0), .int .i64 (nn p 1), .int .i64 (nn p 2)] 3)).drew) := hWb
  have HLA : Hid (Wa.heap.size = w.heap.size + 1) := L1
  have HLB : Hid (Wb.heap.size = w.heap.size + 1 + 1) := by rw [← L1]; exact L2
  have HQ1 : Hid (Wb.heap[w.heap.size]? = some (.cells #[.int .i64 (nn p 0), .int .i64 (nn p 1), .int .i64 (nn p 2), .string (mkB p.text)] 68 (0, 0))) := (B2.block _ (by omega)).trans P1
  have HB12 := Lib.hid B12
  clear h hWa B1 P1 L1 ht hl B2 P2 L2 hWb ST B12
  go_enter Try.func26, Try.ntmps26
  go_upto_region 14 with fail
  rw [← HWA.out]
  have KR : Hid (Below Wa.heap.size Wa Wa) := Below.refl _ _
  have BX : Hid (∀ w', Below Wa.heap.size Wa w' → w'.cell? ⟨w.heap.size, 0, none⟩ = some (.int .i64 (nn p 0)) ∧ w'.cell? ⟨w.heap.size, 1, none⟩ = some (.int .i64 (nn p 1)) ∧ w'.cell? ⟨w.heap.size, 2, none⟩ = some (.int .i64 (nn p 2))) := fun w' hb => by
    have zz : w'.heap[w.heap.size]? = _ := (hb.block _ (by rw [HLA.out]; omega)).trans HP1.out
    exact ⟨by rw [cell_of_row _ _ _ _ _ _ zz]; rfl, by rw [cell_of_row _ _ _ _ _ _ zz]; rfl, by rw [cell_of_row _ _ _ _ _ _ zz]; rfl⟩
  go_region_held3 (fun w' => w'.cell? ⟨w.heap.size, 0, none⟩ = some (.int .i64 (nn p 0)) ∧ w'.cell? ⟨w.heap.size, 1, none⟩ = some (.int .i64 (nn p 1)) ∧ w'.cell? ⟨w.heap.size, 2, none⟩ = some (.int .i64 (nn p 2)))
    (first
      | exact k5.out
      | (refine BX.out _ ?_; focus ((repeat first | assumption | exact KR.out | apply Below.drew | apply below_drews | refine Below.alloc ?_ (Nat.le_refl _) _); done)))
    (first
      | (go_at_call 40; rw [← HWB.out]; (refine C.out.mono ?_); rintro e w5 ⟨rfl, v5, K5, S5⟩; have Z5 : w5.heap[w.heap.size]? = some (.cells #[.int .i64 (nn p 0), .int .i64 (nn p 1), .int .i64 (nn p 2), .string (mkB p.text)] 68 (0, 0)) := Stp.keep HW.out S5 (Nat.le_refl _) (by have := HLB.out; omega) HQ1.out; have k5 : Hid (w5.cell? ⟨w.heap.size, 0, none⟩ = some (.int .i64 (nn p 0)) ∧ w5.cell? ⟨w.heap.size, 1, none⟩ = some (.int .i64 (nn p 1)) ∧ w5.cell? ⟨w.heap.size, 2, none⟩ = some (.int .i64 (nn p 2))) := ⟨by rw [cell_of_row _ _ _ _ _ _ Z5]; rfl, by rw [cell_of_row _ _ _ _ _ _ Z5]; rfl, by rw [cell_of_row _ _ _ _ _ _ Z5]; rfl⟩))
  have S5' := HW.out.first HB12.out S5
  clear a0 a1 a2 a3
  have a0 : w5.cell? ⟨w.heap.size, 0, none⟩ = some (.int .i64 (nn p 0)) := by rw [cell_of_row _ _ _ _ _ _ Z5]; rfl
  have a1 : w5.cell? ⟨w.heap.size, 1, none⟩ = some (.int .i64 (nn p 1)) := by rw [cell_of_row _ _ _ _ _ _ Z5]; rfl
  have a2 : w5.cell? ⟨w.heap.size, 2, none⟩ = some (.int .i64 (nn p 2)) := by rw [cell_of_row _ _ _ _ _ _ Z5]; rfl
  have a3 : w5.cell? ⟨w.heap.size, 3, none⟩ = some (.string (mkB p.text)) := by rw [cell_of_row _ _ _ _ _ _ Z5]; rfl
  have C2 := Lib.hid ((ptext_any K5.drew p.text (by rw [List.length_append, pnums_len]; have := HL.out; simp only [List.length_cons, List.length_nil]; omega) HT.out.1).mono fun _ _ => Put.undrew)
  have HS5 := Lib.hid S5'
  have HZ5 := Lib.hid Z5
  clear K5 S5 S5' Z5 C
  go_upto_region 15 with fail
  refine still_tailW 5 (by kernel_rfl) (by kernel_rfl) ?_
  simp only [List.take_succ_cons, List.take_zero, List.drop_succ_cons, List.drop_zero]
  have d3 := drew_cell a3
  generalize w5.drew = We at *
  repeat still_step
  refine wpStill_nil ?_
  clear d3
  go_wp2_with fail
  refine C2.out.mono ?_
  rintro e w6 ⟨rfl, v6, K6, S6⟩
  have FE : Hid (Put base w B v (tw p.text ((l ++ [nn p 0, nn p 1, nn p 2].flatMap numL), bad)).1 (tw p.text ((l ++ [nn p 0, nn p 1, nn p 2].flatMap numL), bad)).2 (.returned (.tuple #[])) w6) := ⟨rfl, v6, K6, HS5.out.trans S6⟩
  clear K6 S6 C2
  go_wp2_with fail
  all_goals exact bodyPost_ret (v := .tuple #[]) (by simp [results, Try.results26, go_sem]) rfl FE.out
set_option maxHeartbeats 4000000 in
theorem pask5 {base B : Nat} {w : World} {v : Value} {l : List UInt8} {bad : Bool} (h : Wr base w B v l bad) (p : Pl) (hl : l.length ≤ 200000000) (ht : p.text.length ≤ 9223372036854775807 ∧ p.more.length ≤ 9223372036854775807) : Calls Try.prog 26 #[.pointer (some ⟨B, 0, none⟩), .iface 70 (.agg #[.int .i64 (nn p 0), .int .i64 (nn p 1), .int .i64 (nn p 2), .int .i64 (nn p 3)])] w (Put base w B v (l ++ [nn p 0, nn p 1, nn p 2, nn p 3].flatMap numL) bad) := by
  obtain ⟨B1, P1, L1⟩ := box1 w #[.int .i64 (nn p 0), .int .i64 (nn p 1), .int .i64 (nn p 2), .int .i64 (nn p 3)] 70
  obtain ⟨Wa, hWa⟩ : ∃ Wa, Wa = w.alloc (.cells #[.int .i64 (nn p 0), .int .i64 (nn p 1), .int .i64 (nn p 2), .int .i64 (nn p 3)] 70) := ⟨_, rfl⟩
  rw [← hWa] at B1 P1 L1
  have HWA := Lib.hid hWa
  have yes := is5 (.agg #[.int .i64 (nn p 0), .int .i64 (nn p 1), .int .i64 (nn p 2), .int .i64 (nn p 3)])
  have n1 := fun w => no1 70 (.agg #[.int .i64 (nn p 0), .int .i64 (nn p 1), .int .i64 (nn p 2), .int .i64 (nn p 3)]) w (by decide)
  have n2 := fun w => no2 70 (.agg #[.int .i64 (nn p 0), .int .i64 (nn p 1), .int .i64 (nn p 2), .int .i64 (nn p 3)]) w (by decide)
  have n3 := fun w => no3 70 (.agg #[.int .i64 (nn p 0), .int .i64 (nn p 1), .int .i64 (nn p 2), .int .i64 (nn p 3)]) w (by decide)
  have n4 := fun w => no4 70 (.agg #[.int .i64 (nn p 0), .int .i64 (nn p 1), .int .i64 (nn p 2), .int .i64 (nn p 3)]) w (by decide)
  have HT := Lib.hid ht
  have HL := Lib.hid hl
  have a0 : Wa.cell? ⟨w.heap.size, 0, none⟩ = some (.int .i64 (nn p 0)) := by rw [cell_of_row _ _ _ _ _ _ P1]; rfl
  have a1 : Wa.cell? ⟨w.heap.size, 1, none⟩ = some (.int .i64 (nn p 1)) := by rw [cell_of_row _ _ _ _ _ _ P1]; rfl
  have a2 : Wa.cell? ⟨w.heap.size, 2, none⟩ = some (.int .i64 (nn p 2)) := by rw [cell_of_row _ _ _ _ _ _ P1]; rfl
  have a3 : Wa.cell? ⟨w.heap.size, 3, none⟩ = some (.int .i64 (nn p 3)) := by rw [cell_of_row _ _ _ _ _ _ P1]; rfl
  have HW := Lib.hid h
  have HP1 := Lib.hid P1
  have HL1 := Lib.hid L1
  have HB1 := Lib.hid B1
  obtain ⟨B2, P2, L2⟩ := box1 Wa #[.int .i64 (nn p 0), .int .i64 (nn p 1), .int .i64 (nn p 2), .int .i64 (nn p 3)] 3
  obtain ⟨Wb, hWb⟩ : ∃ Wb, Wb = (Wa.alloc (.cells #[.int .i64 (nn p 0), .int .i64 (nn p 1), .int .i64 (nn p 2), .int .i64 (nn p 3)] 3)).drew := ⟨_, rfl⟩
  have ST := stays_drew (stays_new h B1 #[.int .i64 (nn p 0), .int .i64 (nn p 1), .int .i64 (nn p 2), .int .i64 (nn p 3)] [nn p 0, nn p 1, nn p 2, nn p 3] rfl)
  replace B2 := Below.drew B2
  rw [← hWb] at B2 ST
  have L2 : Wb.heap.size = Wa.heap.size + 1 := by rw [hWb]; exact L2
  have B12 := below_on B1 B2
  have C := Lib.hid (pnums_any (h.below B12) _ 4 [nn p 0, nn p 1, nn p 2, nn p 3] ST (by show l.length + 8 * 4 ≤ 300000000; omega))
  have HWB : Hid (Wb = (Wa.alloc (.cells #[.int .i64 (nn p 0), .int .i64 (nn p 1), .int .i64 (nn p 2), .int .i64 (nn p 3)] 3)).drew) := hWb
  have HLA : Hid (Wa.heap.size = w.heap.size + 1) := L1
  have HLB : Hid (Wb.heap.size = w.heap.size + 1 + 1) := by rw [← L1]; exact L2
  have HQ1 : Hid (Wb.heap[w.heap.size]? = some (.cells #[.int .i64 (nn p 0), .int .i64 (nn p 1), .int .i64 (nn p 2), .int .i64 (nn p 3)] 70 (0, 0))) := (B2.block _ (by omega)).trans P1
  have HB12 := Lib.hid B12
  clear h hWa B1 P1 L1 ht hl B2 P2 L2 hWb ST B12
  go_enter Try.func26, Try.ntmps26
  go_upto_region 18 with fail
  rw [← HWA.out]
  have KR : Hid (Below Wa.heap.size Wa Wa) := Below.refl _ _
  have BX : Hid (∀ w', Below Wa.heap.size Wa w' → w'.cell? ⟨w.heap.size, 0, none⟩ = some (.int .i64 (nn p 0)) ∧ w'.cell? ⟨w.heap.size, 1, none⟩ = some (.int .i64 (nn p 1)) ∧ w'.cell? ⟨w.heap.size, 2, none⟩ = some (.int .i64 (nn p 2)) ∧ w'.cell? ⟨w.heap.size, 3, none⟩ = some (.int .i64 (nn p 3))) := fun w' hb => by
    have zz : w'.heap[w.heap.size]? = _ := (hb.block _ (by rw [HLA.out]; omega)).trans HP1.out
    exact ⟨by rw [cell_of_row _ _ _ _ _ _ zz]; rfl, by rw [cell_of_row _ _ _ _ _ _ zz]; rfl, by rw [cell_of_row _ _ _ _ _ _ zz]; rfl, by rw [cell_of_row _ _ _ _ _ _ zz]; rfl⟩
  go_region_held3 (fun w' => w'.cell? ⟨w.heap.size, 0, none⟩ = some (.int .i64 (nn p 0)) ∧ w'.cell? ⟨w.heap.size, 1, none⟩ = some (.int .i64 (nn p 1)) ∧ w'.cell? ⟨w.heap.size, 2, none⟩ = some (.int .i64 (nn p 2)) ∧ w'.cell? ⟨w.heap.size, 3, none⟩ = some (.int .i64 (nn p 3)))
    (first
      | exact k5.out
      | (refine BX.out _ ?_; focus ((repeat first | assumption | exact KR.out | apply Below.drew | apply below_drews | refine Below.alloc ?_ (Nat.le_refl _) _); done)))
    (first
      | (go_at_call 40; rw [← HWB.out]; (refine C.out.mono ?_); rintro e w5 ⟨rfl, v5, K5, S5⟩; have Z5 : w5.heap[w.heap.size]? = some (.cells #[.int .i64 (nn p 0), .int .i64 (nn p 1), .int .i64 (nn p 2), .int .i64 (nn p 3)] 70 (0, 0)) := Stp.keep HW.out S5 (Nat.le_refl _) (by have := HLB.out; omega) HQ1.out; have k5 : Hid (w5.cell? ⟨w.heap.size, 0, none⟩ = some (.int .i64 (nn p 0)) ∧ w5.cell? ⟨w.heap.size, 1, none⟩ = some (.int .i64 (nn p 1)) ∧ w5.cell? ⟨w.heap.size, 2, none⟩ = some (.int .i64 (nn p 2)) ∧ w5.cell? ⟨w.heap.size, 3, none⟩ = some (.int .i64 (nn p 3))) := ⟨by rw [cell_of_row _ _ _ _ _ _ Z5]; rfl, by rw [cell_of_row _ _ _ _ _ _ Z5]; rfl, by rw [cell_of_row _ _ _ _ _ _ Z5]; rfl, by rw [cell_of_row _ _ _ _ _ _ Z5]; rfl⟩))
  have FE : Hid (Put base w B v (l ++ [nn p 0, nn p 1, nn p 2, nn p 3].flatMap numL) bad (.returned (.tuple #[])) w5) := ⟨rfl, v5, K5, HW.out.first HB12.out S5⟩
  clear K5 S5 C
  go_wp2_with fail
  all_goals exact bodyPost_ret (v := .tuple #[]) (by simp [results, Try.results26, go_sem]) rfl FE.out
set_option maxHeartbeats 4000000 in
theorem pask6 {base B : Nat} {w : World} {v : Value} {l : List UInt8} {bad : Bool} (h : Wr base w B v l bad) (p : Pl) (hl : l.length ≤ 200000000) (ht : p.text.length ≤ 9223372036854775807 ∧ p.more.length ≤ 9223372036854775807) : Calls Try.prog 26 #[.pointer (some ⟨B, 0, none⟩), .iface 72 (.agg #[.int .i64 (nn p 0), .int .i64 (nn p 1), .int .i64 (nn p 2), .int .i64 (nn p 3), .int .i64 (nn p 4)])] w (Put base w B v (l ++ [nn p 0, nn p 1, nn p 2, nn p 3, nn p 4].flatMap numL) bad) := by
  obtain ⟨B1, P1, L1⟩ := box1 w #[.int .i64 (nn p 0), .int .i64 (nn p 1), .int .i64 (nn p 2), .int .i64 (nn p 3), .int .i64 (nn p 4)] 72
  obtain ⟨Wa, hWa⟩ : ∃ Wa, Wa = w.alloc (.cells #[.int .i64 (nn p 0), .int .i64 (nn p 1), .int .i64 (nn p 2), .int .i64 (nn p 3), .int .i64 (nn p 4)] 72) := ⟨_, rfl⟩
  rw [← hWa] at B1 P1 L1
  have HWA := Lib.hid hWa
  have yes := is6 (.agg #[.int .i64 (nn p 0), .int .i64 (nn p 1), .int .i64 (nn p 2), .int .i64 (nn p 3), .int .i64 (nn p 4)])
  have n1 := fun w => no1 72 (.agg #[.int .i64 (nn p 0), .int .i64 (nn p 1), .int .i64 (nn p 2), .int .i64 (nn p 3), .int .i64 (nn p 4)]) w (by decide)
  have n2 := fun w => no2 72 (.agg #[.int .i64 (nn p 0), .int .i64 (nn p 1), .int .i64 (nn p 2), .int .i64 (nn p 3), .int .i64 (nn p 4)]) w (by decide)
  have n3 := fun w => no3 72 (.agg #[.int .i64 (nn p 0), .int .i64 (nn p 1), .int .i64 (nn p 2), .int .i64 (nn p 3), .int .i64 (nn p 4)]) w (by decide)
  have n4 := fun w => no4 72 (.agg #[.int .i64 (nn p 0), .int .i64 (nn p 1), .int .i64 (nn p 2), .int .i64 (nn p 3), .int .i64 (nn p 4)]) w (by decide)
  have n5 := fun w => no5 72 (.agg #[.int .i64 (nn p 0), .int .i64 (nn p 1), .int .i64 (nn p 2), .int .i64 (nn p 3), .int .i64 (nn p 4)]) w (by decide)
  have HT := Lib.hid ht
  have HL := Lib.hid hl
  have a0 : Wa.cell? ⟨w.heap.size, 0, none⟩ = some (.int .i64 (nn p 0)) := by rw [cell_of_row _ _ _ _ _ _ P1]; rfl
  have a1 : Wa.cell? ⟨w.heap.size, 1, none⟩ = some (.int .i64 (nn p 1)) := by rw [cell_of_row _ _ _ _ _ _ P1]; rfl
  have a2 : Wa.cell? ⟨w.heap.size, 2, none⟩ = some (.int .i64 (nn p 2)) := by rw [cell_of_row _ _ _ _ _ _ P1]; rfl
  have a3 : Wa.cell? ⟨w.heap.size, 3, none⟩ = some (.int .i64 (nn p 3)) := by rw [cell_of_row _ _ _ _ _ _ P1]; rfl
  have a4 : Wa.cell? ⟨w.heap.size, 4, none⟩ = some (.int .i64 (nn p 4)) := by rw [cell_of_row _ _ _ _ _ _ P1]; rfl
  have HW := Lib.hid h
  have HP1 := Lib.hid P1
  have HL1 := Lib.hid L1
  have HB1 := Lib.hid B1
  obtain ⟨B2, P2, L2⟩ := box1 Wa #[.int .i64 (nn p 0), .int .i64 (nn p 1), .int .i64 (nn p 2), .int .i64 (nn p 3), .int .i64 (nn p 4)] 3
  obtain ⟨Wb, hWb⟩ : ∃ Wb, Wb = (Wa.alloc (.cells #[.int .i64 (nn p 0), .int .i64 (nn p 1), .int .i64 (nn p 2), .int .i64 (nn p 3), .int .i64 (nn p 4)] 3)).drew := ⟨_, rfl⟩
  have ST := stays_drew (stays_new h B1 #[.int .i64 (nn p 0), .int .i64 (nn p 1), .int .i64 (nn p 2), .int .i64 (nn p 3), .int .i64 (nn p 4)] [nn p 0, nn p 1, nn p 2, nn p 3, nn p 4] rfl)
  replace B2 := Below.drew B2
  rw [← hWb] at B2 ST
  have L2 : Wb.heap.size = Wa.heap.size + 1 := by rw [hWb]; exact L2
  have B12 := below_on B1 B2
  have C := Lib.hid (pnums_any (h.below B12) _ 5 [nn p 0, nn p 1, nn p 2, nn p 3, nn p 4] ST (by show l.length + 8 * 5 ≤ 300000000; omega))
  have HWB : Hid (Wb = (Wa.alloc (.cells #[.int .i64 (nn p 0), .int .i64 (nn p 1), .int .i64 (nn p 2), .int .i64 (nn p 3), .int .i64 (nn p 4)] 3)).drew) := hWb
  have HLA : Hid (Wa.heap.size = w.heap.size + 1) := L1
  have HLB : Hid (Wb.heap.size = w.heap.size + 1 + 1) := by rw [← L1]; exact L2
  have HQ1 : Hid (Wb.heap[w.heap.size]? = some (.cells #[.int .i64 (nn p 0), .int .i64 (nn p 1), .int .i64 (nn p 2), .int .i64 (nn p 3), .int .i64 (nn p 4)] 72 (0, 0))) := (B2.block _ (by omega)).trans P1
  have HB12 := Lib.hid B12
  clear h hWa B1 P1 L1 ht hl B2 P2 L2 hWb ST B12
  go_enter Try.func26, Try.ntmps26
  go_upto_region 21 with fail
  rw [← HWA.out]
  have KR : Hid (Below Wa.heap.size Wa Wa) := Below.refl _ _
  have BX : Hid (∀ w', Below Wa.heap.size Wa w' → w'.cell? ⟨w.heap.size, 0, none⟩ = some (.int .i64 (nn p 0)) ∧ w'.cell? ⟨w.heap.size, 1, none⟩ = some (.int .i64 (nn p 1)) ∧ w'.cell? ⟨w.heap.size, 2, none⟩ = some (.int .i64 (nn p 2)) ∧ w'.cell? ⟨w.heap.size, 3, none⟩ = some (.int .i64 (nn p 3)) ∧ w'.cell? ⟨w.heap.size, 4, none⟩ = some (.int .i64 (nn p 4))) := fun w' hb => by
    have zz : w'.heap[w.heap.size]? = _ := (hb.block _ (by rw [HLA.out]; omega)).trans HP1.out
    exact ⟨by rw [cell_of_row _ _ _ _ _ _ zz]; rfl, by rw [cell_of_row _ _ _ _ _ _ zz]; rfl, by rw [cell_of_row _ _ _ _ _ _ zz]; rfl, by rw [cell_of_row _ _ _ _ _ _ zz]; rfl, by rw [cell_of_row _ _ _ _ _ _ zz]; rfl⟩
  go_region_held3 (fun w' => w'.cell? ⟨w.heap.size, 0, none⟩ = some (.int .i64 (nn p 0)) ∧ w'.cell? ⟨w.heap.size, 1, none⟩ = some (.int .i64 (nn p 1)) ∧ w'.cell? ⟨w.heap.size, 2, none⟩ = some (.int .i64 (nn p 2)) ∧ w'.cell? ⟨w.heap.size, 3, none⟩ = some (.int .i64 (nn p 3)) ∧ w'.cell? ⟨w.heap.size, 4, none⟩ = some (.int .i64 (nn p 4)))
    (first
      | exact k5.out
      | (refine BX.out _ ?_; focus ((repeat first | assumption | exact KR.out | apply Below.drew | apply below_drews | refine Below.alloc ?_ (Nat.le_refl _) _); done)))
    (first
      | (go_at_call 40; rw [← HWB.out]; (refine C.out.mono ?_); rintro e w5 ⟨rfl, v5, K5, S5⟩; have Z5 : w5.heap[w.heap.size]? = some (.cells #[.int .i64 (nn p 0), .int .i64 (nn p 1), .int .i64 (nn p 2), .int .i64 (nn p 3), .int .i64 (nn p 4)] 72 (0, 0)) := Stp.keep HW.out S5 (Nat.le_refl _) (by have := HLB.out; omega) HQ1.out; have k5 : Hid (w5.cell? ⟨w.heap.size, 0, none⟩ = some (.int .i64 (nn p 0)) ∧ w5.cell? ⟨w.heap.size, 1, none⟩ = some (.int .i64 (nn p 1)) ∧ w5.cell? ⟨w.heap.size, 2, none⟩ = some (.int .i64 (nn p 2)) ∧ w5.cell? ⟨w.heap.size, 3, none⟩ = some (.int .i64 (nn p 3)) ∧ w5.cell? ⟨w.heap.size, 4, none⟩ = some (.int .i64 (nn p 4))) := ⟨by rw [cell_of_row _ _ _ _ _ _ Z5]; rfl, by rw [cell_of_row _ _ _ _ _ _ Z5]; rfl, by rw [cell_of_row _ _ _ _ _ _ Z5]; rfl, by rw [cell_of_row _ _ _ _ _ _ Z5]; rfl, by rw [cell_of_row _ _ _ _ _ _ Z5]; rfl⟩))
  have FE : Hid (Put base w B v (l ++ [nn p 0, nn p 1, nn p 2, nn p 3, nn p 4].flatMap numL) bad (.returned (.tuple #[])) w5) := ⟨rfl, v5, K5, HW.out.first HB12.out S5⟩
  clear K5 S5 C
  go_wp2_with fail
  all_goals exact bodyPost_ret (v := .tuple #[]) (by simp [results, Try.results26, go_sem]) rfl FE.out
set_option maxHeartbeats 4000000 in
theorem pask7 {base B : Nat} {w : World} {v : Value} {l : List UInt8} {bad : Bool} (h : Wr base w B v l bad) (p : Pl) (hl : l.length ≤ 200000000) (ht : p.text.length ≤ 9223372036854775807 ∧ p.more.length ≤ 9223372036854775807) : Calls Try.prog 26 #[.pointer (some ⟨B, 0, none⟩), .iface 74 (.agg #[.int .i64 (nn p 0), .int .i64 (nn p 1), .int .i64 (nn p 2), .int .i64 (nn p 3), .int .i64 (nn p 4), .int .i64 (nn p 5)])] w (Put base w B v (l ++ [nn p 0, nn p 1, nn p 2, nn p 3, nn p 4, nn p 5].flatMap numL) bad) := by
  obtain ⟨B1, P1, L1⟩ := box1 w #[.int .i64 (nn p 0), .int .i64 (nn p 1), .int .i64 (nn p 2), .int .i64 (nn p 3), .int .i64 (nn p 4), .int .i64 (nn p 5)] 74
  obtain ⟨Wa, hWa⟩ : ∃ Wa, Wa = w.alloc (.cells #[.int .i64 (nn p 0), .int .i64 (nn p 1), .int .i64 (nn p 2), .int .i64 (nn p 3), .int .i64 (nn p 4), .int .i64 (nn p 5)] 74) := ⟨_, rfl⟩
  rw [← hWa] at B1 P1 L1
  have HWA := Lib.hid hWa
  have yes := is7 (.agg #[.int .i64 (nn p 0), .int .i64 (nn p 1), .int .i64 (nn p 2), .int .i64 (nn p 3), .int .i64 (nn p 4), .int .i64 (nn p 5)])
  have n1 := fun w => no1 74 (.agg #[.int .i64 (nn p 0), .int .i64 (nn p 1), .int .i64 (nn p 2), .int .i64 (nn p 3), .int .i64 (nn p 4), .int .i64 (nn p 5)]) w (by decide)
  have n2 := fun w => no2 74 (.agg #[.int .i64 (nn p 0), .int .i64 (nn p 1), .int .i64 (nn p 2), .int .i64 (nn p 3), .int .i64 (nn p 4), .int .i64 (nn p 5)]) w (by decide)
  have n3 := fun w => no3 74 (.agg #[.int .i64 (nn p 0), .int .i64 (nn p 1), .int .i64 (nn p 2), .int .i64 (nn p 3), .int .i64 (nn p 4), .int .i64 (nn p 5)]) w (by decide)
  have n4 := fun w => no4 74 (.agg #[.int .i64 (nn p 0), .int .i64 (nn p 1), .int .i64 (nn p 2), .int .i64 (nn p 3), .int .i64 (nn p 4), .int .i64 (nn p 5)]) w (by decide)
  have n5 := fun w => no5 74 (.agg #[.int .i64 (nn p 0), .int .i64 (nn p 1), .int .i64 (nn p 2), .int .i64 (nn p 3), .int .i64 (nn p 4), .int .i64 (nn p 5)]) w (by decide)
  have n6 := fun w => no6 74 (.agg #[.int .i64 (nn p 0), .int .i64 (nn p 1), .int .i64 (nn p 2), .int .i64 (nn p 3), .int .i64 (nn p 4), .int .i64 (nn p 5)]) w (by decide)
  have HT := Lib.hid ht
  have HL := Lib.hid hl
  have a0 : Wa.cell? ⟨w.heap.size, 0, none⟩ = some (.int .i64 (nn p 0)) := by rw [cell_of_row _ _ _ _ _ _ P1]; rfl
  have a1 : Wa.cell? ⟨w.heap.size, 1, none⟩ = some (.int .i64 (nn p 1)) := by rw [cell_of_row _ _ _ _ _ _ P1]; rfl
  have a2 : Wa.cell? ⟨w.heap.size, 2, none⟩ = some (.int .i64 (nn p 2)) := by rw [cell_of_row _ _ _ _ _ _ P1]; rfl
  have a3 : Wa.cell? ⟨w.heap.size, 3, none⟩ = some (.int .i64 (nn p 3)) := by rw [cell_of_row _ _ _ _ _ _ P1]; rfl
  have a4 : Wa.cell? ⟨w.heap.size, 4, none⟩ = some (.int .i64 (nn p 4)) := by rw [cell_of_row _ _ _ _ _ _ P1]; rfl
  have a5 : Wa.cell? ⟨w.heap.size, 5, none⟩ = some (.int .i64 (nn p 5)) := by rw [cell_of_row _ _ _ _ _ _ P1]; rfl
  have HW := Lib.hid h
  have HP1 := Lib.hid P1
  have HL1 := Lib.hid L1
  have HB1 := Lib.hid B1
  obtain ⟨B2, P2, L2⟩ := box1 Wa #[.int .i64 (nn p 0), .int .i64 (nn p 1), .int .i64 (nn p 2), .int .i64 (nn p 3), .int .i64 (nn p 4), .int .i64 (nn p 5)] 3
  obtain ⟨Wb, hWb⟩ : ∃ Wb, Wb = (Wa.alloc (.cells #[.int .i64 (nn p 0), .int .i64 (nn p 1), .int .i64 (nn p 2), .int .i64 (nn p 3), .int .i64 (nn p 4), .int .i64 (nn p 5)] 3)).drew := ⟨_, rfl⟩
  have ST := stays_drew (stays_new h B1 #[.int .i64 (nn p 0), .int .i64 (nn p 1), .int .i64 (nn p 2), .int .i64 (nn p 3), .int .i64 (nn p 4), .int .i64 (nn p 5)] [nn p 0, nn p 1, nn p 2, nn p 3, nn p 4, nn p 5] rfl)
  replace B2 := Below.drew B2
  rw [← hWb] at B2 ST
  have L2 : Wb.heap.size = Wa.heap.size + 1 := by rw [hWb]; exact L2
  have B12 := below_on B1 B2
  have C := Lib.hid (pnums_any (h.below B12) _ 6 [nn p 0, nn p 1, nn p 2, nn p 3, nn p 4, nn p 5] ST (by show l.length + 8 * 6 ≤ 300000000; omega))
  have HWB : Hid (Wb = (Wa.alloc (.cells #[.int .i64 (nn p 0), .int .i64 (nn p 1), .int .i64 (nn p 2), .int .i64 (nn p 3), .int .i64 (nn p 4), .int .i64 (nn p 5)] 3)).drew) := hWb
  have HLA : Hid (Wa.heap.size = w.heap.size + 1) := L1
  have HLB : Hid (Wb.heap.size = w.heap.size + 1 + 1) := by rw [← L1]; exact L2
  have HQ1 : Hid (Wb.heap[w.heap.size]? = some (.cells #[.int .i64 (nn p 0), .int .i64 (nn p 1), .int .i64 (nn p 2), .int .i64 (nn p 3), .int .i64 (nn p 4), .int .i64 (nn p 5)] 74 (0, 0))) := (B2.block _ (by omega)).trans P1
  have HB12 := Lib.hid B12
  clear h hWa B1 P1 L1 ht hl B2 P2 L2 hWb ST B12
  go_enter Try.func26, Try.ntmps26
  go_upto_region 24 with fail
  rw [← HWA.out]
  have KR : Hid (Below Wa.heap.size Wa Wa) := Below.refl _ _
  have BX : Hid (∀ w', Below Wa.heap.size Wa w' → w'.cell? ⟨w.heap.size, 0, none⟩ = some (.int .i64 (nn p 0)) ∧ w'.cell? ⟨w.heap.size, 1, none⟩ = some (.int .i64 (nn p 1)) ∧ w'.cell? ⟨w.heap.size, 2, none⟩ = some (.int .i64 (nn p 2)) ∧ w'.cell? ⟨w.heap.size, 3, none⟩ = some (.int .i64 (nn p 3)) ∧ w'.cell? ⟨w.heap.size, 4, none⟩ = some (.int .i64 (nn p 4)) ∧ w'.cell? ⟨w.heap.size, 5, none⟩ = some (.int .i64 (nn p 5))) := fun w' hb => by
    have zz : w'.heap[w.heap.size]? = _ := (hb.block _ (by rw [HLA.out]; omega)).trans HP1.out
    exact ⟨by rw [cell_of_row _ _ _ _ _ _ zz]; rfl, by rw [cell_of_row _ _ _ _ _ _ zz]; rfl, by rw [cell_of_row _ _ _ _ _ _ zz]; rfl, by rw [cell_of_row _ _ _ _ _ _ zz]; rfl, by rw [cell_of_row _ _ _ _ _ _ zz]; rfl, by rw [cell_of_row _ _ _ _ _ _ zz]; rfl⟩
  go_region_held3 (fun w' => w'.cell? ⟨w.heap.size, 0, none⟩ = some (.int .i64 (nn p 0)) ∧ w'.cell? ⟨w.heap.size, 1, none⟩ = some (.int .i64 (nn p 1)) ∧ w'.cell? ⟨w.heap.size, 2, none⟩ = some (.int .i64 (nn p 2)) ∧ w'.cell? ⟨w.heap.size, 3, none⟩ = some (.int .i64 (nn p 3)) ∧ w'.cell? ⟨w.heap.size, 4, none⟩ = some (.int .i64 (nn p 4)) ∧ w'.cell? ⟨w.heap.size, 5, none⟩ = some (.int .i64 (nn p 5)))
    (first
      | exact k5.out
      | (refine BX.out _ ?_; focus ((repeat first | assumption | exact KR.out | apply Below.drew | apply below_drews | refine Below.alloc ?_ (Nat.le_refl _) _); done)))
    (first
      | (go_at_call 40; rw [← HWB.out]; (refine C.out.mono ?_); rintro e w5 ⟨rfl, v5, K5, S5⟩; have Z5 : w5.heap[w.heap.size]? = some (.cells #[.int .i64 (nn p 0), .int .i64 (nn p 1), .int .i64 (nn p 2), .int .i64 (nn p 3), .int .i64 (nn p 4), .int .i64 (nn p 5)] 74 (0, 0)) := Stp.keep HW.out S5 (Nat.le_refl _) (by have := HLB.out; omega) HQ1.out; have k5 : Hid (w5.cell? ⟨w.heap.size, 0, none⟩ = some (.int .i64 (nn p 0)) ∧ w5.cell? ⟨w.heap.size, 1, none⟩ = some (.int .i64 (nn p 1)) ∧ w5.cell? ⟨w.heap.size, 2, none⟩ = some (.int .i64 (nn p 2)) ∧ w5.cell? ⟨w.heap.size, 3, none⟩ = some (.int .i64 (nn p 3)) ∧ w5.cell? ⟨w.heap.size, 4, none⟩ = some (.int .i64 (nn p 4)) ∧ w5.cell? ⟨w.heap.size, 5, none⟩ = some (.int .i64 (nn p 5))) := ⟨by rw [cell_of_row _ _ _ _ _ _ Z5]; rfl, by rw [cell_of_row _ _ _ _ _ _ Z5]; rfl, by rw [cell_of_row _ _ _ _ _ _ Z5]; rfl, by rw [cell_of_row _ _ _ _ _ _ Z5]; rfl, by rw [cell_of_row _ _ _ _ _ _ Z5]; rfl, by rw [cell_of_row _ _ _ _ _ _ Z5]; rfl⟩))
  have FE : Hid (Put base w B v (l ++ [nn p 0, nn p 1, nn p 2, nn p 3, nn p 4, nn p 5].flatMap numL) bad (.returned (.tuple #[])) w5) := ⟨rfl, v5, K5, HW.out.first HB12.out S5⟩
  clear K5 S5 C
  go_wp2_with fail
  all_goals exact bodyPost_ret (v := .tuple #[]) (by simp [results, Try.results26, go_sem]) rfl FE.out
set_option maxHeartbeats 4000000 in
theorem pask8 {base B : Nat} {w : World} {v : Value} {l : List UInt8} {bad : Bool} (h : Wr base w B v l bad) (p : Pl) (hl : l.length ≤ 200000000) (ht : p.text.length ≤ 9223372036854775807 ∧ p.more.length ≤ 9223372036854775807) : Calls Try.prog 26 #[.pointer (some ⟨B, 0, none⟩), .iface 76 (.agg #[.int .i64 (nn p 0)])] w (Put base w B v (l ++ [nn p 0].flatMap numL) bad) := by
  obtain ⟨B1, P1, L1⟩ := box1 w #[.int .i64 (nn p 0)] 76
  obtain ⟨Wa, hWa⟩ : ∃ Wa, Wa = w.alloc (.cells #[.int .i64 (nn p 0)] 76) := ⟨_, rfl⟩
  rw [← hWa] at B1 P1 L1
  have HWA := Lib.hid hWa
  have yes := is8 (.agg #[.int .i64 (nn p 0)])
  have n1 := fun w => no1 76 (.agg #[.int .i64 (nn p 0)]) w (by decide)
  have n2 := fun w => no2 76 (.agg #[.int .i64 (nn p 0)]) w (by decide)
  have n3 := fun w => no3 76 (.agg #[.int .i64 (nn p 0)]) w (by decide)
  have n4 := fun w => no4 76 (.agg #[.int .i64 (nn p 0)]) w (by decide)
  have n5 := fun w => no5 76 (.agg #[.int .i64 (nn p 0)]) w (by decide)
  have n6 := fun w => no6 76 (.agg #[.int .i64 (nn p 0)]) w (by decide)
  have n7 := fun w => no7 76 (.agg #[.int .i64 (nn p 0)]) w (by decide)
  have HT := Lib.hid ht
  have HL := Lib.hid hl
  have a0 : Wa.cell? ⟨w.heap.size, 0, none⟩ = some (.int .i64 (nn p 0)) := by rw [cell_of_row _ _ _ _ _ _ P1]; rfl
  have HW := Lib.hid h
  have HP1 := Lib.hid P1
  have HL1 := Lib.hid L1
  have HB1 := Lib.hid B1
  have C := Lib.hid ((pnum_any (h.below B1).drew (nn p 0) (by omega)).mono fun _ _ => Put.undrew)
  clear h hWa B1 P1 L1 ht hl
  go_enter Try.func26, Try.ntmps26
  go_upto_region 27 with fail
  rw [← HWA.out]
  refine still_tailW 5 (by kernel_rfl) (by kernel_rfl) ?_
  simp only [List.take_succ_cons, List.take_zero, List.drop_succ_cons, List.drop_zero]
  have d0 := drew_cell a0
  generalize Wa.drew = Wd at *
  repeat still_step
  refine wpStill_nil ?_
  clear d0
  go_wp2_with fail
  refine C.out.mono ?_
  rintro e w5 ⟨rfl, v5, K5, S5⟩
  rw [show numL (nn p 0) = [nn p 0].flatMap numL from (by simp)] at K5
  have FE : Hid (Put base w B v (l ++ [nn p 0].flatMap numL) bad (.returned (.tuple #[])) w5) := ⟨rfl, v5, K5, HW.out.first HB1.out S5⟩
  clear K5 S5 C
  go_wp2_with fail
  all_goals exact bodyPost_ret (v := .tuple #[]) (by simp [results, Try.results26, go_sem]) rfl FE.out
set_option maxHeartbeats 4000000 in
theorem pask9 {base B : Nat} {w : World} {v : Value} {l : List UInt8} {bad : Bool} (h : Wr base w B v l bad) (p : Pl) (hl : l.length ≤ 200000000) (ht : p.text.length ≤ 9223372036854775807 ∧ p.more.length ≤ 9223372036854775807) : Calls Try.prog 26 #[.pointer (some ⟨B, 0, none⟩), .iface 77 (.agg #[.int .i64 (nn p 0)])] w (Put base w B v (l ++ [nn p 0].flatMap numL) bad) := by
  obtain ⟨B1, P1, L1⟩ := box1 w #[.int .i64 (nn p 0)] 77
  obtain ⟨Wa, hWa⟩ : ∃ Wa, Wa = w.alloc (.cells #[.int .i64 (nn p 0)] 77) := ⟨_, rfl⟩
  rw [← hWa] at B1 P1 L1
  have HWA := Lib.hid hWa
  have yes := is9 (.agg #[.int .i64 (nn p 0)])
  have n1 := fun w => no1 77 (.agg #[.int .i64 (nn p 0)]) w (by decide)
  have n2 := fun w => no2 77 (.agg #[.int .i64 (nn p 0)]) w (by decide)
  have n3 := fun w => no3 77 (.agg #[.int .i64 (nn p 0)]) w (by decide)
  have n4 := fun w => no4 77 (.agg #[.int .i64 (nn p 0)]) w (by decide)
  have n5 := fun w => no5 77 (.agg #[.int .i64 (nn p 0)]) w (by decide)
  have n6 := fun w => no6 77 (.agg #[.int .i64 (nn p 0)]) w (by decide)
  have n7 := fun w => no7 77 (.agg #[.int .i64 (nn p 0)]) w (by decide)
  have n8 := fun w => no8 77 (.agg #[.int .i64 (nn p 0)]) w (by decide)
  have HT := Lib.hid ht
  have HL := Lib.hid hl
  have a0 : Wa.cell? ⟨w.heap.size, 0, none⟩ = some (.int .i64 (nn p 0)) := by rw [cell_of_row _ _ _ _ _ _ P1]; rfl
  have HW := Lib.hid h
  have HP1 := Lib.hid P1
  have HL1 := Lib.hid L1
  have HB1 := Lib.hid B1
  have C := Lib.hid ((pnum_any (h.below B1).drew (nn p 0) (by omega)).mono fun _ _ => Put.undrew)
  clear h hWa B1 P1 L1 ht hl
  go_enter Try.func26, Try.ntmps26
  go_upto_region 30 with fail
  rw [← HWA.out]
  refine still_tailW 5 (by kernel_rfl) (by kernel_rfl) ?_
  simp only [List.take_succ_cons, List.take_zero, List.drop_succ_cons, List.drop_zero]
  have d0 := drew_cell a0
  generalize Wa.drew = Wd at *
  repeat still_step
  refine wpStill_nil ?_
  clear d0
  go_wp2_with fail
  refine C.out.mono ?_
  rintro e w5 ⟨rfl, v5, K5, S5⟩
  rw [show numL (nn p 0) = [nn p 0].flatMap numL from (by simp)] at K5
  have FE : Hid (Put base w B v (l ++ [nn p 0].flatMap numL) bad (.returned (.tuple #[])) w5) := ⟨rfl, v5, K5, HW.out.first HB1.out S5⟩
  clear K5 S5 C
  go_wp2_with fail
  all_goals exact bodyPost_ret (v := .tuple #[]) (by simp [results, Try.results26, go_sem]) rfl FE.out
set_option maxHeartbeats 4000000 in
theorem pask10 {base B : Nat} {w : World} {v : Value} {l : List UInt8} {bad : Bool} (h : Wr base w B v l bad) (p : Pl) (hl : l.length ≤ 200000000) (ht : p.text.length ≤ 9223372036854775807 ∧ p.more.length ≤ 9223372036854775807) : Calls Try.prog 26 #[.pointer (some ⟨B, 0, none⟩), .iface 78 (.agg #[.int .i64 (nn p 0)])] w (Put base w B v (l ++ [nn p 0].flatMap numL) bad) := by
  obtain ⟨B1, P1, L1⟩ := box1 w #[.int .i64 (nn p 0)] 78
  obtain ⟨Wa, hWa⟩ : ∃ Wa, Wa = w.alloc (.cells #[.int .i64 (nn p 0)] 78) := ⟨_, rfl⟩
  rw [← hWa] at B1 P1 L1
  have HWA := Lib.hid hWa
  have yes := is10 (.agg #[.int .i64 (nn p 0)])
  have n1 := fun w => no1 78 (.agg #[.int .i64 (nn p 0)]) w (by decide)
  have n2 := fun w => no2 78 (.agg #[.int .i64 (nn p 0)]) w (by decide)
  have n3 := fun w => no3 78 (.agg #[.int .i64 (nn p 0)]) w (by decide)
  have n4 := fun w => no4 78 (.agg #[.int .i64 (nn p 0)]) w (by decide)
  have n5 := fun w => no5 78 (.agg #[.int .i64 (nn p 0)]) w (by decide)
  have n6 := fun w => no6 78 (.agg #[.int .i64 (nn p 0)]) w (by decide)
  have n7 := fun w => no7 78 (.agg #[.int .i64 (nn p 0)]) w (by decide)
  have n8 := fun w => no8 78 (.agg #[.int .i64 (nn p 0)]) w (by decide)
  have n9 := fun w => no9 78 (.agg #[.int .i64 (nn p 0)]) w (by decide)
  have HT := Lib.hid ht
  have HL := Lib.hid hl
  have a0 : Wa.cell? ⟨w.heap.size, 0, none⟩ = some (.int .i64 (nn p 0)) := by rw [cell_of_row _ _ _ _ _ _ P1]; rfl
  have HW := Lib.hid h
  have HP1 := Lib.hid P1
  have HL1 := Lib.hid L1
  have HB1 := Lib.hid B1
  have C := Lib.hid ((pnum_any (h.below B1).drew (nn p 0) (by omega)).mono fun _ _ => Put.undrew)
  clear h hWa B1 P1 L1 ht hl
  go_enter Try.func26, Try.ntmps26
  go_upto_region 33 with fail
  rw [← HWA.out]
  refine still_tailW 5 (by kernel_rfl) (by kernel_rfl) ?_
  simp only [List.take_succ_cons, List.take_zero, List.drop_succ_cons, List.drop_zero]
  have d0 := drew_cell a0
  generalize Wa.drew = Wd at *
  repeat still_step
  refine wpStill_nil ?_
  clear d0
  go_wp2_with fail
  refine C.out.mono ?_
  rintro e w5 ⟨rfl, v5, K5, S5⟩
  rw [show numL (nn p 0) = [nn p 0].flatMap numL from (by simp)] at K5
  have FE : Hid (Put base w B v (l ++ [nn p 0].flatMap numL) bad (.returned (.tuple #[])) w5) := ⟨rfl, v5, K5, HW.out.first HB1.out S5⟩
  clear K5 S5 C
  go_wp2_with fail
  all_goals exact bodyPost_ret (v := .tuple #[]) (by simp [results, Try.results26, go_sem]) rfl FE.out
set_option maxHeartbeats 4000000 in
theorem pask11 {base B : Nat} {w : World} {v : Value} {l : List UInt8} {bad : Bool} (h : Wr base w B v l bad) (p : Pl) (hl : l.length ≤ 200000000) (ht : p.text.length ≤ 9223372036854775807 ∧ p.more.length ≤ 9223372036854775807) : Calls Try.prog 26 #[.pointer (some ⟨B, 0, none⟩), .iface 80 (.agg #[.int .i64 (nn p 0), .int .i64 (nn p 1), .int .i64 (nn p 2)])] w (Put base w B v (l ++ [nn p 0, nn p 1, nn p 2].flatMap numL) bad) := by
  obtain ⟨B1, P1, L1⟩ := box1 w #[.int .i64 (nn p 0), .int .i64 (nn p 1), .int .i64 (nn p 2)] 80
  obtain ⟨Wa, hWa⟩ : ∃ Wa, Wa = w.alloc (.cells #[.int .i64 (nn p 0), .int .i64 (nn p 1), .int .i64 (nn p 2)] 80) := ⟨_, rfl⟩
  rw [← hWa] at B1 P1 L1
  have HWA := Lib.hid hWa
  have yes := is11 (.agg #[.int .i64 (nn p 0), .int .i64 (nn p 1), .int .i64 (nn p 2)])
  have n1 := fun w => no1 80 (.agg #[.int .i64 (nn p 0), .int .i64 (nn p 1), .int .i64 (nn p 2)]) w (by decide)
  have n2 := fun w => no2 80 (.agg #[.int .i64 (nn p 0), .int .i64 (nn p 1), .int .i64 (nn p 2)]) w (by decide)
  have n3 := fun w => no3 80 (.agg #[.int .i64 (nn p 0), .int .i64 (nn p 1), .int .i64 (nn p 2)]) w (by decide)
  have n4 := fun w => no4 80 (.agg #[.int .i64 (nn p 0), .int .i64 (nn p 1), .int .i64 (nn p 2)]) w (by decide)
  have n5 := fun w => no5 80 (.agg #[.int .i64 (nn p 0), .int .i64 (nn p 1), .int .i64 (nn p 2)]) w (by decide)
  have n6 := fun w => no6 80 (.agg #[.int .i64 (nn p 0), .int .i64 (nn p 1), .int .i64 (nn p 2)]) w (by decide)
  have n7 := fun w => no7 80 (.agg #[.int .i64 (nn p 0), .int .i64 (nn p 1), .int .i64 (nn p 2)]) w (by decide)
  have n8 := fun w => no8 80 (.agg #[.int .i64 (nn p 0), .int .i64 (nn p 1), .int .i64 (nn p 2)]) w (by decide)
  have n9 := fun w => no9 80 (.agg #[.int .i64 (nn p 0), .int .i64 (nn p 1), .int .i64 (nn p 2)]) w (by decide)
  have n10 := fun w => no10 80 (.agg #[.int .i64 (nn p 0), .int .i64 (nn p 1), .int .i64 (nn p 2)]) w (by decide)
  have HT := Lib.hid ht
  have HL := Lib.hid hl
  have a0 : Wa.cell? ⟨w.heap.size, 0, none⟩ = some (.int .i64 (nn p 0)) := by rw [cell_of_row _ _ _ _ _ _ P1]; rfl
  have a1 : Wa.cell? ⟨w.heap.size, 1, none⟩ = some (.int .i64 (nn p 1)) := by rw [cell_of_row _ _ _ _ _ _ P1]; rfl
  have a2 : Wa.cell? ⟨w.heap.size, 2, none⟩ = some (.int .i64 (nn p 2)) := by rw [cell_of_row _ _ _ _ _ _ P1]; rfl
  have HW := Lib.hid h
  have HP1 := Lib.hid P1
  have HL1 := Lib.hid L1
  have HB1 := Lib.hid B1
  obtain ⟨B2, P2, L2⟩ := box1 Wa #[.int .i64 (nn p 0), .int .i64 (nn p 1), .int .i64 (nn p 2)] 3
  obtain ⟨Wb, hWb⟩ : ∃ Wb, Wb = (Wa.alloc (.cells #[.int .i64 (nn p 0), .int .i64 (nn p 1), .int .i64 (nn p 2)] 3)).drew := ⟨_, rfl⟩
  have ST := stays_drew (stays_new h B1 #[.int .i64 (nn p 0), .int .i64 (nn p 1), .int .i64 (nn p 2)] [nn p 0, nn p 1, nn p 2] rfl)
  replace B2 := Below.drew B2
  rw [← hWb] at B2 ST
  have L2 : Wb.heap.size = Wa.heap.size + 1 := by rw [hWb]; exact L2
  have B12 := below_on B1 B2
  have C := Lib.hid (pnums_any (h.below B12) _ 3 [nn p 0, nn p 1, nn p 2] ST (by show l.length + 8 * 3 ≤ 300000000; omega))
  have HWB : Hid (Wb = (Wa.alloc (.cells #[.int .i64 (nn p 0), .int .i64 (nn p 1), .int .i64 (nn p 2)] 3)).drew) := hWb
  have HLA : Hid (Wa.heap.size = w.heap.size + 1) := L1
  have HLB : Hid (Wb.heap.size = w.heap.size + 1 + 1) := by rw [← L1]; exact L2
  have HQ1 : Hid (Wb.heap[w.heap.size]? = some (.cells #[.int .i64 (nn p 0), .int .i64 (nn p 1), .int .i64 (nn p 2)] 80 (0, 0))) := (B2.block _ (by omega)).trans P1
  have HB12 := Lib.hid B12
  clear h hWa B1 P1 L1 ht hl B2 P2 L2 hWb ST B12
  go_enter Try.func26, Try.ntmps26
  go_upto_region 36 with fail
  rw [← HWA.out]
  have KR : Hid (Below Wa.heap.size Wa Wa) := Below.refl _ _
  have BX : Hid (∀ w', Below Wa.heap.size Wa w' → w'.cell? ⟨w.heap.size, 0, none⟩ = some (.int .i64 (nn p 0)) ∧ w'.cell? ⟨w.heap.size, 1, none⟩ = some (.int .i64 (nn p 1)) ∧ w'.cell? ⟨w.heap.size, 2, none⟩ = some (.int .i64 (nn p 2))) := fun w' hb => by
    have zz : w'.heap[w.heap.size]? = _ := (hb.block _ (by rw [HLA.out]; omega)).trans HP1.out
    exact ⟨by rw [cell_of_row _ _ _ _ _ _ zz]; rfl, by rw [cell_of_row _ _ _ _ _ _ zz]; rfl, by rw [cell_of_row _ _ _ _ _ _ zz]; rfl⟩
  go_region_held3 (fun w' => w'.cell? ⟨w.heap.size, 0, none⟩ = some (.int .i64 (nn p 0)) ∧ w'.cell? ⟨w.heap.size, 1, none⟩ = some (.int .i64 (nn p 1)) ∧ w'.cell? ⟨w.heap.size, 2, none⟩ = some (.int .i64 (nn p 2)))
    (first
      | exact k5.out
      | (refine BX.out _ ?_; focus ((repeat first | assumption | exact KR.out | apply Below.drew | apply below_drews | refine Below.alloc ?_ (Nat.le_refl _) _); done)))
    (first
      | (go_at_call 40; rw [← HWB.out]; (refine C.out.mono ?_); rintro e w5 ⟨rfl, v5, K5, S5⟩; have Z5 : w5.heap[w.heap.size]? = some (.cells #[.int .i64 (nn p 0), .int .i64 (nn p 1), .int .i64 (nn p 2)] 80 (0, 0)) := Stp.keep HW.out S5 (Nat.le_refl _) (by have := HLB.out; omega) HQ1.out; have k5 : Hid (w5.cell? ⟨w.heap.size, 0, none⟩ = some (.int .i64 (nn p 0)) ∧ w5.cell? ⟨w.heap.size, 1, none⟩ = some (.int .i64 (nn p 1)) ∧ w5.cell? ⟨w.heap.size, 2, none⟩ = some (.int .i64 (nn p 2))) := ⟨by rw [cell_of_row _ _ _ _ _ _ Z5]; rfl, by rw [cell_of_row _ _ _ _ _ _ Z5]; rfl, by rw [cell_of_row _ _ _ _ _ _ Z5]; rfl⟩))
  have FE : Hid (Put base w B v (l ++ [nn p 0, nn p 1, nn p 2].flatMap numL) bad (.returned (.tuple #[])) w5) := ⟨rfl, v5, K5, HW.out.first HB12.out S5⟩
  clear K5 S5 C
  go_wp2_with fail
  all_goals exact bodyPost_ret (v := .tuple #[]) (by simp [results, Try.results26, go_sem]) rfl FE.out
set_option maxHeartbeats 4000000 in
theorem pask12 {base B : Nat} {w : World} {v : Value} {l : List UInt8} {bad : Bool} (h : Wr base w B v l bad) (p : Pl) (hl : l.length ≤ 200000000) (ht : p.text.length ≤ 9223372036854775807 ∧ p.more.length ≤ 9223372036854775807) : Calls Try.prog 26 #[.pointer (some ⟨B, 0, none⟩), .iface 82 (.agg #[.int .i64 (nn p 0), .int .i64 (nn p 1)])] w (Put base w B v (l ++ [nn p 0, nn p 1].flatMap numL) bad) := by
  obtain ⟨B1, P1, L1⟩ := box1 w #[.int .i64 (nn p 0), .int .i64 (nn p 1)] 82
  obtain ⟨Wa, hWa⟩ : ∃ Wa, Wa = w.alloc (.cells #[.int .i64 (nn p 0), .int .i64 (nn p 1)] 82) := ⟨_, rfl⟩
  rw [← hWa] at B1 P1 L1
  have HWA := Lib.hid hWa
  have yes := is12 (.agg #[.int .i64 (nn p 0), .int .i64 (nn p 1)])
  have n1 := fun w => no1 82 (.agg #[.int .i64 (nn p 0), .int .i64 (nn p 1)]) w (by decide)
  have n2 := fun w => no2 82 (.agg #[.int .i64 (nn p 0), .int .i64 (nn p 1)]) w (by decide)
  have n3 := fun w => no3 82 (.agg #[.int .i64 (nn p 0), .int .i64 (nn p 1)]) w (by decide)
  have n4 := fun w => no4 82 (.agg #[.int .i64 (nn p 0), .int .i64 (nn p 1)]) w (by decide)
  have n5 := fun w => no5 82 (.agg #[.int .i64 (nn p 0), .int .i64 (nn p 1)]) w (by decide)
  have n6 := fun w => no6 82 (.agg #[.int .i64 (nn p 0), .int .i64 (nn p 1)]) w (by decide)
  have n7 := fun w => no7 82 (.agg #[.int .i64 (nn p 0), .int .i64 (nn p 1)]) w (by decide)
  have n8 := fun w => no8 82 (.agg #[.int .i64 (nn p 0), .int .i64 (nn p 1)]) w (by decide)
  have n9 := fun w => no9 82 (.agg #[.int .i64 (nn p 0), .int .i64 (nn p 1)]) w (by decide)
  have n10 := fun w => no10 82 (.agg #[.int .i64 (nn p 0), .int .i64 (nn p 1)]) w (by decide)
  have n11 := fun w => no11 82 (.agg #[.int .i64 (nn p 0), .int .i64 (nn p 1)]) w (by decide)
  have HT := Lib.hid ht
  have HL := Lib.hid hl
  have a0 : Wa.cell? ⟨w.heap.size, 0, none⟩ = some (.int .i64 (nn p 0)) := by rw [cell_of_row _ _ _ _ _ _ P1]; rfl
  have a1 : Wa.cell? ⟨w.heap.size, 1, none⟩ = some (.int .i64 (nn p 1)) := by rw [cell_of_row _ _ _ _ _ _ P1]; rfl
  have HW := Lib.hid h
  have HP1 := Lib.hid P1
  have HL1 := Lib.hid L1
  have HB1 := Lib.hid B1
  obtain ⟨B2, P2, L2⟩ := box1 Wa #[.int .i64 (nn p 0), .int .i64 (nn p 1)] 3
  obtain ⟨Wb, hWb⟩ : ∃ Wb, Wb = (Wa.alloc (.cells #[.int .i64 (nn p 0), .int .i64 (nn p 1)] 3)).drew := ⟨_, rfl⟩
  have ST := stays_drew (stays_new h B1 #[.int .i64 (nn p 0), .int .i64 (nn p 1)] [nn p 0, nn p 1] rfl)
  replace B2 := Below.drew B2
  rw [← hWb] at B2 ST
  have L2 : Wb.heap.size = Wa.heap.size + 1 := by rw [hWb]; exact L2
  have B12 := below_on B1 B2
  have C := Lib.hid (pnums_any (h.below B12) _ 2 [nn p 0, nn p 1] ST (by show l.length + 8 * 2 ≤ 300000000; omega))
  have HWB : Hid (Wb = (Wa.alloc (.cells #[.int .i64 (nn p 0), .int .i64 (nn p 1)] 3)).drew) := hWb
  have HLA : Hid (Wa.heap.size = w.heap.size + 1) := L1
  have HLB : Hid (Wb.heap.size = w.heap.size + 1 + 1) := by rw [← L1]; exact L2
  have HQ1 : Hid (Wb.heap[w.heap.size]? = some (.cells #[.int .i64 (nn p 0), .int .i64 (nn p 1)] 82 (0, 0))) := (B2.block _ (by omega)).trans P1
  have HB12 := Lib.hid B12
  clear h hWa B1 P1 L1 ht hl B2 P2 L2 hWb ST B12
  go_enter Try.func26, Try.ntmps26
  go_upto_region 39 with fail
  rw [← HWA.out]
  have KR : Hid (Below Wa.heap.size Wa Wa) := Below.refl _ _
  have BX : Hid (∀ w', Below Wa.heap.size Wa w' → w'.cell? ⟨w.heap.size, 0, none⟩ = some (.int .i64 (nn p 0)) ∧ w'.cell? ⟨w.heap.size, 1, none⟩ = some (.int .i64 (nn p 1))) := fun w' hb => by
    have zz : w'.heap[w.heap.size]? = _ := (hb.block _ (by rw [HLA.out]; omega)).trans HP1.out
    exact ⟨by rw [cell_of_row _ _ _ _ _ _ zz]; rfl, by rw [cell_of_row _ _ _ _ _ _ zz]; rfl⟩
  go_region_held3 (fun w' => w'.cell? ⟨w.heap.size, 0, none⟩ = some (.int .i64 (nn p 0)) ∧ w'.cell? ⟨w.heap.size, 1, none⟩ = some (.int .i64 (nn p 1)))
    (first
      | exact k5.out
      | (refine BX.out _ ?_; focus ((repeat first | assumption | exact KR.out | apply Below.drew | apply below_drews | refine Below.alloc ?_ (Nat.le_refl _) _); done)))
    (first
      | (go_at_call 40; rw [← HWB.out]; (refine C.out.mono ?_); rintro e w5 ⟨rfl, v5, K5, S5⟩; have Z5 : w5.heap[w.heap.size]? = some (.cells #[.int .i64 (nn p 0), .int .i64 (nn p 1)] 82 (0, 0)) := Stp.keep HW.out S5 (Nat.le_refl _) (by have := HLB.out; omega) HQ1.out; have k5 : Hid (w5.cell? ⟨w.heap.size, 0, none⟩ = some (.int .i64 (nn p 0)) ∧ w5.cell? ⟨w.heap.size, 1, none⟩ = some (.int .i64 (nn p 1))) := ⟨by rw [cell_of_row _ _ _ _ _ _ Z5]; rfl, by rw [cell_of_row _ _ _ _ _ _ Z5]; rfl⟩))
  have FE : Hid (Put base w B v (l ++ [nn p 0, nn p 1].flatMap numL) bad (.returned (.tuple #[])) w5) := ⟨rfl, v5, K5, HW.out.first HB12.out S5⟩
  clear K5 S5 C
  go_wp2_with fail
  all_goals exact bodyPost_ret (v := .tuple #[]) (by simp [results, Try.results26, go_sem]) rfl FE.out
set_option maxHeartbeats 4000000 in
theorem pask13 {base B : Nat} {w : World} {v : Value} {l : List UInt8} {bad : Bool} (h : Wr base w B v l bad) (p : Pl) (hl : l.length ≤ 200000000) (ht : p.text.length ≤ 9223372036854775807 ∧ p.more.length ≤ 9223372036854775807) : Calls Try.prog 26 #[.pointer (some ⟨B, 0, none⟩), .iface 84 (.agg #[.int .i64 (nn p 0), .int .i64 (nn p 1), .int .i64 (nn p 2)])] w (Put base w B v (l ++ [nn p 0, nn p 1, nn p 2].flatMap numL) bad) := by
  obtain ⟨B1, P1, L1⟩ := box1 w #[.int .i64 (nn p 0), .int .i64 (nn p 1), .int .i64 (nn p 2)] 84
  obtain ⟨Wa, hWa⟩ : ∃ Wa, Wa = w.alloc (.cells #[.int .i64 (nn p 0), .int .i64 (nn p 1), .int .i64 (nn p 2)] 84) := ⟨_, rfl⟩
  rw [← hWa] at B1 P1 L1
  have HWA := Lib.hid hWa
  have yes := is13 (.agg #[.int .i64 (nn p 0), .int .i64 (nn p 1), .int .i64 (nn p 2)])
  have n1 := fun w => no1 84 (.agg #[.int .i64 (nn p 0), .int .i64 (nn p 1), .int .i64 (nn p 2)]) w (by decide)
  have n2 := fun w => no2 84 (.agg #[.int .i64 (nn p 0), .int .i64 (nn p 1), .int .i64 (nn p 2)]) w (by decide)
  have n3 := fun w => no3 84 (.agg #[.int .i64 (nn p 0), .int .i64 (nn p 1), .int .i64 (nn p 2)]) w (by decide)
  have n4 := fun w => no4 84 (.agg #[.int .i64 (nn p 0), .int .i64 (nn p 1), .int .i64 (nn p 2)]) w (by decide)
  have n5 := fun w => no5 84 (.agg #[.int .i64 (nn p 0), .int .i64 (nn p 1), .int .i64 (nn p 2)]) w (by decide)
  have n6 := fun w => no6 84 (.agg #[.int .i64 (nn p 0), .int .i64 (nn p 1), .int .i64 (nn p 2)]) w (by decide)
  have n7 := fun w => no7 84 (.agg #[.int .i64 (nn p 0), .int .i64 (nn p 1), .int .i64 (nn p 2)]) w (by decide)
  have n8 := fun w => no8 84 (.agg #[.int .i64 (nn p 0), .int .i64 (nn p 1), .int .i64 (nn p 2)]) w (by decide)
  have n9 := fun w => no9 84 (.agg #[.int .i64 (nn p 0), .int .i64 (nn p 1), .int .i64 (nn p 2)]) w (by decide)
  have n10 := fun w => no10 84 (.agg #[.int .i64 (nn p 0), .int .i64 (nn p 1), .int .i64 (nn p 2)]) w (by decide)
  have n11 := fun w => no11 84 (.agg #[.int .i64 (nn p 0), .int .i64 (nn p 1), .int .i64 (nn p 2)]) w (by decide)
  have n12 := fun w => no12 84 (.agg #[.int .i64 (nn p 0), .int .i64 (nn p 1), .int .i64 (nn p 2)]) w (by decide)
  have HT := Lib.hid ht
  have HL := Lib.hid hl
  have a0 : Wa.cell? ⟨w.heap.size, 0, none⟩ = some (.int .i64 (nn p 0)) := by rw [cell_of_row _ _ _ _ _ _ P1]; rfl
  have a1 : Wa.cell? ⟨w.heap.size, 1, none⟩ = some (.int .i64 (nn p 1)) := by rw [cell_of_row _ _ _ _ _ _ P1]; rfl
  have a2 : Wa.cell? ⟨w.heap.size, 2, none⟩ = some (.int .i64 (nn p 2)) := by rw [cell_of_row _ _ _ _ _ _ P1]; rfl
  have HW := Lib.hid h
  have HP1 := Lib.hid P1
  have HL1 := Lib.hid L1
  have HB1 := Lib.hid B1
  obtain ⟨B2, P2, L2⟩ := box1 Wa #[.int .i64 (nn p 0), .int .i64 (nn p 1), .int .i64 (nn p 2)] 3
  obtain ⟨Wb, hWb⟩ : ∃ Wb, Wb = (Wa.alloc (.cells #[.int .i64 (nn p 0), .int .i64 (nn p 1), .int .i64 (nn p 2)] 3)).drew := ⟨_, rfl⟩
  have ST := stays_drew (stays_new h B1 #[.int .i64 (nn p 0), .int .i64 (nn p 1), .int .i64 (nn p 2)] [nn p 0, nn p 1, nn p 2] rfl)
  replace B2 := Below.drew B2
  rw [← hWb] at B2 ST
  have L2 : Wb.heap.size = Wa.heap.size + 1 := by rw [hWb]; exact L2
  have B12 := below_on B1 B2
  have C := Lib.hid (pnums_any (h.below B12) _ 3 [nn p 0, nn p 1, nn p 2] ST (by show l.length + 8 * 3 ≤ 300000000; omega))
  have HWB : Hid (Wb = (Wa.alloc (.cells #[.int .i64 (nn p 0), .int .i64 (nn p 1), .int .i64 (nn p 2)] 3)).drew) := hWb
  have HLA : Hid (Wa.heap.size = w.heap.size + 1) := L1
  have HLB : Hid (Wb.heap.size = w.heap.size + 1 + 1) := by rw [← L1]; exact L2
  have HQ1 : Hid (Wb.heap[w.heap.size]? = some (.cells #[.int .i64 (nn p 0), .int .i64 (nn p 1), .int .i64 (nn p 2)] 84 (0, 0))) := (B2.block _ (by omega)).trans P1
  have HB12 := Lib.hid B12
  clear h hWa B1 P1 L1 ht hl B2 P2 L2 hWb ST B12
  go_enter Try.func26, Try.ntmps26
  go_upto_region 42 with fail
  rw [← HWA.out]
  have KR : Hid (Below Wa.heap.size Wa Wa) := Below.refl _ _
  have BX : Hid (∀ w', Below Wa.heap.size Wa w' → w'.cell? ⟨w.heap.size, 0, none⟩ = some (.int .i64 (nn p 0)) ∧ w'.cell? ⟨w.heap.size, 1, none⟩ = some (.int .i64 (nn p 1)) ∧ w'.cell? ⟨w.heap.size, 2, none⟩ = some (.int .i64 (nn p 2))) := fun w' hb => by
    have zz : w'.heap[w.heap.size]? = _ := (hb.block _ (by rw [HLA.out]; omega)).trans HP1.out
    exact ⟨by rw [cell_of_row _ _ _ _ _ _ zz]; rfl, by rw [cell_of_row _ _ _ _ _ _ zz]; rfl, by rw [cell_of_row _ _ _ _ _ _ zz]; rfl⟩
  go_region_held3 (fun w' => w'.cell? ⟨w.heap.size, 0, none⟩ = some (.int .i64 (nn p 0)) ∧ w'.cell? ⟨w.heap.size, 1, none⟩ = some (.int .i64 (nn p 1)) ∧ w'.cell? ⟨w.heap.size, 2, none⟩ = some (.int .i64 (nn p 2)))
    (first
      | exact k5.out
      | (refine BX.out _ ?_; focus ((repeat first | assumption | exact KR.out | apply Below.drew | apply below_drews | refine Below.alloc ?_ (Nat.le_refl _) _); done)))
    (first
      | (go_at_call 40; rw [← HWB.out]; (refine C.out.mono ?_); rintro e w5 ⟨rfl, v5, K5, S5⟩; have Z5 : w5.heap[w.heap.size]? = some (.cells #[.int .i64 (nn p 0), .int .i64 (nn p 1), .int .i64 (nn p 2)] 84 (0, 0)) := Stp.keep HW.out S5 (Nat.le_refl _) (by have := HLB.out; omega) HQ1.out; have k5 : Hid (w5.cell? ⟨w.heap.size, 0, none⟩ = some (.int .i64 (nn p 0)) ∧ w5.cell? ⟨w.heap.size, 1, none⟩ = some (.int .i64 (nn p 1)) ∧ w5.cell? ⟨w.heap.size, 2, none⟩ = some (.int .i64 (nn p 2))) := ⟨by rw [cell_of_row _ _ _ _ _ _ Z5]; rfl, by rw [cell_of_row _ _ _ _ _ _ Z5]; rfl, by rw [cell_of_row _ _ _ _ _ _ Z5]; rfl⟩))
  have FE : Hid (Put base w B v (l ++ [nn p 0, nn p 1, nn p 2].flatMap numL) bad (.returned (.tuple #[])) w5) := ⟨rfl, v5, K5, HW.out.first HB12.out S5⟩
  clear K5 S5 C
  go_wp2_with fail
  all_goals exact bodyPost_ret (v := .tuple #[]) (by simp [results, Try.results26, go_sem]) rfl FE.out
set_option maxHeartbeats 4000000 in
theorem pask14 {base B : Nat} {w : World} {v : Value} {l : List UInt8} {bad : Bool} (h : Wr base w B v l bad) (p : Pl) (hl : l.length ≤ 200000000) (ht : p.text.length ≤ 9223372036854775807 ∧ p.more.length ≤ 9223372036854775807) : Calls Try.prog 26 #[.pointer (some ⟨B, 0, none⟩), .iface 86 (.agg #[.int .i64 (nn p 0), .int .i64 (nn p 1), .bool p.a, .bool p.b])] w (Put base w B v ((l ++ [nn p 0, nn p 1].flatMap numL) ++ flagL p.a ++ flagL p.b) bad) := by
  obtain ⟨B1, P1, L1⟩ := box1 w #[.int .i64 (nn p 0), .int .i64 (nn p 1), .bool p.a, .bool p.b] 86
  obtain ⟨Wa, hWa⟩ : ∃ Wa, Wa = w.alloc (.cells #[.int .i64 (nn p 0), .int .i64 (nn p 1), .bool p.a, .bool p.b] 86) := ⟨_, rfl⟩
  rw [← hWa] at B1 P1 L1
  have HWA := Lib.hid hWa
  have yes := is14 (.agg #[.int .i64 (nn p 0), .int .i64 (nn p 1), .bool p.a, .bool p.b])
  have n1 := fun w => no1 86 (.agg #[.int .i64 (nn p 0), .int .i64 (nn p 1), .bool p.a, .bool p.b]) w (by decide)
  have n2 := fun w => no2 86 (.agg #[.int .i64 (nn p 0), .int .i64 (nn p 1), .bool p.a, .bool p.b]) w (by decide)
  have n3 := fun w => no3 86 (.agg #[.int .i64 (nn p 0), .int .i64 (nn p 1), .bool p.a, .bool p.b]) w (by decide)
  have n4 := fun w => no4 86 (.agg #[.int .i64 (nn p 0), .int .i64 (nn p 1), .bool p.a, .bool p.b]) w (by decide)
  have n5 := fun w => no5 86 (.agg #[.int .i64 (nn p 0), .int .i64 (nn p 1), .bool p.a, .bool p.b]) w (by decide)
  have n6 := fun w => no6 86 (.agg #[.int .i64 (nn p 0), .int .i64 (nn p 1), .bool p.a, .bool p.b]) w (by decide)
  have n7 := fun w => no7 86 (.agg #[.int .i64 (nn p 0), .int .i64 (nn p 1), .bool p.a, .bool p.b]) w (by decide)
  have n8 := fun w => no8 86 (.agg #[.int .i64 (nn p 0), .int .i64 (nn p 1), .bool p.a, .bool p.b]) w (by decide)
  have n9 := fun w => no9 86 (.agg #[.int .i64 (nn p 0), .int .i64 (nn p 1), .bool p.a, .bool p.b]) w (by decide)
  have n10 := fun w => no10 86 (.agg #[.int .i64 (nn p 0), .int .i64 (nn p 1), .bool p.a, .bool p.b]) w (by decide)
  have n11 := fun w => no11 86 (.agg #[.int .i64 (nn p 0), .int .i64 (nn p 1), .bool p.a, .bool p.b]) w (by decide)
  have n12 := fun w => no12 86 (.agg #[.int .i64 (nn p 0), .int .i64 (nn p 1), .bool p.a, .bool p.b]) w (by decide)
  have n13 := fun w => no13 86 (.agg #[.int .i64 (nn p 0), .int .i64 (nn p 1), .bool p.a, .bool p.b]) w (by decide)
  have HT := Lib.hid ht
  have HL := Lib.hid hl
  have a0 : Wa.cell? ⟨w.heap.size, 0, none⟩ = some (.int .i64 (nn p 0)) := by rw [cell_of_row _ _ _ _ _ _ P1]; rfl
  have a1 : Wa.cell? ⟨w.heap.size, 1, none⟩ = some (.int .i64 (nn p 1)) := by rw [cell_of_row _ _ _ _ _ _ P1]; rfl
  have a2 : Wa.cell? ⟨w.heap.size, 2, none⟩ = some (.bool p.a) := by rw [cell_of_row _ _ _ _ _ _ P1]; rfl
  have a3 : Wa.cell? ⟨w.heap.size, 3, none⟩ = some (.bool p.b) := by rw [cell_of_row _ _ _ _ _ _ P1]; rfl
  have HW := Lib.hid h
  have HP1 := Lib.hid P1
  have HL1 := Lib.hid L1
  have HB1 := Lib.hid B1
  obtain ⟨B2, P2, L2⟩ := box1 Wa #[.int .i64 (nn p 0), .int .i64 (nn p 1)] 3
  obtain ⟨Wb, hWb⟩ : ∃ Wb, Wb = (Wa.alloc (.cells #[.int .i64 (nn p 0), .int .i64 (nn p 1)] 3)).drew := ⟨_, rfl⟩
  have ST := stays_drew (stays_new h B1 #[.int .i64 (nn p 0), .int .i64 (nn p 1)] [nn p 0, nn p 1] rfl)
  replace B2 := Below.drew B2
  rw [← hWb] at B2 ST
  have L2 : Wb.heap.size = Wa.heap.size + 1 := by rw [hWb]; exact L2
  have B12 := below_on B1 B2
  have C := Lib.hid (pnums_any (h.below B12) _ 2 [nn p 0, nn p 1] ST (by show l.length + 8 * 2 ≤ 300000000; omega))
  have HWB : Hid (Wb = (Wa.alloc (.cells #[.int .i64 (nn p 0), .int .i64 (nn p 1)] 3)).drew) := hWb
  have HLA : Hid (Wa.heap.size = w.heap.size + 1) := L1
  have HLB : Hid (Wb.heap.size = w.heap.size + 1 + 1) := by rw [← L1]; exact L2
  have HQ1 : Hid (Wb.heap[w.heap.size]? = some (.cells #[.int .i64 (nn p 0), .int .i64 (nn p 1), .bool p.a, .bool p.b] 86 (0, 0))) := (B2.block _ (by omega)).trans P1
  have HB12 := Lib.hid B12
  clear h hWa B1 P1 L1 ht hl B2 P2 L2 hWb ST B12
  go_enter Try.func26, Try.ntmps26
  go_upto_region 45 with fail
  rw [← HWA.out]
  have KR : Hid (Below Wa.heap.size Wa Wa) := Below.refl _ _
  have BX : Hid (∀ w', Below Wa.heap.size Wa w' → w'.cell? ⟨w.heap.size, 0, none⟩ = some (.int .i64 (nn p 0)) ∧ w'.cell? ⟨w.heap.size, 1, none⟩ = some (.int .i64 (nn p 1))) := fun w' hb => by
    have zz : w'.heap[w.heap.size]? = _ := (hb.block _ (by rw [HLA.out]; omega)).trans HP1.out
    exact ⟨by rw [cell_of_row _ _ _ _ _ _ zz]; rfl, by rw [cell_of_row _ _ _ _ _ _ zz]; rfl⟩
  go_region_held3 (fun w' => w'.cell? ⟨w.heap.size, 0, none⟩ = some (.int .i64 (nn p 0)) ∧ w'.cell? ⟨w.heap.size, 1, none⟩ = some (.int .i64 (nn p 1)))
    (first
      | exact k5.out
      | (refine BX.out _ ?_; focus ((repeat first | assumption | exact KR.out | apply Below.drew | apply below_drews | refine Below.alloc ?_ (Nat.le_refl _) _); done)))
    (first
      | (go_at_call 40; rw [← HWB.out]; (refine C.out.mono ?_); rintro e w5 ⟨rfl, v5, K5, S5⟩; have Z5 : w5.heap[w.heap.size]? = some (.cells #[.int .i64 (nn p 0), .int .i64 (nn p 1), .bool p.a, .bool p.b] 86 (0, 0)) := Stp.keep HW.out S5 (Nat.le_refl _) (by have := HLB.out; omega) HQ1.out; have k5 : Hid (w5.cell? ⟨w.heap.size, 0, none⟩ = some (.int .i64 (nn p 0)) ∧ w5.cell? ⟨w.heap.size, 1, none⟩ = some (.int .i64 (nn p 1))) := ⟨by rw [cell_of_row _ _ _ _ _ _ Z5]; rfl, by rw [cell_of_row _ _ _ _ _ _ Z5]; rfl⟩))
  have S5' := HW.out.first HB12.out S5
  clear a0 a1 a2 a3
  have a0 : w5.cell? ⟨w.heap.size, 0, none⟩ = some (.int .i64 (nn p 0)) := by rw [cell_of_row _ _ _ _ _ _ Z5]; rfl
  have a1 : w5.cell? ⟨w.heap.size, 1, none⟩ = some (.int .i64 (nn p 1)) := by rw [cell_of_row _ _ _ _ _ _ Z5]; rfl
  have a2 : w5.cell? ⟨w.heap.size, 2, none⟩ = some (.bool p.a) := by rw [cell_of_row _ _ _ _ _ _ Z5]; rfl
  have a3 : w5.cell? ⟨w.heap.size, 3, none⟩ = some (.bool p.b) := by rw [cell_of_row _ _ _ _ _ _ Z5]; rfl
  have C2 := Lib.hid ((pbool_any K5.drew p.a (by rw [List.length_append, pnums_len]; have := HL.out; simp only [List.length_cons, List.length_nil]; omega)).mono fun _ _ => Put.undrew)
  have HS5 := Lib.hid S5'
  have HZ5 := Lib.hid Z5
  have HQ : Hid (∀ {w7 : World} {v7 : Value}, Stp w5 B v5 w7 v7 → Stp Wb B v w7 v7) := fun s => S5.trans s
  have K5l := Lib.hid K5.hB
  clear K5 S5 S5' Z5 C
  go_upto_region 46 with fail
  refine still_tailW 5 (by kernel_rfl) (by kernel_rfl) ?_
  simp only [List.take_succ_cons, List.take_zero, List.drop_succ_cons, List.drop_zero]
  have d2 := drew_cell a2
  generalize w5.drew = We at *
  repeat still_step
  refine wpStill_nil ?_
  clear d2
  go_wp2_with fail
  refine C2.out.mono ?_
  rintro e w6 ⟨rfl, v6, K6, S6⟩
  have Z6 : w6.heap[w.heap.size]? = some (.cells #[.int .i64 (nn p 0), .int .i64 (nn p 1), .bool p.a, .bool p.b] 86 (0, 0)) := by
    refine Stp.keep HW.out (w1 := Wb) (HQ.out S6) (Nat.le_refl _) (by have := HLB.out; omega) HQ1.out
  have C3 := Lib.hid ((pbool_any K6.drew p.b (by rw [List.length_append, List.length_append, pnums_len]; have := HL.out; show l.length + 8 * 2 + 1 ≤ _; omega)).mono fun _ _ => Put.undrew)
  clear a0 a1 a2 a3
  have a3 : w6.cell? ⟨w.heap.size, 3, none⟩ = some (.bool p.b) := by rw [cell_of_row _ _ _ _ _ _ Z6]; rfl
  have HS6 := Lib.hid (HS5.out.trans S6)
  clear K6 S6 C2 Z6
  go_upto_region 47 with fail
  refine still_tailW 5 (by kernel_rfl) (by kernel_rfl) ?_
  simp only [List.take_succ_cons, List.take_zero, List.drop_succ_cons, List.drop_zero]
  have d3 := drew_cell a3
  generalize w6.drew = Wf at *
  repeat still_step
  refine wpStill_nil ?_
  clear d3
  go_wp2_with fail
  refine C3.out.mono ?_
  rintro e w7 ⟨rfl, v7, K7, S7⟩
  have FE : Hid (Put base w B v ((l ++ [nn p 0, nn p 1].flatMap numL) ++ flagL p.a ++ flagL p.b) bad (.returned (.tuple #[])) w7) := ⟨rfl, v7, K7, HS6.out.trans S7⟩
  clear K7 S7 C3
  go_wp2_with fail
  all_goals exact bodyPost_ret (v := .tuple #[]) (by simp [results, Try.results26, go_sem]) rfl FE.out
set_option maxHeartbeats 4000000 in
theorem pask15 {base B : Nat} {w : World} {v : Value} {l : List UInt8} {bad : Bool} (h : Wr base w B v l bad) (p : Pl) (hl : l.length ≤ 200000000) (ht : p.text.length ≤ 9223372036854775807 ∧ p.more.length ≤ 9223372036854775807) : Calls Try.prog 26 #[.pointer (some ⟨B, 0, none⟩), .iface 88 (.agg #[.int .i64 (nn p 0), .int .i64 (nn p 1)])] w (Put base w B v (l ++ [nn p 0, nn p 1].flatMap numL) bad) := by
  obtain ⟨B1, P1, L1⟩ := box1 w #[.int .i64 (nn p 0), .int .i64 (nn p 1)] 88
  obtain ⟨Wa, hWa⟩ : ∃ Wa, Wa = w.alloc (.cells #[.int .i64 (nn p 0), .int .i64 (nn p 1)] 88) := ⟨_, rfl⟩
  rw [← hWa] at B1 P1 L1
  have HWA := Lib.hid hWa
  have yes := is15 (.agg #[.int .i64 (nn p 0), .int .i64 (nn p 1)])
  have n1 := fun w => no1 88 (.agg #[.int .i64 (nn p 0), .int .i64 (nn p 1)]) w (by decide)
  have n2 := fun w => no2 88 (.agg #[.int .i64 (nn p 0), .int .i64 (nn p 1)]) w (by decide)
  have n3 := fun w => no3 88 (.agg #[.int .i64 (nn p 0), .int .i64 (nn p 1)]) w (by decide)
  have n4 := fun w => no4 88 (.agg #[.int .i64 (nn p 0), .int .i64 (nn p 1)]) w (by decide)
  have n5 := fun w => no5 88 (.agg #[.int .i64 (nn p 0), .int .i64 (nn p 1)]) w (by decide)
  have n6 := fun w => no6 88 (.agg #[.int .i64 (nn p 0), .int .i64 (nn p 1)]) w (by decide)
  have n7 := fun w => no7 88 (.agg #[.int .i64 (nn p 0), .int .i64 (nn p 1)]) w (by decide)
  have n8 := fun w => no8 88 (.agg #[.int .i64 (nn p 0), .int .i64 (nn p 1)]) w (by decide)
  have n9 := fun w => no9 88 (.agg #[.int .i64 (nn p 0), .int .i64 (nn p 1)]) w (by decide)
  have n10 := fun w => no10 88 (.agg #[.int .i64 (nn p 0), .int .i64 (nn p 1)]) w (by decide)
  have n11 := fun w => no11 88 (.agg #[.int .i64 (nn p 0), .int .i64 (nn p 1)]) w (by decide)
  have n12 := fun w => no12 88 (.agg #[.int .i64 (nn p 0), .int .i64 (nn p 1)]) w (by decide)
  have n13 := fun w => no13 88 (.agg #[.int .i64 (nn p 0), .int .i64 (nn p 1)]) w (by decide)
  have n14 := fun w => no14 88 (.agg #[.int .i64 (nn p 0), .int .i64 (nn p 1)]) w (by decide)
  have HT := Lib.hid ht
  have HL := Lib.hid hl
  have a0 : Wa.cell? ⟨w.heap.size, 0, none⟩ = some (.int .i64 (nn p 0)) := by rw [cell_of_row _ _ _ _ _ _ P1]; rfl
  have a1 : Wa.cell? ⟨w.heap.size, 1, none⟩ = some (.int .i64 (nn p 1)) := by rw [cell_of_row _ _ _ _ _ _ P1]; rfl
  have HW := Lib.hid h
  have HP1 := Lib.hid P1
  have HL1 := Lib.hid L1
  have HB1 := Lib.hid B1
  obtain ⟨B2, P2, L2⟩ := box1 Wa #[.int .i64 (nn p 0), .int .i64 (nn p 1)] 3
  obtain ⟨Wb, hWb⟩ : ∃ Wb, Wb = (Wa.alloc (.cells #[.int .i64 (nn p 0), .int .i64 (nn p 1)] 3)).drew := ⟨_, rfl⟩
  have ST := stays_drew (stays_new h B1 #[.int .i64 (nn p 0), .int .i64 (nn p 1)] [nn p 0, nn p 1] rfl)
  replace B2 := Below.drew B2
  rw [← hWb] at B2 ST
  have L2 : Wb.heap.size = Wa.heap.size + 1 := by rw [hWb]; exact L2
  have B12 := below_on B1 B2
  have C := Lib.hid (pnums_any (h.below B12) _ 2 [nn p 0, nn p 1] ST (by show l.length + 8 * 2 ≤ 300000000; omega))
  have HWB : Hid (Wb = (Wa.alloc (.cells #[.int .i64 (nn p 0), .int .i64 (nn p 1)] 3)).drew) := hWb
  have HLA : Hid (Wa.heap.size = w.heap.size + 1) := L1
  have HLB : Hid (Wb.heap.size = w.heap.size + 1 + 1) := by rw [← L1]; exact L2
  have HQ1 : Hid (Wb.heap[w.heap.size]? = some (.cells #[.int .i64 (nn p 0), .int .i64 (nn p 1)] 88 (0, 0))) := (B2.block _ (by omega)).trans P1
  have HB12 := Lib.hid B12
  clear h hWa B1 P1 L1 ht hl B2 P2 L2 hWb ST B12
  go_enter Try.func26, Try.ntmps26
  go_upto_region 50 with fail
  rw [← HWA.out]
  have KR : Hid (Below Wa.heap.size Wa Wa) := Below.refl _ _
  have BX : Hid (∀ w', Below Wa.heap.size Wa w' → w'.cell? ⟨w.heap.size, 0, none⟩ = some (.int .i64 (nn p 0)) ∧ w'.cell? ⟨w.heap.size, 1, none⟩ = some (.int .i64 (nn p 1))) := fun w' hb => by
    have zz : w'.heap[w.heap.size]? = _ := (hb.block _ (by rw [HLA.out]; omega)).trans HP1.out
    exact ⟨by rw [cell_of_row _ _ _ _ _ _ zz]; rfl, by rw [cell_of_row _ _ _ _ _ _ zz]; rfl⟩
  go_region_held3 (fun w' => w'.cell? ⟨w.heap.size, 0, none⟩ = some (.int .i64 (nn p 0)) ∧ w'.cell? ⟨w.heap.size, 1, none⟩ = some (.int .i64 (nn p 1)))
    (first
      | exact k5.out
      | (refine BX.out _ ?_; focus ((repeat first | assumption | exact KR.out | apply Below.drew | apply below_drews | refine Below.alloc ?_ (Nat.le_refl _) _); done)))
    (first
      | (go_at_call 40; rw [← HWB.out]; (refine C.out.mono ?_); rintro e w5 ⟨rfl, v5, K5, S5⟩; have Z5 : w5.heap[w.heap.size]? = some (.cells #[.int .i64 (nn p 0), .int .i64 (nn p 1)] 88 (0, 0)) := Stp.keep HW.out S5 (Nat.le_refl _) (by have := HLB.out; omega) HQ1.out; have k5 : Hid (w5.cell? ⟨w.heap.size, 0, none⟩ = some (.int .i64 (nn p 0)) ∧ w5.cell? ⟨w.heap.size, 1, none⟩ = some (.int .i64 (nn p 1))) := ⟨by rw [cell_of_row _ _ _ _ _ _ Z5]; rfl, by rw [cell_of_row _ _ _ _ _ _ Z5]; rfl⟩))
  have FE : Hid (Put base w B v (l ++ [nn p 0, nn p 1].flatMap numL) bad (.returned (.tuple #[])) w5) := ⟨rfl, v5, K5, HW.out.first HB12.out S5⟩
  clear K5 S5 C
  go_wp2_with fail
  all_goals exact bodyPost_ret (v := .tuple #[]) (by simp [results, Try.results26, go_sem]) rfl FE.out
end Go.Proofs.Ythegkookfpnbeaa.Wds
