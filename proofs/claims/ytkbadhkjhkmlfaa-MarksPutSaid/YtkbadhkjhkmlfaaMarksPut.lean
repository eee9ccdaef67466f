/- For every case (spans, sites, a number of letters, two places) and every number of letters and mark: MarksPut answers true, and its arguments read behind the call as before. No condition. -/
import Derived.Test.YtkbadhkjhkmlfaaRows
import Derived.Test.YtkbadhkjhkmlfaaLift
import Derived.Test.YtkbadhkjhkmlfaaMx
import Derived.Test.YtkbadhkjhkmlfaaPput
import Derived.Test.YtkbadhkjhkmlfaaPtake
import Derived.Deep.RegionHeld3
set_option linter.unusedVariables false
namespace Go.Proofs.Ytkbadhkjhkmlfaa.marksPut
open Go.ChangeShapes Go.WideShapes Go.ChangeAt Go.RowKit Go.Lib Go.Proofs.Ytkbadhkjhkmlfaa.Lift Go.Proofs.Ytkbadhkjhkmlfaa.Rt Go.Proofs.Ytkbadhkjhkmlfaa.Rig
open Go.ChangeMaps (open_string shut_string)

theorem own : ownKnob Try.prog.godebug = none := by kernel_rfl
theorem laidOut : laidOutB Try.prog = true := by kernel_rfl

theorem lit : pPut [] 1 2 7 = [⟨7, 1, 3⟩] ∧ pPutT [] 1 2 = [] := by decide
/-- It hands back one span. -/
def One (W : World) (e : Ending) (w' : World) : Prop := ∃ b off c a2 c2, e = .returned (.agg #[.slice (some ⟨b, off, none⟩) 1 c, .slice a2 0 c2]) ∧ w'.cell? ⟨b, off, none⟩ = some (.int .i64 7) ∧ w'.cell? ⟨b, off + 1, none⟩ = some (.int .i64 1) ∧ w'.cell? ⟨b, off + 2, none⟩ = some (.int .i64 3) ∧ b < w'.heap.size ∧ Below W.heap.size W w'
theorem one_any (W : World) : Calls Try.prog 12 #[.agg #[.slice none 0 0, .slice none 0 0], .int .i64 1, .int .i64 2, .int .i64 7] W (One W) := by
  have h := put_any 1 1 2 7 W (Spans.nil_ W) (Sites.nil_ W) trivial ⟨List.Pairwise.nil, fun x hx => by simp at hx⟩ (by decide) (by decide) (by decide) (by decide) (by decide) ⟨by decide, by decide⟩ (by decide) (by decide)
  refine h.mono ?_
  rintro e w' ⟨v1, v2, rfl, g1, g2, hb⟩
  rw [lit.1] at g1
  rw [lit.2] at g2
  obtain ⟨a, cap, rfl, _, _, hq⟩ := g1.open_
  obtain ⟨a2, c2, rfl⟩ := g2.is_slice
  obtain ⟨b, off, rfl, hl, _, c0, c1, c3⟩ := hq 0 (by decide)
  exact ⟨b, off, cap, a2, c2, rfl, c0, c1, c3, hl, hb⟩
set_option maxRecDepth 100000 in
set_option maxHeartbeats 8000000 in
theorem walk_no {w : World} (sv tv : Value) (S : List Sp) (T : List St) (n a b : Int) (hS : Spans w sv S) (hT : Sites w tv T) (gn : i64 n) (ga : i64 a) (gb : i64 b) (hk : askB S T n a b = false) (k : Int) (hk1 : -9223372036854775808 ≤ k) (hk2 : k ≤ 9223372036854775807) (mk : Int) (hm1 : -9223372036854775808 ≤ mk) (hm2 : mk ≤ 9223372036854775807) :
    Calls Try.prog 4 #[.agg #[sv, tv, .int .i64 n, .int .i64 a, .int .i64 b], .int .i64 k, .int .i64 mk] w fun e w' => e = .returned (.bool true) ∧ Below w.heap.size w w' := by
  obtain ⟨WB, hWB⟩ : ∃ WB, WB = w.alloc (.cells #[sv, tv, .int .i64 n, .int .i64 a, .int .i64 b] 33) := ⟨_, rfl⟩
  have bB : Below w.heap.size w WB := by rw [hWB]; exact (Below.refl _ _).alloc (Nat.le_refl _) _
  have r0 : WB.heap[w.heap.size]? = some (.cells #[sv, tv, .int .i64 n, .int .i64 a, .int .i64 b] 33 (0, 0)) := by rw [hWB]; exact heap_alloc_new _ _
  have lB : w.heap.size < WB.heap.size := by rw [hWB]; simp
  have AK : Hid (∀ w', Below w.heap.size w w' → Calls Try.prog 13 #[.agg #[sv, tv, .int .i64 n, .int .i64 a, .int .i64 b]] w' fun e w'' => e = .returned (.tuple #[.agg #[sv, tv], .agg #[sv, tv], .bool false]) ∧ Below w'.heap.size w' w'') := fun w' hb => by
    have := ask_any n a b w' (hS.below hb (Nat.le_refl _)) (hT.below hb (Nat.le_refl _)) gn ga gb
    rwa [hk] at this
  obtain ⟨sa, sc, rfl⟩ := hS.is_slice
  obtain ⟨ta, tc, rfl⟩ := hT.is_slice
  generalize S.length = ls at *
  generalize T.length = lt at *
  have BX : Hid (∀ w', Below WB.heap.size WB w' → w'.cell? ⟨w.heap.size, 0, none⟩ = some (.slice sa ls sc) ∧ w'.cell? ⟨w.heap.size, 1, none⟩ = some (.slice ta lt tc) ∧ w'.cell? ⟨w.heap.size, 2, none⟩ = some (.int .i64 n) ∧ w'.cell? ⟨w.heap.size, 3, none⟩ = some (.int .i64 a) ∧ w'.cell? ⟨w.heap.size, 4, none⟩ = some (.int .i64 b) ∧ w.heap.size < w'.heap.size) := fun w' hb => by
    refine ⟨below_cell hb lB ?_, below_cell hb lB ?_, below_cell hb lB ?_, below_cell hb lB ?_, below_cell hb lB ?_, Nat.lt_of_lt_of_le lB hb.size⟩ <;> (rw [cell_of_row _ _ _ _ _ _ r0]; rfl)
  have C1 : Hid (∀ W : World, Calls Try.prog 12 #[.agg #[.slice none 0 0, .slice none 0 0], .int .i64 1, .int .i64 2, .int .i64 7] W (One W)) := one_any
  have HWB := Lib.hid hWB
  have GB := Lib.hid bB
  have RH := Lib.hid r0
  have GS := guard_span
  have NE : ∀ w, (binOp .neq 26 (.agg #[.int .i64 7, .int .i64 1, .int .i64 3]) (.agg #[.int .i64 7, .int .i64 1, .int .i64 3])).run Try.prog w = .ok (.bool false) w := fun w => by rw [neq_span]; simp
  clear hS hT r0 bB hWB hk lB gn ga gb
  go_enter Try.func4, Try.ntmps4
  go_wp2_with fail
  rw [← HWB.out]
  refine (C1.out WB).mono ?_
  rintro e w1 ⟨pb, po, pc, a2, d2, rfl, p2, p3, p4, pl, b1⟩
  obtain ⟨c0, c1, c2, c3, c4, l1⟩ := BX.out w1 b1
  have H1 := Lib.hid b1
  have KA : Hid (∀ o, Below WB.heap.size WB (w1.alloc o)) := fun o => b1.alloc b1.size _
  have KN : ¬ pb = w1.heap.size := by omega
  clear b1 C1
  go_wp2_with fail
  refine (AK.out _ (below_more GB.out (KA.out _))).mono ?_
  rintro e w2 ⟨rfl, b2⟩
  have H2 : Hid (Below WB.heap.size WB w2) := below_more (KA.out _) b2
  clear b2 AK c0 c1 c2 c3 c4 l1 p2 p3 p4 pl KN NE GS H1 KA
  have KB : Hid (∀ o1 o2, Below w.heap.size w ((w2.alloc o1).alloc o2)) := fun o1 o2 => by
    have g := below_more GB.out H2.out
    exact (g.alloc g.size _).alloc (by have := g.size; simp; omega) _
  go_wp2_with fail
  go_ret
  exact ⟨rfl, KB.out _ _⟩

set_option maxRecDepth 100000 in
set_option maxHeartbeats 8000000 in
theorem walk_lo {w : World} (sv tv : Value) (S : List Sp) (T : List St) (n a b : Int) (hS : Spans w sv S) (hT : Sites w tv T) (gn : i64 n) (ga : i64 a) (gb : i64 b) (hk : askB S T n a b = true) (k : Int) (hk1 : -9223372036854775808 ≤ k) (hk2 : k ≤ 9223372036854775807) (mk : Int) (hm1 : -9223372036854775808 ≤ mk) (hm2 : mk ≤ 9223372036854775807) (hkk : k < 0) :
    Calls Try.prog 4 #[.agg #[sv, tv, .int .i64 n, .int .i64 a, .int .i64 b], .int .i64 k, .int .i64 mk] w fun e w' => e = .returned (.bool true) ∧ Below w.heap.size w w' := by
  obtain ⟨WB, hWB⟩ : ∃ WB, WB = w.alloc (.cells #[sv, tv, .int .i64 n, .int .i64 a, .int .i64 b] 33) := ⟨_, rfl⟩
  have bB : Below w.heap.size w WB := by rw [hWB]; exact (Below.refl _ _).alloc (Nat.le_refl _) _
  have r0 : WB.heap[w.heap.size]? = some (.cells #[sv, tv, .int .i64 n, .int .i64 a, .int .i64 b] 33 (0, 0)) := by rw [hWB]; exact heap_alloc_new _ _
  have lB : w.heap.size < WB.heap.size := by rw [hWB]; simp
  have AK : Hid (∀ w', Below w.heap.size w w' → Calls Try.prog 13 #[.agg #[sv, tv, .int .i64 n, .int .i64 a, .int .i64 b]] w' fun e w'' => e = .returned (.tuple #[.agg #[sv, tv], .agg #[sv, tv], .bool true]) ∧ Below w'.heap.size w' w'') := fun w' hb => by
    have := ask_any n a b w' (hS.below hb (Nat.le_refl _)) (hT.below hb (Nat.le_refl _)) gn ga gb
    rwa [hk] at this
  obtain ⟨sa, sc, rfl⟩ := hS.is_slice
  obtain ⟨ta, tc, rfl⟩ := hT.is_slice
  generalize S.length = ls at *
  generalize T.length = lt at *
  have BX : Hid (∀ w', Below WB.heap.size WB w' → w'.cell? ⟨w.heap.size, 0, none⟩ = some (.slice sa ls sc) ∧ w'.cell? ⟨w.heap.size, 1, none⟩ = some (.slice ta lt tc) ∧ w'.cell? ⟨w.heap.size, 2, none⟩ = some (.int .i64 n) ∧ w'.cell? ⟨w.heap.size, 3, none⟩ = some (.int .i64 a) ∧ w'.cell? ⟨w.heap.size, 4, none⟩ = some (.int .i64 b) ∧ w.heap.size < w'.heap.size) := fun w' hb => by
    refine ⟨below_cell hb lB ?_, below_cell hb lB ?_, below_cell hb lB ?_, below_cell hb lB ?_, below_cell hb lB ?_, Nat.lt_of_lt_of_le lB hb.size⟩ <;> (rw [cell_of_row _ _ _ _ _ _ r0]; rfl)
  have C1 : Hid (∀ W : World, Calls Try.prog 12 #[.agg #[.slice none 0 0, .slice none 0 0], .int .i64 1, .int .i64 2, .int .i64 7] W (One W)) := one_any
  have HWB := Lib.hid hWB
  have GB := Lib.hid bB
  have RH := Lib.hid r0
  have GS := guard_span
  have NE : ∀ w, (binOp .neq 26 (.agg #[.int .i64 7, .int .i64 1, .int .i64 3]) (.agg #[.int .i64 7, .int .i64 1, .int .i64 3])).run Try.prog w = .ok (.bool false) w := fun w => by rw [neq_span]; simp
  clear hS hT r0 bB hWB hk lB gn ga gb
  go_enter Try.func4, Try.ntmps4
  go_wp2_with fail
  rw [← HWB.out]
  refine (C1.out WB).mono ?_
  rintro e w1 ⟨pb, po, pc, a2, d2, rfl, p2, p3, p4, pl, b1⟩
  obtain ⟨c0, c1, c2, c3, c4, l1⟩ := BX.out w1 b1
  have H1 := Lib.hid b1
  have KA : Hid (∀ o, Below WB.heap.size WB (w1.alloc o)) := fun o => b1.alloc b1.size _
  have KN : ¬ pb = w1.heap.size := by omega
  clear b1 C1
  go_wp2_with fail
  refine (AK.out _ (below_more GB.out (KA.out _))).mono ?_
  rintro e w2 ⟨rfl, b2⟩
  have H2 : Hid (Below WB.heap.size WB w2) := below_more (KA.out _) b2
  clear b2 AK c0 c1 c2 c3 c4 l1 p2 p3 p4 pl KN NE GS H1 KA
  have KB : Hid (∀ o1 o2, Below w.heap.size w ((w2.alloc o1).alloc o2)) := fun o1 o2 => by
    have g := below_more GB.out H2.out
    exact (g.alloc g.size _).alloc (by have := g.size; simp; omega) _
  have dk : decide (k < 0) = true := by simpa using hkk
  go_wp2_with fail
  go_ret
  exact ⟨rfl, KB.out _ _⟩

set_option maxRecDepth 100000 in
set_option maxHeartbeats 8000000 in
theorem walk_hi {w : World} (sv tv : Value) (S : List Sp) (T : List St) (n a b : Int) (hS : Spans w sv S) (hT : Sites w tv T) (gn : i64 n) (ga : i64 a) (gb : i64 b) (hk : askB S T n a b = true) (k : Int) (hk1 : -9223372036854775808 ≤ k) (hk2 : k ≤ 9223372036854775807) (mk : Int) (hm1 : -9223372036854775808 ≤ mk) (hm2 : mk ≤ 9223372036854775807) (hkk : 300 < k) :
    Calls Try.prog 4 #[.agg #[sv, tv, .int .i64 n, .int .i64 a, .int .i64 b], .int .i64 k, .int .i64 mk] w fun e w' => e = .returned (.bool true) ∧ Below w.heap.size w w' := by
  obtain ⟨WB, hWB⟩ : ∃ WB, WB = w.alloc (.cells #[sv, tv, .int .i64 n, .int .i64 a, .int .i64 b] 33) := ⟨_, rfl⟩
  have bB : Below w.heap.size w WB := by rw [hWB]; exact (Below.refl _ _).alloc (Nat.le_refl _) _
  have r0 : WB.heap[w.heap.size]? = some (.cells #[sv, tv, .int .i64 n, .int .i64 a, .int .i64 b] 33 (0, 0)) := by rw [hWB]; exact heap_alloc_new _ _
  have lB : w.heap.size < WB.heap.size := by rw [hWB]; simp
  have AK : Hid (∀ w', Below w.heap.size w w' → Calls Try.prog 13 #[.agg #[sv, tv, .int .i64 n, .int .i64 a, .int .i64 b]] w' fun e w'' => e = .returned (.tuple #[.agg #[sv, tv], .agg #[sv, tv], .bool true]) ∧ Below w'.heap.size w' w'') := fun w' hb => by
    have := ask_any n a b w' (hS.below hb (Nat.le_refl _)) (hT.below hb (Nat.le_refl _)) gn ga gb
    rwa [hk] at this
  obtain ⟨sa, sc, rfl⟩ := hS.is_slice
  obtain ⟨ta, tc, rfl⟩ := hT.is_slice
  generalize S.length = ls at *
  generalize T.length = lt at *
  have BX : Hid (∀ w', Below WB.heap.size WB w' → w'.cell? ⟨w.heap.size, 0, none⟩ = some (.slice sa ls sc) ∧ w'.cell? ⟨w.heap.size, 1, none⟩ = some (.slice ta lt tc) ∧ w'.cell? ⟨w.heap.size, 2, none⟩ = some (.int .i64 n) ∧ w'.cell? ⟨w.heap.size, 3, none⟩ = some (.int .i64 a) ∧ w'.cell? ⟨w.heap.size, 4, none⟩ = some (.int .i64 b) ∧ w.heap.size < w'.heap.size) := fun w' hb => by
    refine ⟨below_cell hb lB ?_, below_cell hb lB ?_, below_cell hb lB ?_, below_cell hb lB ?_, below_cell hb lB ?_, Nat.lt_of_lt_of_le lB hb.size⟩ <;> (rw [cell_of_row _ _ _ _ _ _ r0]; rfl)
  have C1 : Hid (∀ W : World, Calls Try.prog 12 #[.agg #[.slice none 0 0, .slice none 0 0], .int .i64 1, .int .i64 2, .int .i64 7] W (One W)) := one_any
  have HWB := Lib.hid hWB
  have GB := Lib.hid bB
  have RH := Lib.hid r0
  have GS := guard_span
  have NE : ∀ w, (binOp .neq 26 (.agg #[.int .i64 7, .int .i64 1, .int .i64 3]) (.agg #[.int .i64 7, .int .i64 1, .int .i64 3])).run Try.prog w = .ok (.bool false) w := fun w => by rw [neq_span]; simp
  clear hS hT r0 bB hWB hk lB gn ga gb
  go_enter Try.func4, Try.ntmps4
  go_wp2_with fail
  rw [← HWB.out]
  refine (C1.out WB).mono ?_
  rintro e w1 ⟨pb, po, pc, a2, d2, rfl, p2, p3, p4, pl, b1⟩
  obtain ⟨c0, c1, c2, c3, c4, l1⟩ := BX.out w1 b1
  have H1 := Lib.hid b1
  have KA : Hid (∀ o, Below WB.heap.size WB (w1.alloc o)) := fun o => b1.alloc b1.size _
  have KN : ¬ pb = w1.heap.size := by omega
  clear b1 C1
  go_wp2_with fail
  refine (AK.out _ (below_more GB.out (KA.out _))).mono ?_
  rintro e w2 ⟨rfl, b2⟩
  have H2 : Hid (Below WB.heap.size WB w2) := below_more (KA.out _) b2
  clear b2 AK c0 c1 c2 c3 c4 l1 p2 p3 p4 pl KN NE GS H1 KA
  have KB : Hid (∀ o1 o2, Below w.heap.size w ((w2.alloc o1).alloc o2)) := fun o1 o2 => by
    have g := below_more GB.out H2.out
    exact (g.alloc g.size _).alloc (by have := g.size; simp; omega) _
  have dk : decide (300 < k) = true := by simpa using hkk
  go_wp2_with fail
  go_ret
  exact ⟨rfl, KB.out _ _⟩

set_option maxRecDepth 100000 in
set_option maxHeartbeats 8000000 in
theorem walk_yes {w : World} (sv tv : Value) (S : List Sp) (T : List St) (n a b : Nat) (hS : Spans w sv S) (hT : Sites w tv T) (gn : i64 n) (ga : i64 a) (gb : i64 b) (hk : askB S T n a b = true) (k : Int) (hk1 : -9223372036854775808 ≤ k) (hk2 : k ≤ 9223372036854775807) (mk : Int) (hm1 : -9223372036854775808 ≤ mk) (hm2 : mk ≤ 9223372036854775807) (hkk : 0 ≤ k ∧ k ≤ 300) :
    Calls Try.prog 4 #[.agg #[sv, tv, .int .i64 n, .int .i64 a, .int .i64 b], .int .i64 k, .int .i64 mk] w fun e w' => e = .returned (.bool true) ∧ Below w.heap.size w w' := by
  obtain ⟨WB, hWB⟩ : ∃ WB, WB = w.alloc (.cells #[sv, tv, .int .i64 n, .int .i64 a, .int .i64 b] 33) := ⟨_, rfl⟩
  have bB : Below w.heap.size w WB := by rw [hWB]; exact (Below.refl _ _).alloc (Nat.le_refl _) _
  have r0 : WB.heap[w.heap.size]? = some (.cells #[sv, tv, .int .i64 n, .int .i64 a, .int .i64 b] 33 (0, 0)) := by rw [hWB]; exact heap_alloc_new _ _
  have lB : w.heap.size < WB.heap.size := by rw [hWB]; simp
  have AK : Hid (∀ w', Below w.heap.size w w' → Calls Try.prog 13 #[.agg #[sv, tv, .int .i64 n, .int .i64 a, .int .i64 b]] w' fun e w'' => e = .returned (.tuple #[.agg #[sv, tv], .agg #[sv, tv], .bool true]) ∧ Below w'.heap.size w' w'') := fun w' hb => by
    have := ask_any n a b w' (hS.below hb (Nat.le_refl _)) (hT.below hb (Nat.le_refl _)) gn ga gb
    rwa [hk] at this
  obtain ⟨q1, q2, q3, q4, q5, q6, q7, hRS, hRT⟩ := askB_of hk
  have hat := RS.at_ hRS
  have htt := RT.at_ hRT
  obtain ⟨k1, k2⟩ := hkk
  obtain ⟨kn, rfl⟩ := Int.eq_ofNat_of_zero_le k1
  obtain ⟨b1', b2'⟩ := pPut_ok (mk := mk) (k := (kn : Int)) hRS q3 (by omega) (by omega)
  have RR : mrightB (pPut S a kn mk) (pPutT T a kn) ((n : Int) + (kn : Int)) = true := mright_iff.2 ⟨b1', pPutT_right hRT (by omega) q3⟩
  have CO : Hid (∀ w', Below w.heap.size w w' → Calls Try.prog 12 #[.agg #[sv, tv], .int .i64 a, .int .i64 kn, .int .i64 mk] w' (GivesM w' (pPut S a kn mk) (pPutT T a kn))) := fun w' hb => put_any n a kn mk w' (hS.below hb (Nat.le_refl _)) (hT.below hb (Nat.le_refl _)) hRS hRT q3 (by omega) (by omega) (by omega) (by omega) ⟨hm1, hm2⟩ (by omega) (by omega)
  have CRO : Hid (∀ w', Below w.heap.size w w' → Calls Try.prog 15 #[.agg #[sv, tv], .int .i64 n, .int .i64 a, .int .i64 kn, .int .i64 mk] w' (GivesM w' (pPut S a kn mk) (pPutT T a kn))) := fun w' hb => by
    have := rput_any n a kn mk w' (hS.below hb (Nat.le_refl _)) (hT.below hb (Nat.le_refl _)) (by omega) (by omega) (by omega) ⟨hm1, hm2⟩ (by omega) hat htt
    rwa [put_doc hRS (by omega), ← pPutT_doc hRT.1 _ _ (by omega)] at this
  have CRI : Hid (∀ w' v1 v2, Spans w' v1 (pPut S a kn mk) → Sites w' v2 (pPutT T a kn) → Calls Try.prog 10 #[.agg #[v1, v2], .int .i64 ((n : Int) + (kn : Int))] w' fun e w'' => e = .returned (.bool true) ∧ Below w'.heap.size w' w'') := fun w' v1 v2 h1 h2 => by
    have := right_any ((n : Int) + (kn : Int)) w' h1 h2 ⟨by omega, by omega⟩
    rwa [RR] at this
  generalize pPut S a kn mk = RP at *
  generalize pPutT T a kn = RQ at *
  clear hRS hRT hat htt RR b1' b2'
  obtain ⟨sa, sc, rfl⟩ := hS.is_slice
  obtain ⟨ta, tc, rfl⟩ := hT.is_slice
  generalize S.length = ls at *
  generalize T.length = lt at *
  have BX : Hid (∀ w', Below WB.heap.size WB w' → w'.cell? ⟨w.heap.size, 0, none⟩ = some (.slice sa ls sc) ∧ w'.cell? ⟨w.heap.size, 1, none⟩ = some (.slice ta lt tc) ∧ w'.cell? ⟨w.heap.size, 2, none⟩ = some (.int .i64 n) ∧ w'.cell? ⟨w.heap.size, 3, none⟩ = some (.int .i64 a) ∧ w'.cell? ⟨w.heap.size, 4, none⟩ = some (.int .i64 b) ∧ w.heap.size < w'.heap.size) := fun w' hb => by
    refine ⟨below_cell hb lB ?_, below_cell hb lB ?_, below_cell hb lB ?_, below_cell hb lB ?_, below_cell hb lB ?_, Nat.lt_of_lt_of_le lB hb.size⟩ <;> (rw [cell_of_row _ _ _ _ _ _ r0]; rfl)
  have C1 : Hid (∀ W : World, Calls Try.prog 12 #[.agg #[.slice none 0 0, .slice none 0 0], .int .i64 1, .int .i64 2, .int .i64 7] W (One W)) := one_any
  have HWB := Lib.hid hWB
  have GB := Lib.hid bB
  have RH := Lib.hid r0
  have GS := guard_span
  have NE : ∀ w, (binOp .neq 26 (.agg #[.int .i64 7, .int .i64 1, .int .i64 3]) (.agg #[.int .i64 7, .int .i64 1, .int .i64 3])).run Try.prog w = .ok (.bool false) w := fun w => by rw [neq_span]; simp
  clear hS hT r0 bB hWB hk lB gn ga gb
  go_enter Try.func4, Try.ntmps4
  go_wp2_with fail
  rw [← HWB.out]
  refine (C1.out WB).mono ?_
  rintro e w1 ⟨pb, po, pc, a2, d2, rfl, p2, p3, p4, pl, b1⟩
  obtain ⟨c0, c1, c2, c3, c4, l1⟩ := BX.out w1 b1
  have H1 := Lib.hid b1
  have KA : Hid (∀ o, Below WB.heap.size WB (w1.alloc o)) := fun o => b1.alloc b1.size _
  have KN : ¬ pb = w1.heap.size := by omega
  clear b1 C1
  go_wp2_with fail
  refine (AK.out _ (below_more GB.out (KA.out _))).mono ?_
  rintro e w2 ⟨rfl, b2⟩
  have H2 : Hid (Below WB.heap.size WB w2) := below_more (KA.out _) b2
  clear b2 AK c0 c1 c2 c3 c4 l1 p2 p3 p4 pl KN NE GS H1 KA
  obtain ⟨WM, hWM⟩ : ∃ WM, WM = (w2.alloc (.cells #[.slice sa ls sc, .slice ta lt tc] 28)).alloc (.cells #[.slice sa ls sc, .slice ta lt tc] 30) := ⟨_, rfl⟩
  have H3 : Hid (Below WB.heap.size WB WM) := by show Below _ _ _; rw [hWM]; exact (H2.out.alloc H2.out.size _).alloc (by have := H2.out.size; simp; omega) _
  have MX : Hid (∀ w', Below WM.heap.size WM w' → w'.cell? ⟨w2.heap.size, 0, none⟩ = some (.slice sa ls sc) ∧ w'.cell? ⟨w2.heap.size, 1, none⟩ = some (.slice ta lt tc) ∧ w'.cell? ⟨w2.heap.size + 1, 0, none⟩ = some (.slice sa ls sc) ∧ w'.cell? ⟨w2.heap.size + 1, 1, none⟩ = some (.slice ta lt tc) ∧ w2.heap.size + 1 < w'.heap.size) := fun w' hb => by
    have lm : WM.heap.size = w2.heap.size + 1 + 1 := by rw [hWM]; simp
    have m0 : WM.heap[w2.heap.size]? = some (.cells #[.slice sa ls sc, .slice ta lt tc] 28 (0, 0)) := by rw [hWM]; simp only [alloc_at, World.size_alloc]; repeat (first | rw [if_pos (by first | trivial | omega)] | rw [if_neg (by omega)])
    have m1 : WM.heap[w2.heap.size + 1]? = some (.cells #[.slice sa ls sc, .slice ta lt tc] 30 (0, 0)) := by rw [hWM]; simp only [alloc_at, World.size_alloc]; repeat (first | rw [if_pos (by first | trivial | omega)] | rw [if_neg (by omega)])
    refine ⟨below_cell hb (by omega) ?_, below_cell hb (by omega) ?_, below_cell hb (by omega) ?_, below_cell hb (by omega) ?_, by have := hb.size; omega⟩
    · rw [cell_of_row _ _ _ _ _ _ m0]; rfl
    · rw [cell_of_row _ _ _ _ _ _ m0]; rfl
    · rw [cell_of_row _ _ _ _ _ _ m1]; rfl
    · rw [cell_of_row _ _ _ _ _ _ m1]; rfl
  have HWM := Lib.hid hWM
  have GM := Lib.hid (below_more GB.out H3.out)
  clear hWM H2
  go_upto_region 5 with fail
  rw [← HWM.out]
  obtain ⟨m0, m1, m2, m3, l3⟩ := MX.out WM (Below.refl _ _)
  obtain ⟨c0, c1, c2, c3, c4, l1⟩ := BX.out WM H3.out
  go_wp2_with fail
  refine (CO.out WM GM.out).mono ?_
  rintro e w3 ⟨y1, y2, rfl, o1, o2, b3⟩
  have G3 := Lib.hid b3
  have O3 : Hid (Spans w3 y1 RP ∧ Sites w3 y2 RQ) := ⟨o1, o2⟩
  obtain ⟨a5, d5, rfl⟩ := o1.is_slice
  obtain ⟨a6, d6, rfl⟩ := o2.is_slice
  clear b3 o1 o2 m0 m1 m2 m3 l3 c0 c1 c2 c3 c4 l1 CO
  generalize RP.length = k5 at *
  generalize RQ.length = k6 at *
  obtain ⟨WD, hWD⟩ : ∃ WD, WD = w3.alloc (.cells #[.slice a5 k5 d5, .slice a6 k6 d6] 28) := ⟨_, rfl⟩
  have BD : Hid (Below w3.heap.size w3 WD) := by show Below _ _ _; rw [hWD]; exact (Below.refl _ w3).alloc (Nat.le_refl _) _
  have DX : Hid (∀ w', Below WD.heap.size WD w' → w'.cell? ⟨w3.heap.size, 0, none⟩ = some (.slice a5 k5 d5) ∧ w'.cell? ⟨w3.heap.size, 1, none⟩ = some (.slice a6 k6 d6) ∧ w'.cell? ⟨w2.heap.size + 1, 0, none⟩ = some (.slice sa ls sc) ∧ w'.cell? ⟨w2.heap.size + 1, 1, none⟩ = some (.slice ta lt tc) ∧ w'.cell? ⟨w.heap.size, 2, none⟩ = some (.int .i64 n) ∧ w'.cell? ⟨w.heap.size, 3, none⟩ = some (.int .i64 a)) := fun w' hb => by
    have z0 : WD.heap[w3.heap.size]? = some (.cells #[.slice a5 k5 d5, .slice a6 k6 d6] 28 (0, 0)) := by rw [hWD]; exact heap_alloc_new _ _
    have lq : WD.heap.size = w3.heap.size + 1 := by rw [hWD]; simp
    have z1 : w'.heap[w3.heap.size]? = _ := (hb.block _ (by omega)).trans z0
    have hbm : Below WM.heap.size WM w' := below_more G3.out (below_more BD.out hb)
    obtain ⟨_, _, t2, t3, _⟩ := MX.out w' hbm
    obtain ⟨_, _, s2, s3, s4, _⟩ := BX.out w' (below_more H3.out hbm)
    exact ⟨by rw [cell_of_row _ _ _ _ _ _ z1]; rfl, by rw [cell_of_row _ _ _ _ _ _ z1]; rfl, t2, t3, s2, s3⟩
  have HWD := Lib.hid hWD
  have O6 : Hid (∀ w', Below WD.heap.size WD w' → Spans w' (.slice a5 k5 d5) RP ∧ Sites w' (.slice a6 k6 d6) RQ) := fun w' hb => by
    have b := below_more BD.out hb
    exact ⟨O3.out.1.below b (Nat.le_refl _), O3.out.2.below b (Nat.le_refl _)⟩
  have GD : Hid (Below w.heap.size w WD) := below_more (below_more GM.out G3.out) BD.out
  clear hWD MX O3
  go_upto_region 8 with fail
  rw [← HWD.out]
  have C25 : Hid (∀ w', Below WD.heap.size WD w' → Calls Try.prog 15 #[.agg #[.slice sa ls sc, .slice ta lt tc], .int .i64 n, .int .i64 a, .int .i64 kn, .int .i64 mk] w' (GivesM w' RP RQ)) := fun w' hb => CRO.out w' (below_more GD.out hb)
  have C14 : Hid (∀ w' x1 x2, Below WD.heap.size WD w' → Spans w' x1 RP → Sites w' x2 RQ → Calls Try.prog 14 #[.agg #[.slice a5 k5 d5, .slice a6 k6 d6], .agg #[x1, x2]] w' fun e w'' => e = .returned (.bool true) ∧ Below w'.heap.size w' w'') := fun w' x1 x2 hb g1 g2 => by
    obtain ⟨h5, h6⟩ := O6.out w' hb
    exact same_any w' h5 h6 g1 g2
  have C10 : Hid (∀ w', Below WD.heap.size WD w' → Calls Try.prog 10 #[.agg #[.slice a5 k5 d5, .slice a6 k6 d6], .int .i64 ((n : Int) + (kn : Int))] w' fun e w'' => e = .returned (.bool true) ∧ Below w'.heap.size w' w'') := fun w' hb => by
    obtain ⟨h5, h6⟩ := O6.out w' hb
    exact CRI.out w' _ _ h5 h6
  have KP : Hid (∀ w', Below WD.heap.size WD w' → Below WD.heap.size WD w' ∧ w'.cell? ⟨w3.heap.size, 0, none⟩ = some (.slice a5 k5 d5) ∧ w'.cell? ⟨w3.heap.size, 1, none⟩ = some (.slice a6 k6 d6) ∧ w'.cell? ⟨w2.heap.size + 1, 0, none⟩ = some (.slice sa ls sc) ∧ w'.cell? ⟨w2.heap.size + 1, 1, none⟩ = some (.slice ta lt tc) ∧ w'.cell? ⟨w.heap.size, 2, none⟩ = some (.int .i64 n) ∧ w'.cell? ⟨w.heap.size, 3, none⟩ = some (.int .i64 a)) := fun w' hb => ⟨hb, DX.out w' hb⟩
  have hD : Hid (∀ n, Below WD.heap.size WD (WD.drewN n)) := fun n => below_drews (Below.refl _ _) n
  have zw : IntKind.i64.wrap ((n : Int) + (kn : Int)) = (n : Int) + (kn : Int) := IntWalk.i64_in _ (by omega)
  clear CRO CRI O6 DX BD HWD G3 BX RH GB H3 HWM GM
  go_region_held3 (fun w' => Below WD.heap.size WD w' ∧ w'.cell? ⟨w3.heap.size, 0, none⟩ = some (.slice a5 k5 d5) ∧ w'.cell? ⟨w3.heap.size, 1, none⟩ = some (.slice a6 k6 d6) ∧ w'.cell? ⟨w2.heap.size + 1, 0, none⟩ = some (.slice sa ls sc) ∧ w'.cell? ⟨w2.heap.size + 1, 1, none⟩ = some (.slice ta lt tc) ∧ w'.cell? ⟨w.heap.size, 2, none⟩ = some (.int .i64 n) ∧ w'.cell? ⟨w.heap.size, 3, none⟩ = some (.int .i64 a))
    ((refine KP.out _ ?_; focus ((repeat first | assumption | exact hD.out _ | exact Below.refl _ _ | apply Below.drew | apply below_drews); done)))
    (first
      | (go_at_call 15; go_split_ands; (with_reducible refine (C25.out _ ?_).mono ?_); (focus ((repeat first | assumption | exact hD.out _ | exact Below.refl _ _ | apply Below.drew | apply below_drews); done)); rintro e w1 ⟨x1, x2, rfl, hx1, hx2, hb⟩; have hb1 := below_more (w := WD) (by (repeat first | assumption | exact hD.out _ | exact Below.refl _ _ | apply Below.drew | apply below_drews)) hb; clear hb)
      | (go_at_call 14; go_split_ands; (with_reducible refine (C14.out _ _ _ ?_ ?_ ?_).mono ?_); (focus ((repeat first | assumption | exact hD.out _ | exact Below.refl _ _ | apply Below.drew | apply below_drews); done)); assumption; assumption; rintro e w1 ⟨rfl, hb⟩; have hb1 := below_more (w := WD) (by (repeat first | assumption | exact hD.out _ | exact Below.refl _ _ | apply Below.drew | apply below_drews)) hb; clear hb)
      | (go_at_call 10; go_split_ands; (with_reducible refine (C10.out _ ?_).mono ?_); (focus ((repeat first | assumption | exact hD.out _ | exact Below.refl _ _ | apply Below.drew | apply below_drews); done)); rintro e w1 ⟨rfl, hb⟩; have hb1 := below_more (w := WD) (by (repeat first | assumption | exact hD.out _ | exact Below.refl _ _ | apply Below.drew | apply below_drews)) hb; clear hb))
  all_goals
    go_wp2_with fail
    go_ret
    exact ⟨rfl, below_more GD.out (by assumption)⟩

theorem walk {w : World} {v : Value} (S : List Sp) (T : List St) (n a b : Int) (h : Cs w v S T n a b) (k : Int) (hk1 : -9223372036854775808 ≤ k) (hk2 : k ≤ 9223372036854775807) (mk : Int) (hm1 : -9223372036854775808 ≤ mk) (hm2 : mk ≤ 9223372036854775807) :
    Calls Try.prog 4 #[v, .int .i64 k, .int .i64 mk] w fun e w' => e = .returned (.bool true) ∧ Below w.heap.size w w' := by
  obtain ⟨⟨sv, tv, rfl, hS, hT⟩, gn, ga, gb⟩ := h
  cases hk : askB S T n a b with
  | false => exact walk_no sv tv S T n a b hS hT gn ga gb hk k hk1 hk2 mk hm1 hm2
  | true =>
    by_cases h1 : k < 0
    · exact walk_lo sv tv S T n a b hS hT gn ga gb hk k hk1 hk2 mk hm1 hm2 h1
    · by_cases h2 : 300 < k
      · exact walk_hi sv tv S T n a b hS hT gn ga gb hk k hk1 hk2 mk hm1 hm2 h2
      · obtain ⟨q1, _, q3, q4, _⟩ := askB_of hk
        obtain ⟨n', rfl⟩ := Int.eq_ofNat_of_zero_le q1
        obtain ⟨a', rfl⟩ := Int.eq_ofNat_of_zero_le q3
        obtain ⟨b', rfl⟩ := Int.eq_ofNat_of_zero_le (Int.le_trans q3 q4)
        exact walk_yes sv tv S T n' a' b' hS hT gn ga gb hk k hk1 hk2 mk hm1 hm2 ⟨by omega, by omega⟩

set_option maxRecDepth 100000 in
theorem lifted (os : Os) (started : os.Started) (H : Type) (enc : TypeId × Value → H) :
    ReturnsInHanded {} Try.checked os 4 .any (Rows.marksPutSpec.pre6 enc Try.prog Try.f4 Rows.marksPutRow.domain false) (Rows.marksPutSpec.post enc Try.prog Try.f4 false true false false) := by
  refine returnsInHanded_of_change (C := Try.checked) own started (by kernel_rfl) Try.func4
    (ChangeSpec.witness6 (enc := enc) (C := Try.checked) false ⟨#[], #[.agg #[.slice none 0 0, .slice none 0 0, .int .i64 0, .int .i64 0, .int .i64 0], .int .i64 0, .int .i64 0], []⟩ 8 (by kernel_rfl) (by kernel_rfl) (by kernel_rfl) (by kernel_rfl)) ?_
  intro W base args ds gs before hval0 hW hcnd _
  have hval : ∀ (j : Nat) t v, Try.f4.params[j]? = some t → args[j]? = some v → Value.okWide Try.prog W .any base t v := hval0
  have hread : ∀ t ∈ Try.f4.params.toList, Try.prog.readableRec t = true ∧ t < Try.prog.types.size := by
    have : (Try.f4.params.toList.all fun t => Try.prog.readableRec t && decide (t < Try.prog.types.size)) = true := by kernel_rfl
    intro t ht
    have := List.all_eq_true.1 this t ht
    simpa using this
  refine law_contract (P := Try.prog) (s := Rows.marksPutSpec) (fn := Try.f4) (tb := 4) laidOut rfl hread rfl Try.underlying4 (fun W' => okWide_bool_mk Try.underlying4 _) ?_ hW ?_
  · intro ds hds
    rw [Try.params4] at hds
    match ds, hds with
    | [d0, d1, d2], _ => rfl
  intro pl hA
  rw [Try.params4] at hA hval
  obtain ⟨v0, vs0, d0, ds0, p0, q0, hargs, rfl, hp0, h0, r0⟩ := trodAll_cons hA
  obtain ⟨v1, vs1, d1, ds1, p1, q1, rfl, rfl, hp1, h1, r1⟩ := trodAll_cons r0
  obtain ⟨v2, vs2, d2, ds2, p2, q2, rfl, rfl, hp2, h2, r2⟩ := trodAll_cons r1
  obtain ⟨rfl, rfl, hpe⟩ := trodAll_nil r2
  obtain rfl : args = #[v0, v1, v2] := by cases args; simp_all
  obtain ⟨S, T, n, a, b, hC⟩ := open_case (hval 0 33 v0 rfl rfl) h0
  obtain ⟨k, rfl, rfl, _, hw1⟩ := open_int Try.underlying3 (hval 1 3 v1 rfl rfl) h1
  have hb1 : -9223372036854775808 ≤ k ∧ k ≤ 9223372036854775807 := by simpa [Lit.wf, IntKind.min, IntKind.max, IntKind.signed, IntKind.bits] using hw1
  obtain ⟨mk, rfl, rfl, _, hw2⟩ := open_int Try.underlying3 (hval 2 3 v2 rfl rfl) h2
  have hb2 : -9223372036854775808 ≤ mk ∧ mk ≤ 9223372036854775807 := by simpa [Lit.wf, IntKind.min, IntKind.max, IntKind.signed, IntKind.bits] using hw2
  exact walk S T n a b hC k hb1.1 hb1.2 mk hb2.1 hb2.2

theorem over : Rows.marksPutRow.holds Try.pinned (OpenSpec.ofChange Rows.marksPutSpec) :=
  OpenClaim.holds_of_wide 4 Try.f4 rfl rfl rfl rfl rfl rfl rfl ⟨rfl, rfl, rfl, rfl, rfl⟩ rfl rfl rfl rfl rfl (by kernel_rfl) Try.func4 (by kernel_rfl)
    (of_decide_eq_true (by kernel_rfl)) (by unfold Func.isWrapper; first | (rw [if_pos (by decide +kernel)]; kernel_rfl) | (rw [if_neg (by decide +kernel)]; exact ⟨rfl, rfl⟩))
    (fun os started H enc _ => lifted os started H enc)

/-- The statement. -/
theorem proved : Rows.MarksPutSaid :=
  over
#print axioms proved
end Go.Proofs.Ytkbadhkjhkmlfaa.marksPut
