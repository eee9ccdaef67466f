/- For every case (spans, sites, a number of letters, two places) and every number of letters: MarksBack answers true, and its arguments read behind the call as before. No condition. -/
import Derived.Test.YtkbadhkjhkmlfaaRows
import Derived.Test.YtkbadhkjhkmlfaaLift
import Derived.Test.YtkbadhkjhkmlfaaMx
import Derived.Test.YtkbadhkjhkmlfaaPput
import Derived.Test.YtkbadhkjhkmlfaaPtake
import Derived.Deep.RegionHeld3
set_option linter.unusedVariables false
namespace Go.Proofs.Ytkbadhkjhkmlfaa.marksBack
open Go.ChangeShapes Go.WideShapes Go.ChangeAt Go.RowKit Go.Lib Go.Proofs.Ytkbadhkjhkmlfaa.Lift Go.Proofs.Ytkbadhkjhkmlfaa.Rt Go.Proofs.Ytkbadhkjhkmlfaa.Rig
open Go.ChangeMaps (open_string shut_string)

theorem own : ownKnob Try.prog.godebug = none := by kernel_rfl
theorem laidOut : laidOutB Try.prog = true := by kernel_rfl

theorem lit : pPut [] 1 2 7 = [⟨7, 1, 3⟩] ∧ pPutT [] 1 2 = [] := by decide
theorem lit2 : pTake [⟨7, 1, 3⟩] 1 3 = [] ∧ pTakeT [] 1 3 0 = [] := by decide
/-- It hands back one span, no site. -/
def One (W : World) (e : Ending) (w' : World) : Prop := ∃ a1 c1 a2 c2, e = .returned (.agg #[.slice a1 1 c1, .slice a2 0 c2]) ∧ Spans w' (.slice a1 1 c1) [⟨7, 1, 3⟩] ∧ Sites w' (.slice a2 0 c2) [] ∧ Below W.heap.size W w'
theorem one_any (W : World) : Calls Try.prog 12 #[.agg #[.slice none 0 0, .slice none 0 0], .int .i64 1, .int .i64 2, .int .i64 7] W (One W) := by
  have h := put_any 1 1 2 7 W (Spans.nil_ W) (Sites.nil_ W) trivial ⟨List.Pairwise.nil, fun x hx => by simp at hx⟩ (by decide) (by decide) (by decide) (by decide) (by decide) ⟨by decide, by decide⟩ (by decide) (by decide)
  refine h.mono ?_
  rintro e w' ⟨v1, v2, rfl, g1, g2, hb⟩
  rw [lit.1] at g1
  rw [lit.2] at g2
  obtain ⟨a1, c1, rfl⟩ := g1.is_slice
  obtain ⟨a2, c2, rfl⟩ := g2.is_slice
  exact ⟨a1, c1, a2, c2, rfl, g1, g2, hb⟩
/-- It hands back nothing. -/
def Nought (W : World) (e : Ending) (w' : World) : Prop := ∃ a1 c1 a2 c2, e = .returned (.agg #[.slice a1 0 c1, .slice a2 0 c2]) ∧ Below W.heap.size W w'
theorem nought_any {v1 v2 : Value} (W : World) (h1 : Spans W v1 [⟨7, 1, 3⟩]) (h2 : Sites W v2 []) : Calls Try.prog 16 #[.agg #[v1, v2], .int .i64 1, .int .i64 3, .int .i64 0] W (Nought W) := by
  have h := take_any 3 1 3 0 W h1 h2 ⟨by decide, by decide, by decide, by decide, fun _ => by decide, trivial⟩ ⟨List.Pairwise.nil, fun x hx => by simp at hx⟩ (by decide) (by decide) (by decide) (by decide) ⟨by decide, by decide⟩ (by decide) (by decide)
  refine h.mono ?_
  rintro e w' ⟨v1, v2, rfl, g1, g2, hb⟩
  rw [lit2.1] at g1
  rw [lit2.2] at g2
  obtain ⟨a1, c1, rfl⟩ := g1.is_slice
  obtain ⟨a2, c2, rfl⟩ := g2.is_slice
  exact ⟨a1, c1, a2, c2, rfl, hb⟩
set_option maxRecDepth 100000 in
set_option maxHeartbeats 8000000 in
theorem walk_no {w : World} (sv tv : Value) (S : List Sp) (T : List St) (n a b : Int) (hS : Spans w sv S) (hT : Sites w tv T) (gn : i64 n) (ga : i64 a) (gb : i64 b) (hk : askB S T n a b = false) (k : Int) (hk1 : -9223372036854775808 ≤ (k : Int)) (hk2 : (k : Int) ≤ 9223372036854775807) :
    Calls Try.prog 8 #[.agg #[sv, tv, .int .i64 n, .int .i64 a, .int .i64 b], .int .i64 k] w fun e w' => e = .returned (.bool true) ∧ Below w.heap.size w w' := by
  obtain ⟨WB, hWB⟩ : ∃ WB, WB = w.alloc (.cells #[sv, tv, .int .i64 n, .int .i64 a, .int .i64 b] 33) := ⟨_, rfl⟩
  have bB : Below w.heap.size w WB := by rw [hWB]; exact (Below.refl _ _).alloc (Nat.le_refl _) _
  have r0 : WB.heap[w.heap.size]? = some (.cells #[sv, tv, .int .i64 n, .int .i64 a, .int .i64 b] 33 (0, 0)) := by rw [hWB]; exact heap_alloc_new _ _
  have lB : w.heap.size < WB.heap.size := by rw [hWB]; simp
  have AK : Hid (∀ w', Below w.heap.size w w' → Calls Try.prog 13 #[.agg #[sv, tv, .int .i64 n, .int .i64 a, .int .i64 b]] w' fun e w'' => e = .returned (.tuple #[.agg #[sv, tv], .agg #[sv, tv], .bool false]) ∧ Below w'.heap.size w' w'') := fun w' hb => by
    have := ask_any n a b w' (hS.below hb (Nat.le_refl _)) (hT.below hb (Nat.le_refl _)) gn ga gb
    rwa [hk] at this
  obtain ⟨sa, sc, rfl⟩ := hS.is_slice
  obtain ⟨ta, tc, rfl⟩ := hT.is_slice
  generalize S.length = ls at *
  clear hS
  generalize T.length = lt at *
  have BX : Hid (∀ w', Below WB.heap.size WB w' → w'.cell? ⟨w.heap.size, 0, none⟩ = some (.slice sa ls sc) ∧ w'.cell? ⟨w.heap.size, 1, none⟩ = some (.slice ta lt tc) ∧ w'.cell? ⟨w.heap.size, 2, none⟩ = some (.int .i64 n) ∧ w'.cell? ⟨w.heap.size, 3, none⟩ = some (.int .i64 a) ∧ w'.cell? ⟨w.heap.size, 4, none⟩ = some (.int .i64 b) ∧ w.heap.size < w'.heap.size) := fun w' hb => by
    refine ⟨below_cell hb lB ?_, below_cell hb lB ?_, below_cell hb lB ?_, below_cell hb lB ?_, below_cell hb lB ?_, Nat.lt_of_lt_of_le lB hb.size⟩ <;> (rw [cell_of_row _ _ _ _ _ _ r0]; rfl)
  have C1 : Hid (∀ W : World, Calls Try.prog 12 #[.agg #[.slice none 0 0, .slice none 0 0], .int .i64 1, .int .i64 2, .int .i64 7] W (One W)) := one_any
  have C2 : Hid (∀ (W : World) (v1 v2 : Value), Spans W v1 [⟨7, 1, 3⟩] → Sites W v2 [] → Calls Try.prog 16 #[.agg #[v1, v2], .int .i64 1, .int .i64 3, .int .i64 0] W (Nought W)) := fun W v1 v2 => nought_any W
  have HWB := Lib.hid hWB
  have GB := Lib.hid bB
  clear hT r0 bB hWB hk lB gn ga gb
  go_enter Try.func8, Try.ntmps8
  go_wp2_with fail
  rw [← HWB.out]
  refine (C1.out WB).mono ?_
  rintro e w1 ⟨p1, d1, p2, d2, rfl, o1, o2, b1⟩
  obtain ⟨c0, c1, c2, c3, c4, l1⟩ := BX.out w1 b1
  have KA : Hid (∀ o, Below WB.heap.size WB (w1.alloc o)) := fun o => b1.alloc b1.size _
  have CC := Lib.hid (C2.out (w1.alloc (.cells #[.slice p1 1 d1, .slice p2 0 d2] 28)) _ _ (o1.below ((Below.refl _ w1).alloc (Nat.le_refl _) _) (Nat.le_refl _)) (o2.below ((Below.refl _ w1).alloc (Nat.le_refl _) _) (Nat.le_refl _)))
  clear b1 C1 C2 o1 o2
  go_wp2_with fail
  refine CC.out.mono ?_
  rintro e w7 ⟨q1', e1', q2', e2', rfl, b7⟩
  have H7 : Hid (Below WB.heap.size WB w7) := below_more (KA.out _) b7
  clear b7 KA CC c0 c1 c2 c3 c4 l1
  obtain ⟨c0, c1, c2, c3, c4, l1⟩ := BX.out w7 H7.out
  have FE : ∀ w : World, (Instr.field 28 (.agg #[.slice q1' 0 e1', .slice q2' 0 e2']) 0).run Try.prog w = .ok (.slice q1' 0 e1') w := fun _ => by kernel_rfl
  go_wp2_with fail
  refine (AK.out _ (below_more GB.out H7.out)).mono ?_
  rintro e w2 ⟨rfl, b2⟩
  have H2 : Hid (Below WB.heap.size WB w2) := below_more H7.out b2
  clear b2 AK c0 c1 c2 c3 c4 l1 H7 FE
  have KB : Hid (∀ o1 o2, Below w.heap.size w ((w2.alloc o1).alloc o2)) := fun o1 o2 => by
    have g := below_more GB.out H2.out
    exact (g.alloc g.size _).alloc (by have := g.size; simp; omega) _
  go_wp2_with fail
  go_ret
  exact ⟨rfl, KB.out _ _⟩

set_option maxRecDepth 100000 in
set_option maxHeartbeats 8000000 in
theorem walk_lo {w : World} (sv tv : Value) (S : List Sp) (T : List St) (n a b : Int) (hS : Spans w sv S) (hT : Sites w tv T) (gn : i64 n) (ga : i64 a) (gb : i64 b) (hk : askB S T n a b = true) (k : Int) (hk1 : -9223372036854775808 ≤ (k : Int)) (hk2 : (k : Int) ≤ 9223372036854775807) (hkk : k < 0) :
    Calls Try.prog 8 #[.agg #[sv, tv, .int .i64 n, .int .i64 a, .int .i64 b], .int .i64 k] w fun e w' => e = .returned (.bool true) ∧ Below w.heap.size w w' := by
  obtain ⟨WB, hWB⟩ : ∃ WB, WB = w.alloc (.cells #[sv, tv, .int .i64 n, .int .i64 a, .int .i64 b] 33) := ⟨_, rfl⟩
  have bB : Below w.heap.size w WB := by rw [hWB]; exact (Below.refl _ _).alloc (Nat.le_refl _) _
  have r0 : WB.heap[w.heap.size]? = some (.cells #[sv, tv, .int .i64 n, .int .i64 a, .int .i64 b] 33 (0, 0)) := by rw [hWB]; exact heap_alloc_new _ _
  have lB : w.heap.size < WB.heap.size := by rw [hWB]; simp
  have AK : Hid (∀ w', Below w.heap.size w w' → Calls Try.prog 13 #[.agg #[sv, tv, .int .i64 n, .int .i64 a, .int .i64 b]] w' fun e w'' => e = .returned (.tuple #[.agg #[sv, tv], .agg #[sv, tv], .bool true]) ∧ Below w'.heap.size w' w'') := fun w' hb => by
    have := ask_any n a b w' (hS.below hb (Nat.le_refl _)) (hT.below hb (Nat.le_refl _)) gn ga gb
    rwa [hk] at this
  obtain ⟨sa, sc, rfl⟩ := hS.is_slice
  obtain ⟨ta, tc, rfl⟩ := hT.is_slice
  generalize S.length = ls at *
  clear hS
  generalize T.length = lt at *
  have BX : Hid (∀ w', Below WB.heap.size WB w' → w'.cell? ⟨w.heap.size, 0, none⟩ = some (.slice sa ls sc) ∧ w'.cell? ⟨w.heap.size, 1, none⟩ = some (.slice ta lt tc) ∧ w'.cell? ⟨w.heap.size, 2, none⟩ = some (.int .i64 n) ∧ w'.cell? ⟨w.heap.size, 3, none⟩ = some (.int .i64 a) ∧ w'.cell? ⟨w.heap.size, 4, none⟩ = some (.int .i64 b) ∧ w.heap.size < w'.heap.size) := fun w' hb => by
    refine ⟨below_cell hb lB ?_, below_cell hb lB ?_, below_cell hb lB ?_, below_cell hb lB ?_, below_cell hb lB ?_, Nat.lt_of_lt_of_le lB hb.size⟩ <;> (rw [cell_of_row _ _ _ _ _ _ r0]; rfl)
  have C1 : Hid (∀ W : World, Calls Try.prog 12 #[.agg #[.slice none 0 0, .slice none 0 0], .int .i64 1, .int .i64 2, .int .i64 7] W (One W)) := one_any
  have C2 : Hid (∀ (W : World) (v1 v2 : Value), Spans W v1 [⟨7, 1, 3⟩] → Sites W v2 [] → Calls Try.prog 16 #[.agg #[v1, v2], .int .i64 1, .int .i64 3, .int .i64 0] W (Nought W)) := fun W v1 v2 => nought_any W
  have HWB := Lib.hid hWB
  have GB := Lib.hid bB
  clear hT r0 bB hWB hk lB gn ga gb
  go_enter Try.func8, Try.ntmps8
  go_wp2_with fail
  rw [← HWB.out]
  refine (C1.out WB).mono ?_
  rintro e w1 ⟨p1, d1, p2, d2, rfl, o1, o2, b1⟩
  obtain ⟨c0, c1, c2, c3, c4, l1⟩ := BX.out w1 b1
  have KA : Hid (∀ o, Below WB.heap.size WB (w1.alloc o)) := fun o => b1.alloc b1.size _
  have CC := Lib.hid (C2.out (w1.alloc (.cells #[.slice p1 1 d1, .slice p2 0 d2] 28)) _ _ (o1.below ((Below.refl _ w1).alloc (Nat.le_refl _) _) (Nat.le_refl _)) (o2.below ((Below.refl _ w1).alloc (Nat.le_refl _) _) (Nat.le_refl _)))
  clear b1 C1 C2 o1 o2
  go_wp2_with fail
  refine CC.out.mono ?_
  rintro e w7 ⟨q1', e1', q2', e2', rfl, b7⟩
  have H7 : Hid (Below WB.heap.size WB w7) := below_more (KA.out _) b7
  clear b7 KA CC c0 c1 c2 c3 c4 l1
  obtain ⟨c0, c1, c2, c3, c4, l1⟩ := BX.out w7 H7.out
  have FE : ∀ w : World, (Instr.field 28 (.agg #[.slice q1' 0 e1', .slice q2' 0 e2']) 0).run Try.prog w = .ok (.slice q1' 0 e1') w := fun _ => by kernel_rfl
  go_wp2_with fail
  refine (AK.out _ (below_more GB.out H7.out)).mono ?_
  rintro e w2 ⟨rfl, b2⟩
  have H2 : Hid (Below WB.heap.size WB w2) := below_more H7.out b2
  clear b2 AK c0 c1 c2 c3 c4 l1 H7 FE
  have KB : Hid (∀ o1 o2, Below w.heap.size w ((w2.alloc o1).alloc o2)) := fun o1 o2 => by
    have g := below_more GB.out H2.out
    exact (g.alloc g.size _).alloc (by have := g.size; simp; omega) _
  have dk : decide (k < 0) = true := by simpa using hkk
  go_wp2_with fail
  go_ret
  exact ⟨rfl, KB.out _ _⟩

set_option maxRecDepth 100000 in
set_option maxHeartbeats 8000000 in
theorem walk_hi {w : World} (sv tv : Value) (S : List Sp) (T : List St) (n a b : Int) (hS : Spans w sv S) (hT : Sites w tv T) (gn : i64 n) (ga : i64 a) (gb : i64 b) (hk : askB S T n a b = true) (k : Int) (hk1 : -9223372036854775808 ≤ (k : Int)) (hk2 : (k : Int) ≤ 9223372036854775807) (hkk : 300 < k) :
    Calls Try.prog 8 #[.agg #[sv, tv, .int .i64 n, .int .i64 a, .int .i64 b], .int .i64 k] w fun e w' => e = .returned (.bool true) ∧ Below w.heap.size w w' := by
  obtain ⟨WB, hWB⟩ : ∃ WB, WB = w.alloc (.cells #[sv, tv, .int .i64 n, .int .i64 a, .int .i64 b] 33) := ⟨_, rfl⟩
  have bB : Below w.heap.size w WB := by rw [hWB]; exact (Below.refl _ _).alloc (Nat.le_refl _) _
  have r0 : WB.heap[w.heap.size]? = some (.cells #[sv, tv, .int .i64 n, .int .i64 a, .int .i64 b] 33 (0, 0)) := by rw [hWB]; exact heap_alloc_new _ _
  have lB : w.heap.size < WB.heap.size := by rw [hWB]; simp
  have AK : Hid (∀ w', Below w.heap.size w w' → Calls Try.prog 13 #[.agg #[sv, tv, .int .i64 n, .int .i64 a, .int .i64 b]] w' fun e w'' => e = .returned (.tuple #[.agg #[sv, tv], .agg #[sv, tv], .bool true]) ∧ Below w'.heap.size w' w'') := fun w' hb => by
    have := ask_any n a b w' (hS.below hb (Nat.le_refl _)) (hT.below hb (Nat.le_refl _)) gn ga gb
    rwa [hk] at this
  obtain ⟨sa, sc, rfl⟩ := hS.is_slice
  obtain ⟨ta, tc, rfl⟩ := hT.is_slice
  generalize S.length = ls at *
  clear hS
  generalize T.length = lt at *
  have BX : Hid (∀ w', Below WB.heap.size WB w' → w'.cell? ⟨w.heap.size, 0, none⟩ = some (.slice sa ls sc) ∧ w'.cell? ⟨w.heap.size, 1, none⟩ = some (.slice ta lt tc) ∧ w'.cell? ⟨w.heap.size, 2, none⟩ = some (.int .i64 n) ∧ w'.cell? ⟨w.heap.size, 3, none⟩ = some (.int .i64 a) ∧ w'.cell? ⟨w.heap.size, 4, none⟩ = some (.int .i64 b) ∧ w.heap.size < w'.heap.size) := fun w' hb => by
    refine ⟨below_cell hb lB ?_, below_cell hb lB ?_, below_cell hb lB ?_, below_cell hb lB ?_, below_cell hb lB ?_, Nat.lt_of_lt_of_le lB hb.size⟩ <;> (rw [cell_of_row _ _ _ _ _ _ r0]; rfl)
  have C1 : Hid (∀ W : World, Calls Try.prog 12 #[.agg #[.slice none 0 0, .slice none 0 0], .int .i64 1, .int .i64 2, .int .i64 7] W (One W)) := one_any
  have C2 : Hid (∀ (W : World) (v1 v2 : Value), Spans W v1 [⟨7, 1, 3⟩] → Sites W v2 [] → Calls Try.prog 16 #[.agg #[v1, v2], .int .i64 1, .int .i64 3, .int .i64 0] W (Nought W)) := fun W v1 v2 => nought_any W
  have HWB := Lib.hid hWB
  have GB := Lib.hid bB
  clear hT r0 bB hWB hk lB gn ga gb
  go_enter Try.func8, Try.ntmps8
  go_wp2_with fail
  rw [← HWB.out]
  refine (C1.out WB).mono ?_
  rintro e w1 ⟨p1, d1, p2, d2, rfl, o1, o2, b1⟩
  obtain ⟨c0, c1, c2, c3, c4, l1⟩ := BX.out w1 b1
  have KA : Hid (∀ o, Below WB.heap.size WB (w1.alloc o)) := fun o => b1.alloc b1.size _
  have CC := Lib.hid (C2.out (w1.alloc (.cells #[.slice p1 1 d1, .slice p2 0 d2] 28)) _ _ (o1.below ((Below.refl _ w1).alloc (Nat.le_refl _) _) (Nat.le_refl _)) (o2.below ((Below.refl _ w1).alloc (Nat.le_refl _) _) (Nat.le_refl _)))
  clear b1 C1 C2 o1 o2
  go_wp2_with fail
  refine CC.out.mono ?_
  rintro e w7 ⟨q1', e1', q2', e2', rfl, b7⟩
  have H7 : Hid (Below WB.heap.size WB w7) := below_more (KA.out _) b7
  clear b7 KA CC c0 c1 c2 c3 c4 l1
  obtain ⟨c0, c1, c2, c3, c4, l1⟩ := BX.out w7 H7.out
  have FE : ∀ w : World, (Instr.field 28 (.agg #[.slice q1' 0 e1', .slice q2' 0 e2']) 0).run Try.prog w = .ok (.slice q1' 0 e1') w := fun _ => by kernel_rfl
  go_wp2_with fail
  refine (AK.out _ (below_more GB.out H7.out)).mono ?_
  rintro e w2 ⟨rfl, b2⟩
  have H2 : Hid (Below WB.heap.size WB w2) := below_more H7.out b2
  clear b2 AK c0 c1 c2 c3 c4 l1 H7 FE
  have KB : Hid (∀ o1 o2, Below w.heap.size w ((w2.alloc o1).alloc o2)) := fun o1 o2 => by
    have g := below_more GB.out H2.out
    exact (g.alloc g.size _).alloc (by have := g.size; simp; omega) _
  have dk : decide (300 < k) = true := by simpa using hkk
  go_wp2_with fail
  go_ret
  exact ⟨rfl, KB.out _ _⟩

set_option maxRecDepth 100000 in
set_option maxHeartbeats 8000000 in
theorem walk_yes {w : World} (sv tv : Value) (S : List Sp) (T : List St) (n a b : Nat) (hS : Spans w sv S) (hT : Sites w tv T) (gn : i64 n) (ga : i64 a) (gb : i64 b) (hk : askB S T n a b = true) (k : Nat) (hk1 : -9223372036854775808 ≤ (k : Int)) (hk2 : (k : Int) ≤ 9223372036854775807) (hkk : (k : Int) ≤ 300) :
    Calls Try.prog 8 #[.agg #[sv, tv, .int .i64 n, .int .i64 a, .int .i64 b], .int .i64 k] w fun e w' => e = .returned (.bool true) ∧ Below w.heap.size w w' := by
  obtain ⟨WB, hWB⟩ : ∃ WB, WB = w.alloc (.cells #[sv, tv, .int .i64 n, .int .i64 a, .int .i64 b] 33) := ⟨_, rfl⟩
  have bB : Below w.heap.size w WB := by rw [hWB]; exact (Below.refl _ _).alloc (Nat.le_refl _) _
  have r0 : WB.heap[w.heap.size]? = some (.cells #[sv, tv, .int .i64 n, .int .i64 a, .int .i64 b] 33 (0, 0)) := by rw [hWB]; exact heap_alloc_new _ _
  have lB : w.heap.size < WB.heap.size := by rw [hWB]; simp
  have AK : Hid (∀ w', Below w.heap.size w w' → Calls Try.prog 13 #[.agg #[sv, tv, .int .i64 n, .int .i64 a, .int .i64 b]] w' fun e w'' => e = .returned (.tuple #[.agg #[sv, tv], .agg #[sv, tv], .bool true]) ∧ Below w'.heap.size w' w'') := fun w' hb => by
    have := ask_any n a b w' (hS.below hb (Nat.le_refl _)) (hT.below hb (Nat.le_refl _)) gn ga gb
    rwa [hk] at this
  obtain ⟨q1, q2, q3, q4, q5, q6, q7, hRS, hRT⟩ := askB_of hk
  have hpos : ∀ j, j < S.length → 0 < (sp S j).m := fun j hj => (hRS.ord.mem (sp S j) (by rw [sp_get hj]; exact List.getElem_mem hj)).1
  have HPOS := Lib.hid hpos
  have hk3 : (k : Int) ≤ 300 := hkk
  have CO : Hid (∀ w' μ, i64 μ → Below w.heap.size w w' → Calls Try.prog 12 #[.agg #[sv, tv], .int .i64 a, .int .i64 k, .int .i64 μ] w' (GivesM w' (pPut S a k μ) (pPutT T a k))) := fun w' μ hμ hb => put_any n a k μ w' (hS.below hb (Nat.le_refl _)) (hT.below hb (Nat.le_refl _)) hRS hRT q3 (by omega) (by omega) (by omega) (by omega) hμ (by omega) (by omega)
  have CT : Hid (∀ w' μ x1 x2, Spans w' x1 (pPut S a k μ) → Sites w' x2 (pPutT T a k) → Calls Try.prog 16 #[.agg #[x1, x2], .int .i64 a, .int .i64 ((a : Int) + (k : Int)), .int .i64 0] w' (GivesM w' S T)) := fun w' μ x1 x2 h1 h2 => by
    obtain ⟨b1', b2'⟩ := pPut_ok (mk := μ) (k := (k : Int)) hRS q3 (by omega) (by omega)
    have hl1 : (pPut S a k μ).length ≤ 10000 := by
      have e : pPut S a k μ = joins (pNew S a k μ) (mvS ((a : Int) + k) (pB a S)) := rfl
      have h3 := joins_len (mvS ((a : Int) + k) (pB a S)) (pNew S a k μ)
      rw [mvS_len, ← e] at h3
      have h4 := pB_len a S
      have h5 : (pNew S a k μ).length ≤ S.length + 1 := by
        have h6 := joinL_len (pA a S) ⟨μ, a, a + k⟩
        have h7 := pA_len a S
        unfold pNew
        split <;> omega
      omega
    have hl2 : (pPutT T a k).length ≤ 10000 := by
      unfold pPutT
      rw [List.length_append, List.length_map]
      have h3 := sA_len a T
      have h4 := sB_len a T
      omega
    have := take_any ((n : Int) + (k : Int)) a ((a : Int) + (k : Int)) 0 w' h1 h2 b1' (pPutT_right hRT (by omega) q3) q3 (by omega) (by omega) (by omega) ⟨by decide, by decide⟩ hl1 hl2
    rwa [back_spans hRS q3 (by omega) (by omega), back_sites hRT.1 (by omega)] at this
  have C14 : Hid (∀ w' x1 x2, Below w.heap.size w w' → Spans w' x1 S → Sites w' x2 T → Calls Try.prog 14 #[.agg #[x1, x2], .agg #[sv, tv]] w' fun e w'' => e = .returned (.bool true) ∧ Below w'.heap.size w' w'') := fun w' x1 x2 hb h1 h2 => same_any w' h1 h2 (hS.below hb (Nat.le_refl _)) (hT.below hb (Nat.le_refl _))
  obtain ⟨_, _, hva, hla, hca, hqa⟩ := hS.open_
  have HQ := Lib.hid hqa
  clear hqa hpos hRS hRT hkk
  obtain ⟨sa, sc, rfl⟩ := hS.is_slice
  obtain ⟨ta, tc, rfl⟩ := hT.is_slice
  injection hva with ea1 ea2 ea3
  subst ea1 ea3
  try clear ea2
  obtain ⟨ls, hls⟩ : ∃ ls, ls = S.length := ⟨_, rfl⟩
  have HLS := Lib.hid hls
  rw [← hls] at hS AK hla CO C14 q6 r0 hWB ⊢
  clear hls hS
  generalize T.length = lt at *
  have BX : Hid (∀ w', Below WB.heap.size WB w' → w'.cell? ⟨w.heap.size, 0, none⟩ = some (.slice sa ls sc) ∧ w'.cell? ⟨w.heap.size, 1, none⟩ = some (.slice ta lt tc) ∧ w'.cell? ⟨w.heap.size, 2, none⟩ = some (.int .i64 n) ∧ w'.cell? ⟨w.heap.size, 3, none⟩ = some (.int .i64 a) ∧ w'.cell? ⟨w.heap.size, 4, none⟩ = some (.int .i64 b) ∧ w.heap.size < w'.heap.size) := fun w' hb => by
    refine ⟨below_cell hb lB ?_, below_cell hb lB ?_, below_cell hb lB ?_, below_cell hb lB ?_, below_cell hb lB ?_, Nat.lt_of_lt_of_le lB hb.size⟩ <;> (rw [cell_of_row _ _ _ _ _ _ r0]; rfl)
  have C1 : Hid (∀ W : World, Calls Try.prog 12 #[.agg #[.slice none 0 0, .slice none 0 0], .int .i64 1, .int .i64 2, .int .i64 7] W (One W)) := one_any
  have C2 : Hid (∀ (W : World) (v1 v2 : Value), Spans W v1 [⟨7, 1, 3⟩] → Sites W v2 [] → Calls Try.prog 16 #[.agg #[v1, v2], .int .i64 1, .int .i64 3, .int .i64 0] W (Nought W)) := fun W v1 v2 => nought_any W
  have HWB := Lib.hid hWB
  have GB := Lib.hid bB
  clear hT r0 bB hWB hk lB gn ga gb
  go_enter Try.func8, Try.ntmps8
  go_wp2_with fail
  rw [← HWB.out]
  refine (C1.out WB).mono ?_
  rintro e w1 ⟨p1, d1, p2, d2, rfl, o1, o2, b1⟩
  obtain ⟨c0, c1, c2, c3, c4, l1⟩ := BX.out w1 b1
  have KA : Hid (∀ o, Below WB.heap.size WB (w1.alloc o)) := fun o => b1.alloc b1.size _
  have CC := Lib.hid (C2.out (w1.alloc (.cells #[.slice p1 1 d1, .slice p2 0 d2] 28)) _ _ (o1.below ((Below.refl _ w1).alloc (Nat.le_refl _) _) (Nat.le_refl _)) (o2.below ((Below.refl _ w1).alloc (Nat.le_refl _) _) (Nat.le_refl _)))
  clear b1 C1 C2 o1 o2
  go_wp2_with fail
  refine CC.out.mono ?_
  rintro e w7 ⟨q1', e1', q2', e2', rfl, b7⟩
  have H7 : Hid (Below WB.heap.size WB w7) := below_more (KA.out _) b7
  clear b7 KA CC c0 c1 c2 c3 c4 l1
  obtain ⟨c0, c1, c2, c3, c4, l1⟩ := BX.out w7 H7.out
  have FE : ∀ w : World, (Instr.field 28 (.agg #[.slice q1' 0 e1', .slice q2' 0 e2']) 0).run Try.prog w = .ok (.slice q1' 0 e1') w := fun _ => by kernel_rfl
  go_wp2_with fail
  refine (AK.out _ (below_more GB.out H7.out)).mono ?_
  rintro e w2 ⟨rfl, b2⟩
  have H2 : Hid (Below WB.heap.size WB w2) := below_more H7.out b2
  clear b2 AK c0 c1 c2 c3 c4 l1 H7 FE
  obtain ⟨WM, hWM⟩ : ∃ WM, WM = (w2.alloc (.cells #[.slice sa ls sc, .slice ta lt tc] 28)).alloc (.cells #[.slice sa ls sc, .slice ta lt tc] 30) := ⟨_, rfl⟩
  have H3 : Hid (Below WB.heap.size WB WM) := by show Below _ _ _; rw [hWM]; exact (H2.out.alloc H2.out.size _).alloc (by have := H2.out.size; simp; omega) _
  have MX : Hid (∀ w', Below WM.heap.size WM w' → w'.cell? ⟨w2.heap.size, 0, none⟩ = some (.slice sa ls sc) ∧ w'.cell? ⟨w2.heap.size, 1, none⟩ = some (.slice ta lt tc) ∧ w'.cell? ⟨w2.heap.size + 1, 0, none⟩ = some (.slice sa ls sc) ∧ w'.cell? ⟨w2.heap.size + 1, 1, none⟩ = some (.slice ta lt tc) ∧ w2.heap.size + 1 < w'.heap.size) := fun w' hb => by
    have lm : WM.heap.size = w2.heap.size + 1 + 1 := by rw [hWM]; simp
    have m0 : WM.heap[w2.heap.size]? = some (.cells #[.slice sa ls sc, .slice ta lt tc] 28 (0, 0)) := by rw [hWM]; simp only [alloc_at, World.size_alloc]; repeat (first | rw [if_pos (by first | trivial | omega)] | rw [if_neg (by omega)])
    have m1 : WM.heap[w2.heap.size + 1]? = some (.cells #[.slice sa ls sc, .slice ta lt tc] 30 (0, 0)) := by rw [hWM]; simp only [alloc_at, World.size_alloc]; repeat (first | rw [if_pos (by first | trivial | omega)] | rw [if_neg (by omega)])
    refine ⟨below_cell hb (by omega) ?_, below_cell hb (by omega) ?_, below_cell hb (by omega) ?_, below_cell hb (by omega) ?_, by have := hb.size; omega⟩
    · rw [cell_of_row _ _ _ _ _ _ m0]; rfl
    · rw [cell_of_row _ _ _ _ _ _ m0]; rfl
    · rw [cell_of_row _ _ _ _ _ _ m1]; rfl
    · rw [cell_of_row _ _ _ _ _ _ m1]; rfl
  have HWM := Lib.hid hWM
  have GM := Lib.hid (below_more GB.out H3.out)
  have MXX : Hid (∀ w', Below WM.heap.size WM w' → (w'.cell? ⟨w2.heap.size, 0, none⟩ = some (.slice sa ls sc) ∧ w'.cell? ⟨w2.heap.size, 1, none⟩ = some (.slice ta lt tc) ∧ w'.cell? ⟨w2.heap.size + 1, 0, none⟩ = some (.slice sa ls sc) ∧ w'.cell? ⟨w2.heap.size + 1, 1, none⟩ = some (.slice ta lt tc) ∧ w'.cell? ⟨w.heap.size, 3, none⟩ = some (.int .i64 a)) ∧ w'.cell? ⟨w.heap.size, 0, none⟩ = some (.slice sa ls sc) ∧ w.heap.size < w'.heap.size) := fun w' hb => by
    obtain ⟨t0, t1, t2, t3, _⟩ := MX.out w' hb
    obtain ⟨s0, _, _, s3, _, s5⟩ := BX.out w' (below_more H3.out hb)
    exact ⟨⟨t0, t1, t2, t3, s3⟩, s0, s5⟩
  clear hWM H2 BX MX
  go_upto_region 5 with fail
  rw [← HWM.out]
  obtain ⟨_, c0, l1⟩ := MXX.out WM (Below.refl _ _)
  go_wp2_with fail
  go_loopg [9, 46] ls (fun g x i wr => ∃ (j : Nat) (μ : Int), x = .int .i64 μ ∧ j ≤ ls ∧ ls - j ≤ g ∧ i = .int .i64 j ∧ 1 ≤ μ ∧ μ ≤ 1099511627777 ∧ Below WM.heap.size WM wr)
  case atStart => exact ⟨0, 1, rfl, Nat.zero_le _, by omega, rfl, by omega, by omega, Below.refl _ _⟩
  case round =>
    clear c0
    obtain ⟨j, μ, rfl, hj, hg, rfl, hμ1, hμ2, hbel⟩ := hrel
    obtain ⟨_, c0, l2⟩ := MXX.out wr hbel
    by_cases hltk : j < ls
    · have hkl : j < S.length := by rw [← HLS.out]; exact hltk
      obtain ⟨bb, off, rfl, hb, ⟨⟨m1, m2⟩, ⟨f1, f2⟩, ⟨t1, t2⟩⟩, e0, e1, e2⟩ := HQ.out j hkl
      have hps := HPOS.out j hkl
      obtain ⟨e, he⟩ : ∃ e, e = sp S j := ⟨_, rfl⟩
      rw [← he] at m1 m2 f1 f2 t1 t2 e0 e1 e2 hps
      obtain ⟨m, f, t⟩ := e
      simp only at m1 m2 f1 f2 t1 t2 e0 e1 e2 hps
      have hbw := below_more GM.out hbel
      replace e0 := below_cell hbw hb e0
      replace e1 := below_cell hbw hb e1
      replace e2 := below_cell hbw hb e2
      have HX : Hid (Below WM.heap.size WM (wr.alloc (.cells #[.int .i64 m, .int .i64 f, .int .i64 t] 26))) := hbel.alloc hbel.size _
      clear hbw hbel he HQ
      by_cases h1 : 1099511627776 < m
      · by_cases h2 : μ < 1099511627776 + 1
        · go_wp2_with fail
          go_roundg (ls - (j + 1))
          case measure => omega
          case rel => exact ⟨j + 1, _, rfl, by omega, Nat.le_refl _, by go_num, by omega, by omega, HX.out⟩
        · go_wp2_with fail
          go_roundg (ls - (j + 1))
          case measure => omega
          case rel => exact ⟨j + 1, _, rfl, by omega, Nat.le_refl _, by go_num, by omega, by omega, HX.out⟩
      · by_cases h2 : μ < m + 1
        · go_wp2_with fail
          go_roundg (ls - (j + 1))
          case measure => omega
          case rel => exact ⟨j + 1, _, rfl, by omega, Nat.le_refl _, by go_num, by omega, by omega, HX.out⟩
        · go_wp2_with fail
          go_roundg (ls - (j + 1))
          case measure => omega
          case rel => exact ⟨j + 1, _, rfl, by omega, Nat.le_refl _, by go_num, by omega, by omega, HX.out⟩
    · obtain rfl : j = ls := by omega
      obtain ⟨wl, hwl⟩ : ∃ wl : World, wl = wr := ⟨_, rfl⟩
      subst hwl
      have HWL := Lib.hid hbel
      clear hbel
      go_wp2_with fail
      go_loopg [60] j (fun g i wr => ∃ (q : Nat), q ≤ j ∧ j - q ≤ g ∧ i = .int .i64 q ∧ Below WM.heap.size WM wr)
      case atStart => exact ⟨0, Nat.zero_le _, by omega, rfl, HWL.out⟩
      case round =>
        clear c0
        obtain ⟨q, hj, hg, rfl, hbel⟩ := hrel
        by_cases hltk : q < j
        · have hkl : q < S.length := by rw [← HLS.out]; exact hltk
          obtain ⟨bb, off, rfl, hb, ⟨⟨m1, m2⟩, ⟨f1, f2⟩, ⟨t1, t2⟩⟩, e0, e1, e2⟩ := HQ.out q hkl
          obtain ⟨e, he⟩ : ∃ e, e = sp S q := ⟨_, rfl⟩
          rw [← he] at m1 m2 f1 f2 t1 t2 e0 e1 e2
          obtain ⟨m, f, t⟩ := e
          simp only at m1 m2 f1 f2 t1 t2 e0 e1 e2
          have hbw := below_more GM.out hbel
          replace e0 := below_cell hbw hb e0
          replace e1 := below_cell hbw hb e1
          replace e2 := below_cell hbw hb e2
          have HX : Hid (Below WM.heap.size WM (wr.alloc (.cells #[.int .i64 m, .int .i64 f, .int .i64 t] 26))) := hbel.alloc hbel.size _
          clear hbw hbel he HQ
          by_cases h1 : 1099511627776 ≤ m
          · go_wp2_with fail
            go_ret
            exact ⟨rfl, below_more GM.out HX.out⟩
          · go_wp2_with fail
            go_roundg (j - (q + 1))
            case measure => omega
            case rel => exact ⟨q + 1, by omega, Nat.le_refl _, by go_num, HX.out⟩
        · obtain rfl : q = j := by omega
          have GD : Hid (Below w.heap.size w wr) := below_more GM.out hbel
          have C25 : Hid (∀ w', Below wr.heap.size wr w' → Calls Try.prog 12 #[.agg #[.slice sa q sc, .slice ta lt tc], .int .i64 a, .int .i64 k, .int .i64 μ] w' (GivesM w' (pPut S a k μ) (pPutT T a k))) := fun w' hb => CO.out w' μ ⟨by omega, by omega⟩ (below_more GD.out hb)
          have C26 : Hid (∀ w' x1 x2, Spans w' x1 (pPut S a k μ) → Sites w' x2 (pPutT T a k) → Calls Try.prog 16 #[.agg #[x1, x2], .int .i64 a, .int .i64 ((a : Int) + (k : Int)), .int .i64 0] w' (GivesM w' S T)) := fun w' x1 x2 => CT.out w' μ x1 x2
          have C27 : Hid (∀ w' x1 x2, Below wr.heap.size wr w' → Spans w' x1 S → Sites w' x2 T → Calls Try.prog 14 #[.agg #[x1, x2], .agg #[.slice sa q sc, .slice ta lt tc]] w' fun e w'' => e = .returned (.bool true) ∧ Below w'.heap.size w' w'') := fun w' x1 x2 hb h1 h2 => C14.out w' x1 x2 (below_more GD.out hb) h1 h2
          have KP : Hid (∀ w', Below wr.heap.size wr w' → Below wr.heap.size wr w' ∧ w'.cell? ⟨w2.heap.size, 0, none⟩ = some (.slice sa q sc) ∧ w'.cell? ⟨w2.heap.size, 1, none⟩ = some (.slice ta lt tc) ∧ w'.cell? ⟨w2.heap.size + 1, 0, none⟩ = some (.slice sa q sc) ∧ w'.cell? ⟨w2.heap.size + 1, 1, none⟩ = some (.slice ta lt tc) ∧ w'.cell? ⟨w.heap.size, 3, none⟩ = some (.int .i64 a)) := fun w' hb => ⟨hb, (MXX.out w' (below_more hbel hb)).1⟩
          have hD : Hid (∀ n, Below wr.heap.size wr (wr.drewN n)) := fun n => below_drews (Below.refl _ _) n
          have zw : IntKind.i64.wrap ((a : Int) + (k : Int)) = (a : Int) + (k : Int) := IntWalk.i64_in _ (by omega)
          obtain ⟨⟨m0, m1, m2, m3, c3⟩, _, _⟩ := MXX.out wr hbel
          clear CO CT C14 HWL HWM GM MXX hbel HQ HPOS HLS
          generalize pPut S a k μ = RP at *
          generalize pPutT T a k = RQ at *
          go_wp2_with fail
          go_region_held3 (fun w' => Below wr.heap.size wr w' ∧ w'.cell? ⟨w2.heap.size, 0, none⟩ = some (.slice sa q sc) ∧ w'.cell? ⟨w2.heap.size, 1, none⟩ = some (.slice ta lt tc) ∧ w'.cell? ⟨w2.heap.size + 1, 0, none⟩ = some (.slice sa q sc) ∧ w'.cell? ⟨w2.heap.size + 1, 1, none⟩ = some (.slice ta lt tc) ∧ w'.cell? ⟨w.heap.size, 3, none⟩ = some (.int .i64 a))
            ((refine KP.out _ ?_; focus ((repeat first | assumption | exact hD.out _ | exact Below.refl _ _ | apply Below.drew | apply below_drews); done)))
            (first
              | (go_at_call 12; go_split_ands; (with_reducible refine (C25.out _ ?_).mono ?_); (focus ((repeat first | assumption | exact hD.out _ | exact Below.refl _ _ | apply Below.drew | apply below_drews); done)); rintro e w1 ⟨x1, x2, rfl, hx1, hx2, hb⟩; have hb1 := below_more (w := wr) (by (repeat first | assumption | exact hD.out _ | exact Below.refl _ _ | apply Below.drew | apply below_drews)) hb; clear hb)
              | (go_at_call 16; go_split_ands; (with_reducible refine (C26.out _ _ _ ?_ ?_).mono ?_); assumption; assumption; rintro e w1 ⟨x1, x2, rfl, hx1, hx2, hb⟩; have hb1 := below_more (w := wr) (by (repeat first | assumption | exact hD.out _ | exact Below.refl _ _ | apply Below.drew | apply below_drews)) hb; clear hb)
              | (go_at_call 14; go_split_ands; (with_reducible refine (C27.out _ _ _ ?_ ?_ ?_).mono ?_); (focus ((repeat first | assumption | exact hD.out _ | exact Below.refl _ _ | apply Below.drew | apply below_drews); done)); assumption; assumption; rintro e w1 ⟨rfl, hb⟩; have hb1 := below_more (w := wr) (by (repeat first | assumption | exact hD.out _ | exact Below.refl _ _ | apply Below.drew | apply below_drews)) hb; clear hb))
          all_goals
            go_wp2_with fail
            go_ret
            exact ⟨rfl, below_more GD.out (by assumption)⟩

theorem walk {w : World} {v : Value} (S : List Sp) (T : List St) (n a b : Int) (h : Cs w v S T n a b) (k : Int) (hk1 : -9223372036854775808 ≤ k) (hk2 : k ≤ 9223372036854775807) :
    Calls Try.prog 8 #[v, .int .i64 k] w fun e w' => e = .returned (.bool true) ∧ Below w.heap.size w w' := by
  obtain ⟨⟨sv, tv, rfl, hS, hT⟩, gn, ga, gb⟩ := h
  cases hk : askB S T n a b with
  | false => exact walk_no sv tv S T n a b hS hT gn ga gb hk k hk1 hk2
  | true =>
    by_cases h1 : k < 0
    · exact walk_lo sv tv S T n a b hS hT gn ga gb hk k hk1 hk2 h1
    · by_cases h2 : 300 < k
      · exact walk_hi sv tv S T n a b hS hT gn ga gb hk k hk1 hk2 h2
      · obtain ⟨q1, _, q3, q4, _⟩ := askB_of hk
        obtain ⟨n', rfl⟩ := Int.eq_ofNat_of_zero_le q1
        obtain ⟨a', rfl⟩ := Int.eq_ofNat_of_zero_le q3
        obtain ⟨b', rfl⟩ := Int.eq_ofNat_of_zero_le (Int.le_trans q3 q4)
        obtain ⟨k', rfl⟩ := Int.eq_ofNat_of_zero_le (show 0 ≤ k by omega)
        exact walk_yes sv tv S T n' a' b' hS hT gn ga gb hk k' hk1 hk2 (by omega)

set_option maxRecDepth 100000 in
theorem lifted (os : Os) (started : os.Started) (H : Type) (enc : TypeId × Value → H) :
    ReturnsInHanded {} Try.checked os 8 .any (Rows.marksBackSpec.pre6 enc Try.prog Try.f8 Rows.marksBackRow.domain false) (Rows.marksBackSpec.post enc Try.prog Try.f8 false true false false) := by
  refine returnsInHanded_of_change (C := Try.checked) own started (by kernel_rfl) Try.func8
    (ChangeSpec.witness6 (enc := enc) (C := Try.checked) false ⟨#[], #[.agg #[.slice none 0 0, .slice none 0 0, .int .i64 0, .int .i64 0, .int .i64 0], .int .i64 0], []⟩ 8 (by kernel_rfl) (by kernel_rfl) (by kernel_rfl) (by kernel_rfl)) ?_
  intro W base args ds gs before hval0 hW hcnd _
  have hval : ∀ (j : Nat) t v, Try.f8.params[j]? = some t → args[j]? = some v → Value.okWide Try.prog W .any base t v := hval0
  have hread : ∀ t ∈ Try.f8.params.toList, Try.prog.readableRec t = true ∧ t < Try.prog.types.size := by
    have : (Try.f8.params.toList.all fun t => Try.prog.readableRec t && decide (t < Try.prog.types.size)) = true := by kernel_rfl
    intro t ht
    have := List.all_eq_true.1 this t ht
    simpa using this
  refine law_contract (P := Try.prog) (s := Rows.marksBackSpec) (fn := Try.f8) (tb := 4) laidOut rfl hread rfl Try.underlying4 (fun W' => okWide_bool_mk Try.underlying4 _) ?_ hW ?_
  · intro ds hds
    rw [Try.params8] at hds
    match ds, hds with
    | [d0, d1], _ => rfl
  intro pl hA
  rw [Try.params8] at hA hval
  obtain ⟨v0, vs0, d0, ds0, p0, q0, hargs, rfl, hp0, h0, r0⟩ := trodAll_cons hA
  obtain ⟨v1, vs1, d1, ds1, p1, q1, rfl, rfl, hp1, h1, r1⟩ := trodAll_cons r0
  obtain ⟨rfl, rfl, hpe⟩ := trodAll_nil r1
  obtain rfl : args = #[v0, v1] := by cases args; simp_all
  obtain ⟨S, T, n, a, b, hC⟩ := open_case (hval 0 33 v0 rfl rfl) h0
  obtain ⟨k, rfl, rfl, _, hw1⟩ := open_int Try.underlying3 (hval 1 3 v1 rfl rfl) h1
  have hb1 : -9223372036854775808 ≤ k ∧ k ≤ 9223372036854775807 := by simpa [Lit.wf, IntKind.min, IntKind.max, IntKind.signed, IntKind.bits] using hw1
  exact walk S T n a b hC k hb1.1 hb1.2

theorem over : Rows.marksBackRow.holds Try.pinned (OpenSpec.ofChange Rows.marksBackSpec) :=
  OpenClaim.holds_of_wide 8 Try.f8 rfl rfl rfl rfl rfl rfl rfl ⟨rfl, rfl, rfl, rfl, rfl⟩ rfl rfl rfl rfl rfl (by kernel_rfl) Try.func8 (by kernel_rfl)
    (of_decide_eq_true (by kernel_rfl)) (by unfold Func.isWrapper; first | (rw [if_pos (by decide +kernel)]; kernel_rfl) | (rw [if_neg (by decide +kernel)]; exact ⟨rfl, rfl⟩))
    (fun os started H enc _ => lifted os started H enc)

/-- The statement. -/
theorem proved : Rows.MarksBackSaid :=
  over
#print axioms proved
end Go.Proofs.Ytkbadhkjhkmlfaa.marksBack
