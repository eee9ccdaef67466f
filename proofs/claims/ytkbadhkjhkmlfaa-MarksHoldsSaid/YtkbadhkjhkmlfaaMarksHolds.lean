/- For every case (spans, sites, a number of letters, two places), every number of letters and every row of acts: MarksHolds answers true, and its arguments read behind the call as before. No condition. -/
import Derived.Test.YtkbadhkjhkmlfaaRows
import Derived.Test.YtkbadhkjhkmlfaaLift
import Derived.Test.YtkbadhkjhkmlfaaMx
import Derived.Test.YtkbadhkjhkmlfaaPput
import Derived.Test.YtkbadhkjhkmlfaaPtake
import Derived.Test.YtkbadhkjhkmlfaaPof
import Derived.Test.YtkbadhkjhkmlfaaBt
import Derived.Deep.RegionHeld3
set_option linter.unusedVariables false
namespace Go.Proofs.Ytkbadhkjhkmlfaa.marksHolds
open Go.ChangeShapes Go.WideShapes Go.ChangeAt Go.RowKit Go.Lib Go.Proofs.Ytkbadhkjhkmlfaa.Lift Go.Proofs.Ytkbadhkjhkmlfaa.Rt Go.Proofs.Ytkbadhkjhkmlfaa.Rig
open Go.ChangeMaps (open_string shut_string)

theorem own : ownKnob Try.prog.godebug = none := by kernel_rfl
theorem laidOut : laidOutB Try.prog = true := by kernel_rfl

theorem lit : pPut [] 1 2 7 = [⟨7, 1, 3⟩] ∧ pPutT [] 1 2 = [] := by decide
/-- It hands back one span, no site. -/
def One (W : World) (e : Ending) (w' : World) : Prop := ∃ a1 c1 a2 c2, e = .returned (.agg #[.slice a1 1 c1, .slice a2 0 c2]) ∧ Spans w' (.slice a1 1 c1) [⟨7, 1, 3⟩] ∧ Sites w' (.slice a2 0 c2) [] ∧ Below W.heap.size W w'
theorem one_any (W : World) : Calls Try.prog 12 #[.agg #[.slice none 0 0, .slice none 0 0], .int .i64 1, .int .i64 2, .int .i64 7] W (One W) := by
  have h := put_any 1 1 2 7 W (Spans.nil_ W) (Sites.nil_ W) trivial ⟨List.Pairwise.nil, fun x hx => by simp at hx⟩ (by decide) (by decide) (by decide) (by decide) (by decide) ⟨by decide, by decide⟩ (by decide) (by decide)
  refine h.mono ?_
  rintro e w' ⟨v1, v2, rfl, g1, g2, hb⟩
  rw [lit.1] at g1
  rw [lit.2] at g2
  obtain ⟨a1, c1, rfl⟩ := g1.is_slice
  obtain ⟨a2, c2, rfl⟩ := g2.is_slice
  exact ⟨a1, c1, a2, c2, rfl, g1, g2, hb⟩
set_option maxRecDepth 100000 in
set_option maxHeartbeats 8000000 in
theorem walk_no {w : World} (ba : Option Addr) (bl bc : Nat) (sv tv : Value) (S : List Sp) (T : List St) (n a b : Int) (hS : Spans w sv S) (hT : Sites w tv T) (gn : i64 n) (ga : i64 a) (gb : i64 b) (hk : askB S T n a b = false) (k : Int) (hk1 : -9223372036854775808 ≤ (k : Int)) (hk2 : (k : Int) ≤ 9223372036854775807) :
    Calls Try.prog 9 #[.agg #[sv, tv, .int .i64 n, .int .i64 a, .int .i64 b], .int .i64 k, .slice ba bl bc] w fun e w' => e = .returned (.bool true) ∧ Below w.heap.size w w' := by
  obtain ⟨WB, hWB⟩ : ∃ WB, WB = w.alloc (.cells #[sv, tv, .int .i64 n, .int .i64 a, .int .i64 b] 33) := ⟨_, rfl⟩
  have bB : Below w.heap.size w WB := by rw [hWB]; exact (Below.refl _ _).alloc (Nat.le_refl _) _
  have r0 : WB.heap[w.heap.size]? = some (.cells #[sv, tv, .int .i64 n, .int .i64 a, .int .i64 b] 33 (0, 0)) := by rw [hWB]; exact heap_alloc_new _ _
  have lB : w.heap.size < WB.heap.size := by rw [hWB]; simp
  have AK : Hid (∀ w', Below w.heap.size w w' → Calls Try.prog 13 #[.agg #[sv, tv, .int .i64 n, .int .i64 a, .int .i64 b]] w' fun e w'' => e = .returned (.tuple #[.agg #[sv, tv], .agg #[sv, tv], .bool false]) ∧ Below w'.heap.size w' w'') := fun w' hb => by
    have := ask_any n a b w' (hS.below hb (Nat.le_refl _)) (hT.below hb (Nat.le_refl _)) gn ga gb
    rwa [hk] at this
  obtain ⟨sa, sc, rfl⟩ := hS.is_slice
  obtain ⟨ta, tc, rfl⟩ := hT.is_slice
  generalize S.length = ls at *
  clear hS
  generalize T.length = lt at *
  have BX : Hid (∀ w', Below WB.heap.size WB w' → w'.cell? ⟨w.heap.size, 0, none⟩ = some (.slice sa ls sc) ∧ w'.cell? ⟨w.heap.size, 1, none⟩ = some (.slice ta lt tc) ∧ w'.cell? ⟨w.heap.size, 2, none⟩ = some (.int .i64 n) ∧ w'.cell? ⟨w.heap.size, 3, none⟩ = some (.int .i64 a) ∧ w'.cell? ⟨w.heap.size, 4, none⟩ = some (.int .i64 b) ∧ w.heap.size < w'.heap.size) := fun w' hb => by
    refine ⟨below_cell hb lB ?_, below_cell hb lB ?_, below_cell hb lB ?_, below_cell hb lB ?_, below_cell hb lB ?_, Nat.lt_of_lt_of_le lB hb.size⟩ <;> (rw [cell_of_row _ _ _ _ _ _ r0]; rfl)
  have C1 : Hid (∀ W : World, Calls Try.prog 12 #[.agg #[.slice none 0 0, .slice none 0 0], .int .i64 1, .int .i64 2, .int .i64 7] W (One W)) := one_any
  have HWB := Lib.hid hWB
  have GB := Lib.hid bB
  clear hT r0 bB hWB hk lB gn ga gb
  go_enter Try.func9, Try.ntmps9
  go_wp2_with fail
  rw [← HWB.out]
  refine (C1.out WB).mono ?_
  rintro e w1 ⟨p1, d1, p2, d2, rfl, o1, o2, b1⟩
  obtain ⟨c0, c1, c2, c3, c4, l1⟩ := BX.out w1 b1
  have KA : Hid (∀ o, Below WB.heap.size WB (w1.alloc o)) := fun o => b1.alloc b1.size _
  clear b1 C1 o1 o2
  go_wp2_with fail
  refine (AK.out _ (below_more GB.out (KA.out _))).mono ?_
  rintro e w2 ⟨rfl, b2⟩
  have H2 : Hid (Below WB.heap.size WB w2) := below_more (KA.out _) b2
  clear b2 AK KA c0 c1 c2 c3 c4 l1
  have KB : Hid (∀ o1 o2, Below w.heap.size w ((w2.alloc o1).alloc o2)) := fun o1 o2 => by
    have g := below_more GB.out H2.out
    exact (g.alloc g.size _).alloc (by have := g.size; simp; omega) _
  go_wp2_with fail
  go_ret
  exact ⟨rfl, KB.out _ _⟩

set_option maxRecDepth 100000 in
set_option maxHeartbeats 8000000 in
theorem walk_lo {w : World} (ba : Option Addr) (bl bc : Nat) (sv tv : Value) (S : List Sp) (T : List St) (n a b : Int) (hS : Spans w sv S) (hT : Sites w tv T) (gn : i64 n) (ga : i64 a) (gb : i64 b) (hk : askB S T n a b = true) (k : Int) (hk1 : -9223372036854775808 ≤ (k : Int)) (hk2 : (k : Int) ≤ 9223372036854775807) (hkk : k < 0) :
    Calls Try.prog 9 #[.agg #[sv, tv, .int .i64 n, .int .i64 a, .int .i64 b], .int .i64 k, .slice ba bl bc] w fun e w' => e = .returned (.bool true) ∧ Below w.heap.size w w' := by
  obtain ⟨WB, hWB⟩ : ∃ WB, WB = w.alloc (.cells #[sv, tv, .int .i64 n, .int .i64 a, .int .i64 b] 33) := ⟨_, rfl⟩
  have bB : Below w.heap.size w WB := by rw [hWB]; exact (Below.refl _ _).alloc (Nat.le_refl _) _
  have r0 : WB.heap[w.heap.size]? = some (.cells #[sv, tv, .int .i64 n, .int .i64 a, .int .i64 b] 33 (0, 0)) := by rw [hWB]; exact heap_alloc_new _ _
  have lB : w.heap.size < WB.heap.size := by rw [hWB]; simp
  have AK : Hid (∀ w', Below w.heap.size w w' → Calls Try.prog 13 #[.agg #[sv, tv, .int .i64 n, .int .i64 a, .int .i64 b]] w' fun e w'' => e = .returned (.tuple #[.agg #[sv, tv], .agg #[sv, tv], .bool true]) ∧ Below w'.heap.size w' w'') := fun w' hb => by
    have := ask_any n a b w' (hS.below hb (Nat.le_refl _)) (hT.below hb (Nat.le_refl _)) gn ga gb
    rwa [hk] at this
  obtain ⟨sa, sc, rfl⟩ := hS.is_slice
  obtain ⟨ta, tc, rfl⟩ := hT.is_slice
  generalize S.length = ls at *
  clear hS
  generalize T.length = lt at *
  have BX : Hid (∀ w', Below WB.heap.size WB w' → w'.cell? ⟨w.heap.size, 0, none⟩ = some (.slice sa ls sc) ∧ w'.cell? ⟨w.heap.size, 1, none⟩ = some (.slice ta lt tc) ∧ w'.cell? ⟨w.heap.size, 2, none⟩ = some (.int .i64 n) ∧ w'.cell? ⟨w.heap.size, 3, none⟩ = some (.int .i64 a) ∧ w'.cell? ⟨w.heap.size, 4, none⟩ = some (.int .i64 b) ∧ w.heap.size < w'.heap.size) := fun w' hb => by
    refine ⟨below_cell hb lB ?_, below_cell hb lB ?_, below_cell hb lB ?_, below_cell hb lB ?_, below_cell hb lB ?_, Nat.lt_of_lt_of_le lB hb.size⟩ <;> (rw [cell_of_row _ _ _ _ _ _ r0]; rfl)
  have C1 : Hid (∀ W : World, Calls Try.prog 12 #[.agg #[.slice none 0 0, .slice none 0 0], .int .i64 1, .int .i64 2, .int .i64 7] W (One W)) := one_any
  have HWB := Lib.hid hWB
  have GB := Lib.hid bB
  clear hT r0 bB hWB hk lB gn ga gb
  go_enter Try.func9, Try.ntmps9
  go_wp2_with fail
  rw [← HWB.out]
  refine (C1.out WB).mono ?_
  rintro e w1 ⟨p1, d1, p2, d2, rfl, o1, o2, b1⟩
  obtain ⟨c0, c1, c2, c3, c4, l1⟩ := BX.out w1 b1
  have KA : Hid (∀ o, Below WB.heap.size WB (w1.alloc o)) := fun o => b1.alloc b1.size _
  clear b1 C1 o1 o2
  go_wp2_with fail
  refine (AK.out _ (below_more GB.out (KA.out _))).mono ?_
  rintro e w2 ⟨rfl, b2⟩
  have H2 : Hid (Below WB.heap.size WB w2) := below_more (KA.out _) b2
  clear b2 AK KA c0 c1 c2 c3 c4 l1
  have KB : Hid (∀ o1 o2, Below w.heap.size w ((w2.alloc o1).alloc o2)) := fun o1 o2 => by
    have g := below_more GB.out H2.out
    exact (g.alloc g.size _).alloc (by have := g.size; simp; omega) _
  have dk : decide (k < 0) = true := by simpa using hkk
  go_wp2_with fail
  go_ret
  exact ⟨rfl, KB.out _ _⟩

set_option maxRecDepth 100000 in
set_option maxHeartbeats 8000000 in
theorem walk_hi {w : World} (ba : Option Addr) (bl bc : Nat) (sv tv : Value) (S : List Sp) (T : List St) (n a b : Int) (hS : Spans w sv S) (hT : Sites w tv T) (gn : i64 n) (ga : i64 a) (gb : i64 b) (hk : askB S T n a b = true) (k : Int) (hk1 : -9223372036854775808 ≤ (k : Int)) (hk2 : (k : Int) ≤ 9223372036854775807) (hkk : 100 < k) :
    Calls Try.prog 9 #[.agg #[sv, tv, .int .i64 n, .int .i64 a, .int .i64 b], .int .i64 k, .slice ba bl bc] w fun e w' => e = .returned (.bool true) ∧ Below w.heap.size w w' := by
  obtain ⟨WB, hWB⟩ : ∃ WB, WB = w.alloc (.cells #[sv, tv, .int .i64 n, .int .i64 a, .int .i64 b] 33) := ⟨_, rfl⟩
  have bB : Below w.heap.size w WB := by rw [hWB]; exact (Below.refl _ _).alloc (Nat.le_refl _) _
  have r0 : WB.heap[w.heap.size]? = some (.cells #[sv, tv, .int .i64 n, .int .i64 a, .int .i64 b] 33 (0, 0)) := by rw [hWB]; exact heap_alloc_new _ _
  have lB : w.heap.size < WB.heap.size := by rw [hWB]; simp
  have AK : Hid (∀ w', Below w.heap.size w w' → Calls Try.prog 13 #[.agg #[sv, tv, .int .i64 n, .int .i64 a, .int .i64 b]] w' fun e w'' => e = .returned (.tuple #[.agg #[sv, tv], .agg #[sv, tv], .bool true]) ∧ Below w'.heap.size w' w'') := fun w' hb => by
    have := ask_any n a b w' (hS.below hb (Nat.le_refl _)) (hT.below hb (Nat.le_refl _)) gn ga gb
    rwa [hk] at this
  obtain ⟨sa, sc, rfl⟩ := hS.is_slice
  obtain ⟨ta, tc, rfl⟩ := hT.is_slice
  generalize S.length = ls at *
  clear hS
  generalize T.length = lt at *
  have BX : Hid (∀ w', Below WB.heap.size WB w' → w'.cell? ⟨w.heap.size, 0, none⟩ = some (.slice sa ls sc) ∧ w'.cell? ⟨w.heap.size, 1, none⟩ = some (.slice ta lt tc) ∧ w'.cell? ⟨w.heap.size, 2, none⟩ = some (.int .i64 n) ∧ w'.cell? ⟨w.heap.size, 3, none⟩ = some (.int .i64 a) ∧ w'.cell? ⟨w.heap.size, 4, none⟩ = some (.int .i64 b) ∧ w.heap.size < w'.heap.size) := fun w' hb => by
    refine ⟨below_cell hb lB ?_, below_cell hb lB ?_, below_cell hb lB ?_, below_cell hb lB ?_, below_cell hb lB ?_, Nat.lt_of_lt_of_le lB hb.size⟩ <;> (rw [cell_of_row _ _ _ _ _ _ r0]; rfl)
  have C1 : Hid (∀ W : World, Calls Try.prog 12 #[.agg #[.slice none 0 0, .slice none 0 0], .int .i64 1, .int .i64 2, .int .i64 7] W (One W)) := one_any
  have HWB := Lib.hid hWB
  have GB := Lib.hid bB
  clear hT r0 bB hWB hk lB gn ga gb
  go_enter Try.func9, Try.ntmps9
  go_wp2_with fail
  rw [← HWB.out]
  refine (C1.out WB).mono ?_
  rintro e w1 ⟨p1, d1, p2, d2, rfl, o1, o2, b1⟩
  obtain ⟨c0, c1, c2, c3, c4, l1⟩ := BX.out w1 b1
  have KA : Hid (∀ o, Below WB.heap.size WB (w1.alloc o)) := fun o => b1.alloc b1.size _
  clear b1 C1 o1 o2
  go_wp2_with fail
  refine (AK.out _ (below_more GB.out (KA.out _))).mono ?_
  rintro e w2 ⟨rfl, b2⟩
  have H2 : Hid (Below WB.heap.size WB w2) := below_more (KA.out _) b2
  clear b2 AK KA c0 c1 c2 c3 c4 l1
  have KB : Hid (∀ o1 o2, Below w.heap.size w ((w2.alloc o1).alloc o2)) := fun o1 o2 => by
    have g := below_more GB.out H2.out
    exact (g.alloc g.size _).alloc (by have := g.size; simp; omega) _
  have dk : decide (100 < k) = true := by simpa using hkk
  go_wp2_with fail
  go_ret
  exact ⟨rfl, KB.out _ _⟩

set_option maxRecDepth 100000 in
set_option maxHeartbeats 8000000 in
theorem walk_yes {w : World} (acts : List Ac) (ba : Option Addr) (bl bc : Nat) (hA : Acts w (.slice ba bl bc) acts) (sv tv : Value) (S : List Sp) (T : List St) (n a b : Nat) (hS : Spans w sv S) (hT : Sites w tv T) (gn : i64 n) (ga : i64 a) (gb : i64 b) (hk : askB S T n a b = true) (k : Nat) (hk1 : -9223372036854775808 ≤ (k : Int)) (hk2 : (k : Int) ≤ 9223372036854775807) (hkk : (k : Int) ≤ 100) :
    Calls Try.prog 9 #[.agg #[sv, tv, .int .i64 n, .int .i64 a, .int .i64 b], .int .i64 k, .slice ba bl bc] w fun e w' => e = .returned (.bool true) ∧ Below w.heap.size w w' := by
  obtain ⟨WB, hWB⟩ : ∃ WB, WB = w.alloc (.cells #[sv, tv, .int .i64 n, .int .i64 a, .int .i64 b] 33) := ⟨_, rfl⟩
  have bB : Below w.heap.size w WB := by rw [hWB]; exact (Below.refl _ _).alloc (Nat.le_refl _) _
  have r0 : WB.heap[w.heap.size]? = some (.cells #[sv, tv, .int .i64 n, .int .i64 a, .int .i64 b] 33 (0, 0)) := by rw [hWB]; exact heap_alloc_new _ _
  have lB : w.heap.size < WB.heap.size := by rw [hWB]; simp
  have AK : Hid (∀ w', Below w.heap.size w w' → Calls Try.prog 13 #[.agg #[sv, tv, .int .i64 n, .int .i64 a, .int .i64 b]] w' fun e w'' => e = .returned (.tuple #[.agg #[sv, tv], .agg #[sv, tv], .bool true]) ∧ Below w'.heap.size w' w'') := fun w' hb => by
    have := ask_any n a b w' (hS.below hb (Nat.le_refl _)) (hT.below hb (Nat.le_refl _)) gn ga gb
    rwa [hk] at this
  obtain ⟨q1, q2, q3, q4, q5, q6, q7, hRS, hRT⟩ := askB_of hk
  have hk3 : k ≤ 100 := by omega
  have ST : Hid ((∀ s ∈ S, s.m < 1099511627776) → HS 1099511627776 S T (List.replicate n false)) := fun h => HS.start hRS hRT (by omega) h
  have HSP : Hid (∀ w', Below w.heap.size w w' → Spans w' sv S ∧ Sites w' tv T) := fun w' hb => ⟨hS.below hb (Nat.le_refl _), hT.below hb (Nat.le_refl _)⟩
  have HLT : Hid (T.length ≤ 300) := q7
  obtain ⟨_, _, hva, hla, hca, hqa⟩ := hS.open_
  have HQ := Lib.hid hqa
  clear hqa hRS hRT hkk q7
  obtain ⟨sa, sc, rfl⟩ := hS.is_slice
  obtain ⟨ta, tc, rfl⟩ := hT.is_slice
  injection hva with ea1 ea2 ea3
  subst ea1 ea3
  try clear ea2
  obtain ⟨ls, hls⟩ : ∃ ls, ls = S.length := ⟨_, rfl⟩
  have HLS := Lib.hid hls
  rw [← hls] at hS AK hla q6 r0 hWB HSP ⊢
  clear hls hS
  obtain ⟨lt, hlt⟩ : ∃ lt, lt = T.length := ⟨_, rfl⟩
  rw [← hlt] at hT AK r0 hWB HSP ⊢
  have BX : Hid (∀ w', Below WB.heap.size WB w' → w'.cell? ⟨w.heap.size, 0, none⟩ = some (.slice sa ls sc) ∧ w'.cell? ⟨w.heap.size, 1, none⟩ = some (.slice ta lt tc) ∧ w'.cell? ⟨w.heap.size, 2, none⟩ = some (.int .i64 n) ∧ w'.cell? ⟨w.heap.size, 3, none⟩ = some (.int .i64 a) ∧ w'.cell? ⟨w.heap.size, 4, none⟩ = some (.int .i64 b) ∧ w.heap.size < w'.heap.size) := fun w' hb => by
    refine ⟨below_cell hb lB ?_, below_cell hb lB ?_, below_cell hb lB ?_, below_cell hb lB ?_, below_cell hb lB ?_, Nat.lt_of_lt_of_le lB hb.size⟩ <;> (rw [cell_of_row _ _ _ _ _ _ r0]; rfl)
  have C1 : Hid (∀ W : World, Calls Try.prog 12 #[.agg #[.slice none 0 0, .slice none 0 0], .int .i64 1, .int .i64 2, .int .i64 7] W (One W)) := one_any
  have HWB := Lib.hid hWB
  have GB := Lib.hid bB
  have HAC := Lib.hid hA
  clear hT r0 bB hWB hk lB gn ga gb hlt hA
  go_enter Try.func9, Try.ntmps9
  go_wp2_with fail
  rw [← HWB.out]
  refine (C1.out WB).mono ?_
  rintro e w1 ⟨p1, d1, p2, d2, rfl, o1, o2, b1⟩
  obtain ⟨c0, c1, c2, c3, c4, l1⟩ := BX.out w1 b1
  have KA : Hid (∀ o, Below WB.heap.size WB (w1.alloc o)) := fun o => b1.alloc b1.size _
  clear b1 C1 o1 o2
  go_wp2_with fail
  refine (AK.out _ (below_more GB.out (KA.out _))).mono ?_
  rintro e w2 ⟨rfl, b2⟩
  have H2 : Hid (Below WB.heap.size WB w2) := below_more (KA.out _) b2
  clear b2 AK KA c0 c1 c2 c3 c4 l1
  obtain ⟨WM, hWM⟩ : ∃ WM, WM = (w2.alloc (.cells #[.slice sa ls sc, .slice ta lt tc] 28)).alloc (.cells #[.slice sa ls sc, .slice ta lt tc] 30) := ⟨_, rfl⟩
  have H3 : Hid (Below WB.heap.size WB WM) := by show Below _ _ _; rw [hWM]; exact (H2.out.alloc H2.out.size _).alloc (by have := H2.out.size; simp; omega) _
  have M0 : Hid (WM.heap[w2.heap.size]? = some (.cells #[.slice sa ls sc, .slice ta lt tc] 28 (0, 0))) := by show _ = _; rw [hWM]; simp only [alloc_at, World.size_alloc]; repeat (first | rw [if_pos (by first | trivial | omega)] | rw [if_neg (by omega)])
  have LM : Hid (w2.heap.size < WM.heap.size ∧ w.heap.size < w2.heap.size) := by
    show _ ∧ _
    obtain ⟨_, _, _, _, _, s5⟩ := BX.out w2 H2.out
    exact ⟨by rw [hWM]; simp; omega, s5⟩
  have HWM := Lib.hid hWM
  have GM := Lib.hid (below_more GB.out H3.out)
  have MXX : Hid (∀ w', Below WM.heap.size WM w' → (w'.cell? ⟨w.heap.size, 0, none⟩ = some (.slice sa ls sc) ∧ w'.cell? ⟨w.heap.size, 2, none⟩ = some (.int .i64 n) ∧ w'.cell? ⟨w.heap.size, 3, none⟩ = some (.int .i64 a)) ∧ w.heap.size < w'.heap.size) := fun w' hb => by
    obtain ⟨s0, _, s2, s3, _, s5⟩ := BX.out w' (below_more H3.out hb)
    exact ⟨⟨s0, s2, s3⟩, s5⟩
  clear hWM H2 BX
  go_upto_region 5 with fail
  rw [← HWM.out]
  obtain ⟨⟨c0, c2, c3⟩, l1⟩ := MXX.out WM (Below.refl _ _)
  go_wp2_with fail
  go_loopg [52] ls (fun g i wr => ∃ (j : Nat), j ≤ ls ∧ ls - j ≤ g ∧ i = .int .i64 j ∧ Hid (∀ q, q < j → (sp S q).m < 1099511627776) ∧ Below WM.heap.size WM wr)
  case atStart => exact ⟨0, Nat.zero_le _, by omega, rfl, fun q hq => absurd hq (by omega), Below.refl _ _⟩
  case round =>
    clear c0 c2 c3
    obtain ⟨j, hj, hg, rfl, HU, hbel⟩ := hrel
    obtain ⟨⟨c0, c2, c3⟩, l2⟩ := MXX.out wr hbel
    by_cases hltk : j < ls
    · have hkl : j < S.length := by rw [← HLS.out]; exact hltk
      obtain ⟨bb, off, rfl, hb, ⟨⟨m1, m2⟩, ⟨f1, f2⟩, ⟨t1, t2⟩⟩, e0, e1, e2⟩ := HQ.out j hkl
      obtain ⟨e, he⟩ : ∃ e, e = sp S j := ⟨_, rfl⟩
      have HE := Lib.hid he
      rw [← he] at m1 m2 f1 f2 t1 t2 e0 e1 e2
      obtain ⟨m, f, t⟩ := e
      simp only at m1 m2 f1 f2 t1 t2 e0 e1 e2
      have hbw := below_more GM.out hbel
      replace e0 := below_cell hbw hb e0
      replace e1 := below_cell hbw hb e1
      replace e2 := below_cell hbw hb e2
      have HX : Hid (Below WM.heap.size WM (wr.alloc (.cells #[.int .i64 m, .int .i64 f, .int .i64 t] 26))) := hbel.alloc hbel.size _
      clear hbw hbel he HQ
      by_cases h1 : 1099511627776 ≤ m
      · go_wp2_with fail
        go_ret
        exact ⟨rfl, below_more GM.out HX.out⟩
      · have HU2 : Hid (∀ q, q < j + 1 → (sp S q).m < 1099511627776) := fun q hq => by
          by_cases hqj : q < j
          · exact HU.out q hqj
          · obtain rfl : q = j := by omega
            rw [← HE.out]
            show m < _
            omega
        clear HU HE
        go_wp2_with fail
        go_roundg (ls - (j + 1))
        case measure => omega
        case rel => exact ⟨j + 1, by omega, Nat.le_refl _, by go_num, HU2.out, HX.out⟩
    · obtain rfl : j = ls := by omega
      have HS0 : Hid (HS 1099511627776 S T (List.replicate n false)) := ST.out fun s hs => by
        obtain ⟨q, hq, rfl⟩ := List.getElem_of_mem hs
        rw [← sp_get hq]
        exact HU.out q (by rw [HLS.out]; exact hq)
      obtain ⟨HSPa, HSPb⟩ := HSP.out wr (below_more GM.out hbel)
      have HBL := Lib.hid hbel
      clear ST HU HQ HSP hbel
      obtain ⟨i0, hi, hz0, hz1, hz2⟩ := info_parts infoBool
      have A1 : Hid (i0.bytes * n ≤ 281474976710656) := by show _ ≤ _; rw [hz2]; omega
      have A2 : Hid (n ≤ maxLen) := by show _ ≤ _; unfold maxLen; omega
      have A3 : Hid (0 ≤ wr.heap.size) := Nat.zero_le _
      have hmf : ∀ (fn : Fn) (first cap : Array Value) (w : World), (Instr.makeFunc fn first cap).run Try.prog w = .ok (.func fn first cap) w := fun _ _ _ _ => rfl
      go_wp2_with (at_make; refine wpList_make_full _ rfl _ _ 57 rfl 0 4 i0 (.bool false) 1 Try.underlying57 hi hz0 hz1 .i64 .i64 _ _ n rfl rfl rfl rfl A1.out A2.out A3.out ?_)
      intro w4 hown hgr
      have b4 : Below wr.heap.size wr w4 := ⟨hgr.os, hgr.tape, hgr.output, hgr.size, fun k hk => hgr.block k hk (by simp)⟩
      obtain ⟨vis, hvis⟩ : ∃ vis : Value, vis = .slice (some ⟨wr.heap.size, 0, none⟩) n n := ⟨_, rfl⟩
      have HO4 : Hid (OwnB 0 w4 vis (List.replicate n false)) := by
        show World.ownsRow _ _ _ _ _ _ _
        rw [hvis, List.length_replicate, bools_rep, ← toList_madeCells_one]
        exact hown
      obtain ⟨WD, hWD⟩ : ∃ WD, WD = w4.alloc (.cells #[.slice (some ⟨wr.heap.size, 0, none⟩) n n] 57) := ⟨_, rfl⟩
      have bD : Below wr.heap.size wr WD := by rw [hWD]; exact b4.alloc b4.size _
      have HM1 : Hid (Mid WD w2.heap.size w4.heap.size WD (.slice sa j sc) (.slice ta lt tc) vis S T (List.replicate n false)) := by
        have g1 := HBL.out.size
        have g2 := b4.size
        have g3 := LM.out.1
        refine ⟨by omega, Below.refl _ _, ?_, ?_, HSPa.below bD (Nat.le_refl _), HSPb.below bD (Nat.le_refl _), ?_⟩
        · exact (bD.block _ (by omega)).trans ((HBL.out.block _ LM.out.1).trans M0.out)
        · rw [hWD, hvis]; exact heap_alloc_new _ _
        · rw [hWD]; exact HO4.out.below ((Below.refl _ w4).alloc (Nat.le_refl _) _)
      have RUN0 : Hid (Run 0 S T (List.replicate n false)) := ⟨HS0.out, HLT.out, by rw [List.length_replicate]; omega⟩
      have GD : Hid (Below w.heap.size w WD) := below_more GM.out (below_more HBL.out bD)
      have KC : Hid (∀ w', Below w2.heap.size WD w' → w'.cell? ⟨w.heap.size, 3, none⟩ = some (.int .i64 a) ∧ w.heap.size < w2.heap.size) := fun w' hb => by
        have hw := (MXX.out WD (below_more HBL.out bD)).1.2.2
        have g3 := LM.out.2
        refine ⟨?_, g3⟩
        rw [hb.cell (p := ⟨w.heap.size, 3, none⟩) g3]
        exact hw
      have HWD := Lib.hid hWD
      clear hown hgr b4 HO4 A1 A2 A3 hi hz0 hz1 hz2 hWD bD HS0 HLT HSPa HSPb M0 MXX GM HBL
      subst hvis
      obtain ⟨c3, l4⟩ := KC.out WD (Below.refl _ _)
      obtain ⟨e0, e1, e2, f0, f1, f2⟩ := HM1.out.cells
      go_upto_region 15 with fail
      rw [← HWD.out]
      have CP := Lib.hid (HM1.out.put_ RUN0.out (by omega) (p := a) (k := k) (by rw [List.length_replicate]; omega) hk3 1099511627776 ⟨by decide, by decide⟩)
      go_wp2_with fail
      refine CP.out.mono ?_
      rintro e w5 ⟨u1, u2, rfl, g1, g2, b5⟩
      have HM2 := Lib.hid (HM1.out.putM b5 g1 g2)
      have RUN1 : Hid (Run 1 (pPut S a k 1099511627776) (pPutT T a k) ((List.replicate n false).take a ++ List.replicate k true ++ (List.replicate n false).drop a)) := RUN0.out.put (by rw [List.length_replicate]; omega) (by rw [List.length_replicate]; omega) _ rfl
      have ML := Lib.hid (HM1.out.below b5)
      obtain ⟨a1, k1, rfl⟩ := g1.is_slice
      obtain ⟨a2, k2, rfl⟩ := g2.is_slice
      generalize pPut S a k 1099511627776 = S1 at *
      generalize pPutT T a k = T1 at *
      obtain ⟨n1, hn1⟩ : ∃ n1, n1 = S1.length := ⟨_, rfl⟩
      obtain ⟨n2, hn2⟩ : ∃ n2, n2 = T1.length := ⟨_, rfl⟩
      rw [← hn1] at HM2 ⊢
      rw [← hn2] at HM2 ⊢
      clear hn1 hn2 g1 g2 CP HM1 RUN0 c3 e0 e1 e2 f0 f1 f2 b5
      obtain ⟨e0, e1, e2, f0, f1, f2⟩ := ML.out.cells
      obtain ⟨W6, hW6⟩ : ∃ W6, W6 = (w5.setCell ⟨w2.heap.size, 0, none⟩ (.slice a1 n1 k1)).setCell ⟨w2.heap.size, 1, none⟩ (.slice a2 n2 k2) := ⟨_, rfl⟩
      rw [← hW6] at HM2
      have HW6 := Lib.hid hW6
      clear hW6
      go_upto_region 16 with fail
      rw [← HW6.out]
      clear e0 e1 e2 f0 f1 f2 ML HW6
      obtain ⟨c3, _⟩ := KC.out W6 HM2.out.bel
      have CC := Lib.hid (HM2.out.clo_ (p := a) (k := k) (by rw [List.length_replicate]; omega) (by rw [List.length_replicate]; omega) hk3 true)
      have KB : Hid (∀ w', Below w2.heap.size WD w' → Below w.heap.size w w') := fun w' hb => GD.out.trans (hb.mono (Nat.le_of_lt LM.out.2))
      obtain ⟨B1, hB1⟩ : ∃ B1, B1 = (List.replicate n false).take a ++ List.replicate k true ++ (List.replicate n false).drop a := ⟨_, rfl⟩
      rw [← hB1] at CC RUN1
      clear hB1 HM2 HWD HLS
      go_wp2_with fail
      refine CC.out.mono ?_
      rintro e w7 ⟨rfl, vis7, HM3⟩
      replace HM3 := Lib.hid HM3
      clear c3 CC KC hmf
      obtain ⟨ad, acap, hav, hal, hac, hcells⟩ := HAC.out
      injection hav with ea1 ea2 ea3
      subst ea1 ea3
      have HCE := Lib.hid hcells
      have hbl : bl ≤ 9223372036854775807 := by omega
      replace ea2 := Lib.hid ea2
      clear hcells hal hac HAC
      go_wp2_with fail
      go_loopg [76] bl (fun g i wr => ∃ (q : Nat) (v1 v2 vis : Value) (S' : List Sp) (T' : List St) (bs : List Bool), q ≤ bl ∧ bl - q ≤ g ∧ i = .int .i64 q ∧ q ≤ 60 ∧ Hid (Run (q + 1) S' T' bs) ∧ Hid (Mid WD w2.heap.size w4.heap.size wr v1 v2 vis S' T' bs))
      case atStart => exact ⟨0, _, _, _, _, _, _, Nat.zero_le _, by omega, rfl, Nat.zero_le _, RUN1.out, HM3.out⟩
      case round =>
        clear HM3 RUN1
        obtain ⟨q, v1, v2, vis, S', T', bs, hq, hg, rfl, hq60, HR, HM⟩ := hrel
        obtain ⟨x1, y1, rfl⟩ := HM.out.sp.is_slice
        obtain ⟨x2, y2, rfl⟩ := HM.out.si.is_slice
        obtain ⟨x3, y3, rfl, hy3, hy4⟩ := HM.out.own.bls.is_slice
        by_cases hlt : q < bl
        · obtain ⟨b0, off, rfl, hb0, ⟨⟨m1, m2⟩, ⟨f1, f2⟩, ⟨t1, t2⟩, ⟨o1, o2⟩⟩, e0, e1, e2, e3⟩ := HCE.out q (by rw [← ea2.out]; exact hlt)
          obtain ⟨y, hy⟩ : ∃ y, y = ac acts q := ⟨_, rfl⟩
          rw [← hy] at m1 m2 f1 f2 t1 t2 o1 o2 e0 e1 e2 e3
          obtain ⟨what, at0, n0, mk0⟩ := y
          simp only at m1 m2 f1 f2 t1 t2 o1 o2 e0 e1 e2 e3
          have hbw : Below w.heap.size w wr := KB.out _ HM.out.bel
          replace e0 := below_cell hbw hb0 e0
          replace e1 := below_cell hbw hb0 e1
          replace e2 := below_cell hbw hb0 e2
          replace e3 := below_cell hbw hb0 e3
          obtain ⟨p, hp, hpl⟩ : ∃ p : Nat, min (max at0 0) (bs.length : Int) = p ∧ p ≤ bs.length := ⟨(min (max at0 0) (bs.length : Int)).toNat, by omega, by omega⟩
          obtain ⟨c, hc, hcl⟩ : ∃ c : Nat, min (max n0 0) 50 = (c : Int) ∧ c ≤ 50 := ⟨(min (max n0 0) 50).toNat, by omega, by omega⟩
          obtain ⟨W9, hW9⟩ : ∃ W9, W9 = wr.alloc (.cells #[.int .i64 what, .int .i64 at0, .int .i64 n0, .int .i64 mk0] 60) := ⟨_, rfl⟩
          have HX : Hid (Mid WD w2.heap.size w4.heap.size W9 (.slice x1 S'.length y1) (.slice x2 T'.length y2) (.slice x3 bs.length y3) S' T' bs) := by show Mid _ _ _ _ _ _ _ _ _ _; rw [hW9]; exact HM.out.alloc _
          have NA : W9.heap[wr.heap.size]? = some (.cells #[.int .i64 what, .int .i64 at0, .int .i64 n0, .int .i64 mk0] 60 (0, 0)) := by rw [hW9]; exact heap_alloc_new _ _
          obtain ⟨z1, hz1⟩ : ∃ z1, z1 = S'.length := ⟨_, rfl⟩
          obtain ⟨z2, hz2⟩ : ∃ z2, z2 = T'.length := ⟨_, rfl⟩
          obtain ⟨L, hL⟩ : ∃ L, L = bs.length := ⟨_, rfl⟩
          have HLB : Hid (L ≤ 3050) := by show _ ≤ _; rw [hL]; exact HR.out.lb
          rw [← hL] at hp hpl hy3
          replace hp := Lib.hid hp
          replace hc := Lib.hid hc
          rw [← hz1, ← hz2, ← hL] at HX
          have h9 : Hid (W9.cell? ⟨wr.heap.size, 0, none⟩ = some (.int .i64 what) ∧ W9.cell? ⟨wr.heap.size, 1, none⟩ = some (.int .i64 at0) ∧ W9.cell? ⟨wr.heap.size, 2, none⟩ = some (.int .i64 n0) ∧ W9.cell? ⟨wr.heap.size, 3, none⟩ = some (.int .i64 mk0)) := by
            refine ⟨?_, ?_, ?_, ?_⟩ <;> (rw [cell_of_row _ _ _ _ _ _ NA]; rfl)
          have HNA := Lib.hid NA
          have HW9 := Lib.hid hW9
          have HHL := Lib.hid hL
          clear hbw HM NA hW9 hz1 hz2 hL hy
          go_upto_region 20 with fail
          rw [← HW9.out]
          obtain ⟨s0, s1, s2, s3, s4, s5⟩ := HX.out.cells
          by_cases hq6 : q = 60
          · have d1 : decide ((q : Int) = 60) = true := decide_eq_true (by omega)
            subst hq6
            obtain ⟨i0, hi, hz0, hz1, hz2⟩ := info_parts infoBool
            have A1 : Hid (i0.bytes * L ≤ 281474976710656) := by show _ ≤ _; rw [hz2]; have := HLB.out; omega
            have A2 : Hid (L ≤ maxLen) := by show _ ≤ _; unfold maxLen; have := HLB.out; omega
            have A3 : Hid (W9.heap.size ≤ W9.heap.size) := Nat.le_refl _
            have CF : Hid (∀ w', Below W9.heap.size W9 w' → Calls Try.prog 20 #[.agg #[.slice x1 z1 y1, .slice x2 z2 y2], .int .i64 1099511627776] w' (GivesOf w' (ofS S' 1099511627776) (ofT T' 1099511627776))) := fun w' hb => by
              have k := HX.out.below hb
              have q1 := HR.out.hs.len
              have q2 := HR.out.lb
              have q3 := HR.out.lt
              exact of_any 1099511627776 w' k.sp k.si ⟨by decide, by decide⟩ (by omega) (by omega)
            have KM : Hid (∀ w', Below W9.heap.size W9 w' → w'.cell? ⟨w2.heap.size, 0, none⟩ = some (.slice x1 z1 y1) ∧ w'.cell? ⟨w2.heap.size, 1, none⟩ = some (.slice x2 z2 y2) ∧ w'.cell? ⟨w4.heap.size, 0, none⟩ = some (.slice x3 L y3) ∧ Bls w' (.slice x3 L y3) bs) := fun w' hb => by
              have k := HX.out.below hb
              have c := k.cells
              exact ⟨c.1, c.2.1, c.2.2.1, k.own.bls⟩
            have HAT : Hid (∀ s ∈ ofS S' 1099511627776, 0 ≤ s.f ∧ s.f < s.t ∧ s.t ≤ L) := fun s hs => by
              have := HR.out.hs.at_ s hs
              rw [← HHL.out] at this
              exact this
            have HEQ : Hid (∀ j, j < L → bat bs j = cov (ofS S' 1099511627776) j) := fun j hj => HR.out.hs.of_ (by decide) (by rw [← HHL.out]; exact hj)
            have KE : Hid (∀ w', Below W9.heap.size W9 w' → Below w.heap.size w w') := fun w' hb => KB.out _ (HX.out.bel.trans (hb.mono (Nat.le_of_lt (row_lt HX.out.m8))))
            obtain ⟨LL, hLL⟩ : ∃ LL, LL = ofS S' 1099511627776 := ⟨_, rfl⟩
            rw [← hLL] at CF HAT HEQ
            obtain ⟨GB, hGB⟩ : ∃ GB, GB = W9.heap.size := ⟨_, rfl⟩
            have HGB := Lib.hid hGB
            obtain ⟨k0, k1, k2, _⟩ := KM.out W9 (Below.refl _ _)
            clear hLL HR HX hGB
            go_wp2_with (at_make; refine wpList_make_full _ rfl _ _ 57 rfl W9.heap.size 4 i0 (.bool false) 1 Try.underlying57 hi hz0 hz1 .i64 .i64 _ _ L rfl rfl rfl rfl A1.out A2.out A3.out ?_)
            intro wg hown hgr
            have bg : Below W9.heap.size W9 wg := ⟨hgr.os, hgr.tape, hgr.output, hgr.size, fun k hk => hgr.block k hk (by simp)⟩
            have HG0 : Hid (wg.ownsRow GB 4 1 (.slice (some ⟨GB, 0, none⟩) L L) L (bools (rowB (fun _ => false) L))) := by
              show World.ownsRow _ _ _ _ _ _ _
              rw [rowB_false, ← toList_madeCells_one, HGB.out]
              exact hown
            rw [← HGB.out]
            clear hown hgr A1 A2 A3 hi hz0 hz1 hz2 k0 k1 k2
            obtain ⟨k0, k1, k2, _⟩ := KM.out wg bg
            go_wp2_with fail
            refine (CF.out _ bg).mono ?_
            rintro e wl ⟨lv, pv, rfl, hlv, hpv, bl_⟩
            have bWl := below_more bg bl_
            have HGT : Hid (Got W9 wl GB lv LL L (cov (LL.take 0))) := by
              refine (?_ : Got W9 wl GB lv LL L (fun _ => false)).congr (fun j _ => congrFun (cov_zero LL) j)
              refine ⟨HGB.out, World.ownsRow.kept HG0.out (grown_below bl_ none) (by simp [Value.ownBlock]), hlv, by rw [HGB.out]; exact bWl⟩
            clear HG0 hpv k0 k1 k2
            obtain ⟨la, lc, rfl, hlc1, hlc2, _⟩ := hlv.open_
            obtain ⟨ln, hln⟩ : ∃ ln, ln = LL.length := ⟨_, rfl⟩
            rw [← hln] at HGT hlc1 ⊢
            have hlnb : ln ≤ 9223372036854775807 := by omega
            have hLb : L ≤ 3050 := HLB.out
            have HLN := Lib.hid hln
            clear hln hlv CF bg bl_ bWl hlc1
            go_wp2_with fail
            go_loopg [145] ln (fun g i wr => ∃ q2 : Nat, q2 ≤ ln ∧ ln - q2 ≤ g ∧ i = .int .i64 q2 ∧ Hid (Got W9 wr GB (.slice la ln lc) LL L (cov (LL.take q2))))
            case atStart => exact ⟨0, Nat.zero_le _, by omega, rfl, HGT.out⟩
            case round =>
              clear HGT
              obtain ⟨q2, hq2, hg2, rfl, HG⟩ := hrel
              obtain ⟨wi, hwi⟩ : ∃ wi : World, wi = wr := ⟨_, rfl⟩
              subst hwi
              by_cases hlt2 : q2 < ln
              · have hql : q2 < LL.length := by rw [← HLN.out]; exact hlt2
                obtain ⟨a0, cap0, hva, hla, hca, hqa⟩ := HG.out.sp.open_
                injection hva with ea1 ea2 ea3
                subst ea1 ea3
                clear ea2 hla hca
                obtain ⟨b0, off, rfl, hb0, ⟨⟨m1, m2⟩, ⟨f1, f2⟩, ⟨t1, t2⟩⟩, c0, c1, c2⟩ := hqa q2 hql
                obtain ⟨p1, p2, p3⟩ := HAT.out (sp LL q2) (by rw [sp_get hql]; exact List.getElem_mem hql)
                obtain ⟨y, hy⟩ : ∃ y, y = sp LL q2 := ⟨_, rfl⟩
                rw [← hy] at m1 m2 f1 f2 t1 t2 c0 c1 c2 p1 p2 p3
                obtain ⟨m, f, t⟩ := y
                simp only at m1 m2 f1 f2 t1 t2 c0 c1 c2 p1 p2 p3
                obtain ⟨fn, rfl⟩ := Int.eq_ofNat_of_zero_le p1
                obtain ⟨tn, rfl⟩ := Int.eq_ofNat_of_zero_le (show 0 ≤ t by omega)
                have hft : fn < tn := by omega
                have htl : tn ≤ L := by omega
                have HEND : Hid (∀ j, covTo LL q2 fn tn j = cov (LL.take (q2 + 1)) j) := fun j => covTo_end hql hy.symm j
                obtain ⟨W2, hW2⟩ : ∃ W2, W2 = wi.alloc (.cells #[.int .i64 m, .int .i64 fn, .int .i64 tn] 26) := ⟨_, rfl⟩
                have HG2 : Hid (Got W9 W2 GB (.slice (some ⟨b0, off, none⟩) ln lc) LL L (covTo LL q2 fn fn)) := by
                  show Got _ _ _ _ _ _ _
                  rw [hW2]
                  exact (HG.out.below ((Below.refl _ wi).alloc (Nat.le_refl _) _)).congr (fun j _ => covTo_start LL q2 fn j)
                have HSB : Hid (W2.heap[wi.heap.size]? = some (.cells #[.int .i64 m, .int .i64 fn, .int .i64 tn] 26 (0, 0))) := by show _ = _; rw [hW2]; exact heap_alloc_new _ _
                have GLT : Hid (GB < wi.heap.size) := HG.out.lt
                have u0 : W2.cell? ⟨wi.heap.size, 0, none⟩ = some (.int .i64 m) := by rw [cell_of_row _ _ _ _ _ _ HSB.out]; rfl
                have u1 : W2.cell? ⟨wi.heap.size, 1, none⟩ = some (.int .i64 fn) := by rw [cell_of_row _ _ _ _ _ _ HSB.out]; rfl
                have u2 : W2.cell? ⟨wi.heap.size, 2, none⟩ = some (.int .i64 tn) := by rw [cell_of_row _ _ _ _ _ _ HSB.out]; rfl
                have HW2 := Lib.hid hW2
                have v1 : decide ((fn : Int) < 0) = false := decide_eq_false (by omega)
                have v2 : decide ((L : Int) < (tn : Int)) = false := decide_eq_false (by omega)
                have v3 : ¬ ((fn : Int) < 0) := by omega
                have v4 : ¬ ((L : Int) < (tn : Int)) := by omega
                clear hW2 HG hqa hy hql p1 p2 p3
                go_upto_region 35 with fail
                rw [← HW2.out]
                go_wp2_with fail
                go_loopg [25] (tn - fn) (fun g3 kk wx => ∃ k : Nat, fn ≤ k ∧ k ≤ tn ∧ tn - k ≤ g3 ∧ kk = .int .i64 k ∧ Hid (Got W9 wx GB (.slice (some ⟨b0, off, none⟩) ln lc) LL L (covTo LL q2 fn k)) ∧ Hid (wx.heap[wi.heap.size]? = some (.cells #[.int .i64 m, .int .i64 fn, .int .i64 tn] 26 (0, 0))))
                case atStart => exact ⟨fn, Nat.le_refl _, by omega, by omega, rfl, HG2.out, HSB.out⟩
                case round =>
                  clear HG2 HSB u0 u1 u2 c0 c1 c2
                  obtain ⟨k, hk1, hk2, hg3, rfl, HK, HS2⟩ := hrel
                  have u0 : wr.cell? ⟨wi.heap.size, 0, none⟩ = some (.int .i64 m) := by rw [cell_of_row _ _ _ _ _ _ HS2.out]; rfl
                  have u1 : wr.cell? ⟨wi.heap.size, 1, none⟩ = some (.int .i64 fn) := by rw [cell_of_row _ _ _ _ _ _ HS2.out]; rfl
                  have u2 : wr.cell? ⟨wi.heap.size, 2, none⟩ = some (.int .i64 tn) := by rw [cell_of_row _ _ _ _ _ _ HS2.out]; rfl
                  by_cases hkt : k < tn
                  · have hkL : k < L := by omega
                    obtain ⟨g0, g1⟩ := HK.out.cell hkL
                    have HN : Hid (Got W9 (wr.setCell ⟨GB, k, none⟩ (.bool true)) GB (.slice (some ⟨b0, off, none⟩) ln lc) LL L (covTo LL q2 fn (k + 1))) := (HK.out.set k).congr (fun j _ => covTo_step LL hk1 j)
                    have HS3 : Hid ((wr.setCell ⟨GB, k, none⟩ (.bool true)).heap[wi.heap.size]? = some (.cells #[.int .i64 m, .int .i64 fn, .int .i64 tn] 26 (0, 0))) := by
                      show _ = _
                      rw [Below.heap_setCell _ _ _ _ (by have := GLT.out; show wi.heap.size ≠ GB; omega)]
                      exact HS2.out
                    clear HK HS2
                    go_wp2_with fail
                    go_roundg (tn - (k + 1))
                    case measure => omega
                    case rel => exact ⟨k + 1, by omega, by omega, Nat.le_refl _, by go_num, HN.out, HS3.out⟩
                  · obtain rfl : k = tn := by omega
                    have HN : Hid (Got W9 wr GB (.slice (some ⟨b0, off, none⟩) ln lc) LL L (cov (LL.take (q2 + 1)))) := HK.out.congr (fun j _ => HEND.out j)
                    clear HK HS2
                    go_wp2_with fail
                    go_roundg (ln - (q2 + 1))
                    case measure => omega
                    case rel => exact ⟨q2 + 1, by omega, Nat.le_refl _, by go_num, HN.out⟩
              · obtain rfl : q2 = ln := by omega
                have HEQ2 : Hid (∀ j, j < L → bat bs j = cov (LL.take q2) j) := fun j hj => by
                  rw [HLN.out, List.take_length]
                  exact HEQ.out j hj
                have HBI : Hid (Below W9.heap.size W9 wi) := by rw [← HGB.out]; exact HG.out.bel
                obtain ⟨_, _, k2, HBB⟩ := KM.out wi HBI.out
                have HB2 := Lib.hid HBB
                have HBSL : Hid (bs.length = L) := HHL.out.symm
                clear HBB HEQ HAT HLN KM
                go_wp2_with fail
                go_loopg [173] L (fun g i wr => ∃ j : Nat, j ≤ L ∧ L - j ≤ g ∧ i = .int .i64 j ∧ ∃ d, wr = wi.drewN d)
                case atStart => exact ⟨0, Nat.zero_le _, by omega, rfl, 0, by first | rfl | simp [World.drewN]⟩
                case round =>
                  obtain ⟨j, hj, hg4, rfl, d, rfl⟩ := hrel
                  by_cases hjl : j < L
                  · obtain ⟨bb, oo, rfl, i1⟩ := bls_at HB2.out (by rw [HBSL.out]; exact hjl)
                    obtain ⟨i2, _⟩ := HG.out.cell hjl
                    rw [HEQ2.out j hjl] at i1
                    generalize cov (LL.take q2) j = bv at i1 i2
                    have i3 : (wi.drewN d).cell? ⟨bb, oo + j, none⟩ = some (.bool bv) := i1
                    have i4 : (wi.drewN d).cell? ⟨GB, j, none⟩ = some (.bool bv) := i2
                    have i5 : (wi.drewN d).cell? ⟨w4.heap.size, 0, none⟩ = some (.slice (some ⟨bb, oo, none⟩) L y3) := k2
                    have i6 : (bv != bv) = false := by simp
                    go_wp2_with fail
                    go_quiet (fail)
                    go_wp2
                    go_roundg (L - (j + 1))
                    case measure => omega
                    case rel => exact ⟨j + 1, by omega, Nat.le_refl _, by go_num, _, rfl⟩
                  · obtain rfl : j = L := by omega
                    have HEN := Lib.hid (KE.out _ HBI.out)
                    go_wp2_with fail
                    go_ret
                    exact ⟨rfl, below_drews HEN.out _⟩
          · by_cases hl3 : 3000 < L
            · have d1 : decide ((q : Int) = 60) = false := decide_eq_false (by omega)
              have d2 : decide ((3000 : Int) < (L : Int)) = true := decide_eq_true (by omega)
              have d3 : ¬ ((q : Int) = 60) := by omega
              have d4 : (3000 : Int) < (L : Int) := by omega
              obtain ⟨i0, hi, hz0, hz1, hz2⟩ := info_parts infoBool
              have A1 : Hid (i0.bytes * L ≤ 281474976710656) := by show _ ≤ _; rw [hz2]; have := HLB.out; omega
              have A2 : Hid (L ≤ maxLen) := by show _ ≤ _; unfold maxLen; have := HLB.out; omega
              have A3 : Hid (W9.heap.size ≤ W9.heap.size) := Nat.le_refl _
              have CF : Hid (∀ w', Below W9.heap.size W9 w' → Calls Try.prog 20 #[.agg #[.slice x1 z1 y1, .slice x2 z2 y2], .int .i64 1099511627776] w' (GivesOf w' (ofS S' 1099511627776) (ofT T' 1099511627776))) := fun w' hb => by
                have k := HX.out.below hb
                have q1 := HR.out.hs.len
                have q2 := HR.out.lb
                have q3 := HR.out.lt
                exact of_any 1099511627776 w' k.sp k.si ⟨by decide, by decide⟩ (by omega) (by omega)
              have KM : Hid (∀ w', Below W9.heap.size W9 w' → w'.cell? ⟨w2.heap.size, 0, none⟩ = some (.slice x1 z1 y1) ∧ w'.cell? ⟨w2.heap.size, 1, none⟩ = some (.slice x2 z2 y2) ∧ w'.cell? ⟨w4.heap.size, 0, none⟩ = some (.slice x3 L y3) ∧ Bls w' (.slice x3 L y3) bs) := fun w' hb => by
                have k := HX.out.below hb
                have c := k.cells
                exact ⟨c.1, c.2.1, c.2.2.1, k.own.bls⟩
              have HAT : Hid (∀ s ∈ ofS S' 1099511627776, 0 ≤ s.f ∧ s.f < s.t ∧ s.t ≤ L) := fun s hs => by
                have := HR.out.hs.at_ s hs
                rw [← HHL.out] at this
                exact this
              have HEQ : Hid (∀ j, j < L → bat bs j = cov (ofS S' 1099511627776) j) := fun j hj => HR.out.hs.of_ (by decide) (by rw [← HHL.out]; exact hj)
              have KE : Hid (∀ w', Below W9.heap.size W9 w' → Below w.heap.size w w') := fun w' hb => KB.out _ (HX.out.bel.trans (hb.mono (Nat.le_of_lt (row_lt HX.out.m8))))
              obtain ⟨LL, hLL⟩ : ∃ LL, LL = ofS S' 1099511627776 := ⟨_, rfl⟩
              rw [← hLL] at CF HAT HEQ
              obtain ⟨GB, hGB⟩ : ∃ GB, GB = W9.heap.size := ⟨_, rfl⟩
              have HGB := Lib.hid hGB
              obtain ⟨k0, k1, k2, _⟩ := KM.out W9 (Below.refl _ _)
              clear hLL HR HX hGB
              go_wp2_with (at_make; refine wpList_make_full _ rfl _ _ 57 rfl W9.heap.size 4 i0 (.bool false) 1 Try.underlying57 hi hz0 hz1 .i64 .i64 _ _ L rfl rfl rfl rfl A1.out A2.out A3.out ?_)
              intro wg hown hgr
              have bg : Below W9.heap.size W9 wg := ⟨hgr.os, hgr.tape, hgr.output, hgr.size, fun k hk => hgr.block k hk (by simp)⟩
              have HG0 : Hid (wg.ownsRow GB 4 1 (.slice (some ⟨GB, 0, none⟩) L L) L (bools (rowB (fun _ => false) L))) := by
                show World.ownsRow _ _ _ _ _ _ _
                rw [rowB_false, ← toList_madeCells_one, HGB.out]
                exact hown
              rw [← HGB.out]
              clear hown hgr A1 A2 A3 hi hz0 hz1 hz2 k0 k1 k2
              obtain ⟨k0, k1, k2, _⟩ := KM.out wg bg
              go_wp2_with fail
              refine (CF.out _ bg).mono ?_
              rintro e wl ⟨lv, pv, rfl, hlv, hpv, bl_⟩
              have bWl := below_more bg bl_
              have HGT : Hid (Got W9 wl GB lv LL L (cov (LL.take 0))) := by
                refine (?_ : Got W9 wl GB lv LL L (fun _ => false)).congr (fun j _ => congrFun (cov_zero LL) j)
                refine ⟨HGB.out, World.ownsRow.kept HG0.out (grown_below bl_ none) (by simp [Value.ownBlock]), hlv, by rw [HGB.out]; exact bWl⟩
              clear HG0 hpv k0 k1 k2
              obtain ⟨la, lc, rfl, hlc1, hlc2, _⟩ := hlv.open_
              obtain ⟨ln, hln⟩ : ∃ ln, ln = LL.length := ⟨_, rfl⟩
              rw [← hln] at HGT hlc1 ⊢
              have hlnb : ln ≤ 9223372036854775807 := by omega
              have hLb : L ≤ 3050 := HLB.out
              have HLN := Lib.hid hln
              clear hln hlv CF bg bl_ bWl hlc1
              go_wp2_with fail
              go_loopg [145] ln (fun g i wr => ∃ q2 : Nat, q2 ≤ ln ∧ ln - q2 ≤ g ∧ i = .int .i64 q2 ∧ Hid (Got W9 wr GB (.slice la ln lc) LL L (cov (LL.take q2))))
              case atStart => exact ⟨0, Nat.zero_le _, by omega, rfl, HGT.out⟩
              case round =>
                clear HGT
                obtain ⟨q2, hq2, hg2, rfl, HG⟩ := hrel
                obtain ⟨wi, hwi⟩ : ∃ wi : World, wi = wr := ⟨_, rfl⟩
                subst hwi
                by_cases hlt2 : q2 < ln
                · have hql : q2 < LL.length := by rw [← HLN.out]; exact hlt2
                  obtain ⟨a0, cap0, hva, hla, hca, hqa⟩ := HG.out.sp.open_
                  injection hva with ea1 ea2 ea3
                  subst ea1 ea3
                  clear ea2 hla hca
                  obtain ⟨b0, off, rfl, hb0, ⟨⟨m1, m2⟩, ⟨f1, f2⟩, ⟨t1, t2⟩⟩, c0, c1, c2⟩ := hqa q2 hql
                  obtain ⟨p1, p2, p3⟩ := HAT.out (sp LL q2) (by rw [sp_get hql]; exact List.getElem_mem hql)
                  obtain ⟨y, hy⟩ : ∃ y, y = sp LL q2 := ⟨_, rfl⟩
                  rw [← hy] at m1 m2 f1 f2 t1 t2 c0 c1 c2 p1 p2 p3
                  obtain ⟨m, f, t⟩ := y
                  simp only at m1 m2 f1 f2 t1 t2 c0 c1 c2 p1 p2 p3
                  obtain ⟨fn, rfl⟩ := Int.eq_ofNat_of_zero_le p1
                  obtain ⟨tn, rfl⟩ := Int.eq_ofNat_of_zero_le (show 0 ≤ t by omega)
                  have hft : fn < tn := by omega
                  have htl : tn ≤ L := by omega
                  have HEND : Hid (∀ j, covTo LL q2 fn tn j = cov (LL.take (q2 + 1)) j) := fun j => covTo_end hql hy.symm j
                  obtain ⟨W2, hW2⟩ : ∃ W2, W2 = wi.alloc (.cells #[.int .i64 m, .int .i64 fn, .int .i64 tn] 26) := ⟨_, rfl⟩
                  have HG2 : Hid (Got W9 W2 GB (.slice (some ⟨b0, off, none⟩) ln lc) LL L (covTo LL q2 fn fn)) := by
                    show Got _ _ _ _ _ _ _
                    rw [hW2]
                    exact (HG.out.below ((Below.refl _ wi).alloc (Nat.le_refl _) _)).congr (fun j _ => covTo_start LL q2 fn j)
                  have HSB : Hid (W2.heap[wi.heap.size]? = some (.cells #[.int .i64 m, .int .i64 fn, .int .i64 tn] 26 (0, 0))) := by show _ = _; rw [hW2]; exact heap_alloc_new _ _
                  have GLT : Hid (GB < wi.heap.size) := HG.out.lt
                  have u0 : W2.cell? ⟨wi.heap.size, 0, none⟩ = some (.int .i64 m) := by rw [cell_of_row _ _ _ _ _ _ HSB.out]; rfl
                  have u1 : W2.cell? ⟨wi.heap.size, 1, none⟩ = some (.int .i64 fn) := by rw [cell_of_row _ _ _ _ _ _ HSB.out]; rfl
                  have u2 : W2.cell? ⟨wi.heap.size, 2, none⟩ = some (.int .i64 tn) := by rw [cell_of_row _ _ _ _ _ _ HSB.out]; rfl
                  have HW2 := Lib.hid hW2
                  have v1 : decide ((fn : Int) < 0) = false := decide_eq_false (by omega)
                  have v2 : decide ((L : Int) < (tn : Int)) = false := decide_eq_false (by omega)
                  have v3 : ¬ ((fn : Int) < 0) := by omega
                  have v4 : ¬ ((L : Int) < (tn : Int)) := by omega
                  clear hW2 HG hqa hy hql p1 p2 p3
                  go_upto_region 35 with fail
                  rw [← HW2.out]
                  go_wp2_with fail
                  go_loopg [25] (tn - fn) (fun g3 kk wx => ∃ k : Nat, fn ≤ k ∧ k ≤ tn ∧ tn - k ≤ g3 ∧ kk = .int .i64 k ∧ Hid (Got W9 wx GB (.slice (some ⟨b0, off, none⟩) ln lc) LL L (covTo LL q2 fn k)) ∧ Hid (wx.heap[wi.heap.size]? = some (.cells #[.int .i64 m, .int .i64 fn, .int .i64 tn] 26 (0, 0))))
                  case atStart => exact ⟨fn, Nat.le_refl _, by omega, by omega, rfl, HG2.out, HSB.out⟩
                  case round =>
                    clear HG2 HSB u0 u1 u2 c0 c1 c2
                    obtain ⟨k, hk1, hk2, hg3, rfl, HK, HS2⟩ := hrel
                    have u0 : wr.cell? ⟨wi.heap.size, 0, none⟩ = some (.int .i64 m) := by rw [cell_of_row _ _ _ _ _ _ HS2.out]; rfl
                    have u1 : wr.cell? ⟨wi.heap.size, 1, none⟩ = some (.int .i64 fn) := by rw [cell_of_row _ _ _ _ _ _ HS2.out]; rfl
                    have u2 : wr.cell? ⟨wi.heap.size, 2, none⟩ = some (.int .i64 tn) := by rw [cell_of_row _ _ _ _ _ _ HS2.out]; rfl
                    by_cases hkt : k < tn
                    · have hkL : k < L := by omega
                      obtain ⟨g0, g1⟩ := HK.out.cell hkL
                      have HN : Hid (Got W9 (wr.setCell ⟨GB, k, none⟩ (.bool true)) GB (.slice (some ⟨b0, off, none⟩) ln lc) LL L (covTo LL q2 fn (k + 1))) := (HK.out.set k).congr (fun j _ => covTo_step LL hk1 j)
                      have HS3 : Hid ((wr.setCell ⟨GB, k, none⟩ (.bool true)).heap[wi.heap.size]? = some (.cells #[.int .i64 m, .int .i64 fn, .int .i64 tn] 26 (0, 0))) := by
                        show _ = _
                        rw [Below.heap_setCell _ _ _ _ (by have := GLT.out; show wi.heap.size ≠ GB; omega)]
                        exact HS2.out
                      clear HK HS2
                      go_wp2_with fail
                      go_roundg (tn - (k + 1))
                      case measure => omega
                      case rel => exact ⟨k + 1, by omega, by omega, Nat.le_refl _, by go_num, HN.out, HS3.out⟩
                    · obtain rfl : k = tn := by omega
                      have HN : Hid (Got W9 wr GB (.slice (some ⟨b0, off, none⟩) ln lc) LL L (cov (LL.take (q2 + 1)))) := HK.out.congr (fun j _ => HEND.out j)
                      clear HK HS2
                      go_wp2_with fail
                      go_roundg (ln - (q2 + 1))
                      case measure => omega
                      case rel => exact ⟨q2 + 1, by omega, Nat.le_refl _, by go_num, HN.out⟩
                · obtain rfl : q2 = ln := by omega
                  have HEQ2 : Hid (∀ j, j < L → bat bs j = cov (LL.take q2) j) := fun j hj => by
                    rw [HLN.out, List.take_length]
                    exact HEQ.out j hj
                  have HBI : Hid (Below W9.heap.size W9 wi) := by rw [← HGB.out]; exact HG.out.bel
                  obtain ⟨_, _, k2, HBB⟩ := KM.out wi HBI.out
                  have HB2 := Lib.hid HBB
                  have HBSL : Hid (bs.length = L) := HHL.out.symm
                  clear HBB HEQ HAT HLN KM
                  go_wp2_with fail
                  go_loopg [173] L (fun g i wr => ∃ j : Nat, j ≤ L ∧ L - j ≤ g ∧ i = .int .i64 j ∧ ∃ d, wr = wi.drewN d)
                  case atStart => exact ⟨0, Nat.zero_le _, by omega, rfl, 0, by first | rfl | simp [World.drewN]⟩
                  case round =>
                    obtain ⟨j, hj, hg4, rfl, d, rfl⟩ := hrel
                    by_cases hjl : j < L
                    · obtain ⟨bb, oo, rfl, i1⟩ := bls_at HB2.out (by rw [HBSL.out]; exact hjl)
                      obtain ⟨i2, _⟩ := HG.out.cell hjl
                      rw [HEQ2.out j hjl] at i1
                      generalize cov (LL.take q2) j = bv at i1 i2
                      have i3 : (wi.drewN d).cell? ⟨bb, oo + j, none⟩ = some (.bool bv) := i1
                      have i4 : (wi.drewN d).cell? ⟨GB, j, none⟩ = some (.bool bv) := i2
                      have i5 : (wi.drewN d).cell? ⟨w4.heap.size, 0, none⟩ = some (.slice (some ⟨bb, oo, none⟩) L y3) := k2
                      have i6 : (bv != bv) = false := by simp
                      go_wp2_with fail
                      go_quiet (fail)
                      go_wp2
                      go_roundg (L - (j + 1))
                      case measure => omega
                      case rel => exact ⟨j + 1, by omega, Nat.le_refl _, by go_num, _, rfl⟩
                    · obtain rfl : j = L := by omega
                      have HEN := Lib.hid (KE.out _ HBI.out)
                      go_wp2_with fail
                      go_ret
                      exact ⟨rfl, below_drews HEN.out _⟩
            · obtain ⟨r0, r1, r2, r3⟩ := h9.out
              have d1 : decide ((q : Int) = 60) = false := decide_eq_false (by omega)
              have d2 : decide ((3000 : Int) < (L : Int)) = false := decide_eq_false (by omega)
              have d3 : ¬ ((q : Int) = 60) := by omega
              have d4 : ¬ ((3000 : Int) < (L : Int)) := by omega
              go_upto_region 23 with fail
              rw [hp.out, hc.out]
              by_cases hw : what = 0
              · subst hw
                have P0 := Lib.hid (HX.out.put_ HR.out (by omega) (p := p) (k := c) (by rw [← HHL.out]; exact hpl) (by omega) (Int.tmod mk0 1000) (tmod_i64 mk0))
                have hR2 : Run (q + 1 + 1) (pPut S' p c (Int.tmod mk0 1000)) (pPutT T' p c) (bs.take p ++ List.replicate c false ++ bs.drop p) := HR.out.put (by rw [← HHL.out]; exact hpl) (by rw [← HHL.out]; omega) _ (decide_eq_false (mod_mark mk0)).symm
                clear HR
                go_wp2_with fail
                refine P0.out.mono ?_
                rintro e w5 ⟨u1, u2, rfl, g1, g2, b5⟩
                have HM2 := Lib.hid (HX.out.putM b5 g1 g2)
                have ML := Lib.hid (HX.out.below b5)
                have HR2 := Lib.hid hR2
                obtain ⟨a1, k1, rfl⟩ := g1.is_slice
                obtain ⟨a2, k2, rfl⟩ := g2.is_slice
                generalize pPut S' p c (Int.tmod mk0 1000) = S1 at *
                generalize pPutT T' p c = T1 at *
                obtain ⟨n1, hn1⟩ : ∃ n1, n1 = S1.length := ⟨_, rfl⟩
                obtain ⟨n2, hn2⟩ : ∃ n2, n2 = T1.length := ⟨_, rfl⟩
                rw [← hn1] at HM2 ⊢
                rw [← hn2] at HM2 ⊢
                clear hn1 hn2 g1 g2 P0 HX s0 s1 s2 s3 s4 s5 b5 hR2 r0 r1 r2 r3 h9
                obtain ⟨s0, s1, s2, s3, s4, s5⟩ := ML.out.cells
                obtain ⟨W6, hW6⟩ : ∃ W6, W6 = (w5.setCell ⟨w2.heap.size, 0, none⟩ (.slice a1 n1 k1)).setCell ⟨w2.heap.size, 1, none⟩ (.slice a2 n2 k2) := ⟨_, rfl⟩
                rw [← hW6] at HM2
                have HW6 := Lib.hid hW6
                clear hW6
                go_upto_region 25 with fail
                rw [← HW6.out]
                clear s0 s1 s2 s3 s4 s5 ML HW6
                have CC := Lib.hid (HM2.out.clo_ (p := p) (k := c) (by rw [← HHL.out]; exact hpl) (by rw [← HHL.out]; exact HLB.out) (by omega) false)
                obtain ⟨B2, hB2⟩ : ∃ B2, B2 = bs.take p ++ List.replicate c false ++ bs.drop p := ⟨_, rfl⟩
                rw [← hB2] at CC HR2
                clear hB2 HM2
                go_wp2_with fail
                refine CC.out.mono ?_
                rintro e w7 ⟨rfl, vis7, HM3⟩
                replace HM3 := Lib.hid HM3
                clear CC
                go_wp2_with fail
                go_roundg (bl - (q + 1))
                case measure => omega
                case rel => exact ⟨q + 1, _, _, _, _, _, _, by omega, Nat.le_refl _, by go_num, by omega, HR2.out, HM3.out⟩
              · have hw' : ¬ (what = 0) := hw
                obtain ⟨ee, he, hep, hel⟩ : ∃ ee : Nat, min ((p : Int) + (c : Int)) (L : Int) = ee ∧ p ≤ ee ∧ ee ≤ L := ⟨(min ((p : Int) + (c : Int)) (L : Int)).toNat, by omega, by omega, by omega⟩
                replace he := Lib.hid he
                have zw : IntKind.i64.wrap ((p : Int) + (c : Int)) = (p : Int) + (c : Int) := IntWalk.i64_in _ (by have := HLB.out; omega)
                have P0 := Lib.hid (HX.out.take_ HR.out (by omega) (a := p) (b := ee) hep (by rw [← HHL.out]; exact hel) (Int.tmod mk0 1000) (tmod_i64 mk0))
                have HR2 : Hid (Run (q + 1 + 1) (pTake S' p ee) (pTakeT T' p ee (Int.tmod mk0 1000)) (bs.take p ++ bs.drop ee)) := HR.out.take_ hep (by rw [← HHL.out]; exact hel) _
                clear HR
                go_upto_region 27 with fail
                rw [he.out]
                go_wp2_with fail
                refine P0.out.mono ?_
                rintro e w5 ⟨u1, u2, rfl, g1, g2, b5⟩
                have HM2 := Lib.hid (HX.out.putM b5 g1 g2)
                have ML := Lib.hid (HX.out.below b5)
                obtain ⟨a1, k1, rfl⟩ := g1.is_slice
                obtain ⟨a2, k2, rfl⟩ := g2.is_slice
                generalize pTake S' p ee = S1 at *
                generalize pTakeT T' p ee (Int.tmod mk0 1000) = T1 at *
                obtain ⟨n1, hn1⟩ : ∃ n1, n1 = S1.length := ⟨_, rfl⟩
                obtain ⟨n2, hn2⟩ : ∃ n2, n2 = T1.length := ⟨_, rfl⟩
                rw [← hn1] at HM2 ⊢
                rw [← hn2] at HM2 ⊢
                clear hn1 hn2 g1 g2 P0 HX s0 s1 s2 s3 s4 s5 b5 r0 r1 r2 r3 h9
                obtain ⟨s0, s1, s2, s3, s4, s5⟩ := ML.out.cells
                obtain ⟨W6, hW6⟩ : ∃ W6, W6 = (w5.setCell ⟨w2.heap.size, 0, none⟩ (.slice a1 n1 k1)).setCell ⟨w2.heap.size, 1, none⟩ (.slice a2 n2 k2) := ⟨_, rfl⟩
                rw [← hW6] at HM2
                have HW6 := Lib.hid hW6
                clear hW6
                go_upto_region 28 with fail
                rw [← HW6.out]
                clear s0 s1 s2 s3 s4 s5 ML HW6
                rcases HM2.out.own.2 with ⟨hv, hz⟩ | ⟨g, cap, cur, hv, -, -, -, -, -, -⟩
                · injection hv with hv1 hv2 hv3
                  subst hv1 hv2 hv3
                  obtain rfl : p = 0 := by omega
                  obtain rfl : ee = 0 := by omega
                  have hnil : bs.drop 0 = [] := by rw [List.drop_zero]; exact List.eq_nil_of_length_eq_zero HHL.out.symm
                  have IB : Hid (∀ w', Below W6.heap.size W6 w' → w'.cell? ⟨w4.heap.size, 0, none⟩ = some (.slice none 0 0) ∧ w'.frozen? ⟨w4.heap.size, 0, none⟩ = false ∧ Bls w' (.slice none 0 0) (bs.take 0) ∧ Bls w' (.slice none 0 0) (bs.drop 0)) := fun w' hb => by
                    have k := HM2.out.below hb
                    exact ⟨cell_of_one k.bx, free_of_one k.bx, by rw [List.take_zero]; exact Bls.none_of (Nat.zero_le _), by rw [hnil]; exact Bls.none_of (Nat.zero_le _)⟩
                  have JB : Hid (∀ (w8 w9 : World) (v9 : Value), Below W6.heap.size W6 w8 → OwnB W6.heap.size w9 v9 (bs.take 0 ++ bs.drop 0) → Below W6.heap.size W6 w9 → (∃ a9 l9 k9, v9 = .slice a9 l9 k9) ∧ w9.frozen? ⟨w4.heap.size, 0, none⟩ = false ∧ w9.cell? ⟨w4.heap.size, 0, none⟩ = some (.slice none 0 0) ∧ Hid (Mid WD w2.heap.size w4.heap.size (w9.setCell ⟨w4.heap.size, 0, none⟩ v9) (.slice a1 n1 k1) (.slice a2 n2 k2) v9 S1 T1 (bs.take 0 ++ bs.drop 0))) := fun w8 w9 v9 _ h9 hb9 => by
                    obtain ⟨a9, k9, e9, _, _⟩ := h9.bls.is_slice
                    obtain ⟨i1, i2, _⟩ := IB.out w9 hb9
                    exact ⟨⟨_, _, _, e9⟩, i2, i1, HM2.out.putB hb9 h9⟩
                  have L1 : Hid (([] : List Bool).length + (bs.take 0).length ≤ 100000) := by show _ ≤ _; have := HLB.out; rw [List.length_take, List.length_nil, ← HHL.out]; omega
                  have L2 : Hid ((bs.take 0).length + (bs.drop 0).length ≤ 100000) := by show _ ≤ _; have := HLB.out; rw [List.length_take, List.length_drop, ← HHL.out]; omega
                  have E0 : Hid (EB W6 (W6.alloc (.cells #[] 4))) := EB.make W6
                  have E1 : Hid (∀ n, EB W6 ((W6.drewN n).alloc (.cells #[] 4))) := EB.make_drew W6
                  have E2 : Hid (EB W6 (W6.drew.alloc (.cells #[] 4))) := EB.make_drew W6 1
                  obtain ⟨i1, i2, _, _⟩ := IB.out W6 (Below.refl _ _)
                  obtain ⟨ia1, ia2, _, _⟩ := IB.out _ E0.out.2
                  go_wp2_with fail
                  go_region_law (first
                    | (refine step_append_bls rfl _ _ rfl W6.heap.size _ [] rfl ?_ _ (bs.take 0) rfl ?_ L1.out ?_ ?_; (focus (apply EB.own; (repeat first | exact E0.out | exact E1.out _ | exact E2.out | apply EB.drewN | apply EB.drew); done)); (focus (refine (IB.out _ ?_).2.2.1; apply EB.bel; (repeat first | exact E0.out | exact E1.out _ | exact E2.out | apply EB.drewN | apply EB.drew); done)); (focus (refine (Below.size (EB.bel ?_)); (repeat first | exact E0.out | exact E1.out _ | exact E2.out | apply EB.drewN | apply EB.drew); done)); intro v8 w8 h8 g8; have b8 : Below W6.heap.size W6 w8 := (by refine Below.grown ?_ g8 ?_ ?_; (focus (apply EB.bel; (repeat first | exact E0.out | exact E1.out _ | exact E2.out | apply EB.drewN | apply EB.drew); done)); (focus (refine (Below.size (EB.bel ?_)); (repeat first | exact E0.out | exact E1.out _ | exact E2.out | apply EB.drewN | apply EB.drew); done)); (intro q e; have e' : some W6.heap.size = some q := e; injection e' with e'; omega)); obtain ⟨j1, j2, _, _⟩ := IB.out w8 b8; replace h8 : OwnB W6.heap.size w8 v8 (bs.take 0) := h8; clear g8)
                    | (refine step_append_bls rfl _ _ rfl W6.heap.size _ (bs.take 0) rfl ?_ _ (bs.drop 0) rfl ?_ L2.out ?_ ?_; (focus ((repeat first | assumption | apply own_drew | apply own_drew1); done)); (focus (refine (IB.out _ ?_).2.2.2; (repeat first | assumption | apply below_drews | apply Below.drew); done)); (focus (refine Below.size (B := W6.heap.size) (w := W6) ?_; (repeat first | assumption | apply below_drews | apply Below.drew); done)); intro v9 w9 h9 g9; have b9 : Below W6.heap.size W6 w9 := (by refine Below.grown ?_ g9 ?_ ?_; (focus ((repeat first | assumption | apply below_drews | apply Below.drew); done)); (focus (refine Below.size (B := W6.heap.size) (w := W6) ?_; (repeat first | assumption | apply below_drews | apply Below.drew); done)); (intro q e; exact (OwnB.block (by assumption) q e).1)); obtain ⟨⟨a9, l9, k9, rfl⟩, j3, j4, HM3⟩ := JB.out w9 w9 v9 b9 h9 b9; clear g9 h9))
                  all_goals go_wp2_with fail
                  all_goals (go_roundg (bl - (q + 1)) <;> first | omega | exact ⟨q + 1, _, _, _, _, _, _, by omega, Nat.le_refl _, by go_num, by omega, HR2.out, HM3.out⟩)
                · injection hv with hv1 hv2 hv3
                  subst hv1 hv3
                  clear hv2
                  by_cases hce : y3 = ee
                  · subst hce
                    obtain rfl : L = y3 := by omega
                    have hnil : bs.drop L = [] := List.drop_eq_nil_of_le (by rw [← HHL.out]; exact Nat.le_refl _)
                    have hpy : p ≤ L := hpl
                    have IB : Hid (∀ w', Below W6.heap.size W6 w' → w'.cell? ⟨w4.heap.size, 0, none⟩ = some (.slice (some ⟨g, 0, none⟩) L L) ∧ w'.frozen? ⟨w4.heap.size, 0, none⟩ = false ∧ Bls w' (.slice (some ⟨g, 0, none⟩) p L) (bs.take p) ∧ Bls w' (.slice (some ⟨g, 0, none⟩) 0 0) (bs.drop L)) := fun w' hb => by
                      have k := HM2.out.below hb
                      exact ⟨cell_of_one k.bx, free_of_one k.bx, k.own.bls.take_ p hpl, by rw [hnil]; exact Bls.none_of (Nat.zero_le _)⟩
                    have JB : Hid (∀ (w8 w9 : World) (v9 : Value), Below W6.heap.size W6 w8 → OwnB W6.heap.size w9 v9 (bs.take p ++ bs.drop L) → Below W6.heap.size W6 w9 → (∃ a9 l9 k9, v9 = .slice a9 l9 k9) ∧ w9.frozen? ⟨w4.heap.size, 0, none⟩ = false ∧ w9.cell? ⟨w4.heap.size, 0, none⟩ = some (.slice (some ⟨g, 0, none⟩) L L) ∧ Hid (Mid WD w2.heap.size w4.heap.size (w9.setCell ⟨w4.heap.size, 0, none⟩ v9) (.slice a1 n1 k1) (.slice a2 n2 k2) v9 S1 T1 (bs.take p ++ bs.drop L))) := fun w8 w9 v9 _ h9 hb9 => by
                      obtain ⟨a9, k9, e9, _, _⟩ := h9.bls.is_slice
                      obtain ⟨i1, i2, _⟩ := IB.out w9 hb9
                      exact ⟨⟨_, _, _, e9⟩, i2, i1, HM2.out.putB hb9 h9⟩
                    have L1 : Hid (([] : List Bool).length + (bs.take p).length ≤ 100000) := by show _ ≤ _; have := HLB.out; rw [List.length_take, List.length_nil, ← HHL.out]; omega
                    have L2 : Hid ((bs.take p).length + (bs.drop L).length ≤ 100000) := by show _ ≤ _; have := HLB.out; rw [List.length_take, List.length_drop, ← HHL.out]; omega
                    have E0 : Hid (EB W6 (W6.alloc (.cells #[] 4))) := EB.make W6
                    have E1 : Hid (∀ n, EB W6 ((W6.drewN n).alloc (.cells #[] 4))) := EB.make_drew W6
                    have E2 : Hid (EB W6 (W6.drew.alloc (.cells #[] 4))) := EB.make_drew W6 1
                    obtain ⟨i1, i2, _, _⟩ := IB.out W6 (Below.refl _ _)
                    obtain ⟨ia1, ia2, _, _⟩ := IB.out _ E0.out.2
                    go_wp2_with fail
                    go_region_law (first
                      | (refine step_append_bls rfl _ _ rfl W6.heap.size _ [] rfl ?_ _ (bs.take p) rfl ?_ L1.out ?_ ?_; (focus (apply EB.own; (repeat first | exact E0.out | exact E1.out _ | exact E2.out | apply EB.drewN | apply EB.drew); done)); (focus (refine (IB.out _ ?_).2.2.1; apply EB.bel; (repeat first | exact E0.out | exact E1.out _ | exact E2.out | apply EB.drewN | apply EB.drew); done)); (focus (refine (Below.size (EB.bel ?_)); (repeat first | exact E0.out | exact E1.out _ | exact E2.out | apply EB.drewN | apply EB.drew); done)); intro v8 w8 h8 g8; have b8 : Below W6.heap.size W6 w8 := (by refine Below.grown ?_ g8 ?_ ?_; (focus (apply EB.bel; (repeat first | exact E0.out | exact E1.out _ | exact E2.out | apply EB.drewN | apply EB.drew); done)); (focus (refine (Below.size (EB.bel ?_)); (repeat first | exact E0.out | exact E1.out _ | exact E2.out | apply EB.drewN | apply EB.drew); done)); (intro q e; have e' : some W6.heap.size = some q := e; injection e' with e'; omega)); obtain ⟨j1, j2, _, _⟩ := IB.out w8 b8; replace h8 : OwnB W6.heap.size w8 v8 (bs.take p) := h8; clear g8)
                      | (refine step_append_bls rfl _ _ rfl W6.heap.size _ (bs.take p) rfl ?_ _ (bs.drop L) rfl ?_ L2.out ?_ ?_; (focus ((repeat first | assumption | apply own_drew | apply own_drew1); done)); (focus (refine (IB.out _ ?_).2.2.2; (repeat first | assumption | apply below_drews | apply Below.drew); done)); (focus (refine Below.size (B := W6.heap.size) (w := W6) ?_; (repeat first | assumption | apply below_drews | apply Below.drew); done)); intro v9 w9 h9 g9; have b9 : Below W6.heap.size W6 w9 := (by refine Below.grown ?_ g9 ?_ ?_; (focus ((repeat first | assumption | apply below_drews | apply Below.drew); done)); (focus (refine Below.size (B := W6.heap.size) (w := W6) ?_; (repeat first | assumption | apply below_drews | apply Below.drew); done)); (intro q e; exact (OwnB.block (by assumption) q e).1)); obtain ⟨⟨a9, l9, k9, rfl⟩, j3, j4, HM3⟩ := JB.out w9 w9 v9 b9 h9 b9; clear g9 h9))
                    all_goals go_wp2_with fail
                    all_goals (go_roundg (bl - (q + 1)) <;> first | omega | exact ⟨q + 1, _, _, _, _, _, _, by omega, Nat.le_refl _, by go_num, by omega, HR2.out, HM3.out⟩)
                  · have hn1 : ¬ ee = y3 := fun e => hce e.symm
                    have hpy : p ≤ y3 := by omega
                    have hey : ee ≤ y3 := by omega
                    have IB : Hid (∀ w', Below W6.heap.size W6 w' → w'.cell? ⟨w4.heap.size, 0, none⟩ = some (.slice (some ⟨g, 0, none⟩) L y3) ∧ w'.frozen? ⟨w4.heap.size, 0, none⟩ = false ∧ Bls w' (.slice (some ⟨g, 0, none⟩) p y3) (bs.take p) ∧ Bls w' (.slice (some ⟨g, ee, none⟩) (L - ee) (y3 - ee)) (bs.drop ee)) := fun w' hb => by
                      have k := HM2.out.below hb
                      exact ⟨cell_of_one k.bx, free_of_one k.bx, k.own.bls.take_ p hpl, by have := k.own.bls.drop_some ee hel; rwa [Nat.zero_add] at this⟩
                    have JB : Hid (∀ (w8 w9 : World) (v9 : Value), Below W6.heap.size W6 w8 → OwnB W6.heap.size w9 v9 (bs.take p ++ bs.drop ee) → Below W6.heap.size W6 w9 → (∃ a9 l9 k9, v9 = .slice a9 l9 k9) ∧ w9.frozen? ⟨w4.heap.size, 0, none⟩ = false ∧ w9.cell? ⟨w4.heap.size, 0, none⟩ = some (.slice (some ⟨g, 0, none⟩) L y3) ∧ Hid (Mid WD w2.heap.size w4.heap.size (w9.setCell ⟨w4.heap.size, 0, none⟩ v9) (.slice a1 n1 k1) (.slice a2 n2 k2) v9 S1 T1 (bs.take p ++ bs.drop ee))) := fun w8 w9 v9 _ h9 hb9 => by
                      obtain ⟨a9, k9, e9, _, _⟩ := h9.bls.is_slice
                      obtain ⟨i1, i2, _⟩ := IB.out w9 hb9
                      exact ⟨⟨_, _, _, e9⟩, i2, i1, HM2.out.putB hb9 h9⟩
                    have L1 : Hid (([] : List Bool).length + (bs.take p).length ≤ 100000) := by show _ ≤ _; have := HLB.out; rw [List.length_take, List.length_nil, ← HHL.out]; omega
                    have L2 : Hid ((bs.take p).length + (bs.drop ee).length ≤ 100000) := by show _ ≤ _; have := HLB.out; rw [List.length_take, List.length_drop, ← HHL.out]; omega
                    have E0 : Hid (EB W6 (W6.alloc (.cells #[] 4))) := EB.make W6
                    have E1 : Hid (∀ n, EB W6 ((W6.drewN n).alloc (.cells #[] 4))) := EB.make_drew W6
                    have E2 : Hid (EB W6 (W6.drew.alloc (.cells #[] 4))) := EB.make_drew W6 1
                    obtain ⟨i1, i2, _, _⟩ := IB.out W6 (Below.refl _ _)
                    obtain ⟨ia1, ia2, _, _⟩ := IB.out _ E0.out.2
                    go_wp2_with fail
                    go_region_law (first
                      | (refine step_append_bls rfl _ _ rfl W6.heap.size _ [] rfl ?_ _ (bs.take p) rfl ?_ L1.out ?_ ?_; (focus (apply EB.own; (repeat first | exact E0.out | exact E1.out _ | exact E2.out | apply EB.drewN | apply EB.drew); done)); (focus (refine (IB.out _ ?_).2.2.1; apply EB.bel; (repeat first | exact E0.out | exact E1.out _ | exact E2.out | apply EB.drewN | apply EB.drew); done)); (focus (refine (Below.size (EB.bel ?_)); (repeat first | exact E0.out | exact E1.out _ | exact E2.out | apply EB.drewN | apply EB.drew); done)); intro v8 w8 h8 g8; have b8 : Below W6.heap.size W6 w8 := (by refine Below.grown ?_ g8 ?_ ?_; (focus (apply EB.bel; (repeat first | exact E0.out | exact E1.out _ | exact E2.out | apply EB.drewN | apply EB.drew); done)); (focus (refine (Below.size (EB.bel ?_)); (repeat first | exact E0.out | exact E1.out _ | exact E2.out | apply EB.drewN | apply EB.drew); done)); (intro q e; have e' : some W6.heap.size = some q := e; injection e' with e'; omega)); obtain ⟨j1, j2, _, _⟩ := IB.out w8 b8; replace h8 : OwnB W6.heap.size w8 v8 (bs.take p) := h8; clear g8)
                      | (refine step_append_bls rfl _ _ rfl W6.heap.size _ (bs.take p) rfl ?_ _ (bs.drop ee) rfl ?_ L2.out ?_ ?_; (focus ((repeat first | assumption | apply own_drew | apply own_drew1); done)); (focus (refine (IB.out _ ?_).2.2.2; (repeat first | assumption | apply below_drews | apply Below.drew); done)); (focus (refine Below.size (B := W6.heap.size) (w := W6) ?_; (repeat first | assumption | apply below_drews | apply Below.drew); done)); intro v9 w9 h9 g9; have b9 : Below W6.heap.size W6 w9 := (by refine Below.grown ?_ g9 ?_ ?_; (focus ((repeat first | assumption | apply below_drews | apply Below.drew); done)); (focus (refine Below.size (B := W6.heap.size) (w := W6) ?_; (repeat first | assumption | apply below_drews | apply Below.drew); done)); (intro q e; exact (OwnB.block (by assumption) q e).1)); obtain ⟨⟨a9, l9, k9, rfl⟩, j3, j4, HM3⟩ := JB.out w9 w9 v9 b9 h9 b9; clear g9 h9))
                    all_goals go_wp2_with fail
                    all_goals (go_roundg (bl - (q + 1)) <;> first | omega | exact ⟨q + 1, _, _, _, _, _, _, by omega, Nat.le_refl _, by go_num, by omega, HR2.out, HM3.out⟩)
        · obtain rfl : q = bl := by omega
          obtain ⟨z1, hz1⟩ : ∃ z1, z1 = S'.length := ⟨_, rfl⟩
          obtain ⟨z2, hz2⟩ : ∃ z2, z2 = T'.length := ⟨_, rfl⟩
          obtain ⟨L, hL⟩ : ∃ L, L = bs.length := ⟨_, rfl⟩
          have HLB : Hid (L ≤ 3050) := by show _ ≤ _; rw [hL]; exact HR.out.lb
          rw [← hz1, ← hz2, ← hL] at HM
          have HHL := Lib.hid hL
          clear hz1 hz2 hL
          obtain ⟨wo, hwo⟩ : ∃ wo : World, wo = wr := ⟨_, rfl⟩
          subst hwo
          obtain ⟨i0, hi, hz0, hz1, hz2⟩ := info_parts infoBool
          have A1 : Hid (i0.bytes * L ≤ 281474976710656) := by show _ ≤ _; rw [hz2]; have := HLB.out; omega
          have A2 : Hid (L ≤ maxLen) := by show _ ≤ _; unfold maxLen; have := HLB.out; omega
          have A3 : Hid (wo.heap.size ≤ wo.heap.size) := Nat.le_refl _
          have CF : Hid (∀ w', Below wo.heap.size wo w' → Calls Try.prog 20 #[.agg #[.slice x1 z1 y1, .slice x2 z2 y2], .int .i64 1099511627776] w' (GivesOf w' (ofS S' 1099511627776) (ofT T' 1099511627776))) := fun w' hb => by
            have k := HM.out.below hb
            have q1 := HR.out.hs.len
            have q2 := HR.out.lb
            have q3 := HR.out.lt
            exact of_any 1099511627776 w' k.sp k.si ⟨by decide, by decide⟩ (by omega) (by omega)
          have KM : Hid (∀ w', Below wo.heap.size wo w' → w'.cell? ⟨w2.heap.size, 0, none⟩ = some (.slice x1 z1 y1) ∧ w'.cell? ⟨w2.heap.size, 1, none⟩ = some (.slice x2 z2 y2) ∧ w'.cell? ⟨w4.heap.size, 0, none⟩ = some (.slice x3 L y3) ∧ Bls w' (.slice x3 L y3) bs) := fun w' hb => by
            have k := HM.out.below hb
            have c := k.cells
            exact ⟨c.1, c.2.1, c.2.2.1, k.own.bls⟩
          have HAT : Hid (∀ s ∈ ofS S' 1099511627776, 0 ≤ s.f ∧ s.f < s.t ∧ s.t ≤ L) := fun s hs => by
            have := HR.out.hs.at_ s hs
            rw [← HHL.out] at this
            exact this
          have HEQ : Hid (∀ j, j < L → bat bs j = cov (ofS S' 1099511627776) j) := fun j hj => HR.out.hs.of_ (by decide) (by rw [← HHL.out]; exact hj)
          have KE : Hid (∀ w', Below wo.heap.size wo w' → Below w.heap.size w w') := fun w' hb => KB.out _ (HM.out.bel.trans (hb.mono (Nat.le_of_lt (row_lt HM.out.m8))))
          obtain ⟨LL, hLL⟩ : ∃ LL, LL = ofS S' 1099511627776 := ⟨_, rfl⟩
          rw [← hLL] at CF HAT HEQ
          obtain ⟨GB, hGB⟩ : ∃ GB, GB = wo.heap.size := ⟨_, rfl⟩
          have HGB := Lib.hid hGB
          obtain ⟨k0, k1, k2, _⟩ := KM.out wo (Below.refl _ _)
          clear hLL HR HM hGB
          go_wp2_with (at_make; refine wpList_make_full _ rfl _ _ 57 rfl wo.heap.size 4 i0 (.bool false) 1 Try.underlying57 hi hz0 hz1 .i64 .i64 _ _ L rfl rfl rfl rfl A1.out A2.out A3.out ?_)
          intro wg hown hgr
          have bg : Below wo.heap.size wo wg := ⟨hgr.os, hgr.tape, hgr.output, hgr.size, fun k hk => hgr.block k hk (by simp)⟩
          have HG0 : Hid (wg.ownsRow GB 4 1 (.slice (some ⟨GB, 0, none⟩) L L) L (bools (rowB (fun _ => false) L))) := by
            show World.ownsRow _ _ _ _ _ _ _
            rw [rowB_false, ← toList_madeCells_one, HGB.out]
            exact hown
          rw [← HGB.out]
          clear hown hgr A1 A2 A3 hi hz0 hz1 hz2 k0 k1 k2
          obtain ⟨k0, k1, k2, _⟩ := KM.out wg bg
          go_wp2_with fail
          refine (CF.out _ bg).mono ?_
          rintro e wl ⟨lv, pv, rfl, hlv, hpv, bl_⟩
          have bWl := below_more bg bl_
          have HGT : Hid (Got wo wl GB lv LL L (cov (LL.take 0))) := by
            refine (?_ : Got wo wl GB lv LL L (fun _ => false)).congr (fun j _ => congrFun (cov_zero LL) j)
            refine ⟨HGB.out, World.ownsRow.kept HG0.out (grown_below bl_ none) (by simp [Value.ownBlock]), hlv, by rw [HGB.out]; exact bWl⟩
          clear HG0 hpv k0 k1 k2
          obtain ⟨la, lc, rfl, hlc1, hlc2, _⟩ := hlv.open_
          obtain ⟨ln, hln⟩ : ∃ ln, ln = LL.length := ⟨_, rfl⟩
          rw [← hln] at HGT hlc1 ⊢
          have hlnb : ln ≤ 9223372036854775807 := by omega
          have hLb : L ≤ 3050 := HLB.out
          have HLN := Lib.hid hln
          clear hln hlv CF bg bl_ bWl hlc1
          go_wp2_with fail
          go_loopg [145] ln (fun g i wr => ∃ q2 : Nat, q2 ≤ ln ∧ ln - q2 ≤ g ∧ i = .int .i64 q2 ∧ Hid (Got wo wr GB (.slice la ln lc) LL L (cov (LL.take q2))))
          case atStart => exact ⟨0, Nat.zero_le _, by omega, rfl, HGT.out⟩
          case round =>
            clear HGT
            obtain ⟨q2, hq2, hg2, rfl, HG⟩ := hrel
            obtain ⟨wi, hwi⟩ : ∃ wi : World, wi = wr := ⟨_, rfl⟩
            subst hwi
            by_cases hlt2 : q2 < ln
            · have hql : q2 < LL.length := by rw [← HLN.out]; exact hlt2
              obtain ⟨a0, cap0, hva, hla, hca, hqa⟩ := HG.out.sp.open_
              injection hva with ea1 ea2 ea3
              subst ea1 ea3
              clear ea2 hla hca
              obtain ⟨b0, off, rfl, hb0, ⟨⟨m1, m2⟩, ⟨f1, f2⟩, ⟨t1, t2⟩⟩, c0, c1, c2⟩ := hqa q2 hql
              obtain ⟨p1, p2, p3⟩ := HAT.out (sp LL q2) (by rw [sp_get hql]; exact List.getElem_mem hql)
              obtain ⟨y, hy⟩ : ∃ y, y = sp LL q2 := ⟨_, rfl⟩
              rw [← hy] at m1 m2 f1 f2 t1 t2 c0 c1 c2 p1 p2 p3
              obtain ⟨m, f, t⟩ := y
              simp only at m1 m2 f1 f2 t1 t2 c0 c1 c2 p1 p2 p3
              obtain ⟨fn, rfl⟩ := Int.eq_ofNat_of_zero_le p1
              obtain ⟨tn, rfl⟩ := Int.eq_ofNat_of_zero_le (show 0 ≤ t by omega)
              have hft : fn < tn := by omega
              have htl : tn ≤ L := by omega
              have HEND : Hid (∀ j, covTo LL q2 fn tn j = cov (LL.take (q2 + 1)) j) := fun j => covTo_end hql hy.symm j
              obtain ⟨W2, hW2⟩ : ∃ W2, W2 = wi.alloc (.cells #[.int .i64 m, .int .i64 fn, .int .i64 tn] 26) := ⟨_, rfl⟩
              have HG2 : Hid (Got wo W2 GB (.slice (some ⟨b0, off, none⟩) ln lc) LL L (covTo LL q2 fn fn)) := by
                show Got _ _ _ _ _ _ _
                rw [hW2]
                exact (HG.out.below ((Below.refl _ wi).alloc (Nat.le_refl _) _)).congr (fun j _ => covTo_start LL q2 fn j)
              have HSB : Hid (W2.heap[wi.heap.size]? = some (.cells #[.int .i64 m, .int .i64 fn, .int .i64 tn] 26 (0, 0))) := by show _ = _; rw [hW2]; exact heap_alloc_new _ _
              have GLT : Hid (GB < wi.heap.size) := HG.out.lt
              have u0 : W2.cell? ⟨wi.heap.size, 0, none⟩ = some (.int .i64 m) := by rw [cell_of_row _ _ _ _ _ _ HSB.out]; rfl
              have u1 : W2.cell? ⟨wi.heap.size, 1, none⟩ = some (.int .i64 fn) := by rw [cell_of_row _ _ _ _ _ _ HSB.out]; rfl
              have u2 : W2.cell? ⟨wi.heap.size, 2, none⟩ = some (.int .i64 tn) := by rw [cell_of_row _ _ _ _ _ _ HSB.out]; rfl
              have HW2 := Lib.hid hW2
              have v1 : decide ((fn : Int) < 0) = false := decide_eq_false (by omega)
              have v2 : decide ((L : Int) < (tn : Int)) = false := decide_eq_false (by omega)
              have v3 : ¬ ((fn : Int) < 0) := by omega
              have v4 : ¬ ((L : Int) < (tn : Int)) := by omega
              clear hW2 HG hqa hy hql p1 p2 p3
              go_upto_region 35 with fail
              rw [← HW2.out]
              go_wp2_with fail
              go_loopg [25] (tn - fn) (fun g3 kk wx => ∃ k : Nat, fn ≤ k ∧ k ≤ tn ∧ tn - k ≤ g3 ∧ kk = .int .i64 k ∧ Hid (Got wo wx GB (.slice (some ⟨b0, off, none⟩) ln lc) LL L (covTo LL q2 fn k)) ∧ Hid (wx.heap[wi.heap.size]? = some (.cells #[.int .i64 m, .int .i64 fn, .int .i64 tn] 26 (0, 0))))
              case atStart => exact ⟨fn, Nat.le_refl _, by omega, by omega, rfl, HG2.out, HSB.out⟩
              case round =>
                clear HG2 HSB u0 u1 u2 c0 c1 c2
                obtain ⟨k, hk1, hk2, hg3, rfl, HK, HS2⟩ := hrel
                have u0 : wr.cell? ⟨wi.heap.size, 0, none⟩ = some (.int .i64 m) := by rw [cell_of_row _ _ _ _ _ _ HS2.out]; rfl
                have u1 : wr.cell? ⟨wi.heap.size, 1, none⟩ = some (.int .i64 fn) := by rw [cell_of_row _ _ _ _ _ _ HS2.out]; rfl
                have u2 : wr.cell? ⟨wi.heap.size, 2, none⟩ = some (.int .i64 tn) := by rw [cell_of_row _ _ _ _ _ _ HS2.out]; rfl
                by_cases hkt : k < tn
                · have hkL : k < L := by omega
                  obtain ⟨g0, g1⟩ := HK.out.cell hkL
                  have HN : Hid (Got wo (wr.setCell ⟨GB, k, none⟩ (.bool true)) GB (.slice (some ⟨b0, off, none⟩) ln lc) LL L (covTo LL q2 fn (k + 1))) := (HK.out.set k).congr (fun j _ => covTo_step LL hk1 j)
                  have HS3 : Hid ((wr.setCell ⟨GB, k, none⟩ (.bool true)).heap[wi.heap.size]? = some (.cells #[.int .i64 m, .int .i64 fn, .int .i64 tn] 26 (0, 0))) := by
                    show _ = _
                    rw [Below.heap_setCell _ _ _ _ (by have := GLT.out; show wi.heap.size ≠ GB; omega)]
                    exact HS2.out
                  clear HK HS2
                  go_wp2_with fail
                  go_roundg (tn - (k + 1))
                  case measure => omega
                  case rel => exact ⟨k + 1, by omega, by omega, Nat.le_refl _, by go_num, HN.out, HS3.out⟩
                · obtain rfl : k = tn := by omega
                  have HN : Hid (Got wo wr GB (.slice (some ⟨b0, off, none⟩) ln lc) LL L (cov (LL.take (q2 + 1)))) := HK.out.congr (fun j _ => HEND.out j)
                  clear HK HS2
                  go_wp2_with fail
                  go_roundg (ln - (q2 + 1))
                  case measure => omega
                  case rel => exact ⟨q2 + 1, by omega, Nat.le_refl _, by go_num, HN.out⟩
            · obtain rfl : q2 = ln := by omega
              have HEQ2 : Hid (∀ j, j < L → bat bs j = cov (LL.take q2) j) := fun j hj => by
                rw [HLN.out, List.take_length]
                exact HEQ.out j hj
              have HBI : Hid (Below wo.heap.size wo wi) := by rw [← HGB.out]; exact HG.out.bel
              obtain ⟨_, _, k2, HBB⟩ := KM.out wi HBI.out
              have HB2 := Lib.hid HBB
              have HBSL : Hid (bs.length = L) := HHL.out.symm
              clear HBB HEQ HAT HLN KM
              go_wp2_with fail
              go_loopg [173] L (fun g i wr => ∃ j : Nat, j ≤ L ∧ L - j ≤ g ∧ i = .int .i64 j ∧ ∃ d, wr = wi.drewN d)
              case atStart => exact ⟨0, Nat.zero_le _, by omega, rfl, 0, by first | rfl | simp [World.drewN]⟩
              case round =>
                obtain ⟨j, hj, hg4, rfl, d, rfl⟩ := hrel
                by_cases hjl : j < L
                · obtain ⟨bb, oo, rfl, i1⟩ := bls_at HB2.out (by rw [HBSL.out]; exact hjl)
                  obtain ⟨i2, _⟩ := HG.out.cell hjl
                  rw [HEQ2.out j hjl] at i1
                  generalize cov (LL.take q2) j = bv at i1 i2
                  have i3 : (wi.drewN d).cell? ⟨bb, oo + j, none⟩ = some (.bool bv) := i1
                  have i4 : (wi.drewN d).cell? ⟨GB, j, none⟩ = some (.bool bv) := i2
                  have i5 : (wi.drewN d).cell? ⟨w4.heap.size, 0, none⟩ = some (.slice (some ⟨bb, oo, none⟩) L y3) := k2
                  have i6 : (bv != bv) = false := by simp
                  go_wp2_with fail
                  go_quiet (fail)
                  go_wp2
                  go_roundg (L - (j + 1))
                  case measure => omega
                  case rel => exact ⟨j + 1, by omega, Nat.le_refl _, by go_num, _, rfl⟩
                · obtain rfl : j = L := by omega
                  have HEN := Lib.hid (KE.out _ HBI.out)
                  go_wp2_with fail
                  go_ret
                  exact ⟨rfl, below_drews HEN.out _⟩

theorem walk {w : World} {v : Value} (S : List Sp) (T : List St) (n a b : Int) (h : Cs w v S T n a b) (k : Int) (hk1 : -9223372036854775808 ≤ k) (hk2 : k ≤ 9223372036854775807) (av : Value) (acts : List Ac) (hA : Acts w av acts) :
    Calls Try.prog 9 #[v, .int .i64 k, av] w fun e w' => e = .returned (.bool true) ∧ Below w.heap.size w w' := by
  obtain ⟨⟨sv, tv, rfl, hS, hT⟩, gn, ga, gb⟩ := h
  have hA' := hA
  obtain ⟨ba, bc, rfl, _⟩ := hA
  cases hk : askB S T n a b with
  | false => exact walk_no ba _ bc sv tv S T n a b hS hT gn ga gb hk k hk1 hk2
  | true =>
    by_cases h1 : k < 0
    · exact walk_lo ba _ bc sv tv S T n a b hS hT gn ga gb hk k hk1 hk2 h1
    · by_cases h2 : 100 < k
      · exact walk_hi ba _ bc sv tv S T n a b hS hT gn ga gb hk k hk1 hk2 h2
      · obtain ⟨q1, _, q3, q4, _⟩ := askB_of hk
        obtain ⟨n', rfl⟩ := Int.eq_ofNat_of_zero_le q1
        obtain ⟨a', rfl⟩ := Int.eq_ofNat_of_zero_le q3
        obtain ⟨b', rfl⟩ := Int.eq_ofNat_of_zero_le (Int.le_trans q3 q4)
        obtain ⟨k', rfl⟩ := Int.eq_ofNat_of_zero_le (show 0 ≤ k by omega)
        exact walk_yes acts ba _ bc hA' sv tv S T n' a' b' hS hT gn ga gb hk k' hk1 hk2 (by omega)

set_option maxRecDepth 100000 in
theorem lifted (os : Os) (started : os.Started) (H : Type) (enc : TypeId × Value → H) :
    ReturnsInHanded {} Try.checked os 9 .any (Rows.marksHoldsSpec.pre6 enc Try.prog Try.f9 Rows.marksHoldsRow.domain false) (Rows.marksHoldsSpec.post enc Try.prog Try.f9 false true false false) := by
  refine returnsInHanded_of_change (C := Try.checked) own started (by kernel_rfl) Try.func9
    (ChangeSpec.witness6 (enc := enc) (C := Try.checked) false ⟨#[], #[.agg #[.slice none 0 0, .slice none 0 0, .int .i64 0, .int .i64 0, .int .i64 0], .int .i64 0, .slice none 0 0], []⟩ 8 (by kernel_rfl) (by kernel_rfl) (by kernel_rfl) (by kernel_rfl)) ?_
  intro W base args ds gs before hval0 hW hcnd _
  have hval : ∀ (j : Nat) t v, Try.f9.params[j]? = some t → args[j]? = some v → Value.okWide Try.prog W .any base t v := hval0
  have hread : ∀ t ∈ Try.f9.params.toList, Try.prog.readableRec t = true ∧ t < Try.prog.types.size := by
    have : (Try.f9.params.toList.all fun t => Try.prog.readableRec t && decide (t < Try.prog.types.size)) = true := by kernel_rfl
    intro t ht
    have := List.all_eq_true.1 this t ht
    simpa using this
  refine law_contract (P := Try.prog) (s := Rows.marksHoldsSpec) (fn := Try.f9) (tb := 4) laidOut rfl hread rfl Try.underlying4 (fun W' => okWide_bool_mk Try.underlying4 _) ?_ hW ?_
  · intro ds hds
    rw [Try.params9] at hds
    match ds, hds with
    | [d0, d1, d2], _ => rfl
  intro pl hA
  rw [Try.params9] at hA hval
  obtain ⟨v0, vs0, d0, ds0, p0, q0, hargs, rfl, hp0, h0, r0⟩ := trodAll_cons hA
  obtain ⟨v1, vs1, d1, ds1, p1, q1, rfl, rfl, hp1, h1, r1⟩ := trodAll_cons r0
  obtain ⟨v2, vs2, d2, ds2, p2, q2, rfl, rfl, hp2, h2, r2⟩ := trodAll_cons r1
  obtain ⟨rfl, rfl, hpe⟩ := trodAll_nil r2
  obtain rfl : args = #[v0, v1, v2] := by cases args; simp_all
  obtain ⟨S, T, n, a, b, hC⟩ := open_case (hval 0 33 v0 rfl rfl) h0
  obtain ⟨k, rfl, rfl, _, hw1⟩ := open_int Try.underlying3 (hval 1 3 v1 rfl rfl) h1
  have hb1 : -9223372036854775808 ≤ k ∧ k ≤ 9223372036854775807 := by simpa [Lit.wf, IntKind.min, IntKind.max, IntKind.signed, IntKind.bits] using hw1
  obtain ⟨acts, hL2⟩ := open_acts (hval 2 56 v2 rfl rfl) h2
  exact walk S T n a b hC k hb1.1 hb1.2 v2 acts hL2

theorem over : Rows.marksHoldsRow.holds Try.pinned (OpenSpec.ofChange Rows.marksHoldsSpec) :=
  OpenClaim.holds_of_wide 9 Try.f9 rfl rfl rfl rfl rfl rfl rfl ⟨rfl, rfl, rfl, rfl, rfl⟩ rfl rfl rfl rfl rfl (by kernel_rfl) Try.func9 (by kernel_rfl)
    (of_decide_eq_true (by kernel_rfl)) (by unfold Func.isWrapper; first | (rw [if_pos (by decide +kernel)]; kernel_rfl) | (rw [if_neg (by decide +kernel)]; exact ⟨rfl, rfl⟩))
    (fun os started H enc _ => lifted os started H enc)

/-- The statement. -/
theorem proved : Rows.MarksHoldsSaid :=
  over
#print axioms proved
end Go.Proofs.Ytkbadhkjhkmlfaa.marksHolds
