/- For every case (spans, sites, a number of letters, two places): MarksPart answers true, and its argument reads behind the call as before. No condition. -/
import Derived.Test.YtkbadhkjhkmlfaaRows
import Derived.Test.YtkbadhkjhkmlfaaLift
import Derived.Test.YtkbadhkjhkmlfaaMx

set_option linter.unusedVariables false
namespace Go.Proofs.Ytkbadhkjhkmlfaa.marksPart
open Go.ChangeShapes Go.WideShapes Go.ChangeAt Go.RowKit Go.Lib Go.Proofs.Ytkbadhkjhkmlfaa.Lift Go.Proofs.Ytkbadhkjhkmlfaa.Rt Go.Proofs.Ytkbadhkjhkmlfaa.Rig
open Go.ChangeMaps (open_string shut_string)

theorem own : ownKnob Try.prog.godebug = none := by kernel_rfl
theorem laidOut : laidOutB Try.prog = true := by kernel_rfl

theorem lens : (pA 2 [⟨7, 1, 3⟩]).length = 1 ∧ (pB 2 [⟨7, 1, 3⟩]).length = 1 := by decide
/-- It hands two marks back, of one span each. -/
def One (W : World) (e : Ending) (w' : World) : Prop := ∃ a1 c1 a2 n2 c2 a3 c3 a4 n4 c4, e = .returned (.tuple #[.agg #[.slice a1 1 c1, .slice a2 n2 c2], .agg #[.slice a3 1 c3, .slice a4 n4 c4]]) ∧ Below W.heap.size W w'
theorem one_any (W : World) : Calls Try.prog 18 #[.agg #[.slice (some ⟨W.heap.size, 0, none⟩) 1 1, .slice none 0 0], .int .i64 2] (W.alloc (.cells #[.int .i64 7, .int .i64 1, .int .i64 3] 26)) (One W) := by
  have h := part_any 2 _ (lit_span (m := 7) (f := 1) (t := 3) (heap_alloc_new W _) ⟨⟨by decide, by decide⟩, ⟨by decide, by decide⟩, ⟨by decide, by decide⟩⟩) (Sites.nil_ _) (by decide) (by decide) (by decide) (by decide) (fun j hj => by
    obtain rfl : j = 0 := by simpa using hj
    exact ⟨by decide, by decide, by decide⟩) (fun j hj => by simp at hj)
  refine h.mono ?_
  rintro e w' ⟨v1, v2, v3, v4, rfl, h1, h2, h3, h4, _, _, hb⟩
  obtain ⟨l1, l3⟩ := lens
  obtain ⟨a1, c1, rfl⟩ := h1.is_slice
  obtain ⟨a2, c2, rfl⟩ := h2.is_slice
  obtain ⟨a3, c3, rfl⟩ := h3.is_slice
  obtain ⟨a4, c4, rfl⟩ := h4.is_slice
  exact ⟨a1, c1, a2, _, c2, a3, c3, a4, _, c4, rfl, below_more ((Below.refl _ W).alloc (Nat.le_refl _) _) hb⟩

set_option maxRecDepth 100000 in
set_option maxHeartbeats 4000000 in
theorem walk_no {w : World} (sv tv : Value) (S : List Sp) (T : List St) (n a b : Int) (hS : Spans w sv S) (hT : Sites w tv T) (gn : i64 n) (ga : i64 a) (gb : i64 b) (hk : askB S T n a b = false) :
    Calls Try.prog 6 #[.agg #[sv, tv, .int .i64 n, .int .i64 a, .int .i64 b]] w fun e w' => e = .returned (.bool true) ∧ Below w.heap.size w w' := by
  obtain ⟨WB, hWB⟩ : ∃ WB, WB = w.alloc (.cells #[sv, tv, .int .i64 n, .int .i64 a, .int .i64 b] 33) := ⟨_, rfl⟩
  have bB : Below w.heap.size w WB := by rw [hWB]; exact (Below.refl _ _).alloc (Nat.le_refl _) _
  have r0 : WB.heap[w.heap.size]? = some (.cells #[sv, tv, .int .i64 n, .int .i64 a, .int .i64 b] 33 (0, 0)) := by rw [hWB]; exact heap_alloc_new _ _
  have lB : w.heap.size < WB.heap.size := by rw [hWB]; simp
  have AK : Hid (∀ w', Below w.heap.size w w' → Calls Try.prog 13 #[.agg #[sv, tv, .int .i64 n, .int .i64 a, .int .i64 b]] w' fun e w'' => e = .returned (.tuple #[.agg #[sv, tv], .agg #[sv, tv], .bool false]) ∧ Below w'.heap.size w' w'') := fun w' hb => by
    have := ask_any n a b w' (hS.below hb (Nat.le_refl _)) (hT.below hb (Nat.le_refl _)) gn ga gb
    rwa [hk] at this
  obtain ⟨sa, sc, rfl⟩ := hS.is_slice
  obtain ⟨ta, tc, rfl⟩ := hT.is_slice
  generalize S.length = ls at *
  generalize T.length = lt at *
  have BX : Hid (∀ w', Below WB.heap.size WB w' → w'.cell? ⟨w.heap.size, 0, none⟩ = some (.slice sa ls sc) ∧ w'.cell? ⟨w.heap.size, 1, none⟩ = some (.slice ta lt tc) ∧ w'.cell? ⟨w.heap.size, 2, none⟩ = some (.int .i64 n) ∧ w'.cell? ⟨w.heap.size, 3, none⟩ = some (.int .i64 a) ∧ w'.cell? ⟨w.heap.size, 4, none⟩ = some (.int .i64 b) ∧ w.heap.size < w'.heap.size) := fun w' hb => by
    refine ⟨below_cell hb lB ?_, below_cell hb lB ?_, below_cell hb lB ?_, below_cell hb lB ?_, below_cell hb lB ?_, Nat.lt_of_lt_of_le lB hb.size⟩ <;> (rw [cell_of_row _ _ _ _ _ _ r0]; rfl)
  have C1 : Hid (∀ W, Calls Try.prog 18 #[.agg #[.slice (some ⟨W.heap.size, 0, none⟩) 1 1, .slice none 0 0], .int .i64 2] (W.alloc (.cells #[.int .i64 7, .int .i64 1, .int .i64 3] 26)) (One W)) := one_any
  have HWB := Lib.hid hWB
  have GB := Lib.hid bB
  clear hS hT r0 bB hWB hk lB
  go_enter Try.func6, Try.ntmps6
  go_wp2_with fail
  rw [← HWB.out]
  have sB : WB.heap.size = w.heap.size + 1 := by rw [HWB.out]; simp
  rw [← sB]
  have SB := Lib.hid sB
  clear sB
  refine (C1.out WB).mono ?_
  rintro e w1 ⟨a1, d1, a2, n2, d2, a3, d3, a4, n4, d4, rfl, b1⟩
  obtain ⟨c0, c1, c2, c3, c4, l1⟩ := BX.out w1 b1
  have KA : Hid (∀ o1 o2, Below WB.heap.size WB ((w1.alloc o1).alloc o2)) := fun o1 o2 => (b1.alloc b1.size _).alloc (by have := b1.size; simp; omega) _
  clear b1 C1
  go_wp2_with fail
  refine (AK.out _ (below_more GB.out (KA.out _ _))).mono ?_
  rintro e w2 ⟨rfl, b2⟩
  have G2 := Lib.hid (below_more GB.out (below_more (KA.out _ _) b2))
  have KB : Hid (∀ o1 o2, Below w.heap.size w ((w2.alloc o1).alloc o2)) := fun o1 o2 => (G2.out.alloc G2.out.size _).alloc (by have := G2.out.size; simp; omega) _
  clear b2 AK
  go_wp2_with fail
  go_ret
  exact ⟨rfl, KB.out _ _⟩

theorem right_of {S : List Sp} {T : List St} {n : Int} (h : RS 0 0 n S) (h2 : RT n T) : mrightB S T n = true := mright_iff.2 ⟨h, h2⟩
set_option maxRecDepth 100000 in
set_option maxHeartbeats 8000000 in
theorem walk_yes {w : World} (sv tv : Value) (S : List Sp) (T : List St) (n a b : Nat) (hS : Spans w sv S) (hT : Sites w tv T) (hk : askB S T n a b = true) :
    Calls Try.prog 6 #[.agg #[sv, tv, .int .i64 n, .int .i64 a, .int .i64 b]] w fun e w' => e = .returned (.bool true) ∧ Below w.heap.size w w' := by
  obtain ⟨q1, q2, q3, q4, q5, q6, q7, hRS, hRT⟩ := askB_of hk
  have ng : i64 (n : Int) := ⟨by omega, by omega⟩
  have ag : i64 (a : Int) := ⟨by omega, by omega⟩
  have bg : i64 (b : Int) := ⟨by omega, by omega⟩
  obtain ⟨WB, hWB⟩ : ∃ WB, WB = w.alloc (.cells #[sv, tv, .int .i64 n, .int .i64 a, .int .i64 b] 33) := ⟨_, rfl⟩
  have bB : Below w.heap.size w WB := by rw [hWB]; exact (Below.refl _ _).alloc (Nat.le_refl _) _
  have r0 : WB.heap[w.heap.size]? = some (.cells #[sv, tv, .int .i64 n, .int .i64 a, .int .i64 b] 33 (0, 0)) := by rw [hWB]; exact heap_alloc_new _ _
  have lB : w.heap.size < WB.heap.size := by rw [hWB]; simp
  have AK : Hid (∀ w', Below w.heap.size w w' → Calls Try.prog 13 #[.agg #[sv, tv, .int .i64 n, .int .i64 a, .int .i64 b]] w' fun e w'' => e = .returned (.tuple #[.agg #[sv, tv], .agg #[sv, tv], .bool true]) ∧ Below w'.heap.size w' w'') := fun w' hb => by
    have := ask_any n a b w' (hS.below hb (Nat.le_refl _)) (hT.below hb (Nat.le_refl _)) ng ag bg
    rwa [hk] at this
  have hat := RS.at_ hRS
  have htt := RT.at_ hRT
  have CP : Hid (∀ w', Below w.heap.size w w' → Calls Try.prog 18 #[.agg #[sv, tv], .int .i64 a] w' (GivesPt w' (pA a S) (sA a T) (pB a S) (sB a T))) := fun w' hb =>
    part_any a w' (hS.below hb (Nat.le_refl _)) (hT.below hb (Nat.le_refl _)) (by omega) (by omega) (by omega) (by omega) (fun j hj => by obtain ⟨u1, u2, u3⟩ := hat j hj; exact ⟨u1, u2, by omega⟩) (fun j hj => by obtain ⟨u1, u2⟩ := htt j hj; exact ⟨u1, by omega⟩)
  have CR : Hid (∀ w', Below w.heap.size w w' → Calls Try.prog 19 #[.agg #[sv, tv], .int .i64 n, .int .i64 a] w' (GivesM2 w' (pA a S) (sA a T) (pB a S) (sB a T))) := fun w' hb => by
    have := rpart_any n a w' (hS.below hb (Nat.le_refl _)) (hT.below hb (Nat.le_refl _)) (by omega) (by omega) (by omega) hat htt
    rwa [partA_doc hRS (by omega), partB_doc hRS (by omega), ← sA_doc hRT.1, ← sB_doc hRT.1] at this
  have KR1 := right_of (RS_pA (p := (a : Int)) hRS) (sA_right (p := (a : Int)) hRT)
  have KR2 := right_of (RS_pB (p := (a : Int)) hRS) (sB_right (p := (a : Int)) hRT)
  have CW : Hid (∀ (w5 : World) (v1 v2 v3 v4 x1 x2 x3 x4 : Value), Spans w5 v1 (pA a S) → Sites w5 v2 (sA a T) → Spans w5 v3 (pB a S) → Sites w5 v4 (sB a T) → Spans w5 x1 (pA a S) → Sites w5 x2 (sA a T) → Spans w5 x3 (pB a S) → Sites w5 x4 (sB a T) → ∀ w', Below w5.heap.size w5 w' →
      (Calls Try.prog 14 #[.agg #[v1, v2], .agg #[x1, x2]] w' fun e w'' => e = .returned (.bool true) ∧ Below w'.heap.size w' w'') ∧
      (Calls Try.prog 14 #[.agg #[v3, v4], .agg #[x3, x4]] w' fun e w'' => e = .returned (.bool true) ∧ Below w'.heap.size w' w'') ∧
      (Calls Try.prog 10 #[.agg #[v1, v2], .int .i64 a] w' fun e w'' => e = .returned (.bool true) ∧ Below w'.heap.size w' w'') ∧
      (Calls Try.prog 10 #[.agg #[v3, v4], .int .i64 ((n : Int) - (a : Int))] w' fun e w'' => e = .returned (.bool true) ∧ Below w'.heap.size w' w'')) := fun w5 v1 v2 v3 v4 x1 x2 x3 x4 h1 h2 h3 h4 g1 g2 g3 g4 w' hb => by
    refine ⟨same_any w' (h1.below hb (Nat.le_refl _)) (h2.below hb (Nat.le_refl _)) (g1.below hb (Nat.le_refl _)) (g2.below hb (Nat.le_refl _)), same_any w' (h3.below hb (Nat.le_refl _)) (h4.below hb (Nat.le_refl _)) (g3.below hb (Nat.le_refl _)) (g4.below hb (Nat.le_refl _)), ?_, ?_⟩
    · have := right_any a w' (h1.below hb (Nat.le_refl _)) (h2.below hb (Nat.le_refl _)) ag
      rwa [KR1] at this
    · have := right_any ((n : Int) - (a : Int)) w' (h3.below hb (Nat.le_refl _)) (h4.below hb (Nat.le_refl _)) ⟨by omega, by omega⟩
      rwa [KR2] at this
  obtain ⟨sa, sc, rfl⟩ := hS.is_slice
  obtain ⟨ta, tc, rfl⟩ := hT.is_slice
  generalize S.length = ls at *
  generalize T.length = lt at *
  have BX : Hid (∀ w', Below WB.heap.size WB w' → w'.cell? ⟨w.heap.size, 0, none⟩ = some (.slice sa ls sc) ∧ w'.cell? ⟨w.heap.size, 1, none⟩ = some (.slice ta lt tc) ∧ w'.cell? ⟨w.heap.size, 2, none⟩ = some (.int .i64 n) ∧ w'.cell? ⟨w.heap.size, 3, none⟩ = some (.int .i64 a) ∧ w'.cell? ⟨w.heap.size, 4, none⟩ = some (.int .i64 b) ∧ w.heap.size < w'.heap.size) := fun w' hb => by
    refine ⟨below_cell hb lB ?_, below_cell hb lB ?_, below_cell hb lB ?_, below_cell hb lB ?_, below_cell hb lB ?_, Nat.lt_of_lt_of_le lB hb.size⟩ <;> (rw [cell_of_row _ _ _ _ _ _ r0]; rfl)
  have C1 : Hid (∀ W, Calls Try.prog 18 #[.agg #[.slice (some ⟨W.heap.size, 0, none⟩) 1 1, .slice none 0 0], .int .i64 2] (W.alloc (.cells #[.int .i64 7, .int .i64 1, .int .i64 3] 26)) (One W)) := one_any
  have HWB := Lib.hid hWB
  have GB := Lib.hid bB
  clear hS hT r0 bB hWB hk lB hRS hRT hat htt KR1 KR2 ng ag bg
  go_enter Try.func6, Try.ntmps6
  go_wp2_with fail
  rw [← HWB.out]
  have sB : WB.heap.size = w.heap.size + 1 := by rw [HWB.out]; simp
  rw [← sB]
  have SB := Lib.hid sB
  clear sB
  refine (C1.out WB).mono ?_
  rintro e w1 ⟨a1, d1, a2, n2, d2, a3, d3, a4, n4, d4, rfl, b1⟩
  obtain ⟨c0, c1, c2, c3, c4, l1⟩ := BX.out w1 b1
  have KA : Hid (∀ o1 o2, Below WB.heap.size WB ((w1.alloc o1).alloc o2)) := fun o1 o2 => (b1.alloc b1.size _).alloc (by have := b1.size; simp; omega) _
  clear b1 C1
  go_wp2_with fail
  refine (AK.out _ (below_more GB.out (KA.out _ _))).mono ?_
  rintro e w2 ⟨rfl, b2⟩
  have H2 : Hid (Below WB.heap.size WB w2) := below_more (KA.out _ _) b2
  clear b2 AK KA c0 c1 c2 c3 c4 l1
  obtain ⟨c0, c1, c2, c3, c4, l2⟩ := BX.out w2 H2.out
  obtain ⟨WM, hWM⟩ : ∃ WM, WM = (w2.alloc (.cells #[.slice sa ls sc, .slice ta lt tc] 28)).alloc (.cells #[.slice sa ls sc, .slice ta lt tc] 30) := ⟨_, rfl⟩
  have H3 : Hid (Below WB.heap.size WB WM) := by show Below _ _ _; rw [hWM]; exact (H2.out.alloc H2.out.size _).alloc (by have := H2.out.size; simp; omega) _
  have MX : Hid (∀ w', Below WM.heap.size WM w' → w'.cell? ⟨w2.heap.size, 0, none⟩ = some (.slice sa ls sc) ∧ w'.cell? ⟨w2.heap.size, 1, none⟩ = some (.slice ta lt tc) ∧ w'.cell? ⟨w2.heap.size + 1, 0, none⟩ = some (.slice sa ls sc) ∧ w'.cell? ⟨w2.heap.size + 1, 1, none⟩ = some (.slice ta lt tc) ∧ w2.heap.size + 1 < w'.heap.size) := fun w' hb => by
    have lm : WM.heap.size = w2.heap.size + 1 + 1 := by rw [hWM]; simp
    have m0 : WM.heap[w2.heap.size]? = some (.cells #[.slice sa ls sc, .slice ta lt tc] 28 (0, 0)) := by rw [hWM]; simp only [alloc_at, World.size_alloc]; repeat (first | rw [if_pos (by first | trivial | omega)] | rw [if_neg (by omega)])
    have m1 : WM.heap[w2.heap.size + 1]? = some (.cells #[.slice sa ls sc, .slice ta lt tc] 30 (0, 0)) := by rw [hWM]; simp only [alloc_at, World.size_alloc]; repeat (first | rw [if_pos (by first | trivial | omega)] | rw [if_neg (by omega)])
    refine ⟨below_cell hb (by omega) ?_, below_cell hb (by omega) ?_, below_cell hb (by omega) ?_, below_cell hb (by omega) ?_, by have := hb.size; omega⟩
    · rw [cell_of_row _ _ _ _ _ _ m0]; rfl
    · rw [cell_of_row _ _ _ _ _ _ m0]; rfl
    · rw [cell_of_row _ _ _ _ _ _ m1]; rfl
    · rw [cell_of_row _ _ _ _ _ _ m1]; rfl
  have HWM := Lib.hid hWM
  clear hWM
  go_wp2_with fail
  rw [← HWM.out]
  clear c0 c1 c2 c3 c4
  refine (CP.out WM (below_more GB.out H3.out)).mono ?_
  rintro e w3 ⟨v1, v2, v3, v4, rfl, o1, o2, o3, o4, _, _, b3⟩
  obtain ⟨m0, m1, m2, m3, l3⟩ := MX.out w3 b3
  obtain ⟨c0, c1, c2, c3, c4, l4⟩ := BX.out w3 (below_more H3.out b3)
  have O3 : Hid (Spans w3 v1 (pA a S) ∧ Sites w3 v2 (sA a T) ∧ Spans w3 v3 (pB a S) ∧ Sites w3 v4 (sB a T)) := ⟨OwnSp.spans o1, OwnSt.sites o2, OwnSp.spans o3, OwnSt.sites o4⟩
  have H4 : Hid (Below WB.heap.size WB w3) := below_more H3.out b3
  obtain ⟨a1, d1, rfl⟩ := o1.is_slice
  obtain ⟨a2, d2, rfl⟩ := o2.is_slice
  obtain ⟨a3, d3, rfl⟩ := o3.is_slice
  obtain ⟨a4, d4, rfl⟩ := o4.is_slice
  generalize (pA (a : Int) S).length = k1 at *
  generalize (sA (a : Int) T).length = k2 at *
  generalize (pB (a : Int) S).length = k3 at *
  generalize (sB (a : Int) T).length = k4 at *
  obtain ⟨WP, hWP⟩ : ∃ WP, WP = (w3.alloc (.cells #[.slice a1 k1 d1, .slice a2 k2 d2] 28)).alloc (.cells #[.slice a3 k3 d3, .slice a4 k4 d4] 28) := ⟨_, rfl⟩
  have BP : Hid (Below w3.heap.size w3 WP) := by show Below _ _ _; rw [hWP]; exact ((Below.refl _ w3).alloc (Nat.le_refl _) _).alloc (by simp) _
  have PX : Hid (∀ w', Below WP.heap.size WP w' → (w'.cell? ⟨w3.heap.size, 0, none⟩ = some (.slice a1 k1 d1) ∧ w'.cell? ⟨w3.heap.size, 1, none⟩ = some (.slice a2 k2 d2) ∧ w'.cell? ⟨w3.heap.size + 1, 0, none⟩ = some (.slice a3 k3 d3) ∧ w'.cell? ⟨w3.heap.size + 1, 1, none⟩ = some (.slice a4 k4 d4)) ∧
      (w'.cell? ⟨w2.heap.size + 1, 0, none⟩ = some (.slice sa ls sc) ∧ w'.cell? ⟨w2.heap.size + 1, 1, none⟩ = some (.slice ta lt tc)) ∧ (w'.cell? ⟨w.heap.size, 2, none⟩ = some (.int .i64 n) ∧ w'.cell? ⟨w.heap.size, 3, none⟩ = some (.int .i64 a)) ∧ w3.heap.size + 1 < w'.heap.size ∧ Hid (Below w3.heap.size w3 w')) := fun w' hb => by
    have lq : WP.heap.size = w3.heap.size + 1 + 1 := by rw [hWP]; simp
    have z0 : WP.heap[w3.heap.size]? = some (.cells #[.slice a1 k1 d1, .slice a2 k2 d2] 28 (0, 0)) := by rw [hWP]; simp only [alloc_at, World.size_alloc]; repeat (first | rw [if_pos (by first | trivial | omega)] | rw [if_neg (by omega)])
    have z1 : WP.heap[w3.heap.size + 1]? = some (.cells #[.slice a3 k3 d3, .slice a4 k4 d4] 28 (0, 0)) := by rw [hWP]; simp only [alloc_at, World.size_alloc]; repeat (first | rw [if_pos (by first | trivial | omega)] | rw [if_neg (by omega)])
    have b5 : Below w3.heap.size w3 w' := below_more BP.out hb
    have z2 : w'.heap[w3.heap.size]? = _ := (hb.block _ (by omega)).trans z0
    have z3 : w'.heap[w3.heap.size + 1]? = _ := (hb.block _ (by omega)).trans z1
    refine ⟨⟨?_, ?_, ?_, ?_⟩, ⟨below_cell b5 l3 m2, below_cell b5 l3 m3⟩, ⟨below_cell b5 l4 c2, below_cell b5 l4 c3⟩, by have := hb.size; omega, b5⟩
    · rw [cell_of_row _ _ _ _ _ _ z2]; rfl
    · rw [cell_of_row _ _ _ _ _ _ z2]; rfl
    · rw [cell_of_row _ _ _ _ _ _ z3]; rfl
    · rw [cell_of_row _ _ _ _ _ _ z3]; rfl
  have HWP := Lib.hid hWP
  clear b3 o1 o2 o3 o4 CP MX hWP
  go_upto_region 8 with fail
  rw [← HWP.out]
  clear m0 m1 m2 m3 c0 c1 c2 c3 c4
  obtain ⟨_, ⟨m2, m3⟩, ⟨c2, c3⟩, _, P3⟩ := PX.out WP (Below.refl _ _)
  go_wp2_with fail
  refine (CR.out _ (below_more (below_more GB.out H4.out) P3.out)).mono ?_
  rintro e w4 ⟨x1, x2, x3, x4, rfl, g1, g2, g3, g4, b4⟩
  obtain ⟨⟨r8, r9, r10, r11⟩, _, ⟨c0, c1⟩, S4, B34'⟩ := PX.out w4 b4
  have B34 := B34'.out
  have lc0 : w.heap.size < w4.heap.size := by omega
  have H5 : Hid (Below WB.heap.size WB w4) := below_more H4.out B34
  obtain ⟨p1, p2, p3, p4⟩ := O3.out
  have O4 : Hid (Spans w4 (.slice a1 k1 d1) (pA a S) ∧ Sites w4 (.slice a2 k2 d2) (sA a T) ∧ Spans w4 (.slice a3 k3 d3) (pB a S) ∧ Sites w4 (.slice a4 k4 d4) (sB a T)) := ⟨p1.below B34 (Nat.le_refl _), p2.below B34 (Nat.le_refl _), p3.below B34 (Nat.le_refl _), p4.below B34 (Nat.le_refl _)⟩
  obtain ⟨y1, f1, rfl⟩ := g1.is_slice
  obtain ⟨y2, f2, rfl⟩ := g2.is_slice
  obtain ⟨y3, f3, rfl⟩ := g3.is_slice
  obtain ⟨y4, f4, rfl⟩ := g4.is_slice
  have CX := Lib.hid (CW.out w4 _ _ _ _ _ _ _ _ O4.out.1 O4.out.2.1 O4.out.2.2.1 O4.out.2.2.2 g1 g2 g3 g4)
  generalize (pA (a : Int) S).length = h1 at *
  generalize (sA (a : Int) T).length = h2 at *
  generalize (pB (a : Int) S).length = h3 at *
  generalize (sB (a : Int) T).length = h4 at *
  obtain ⟨WQ, hWQ⟩ : ∃ WQ, WQ = (w4.alloc (.cells #[.slice y1 h1 f1, .slice y2 h2 f2] 30)).alloc (.cells #[.slice y3 h3 f3, .slice y4 h4 f4] 30) := ⟨_, rfl⟩
  have BQ : Hid (Below w4.heap.size w4 WQ) := by show Below _ _ _; rw [hWQ]; exact ((Below.refl _ w4).alloc (Nat.le_refl _) _).alloc (by simp) _
  have QX : Hid (∀ w', Below WQ.heap.size WQ w' → (w'.cell? ⟨w3.heap.size, 0, none⟩ = some (.slice a1 k1 d1) ∧ w'.cell? ⟨w3.heap.size, 1, none⟩ = some (.slice a2 k2 d2) ∧ w'.cell? ⟨w3.heap.size + 1, 0, none⟩ = some (.slice a3 k3 d3) ∧ w'.cell? ⟨w3.heap.size + 1, 1, none⟩ = some (.slice a4 k4 d4) ∧
      w'.cell? ⟨w4.heap.size, 0, none⟩ = some (.slice y1 h1 f1) ∧ w'.cell? ⟨w4.heap.size, 1, none⟩ = some (.slice y2 h2 f2) ∧ w'.cell? ⟨w4.heap.size + 1, 0, none⟩ = some (.slice y3 h3 f3) ∧ w'.cell? ⟨w4.heap.size + 1, 1, none⟩ = some (.slice y4 h4 f4)) ∧
      (w'.cell? ⟨w.heap.size, 2, none⟩ = some (.int .i64 n) ∧ w'.cell? ⟨w.heap.size, 3, none⟩ = some (.int .i64 a)) ∧ Hid (Below w4.heap.size w4 w')) := fun w' hb => by
    have lq : WQ.heap.size = w4.heap.size + 1 + 1 := by rw [hWQ]; simp
    have z0 : WQ.heap[w4.heap.size]? = some (.cells #[.slice y1 h1 f1, .slice y2 h2 f2] 30 (0, 0)) := by rw [hWQ]; simp only [alloc_at, World.size_alloc]; repeat (first | rw [if_pos (by first | trivial | omega)] | rw [if_neg (by omega)])
    have z1 : WQ.heap[w4.heap.size + 1]? = some (.cells #[.slice y3 h3 f3, .slice y4 h4 f4] 30 (0, 0)) := by rw [hWQ]; simp only [alloc_at, World.size_alloc]; repeat (first | rw [if_pos (by first | trivial | omega)] | rw [if_neg (by omega)])
    have b5 : Below w4.heap.size w4 w' := below_more BQ.out hb
    have z4 : w'.heap[w4.heap.size]? = _ := (hb.block _ (by omega)).trans z0
    have z5 : w'.heap[w4.heap.size + 1]? = _ := (hb.block _ (by omega)).trans z1
    refine ⟨⟨below_cell b5 (by omega) r8, below_cell b5 (by omega) r9, below_cell b5 S4 r10, below_cell b5 S4 r11, ?_, ?_, ?_, ?_⟩, ⟨below_cell b5 lc0 c0, below_cell b5 lc0 c1⟩, b5⟩
    · rw [cell_of_row _ _ _ _ _ _ z4]; rfl
    · rw [cell_of_row _ _ _ _ _ _ z4]; rfl
    · rw [cell_of_row _ _ _ _ _ _ z5]; rfl
    · rw [cell_of_row _ _ _ _ _ _ z5]; rfl
  obtain ⟨⟨t0, t1, t2, t3, t4, t5, t6, t7⟩, ⟨t8, t9⟩, T5⟩ := QX.out WQ (Below.refl _ _)
  have HWQ := Lib.hid hWQ
  have CZ : Hid (∀ w', Below w4.heap.size w4 w' → Below w.heap.size w w') := fun w' hb => below_more (below_more GB.out H5.out) hb
  clear hWQ b4 B34 B34' p1 p2 p3 p4 g1 g2 g3 g4 CW CR m2 m3 c2 c3 O3 O4 BX r8 r9 r10 r11 c0 c1
  go_upto_region 9 with fail
  rw [← HWQ.out]
  go_wp2_with fail
  refine (CX.out _ T5.out).1.mono ?_
  rintro e w5 ⟨rfl, b5⟩
  have G5 : Hid (Below WQ.heap.size WQ w5) := b5
  clear b5 t0 t1 t2 t3 t4 t5 t6 t7 t8 t9 T5
  obtain ⟨⟨t0, t1, t2, t3, t4, t5, t6, t7⟩, ⟨t8, t9⟩, T5⟩ := QX.out w5 G5.out
  go_wp2_with fail
  refine (CX.out _ T5.out).2.1.mono ?_
  rintro e w6 ⟨rfl, b6⟩
  have G6 : Hid (Below WQ.heap.size WQ w6) := below_more G5.out b6
  clear b6 t0 t1 t2 t3 t4 t5 t6 t7 t8 t9 T5 G5
  obtain ⟨⟨t0, t1, t2, t3, t4, t5, t6, t7⟩, ⟨t8, t9⟩, T5⟩ := QX.out w6 G6.out
  go_wp2_with fail
  refine (CX.out _ T5.out).2.2.1.mono ?_
  rintro e w7 ⟨rfl, b7⟩
  have G7 : Hid (Below WQ.heap.size WQ w7) := below_more G6.out b7
  clear b7 t0 t1 t2 t3 t4 t5 t6 t7 t8 t9 T5 G6
  obtain ⟨⟨t0, t1, t2, t3, t4, t5, t6, t7⟩, ⟨t8, t9⟩, T5⟩ := QX.out w7 G7.out
  go_wp2_with fail
  refine (CX.out _ T5.out).2.2.2.mono ?_
  rintro e w8 ⟨rfl, b8⟩
  have G8 : Hid (Below w.heap.size w w8) := CZ.out _ (below_more T5.out b8)
  clear b8 t0 t1 t2 t3 t4 t5 t6 t7 t8 t9 T5 G7
  go_wp2_with fail
  go_ret
  exact ⟨rfl, G8.out⟩

theorem walk {w : World} {v : Value} (S : List Sp) (T : List St) (n a b : Int) (h : Cs w v S T n a b) :
    Calls Try.prog 6 #[v] w fun e w' => e = .returned (.bool true) ∧ Below w.heap.size w w' := by
  obtain ⟨⟨sv, tv, rfl, hS, hT⟩, gn, ga, gb⟩ := h
  cases hk : askB S T n a b with
  | false => exact walk_no sv tv S T n a b hS hT gn ga gb hk
  | true =>
    obtain ⟨q1, _, q3, q4, _⟩ := askB_of hk
    obtain ⟨n', rfl⟩ := Int.eq_ofNat_of_zero_le q1
    obtain ⟨a', rfl⟩ := Int.eq_ofNat_of_zero_le q3
    obtain ⟨b', rfl⟩ := Int.eq_ofNat_of_zero_le (Int.le_trans q3 q4)
    exact walk_yes sv tv S T n' a' b' hS hT hk

set_option maxRecDepth 100000 in
theorem lifted (os : Os) (started : os.Started) (H : Type) (enc : TypeId × Value → H) :
    ReturnsInHanded {} Try.checked os 6 .any (Rows.marksPartSpec.pre6 enc Try.prog Try.f6 Rows.marksPartRow.domain false) (Rows.marksPartSpec.post enc Try.prog Try.f6 false true false false) := by
  refine returnsInHanded_of_change (C := Try.checked) own started (by kernel_rfl) Try.func6
    (ChangeSpec.witness6 (enc := enc) (C := Try.checked) false ⟨#[], #[.agg #[.slice none 0 0, .slice none 0 0, .int .i64 0, .int .i64 0, .int .i64 0]], []⟩ 8 (by kernel_rfl) (by kernel_rfl) (by kernel_rfl) (by kernel_rfl)) ?_
  intro W base args ds gs before hval0 hW hcnd _
  have hval : ∀ (j : Nat) t v, Try.f6.params[j]? = some t → args[j]? = some v → Value.okWide Try.prog W .any base t v := hval0
  have hread : ∀ t ∈ Try.f6.params.toList, Try.prog.readableRec t = true ∧ t < Try.prog.types.size := by
    have : (Try.f6.params.toList.all fun t => Try.prog.readableRec t && decide (t < Try.prog.types.size)) = true := by kernel_rfl
    intro t ht
    have := List.all_eq_true.1 this t ht
    simpa using this
  refine law_contract (P := Try.prog) (s := Rows.marksPartSpec) (fn := Try.f6) (tb := 4) laidOut rfl hread rfl Try.underlying4 (fun W' => okWide_bool_mk Try.underlying4 _) ?_ hW ?_
  · intro ds hds
    rw [Try.params6] at hds
    match ds, hds with
    | [d0], _ => rfl
  intro pl hA
  rw [Try.params6] at hA hval
  obtain ⟨v0, vs0, d0, ds0, p0, q0, hargs, rfl, hp0, h0, r0⟩ := trodAll_cons hA
  obtain ⟨rfl, rfl, hpe⟩ := trodAll_nil r0
  obtain rfl : args = #[v0] := by cases args; simp_all
  obtain ⟨S, T, n, a, b, hC⟩ := open_case (hval 0 33 v0 rfl rfl) h0
  exact walk S T n a b hC

theorem over : Rows.marksPartRow.holds Try.pinned (OpenSpec.ofChange Rows.marksPartSpec) :=
  OpenClaim.holds_of_wide 6 Try.f6 rfl rfl rfl rfl rfl rfl rfl ⟨rfl, rfl, rfl, rfl, rfl⟩ rfl rfl rfl rfl rfl (by kernel_rfl) Try.func6 (by kernel_rfl)
    (of_decide_eq_true (by kernel_rfl)) (by unfold Func.isWrapper; first | (rw [if_pos (by decide +kernel)]; kernel_rfl) | (rw [if_neg (by decide +kernel)]; exact ⟨rfl, rfl⟩))
    (fun os started H enc _ => lifted os started H enc)

/-- The statement. -/
theorem proved : Rows.MarksPartSaid :=
  over
#print axioms proved
end Go.Proofs.Ytkbadhkjhkmlfaa.marksPart
