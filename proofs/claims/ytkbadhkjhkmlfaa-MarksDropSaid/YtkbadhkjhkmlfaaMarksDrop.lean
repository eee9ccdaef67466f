/- For every case (spans, sites, a number of letters, two places) and every mark: MarksDrop answers true, and its arguments read behind the call as before. No condition. -/
import Derived.Test.YtkbadhkjhkmlfaaRows
import Derived.Test.YtkbadhkjhkmlfaaLift
import Derived.Test.YtkbadhkjhkmlfaaMx
import Derived.Deep.RegionHeld3
set_option linter.unusedVariables false
namespace Go.Proofs.Ytkbadhkjhkmlfaa.marksDrop
open Go.ChangeShapes Go.WideShapes Go.ChangeAt Go.RowKit Go.Lib Go.Proofs.Ytkbadhkjhkmlfaa.Lift Go.Proofs.Ytkbadhkjhkmlfaa.Rt Go.Proofs.Ytkbadhkjhkmlfaa.Rig
open Go.ChangeMaps (open_string shut_string)

theorem own : ownKnob Try.prog.godebug = none := by kernel_rfl
theorem laidOut : laidOutB Try.prog = true := by kernel_rfl

set_option maxRecDepth 100000 in
set_option maxHeartbeats 1000000 in
theorem ints_same {v1 v2 : Value} {xs : List Int} (w : World) (h1 : Ints w v1 xs) (h2 : Ints w v2 xs) :
    Calls Try.prog 24 #[v1, v2] w fun e w' => e = .returned (.bool true) ∧ Below w.heap.size w w' := by
  obtain ⟨a, ca, rfl, hla, hca, hc1⟩ := h1.open_
  obtain ⟨b, cb, rfl, hlb, hcb, hc2⟩ := h2.open_
  have H1 := Lib.hid hc1
  have H2 := Lib.hid hc2
  obtain ⟨n, hn⟩ : ∃ n, n = xs.length := ⟨_, rfl⟩
  rw [← hn] at hla hlb ⊢
  replace hn := Lib.hid hn
  clear hc1 hc2 h1 h2
  go_enter Try.func24, Try.ntmps24
  go_wp2_with fail
  go_loopw [5] (fun i wr => ∃ k q : Nat, k ≤ n ∧ i = .int .i64 k ∧ wr = w.drewN q) (fun i _ => n - (RowKit.intOf i).toNat)
  case atStart => exact ⟨0, 0, Nat.zero_le _, rfl, rfl⟩
  case round =>
    obtain ⟨k, q, hk, rfl, rfl⟩ := hrel
    by_cases hlt : k < n
    · have hkl : k < xs.length := by rw [← hn.out]; exact hlt
      obtain ⟨b1, f1, rfl, hb1, ⟨x1, x2⟩, c1⟩ := H1.out k hkl
      obtain ⟨b2, f2, rfl, hb2, _, c2⟩ := H2.out k hkl
      generalize at_ xs k = x at *
      have i0 : (0 : Int) ≤ (k : Int) := by omega
      have i1 : (k : Int) < (n : Int) := by omega
      have e0 : (x != x) = false := by simp
      clear H1 H2
      go_wp2_with fail
      go_quiet (fail)
      go_wp2
      go_roundw
      case rel => exact ⟨k + 1, _, by omega, by go_num, rfl⟩
      case measure => simp [RowKit.intOf]; omega
    · clear H1 H2
      go_wp2
      go_ret
      exact ⟨rfl, below_drews (Below.refl _ _) q⟩
theorem lens : ofS [⟨7, 0, 3⟩] 7 = [⟨7, 0, 3⟩] ∧ ofT [⟨7, 2⟩] 7 = [2] := by decide
theorem none_ofS (S : List Sp) (mk : Int) : ofS (dropS S mk) mk = [] := by
  unfold ofS dropS
  rw [List.filter_filter, List.filter_eq_nil_iff]
  intro s _ h
  simp at h
theorem none_ofT (T : List St) (mk : Int) : ofT (dropT T mk) mk = [] := by
  unfold ofT dropT
  rw [List.filter_filter, List.map_eq_nil_iff, List.filter_eq_nil_iff]
  intro s _ h
  simp at h
/-- It hands back one span, one place, which is 2. -/
def One (W : World) (e : Ending) (w' : World) : Prop := ∃ a1 c1 b off c2, e = .returned (.tuple #[.slice a1 1 c1, .slice (some ⟨b, off, none⟩) 1 c2]) ∧ w'.cell? ⟨b, off, none⟩ = some (.int .i64 2) ∧ Below W.heap.size W w'
theorem one_any (W : World) : Calls Try.prog 20 #[.agg #[.slice (some ⟨W.heap.size, 0, none⟩) 1 1, .slice (some ⟨W.heap.size + 1, 0, none⟩) 1 1], .int .i64 7] ((W.alloc (.cells #[.int .i64 7, .int .i64 0, .int .i64 3] 26)).alloc (.cells #[.int .i64 7, .int .i64 2] 41)) (One W) := by
  have h1 : ((W.alloc (.cells #[.int .i64 7, .int .i64 0, .int .i64 3] 26)).alloc (.cells #[.int .i64 7, .int .i64 2] 41)).heap[W.heap.size]? = some (.cells #[.int .i64 7, .int .i64 0, .int .i64 3] 26 (0, 0)) := by
    rw [Below.heap_alloc _ _ _ (by simp)]; exact heap_alloc_new _ _
  have h2 : ((W.alloc (.cells #[.int .i64 7, .int .i64 0, .int .i64 3] 26)).alloc (.cells #[.int .i64 7, .int .i64 2] 41)).heap[W.heap.size + 1]? = some (.cells #[.int .i64 7, .int .i64 2] 41 (0, 0)) := by
    have := heap_alloc_new (W.alloc (.cells #[.int .i64 7, .int .i64 0, .int .i64 3] 26)) (.cells #[.int .i64 7, .int .i64 2] 41)
    rwa [World.size_alloc] at this
  have h := of_any 7 _ (lit_span (m := 7) (f := 0) (t := 3) h1 ⟨⟨by decide, by decide⟩, ⟨by decide, by decide⟩, ⟨by decide, by decide⟩⟩) (lit_site (m := 7) (a := 2) h2 ⟨⟨by decide, by decide⟩, ⟨by decide, by decide⟩⟩) ⟨by decide, by decide⟩ (by decide) (by decide)
  refine h.mono ?_
  rintro e w' ⟨v1, v2, rfl, g1, g2, hb⟩
  rw [lens.1] at g1
  rw [lens.2] at g2
  obtain ⟨a1, c1, rfl⟩ := g1.is_slice
  obtain ⟨a, cap, rfl, _, _, hq⟩ := g2.open_
  obtain ⟨b, off, rfl, _, _, hc⟩ := hq 0 (by decide)
  exact ⟨a1, c1, b, off, cap, rfl, hc, below_more (((Below.refl _ W).alloc (Nat.le_refl _) _).alloc (by simp) _) hb⟩
set_option maxRecDepth 100000 in
set_option maxHeartbeats 8000000 in
theorem walk_no {w : World} (sv tv : Value) (S : List Sp) (T : List St) (n a b : Int) (hS : Spans w sv S) (hT : Sites w tv T) (gn : i64 n) (ga : i64 a) (gb : i64 b) (hk : askB S T n a b = false) (mk : Int) (hm1 : -9223372036854775808 ≤ mk) (hm2 : mk ≤ 9223372036854775807) :
    Calls Try.prog 7 #[.agg #[sv, tv, .int .i64 n, .int .i64 a, .int .i64 b], .int .i64 mk] w fun e w' => e = .returned (.bool true) ∧ Below w.heap.size w w' := by
  obtain ⟨WB, hWB⟩ : ∃ WB, WB = w.alloc (.cells #[sv, tv, .int .i64 n, .int .i64 a, .int .i64 b] 33) := ⟨_, rfl⟩
  have bB : Below w.heap.size w WB := by rw [hWB]; exact (Below.refl _ _).alloc (Nat.le_refl _) _
  have r0 : WB.heap[w.heap.size]? = some (.cells #[sv, tv, .int .i64 n, .int .i64 a, .int .i64 b] 33 (0, 0)) := by rw [hWB]; exact heap_alloc_new _ _
  have lB : w.heap.size < WB.heap.size := by rw [hWB]; simp
  have AK : Hid (∀ w', Below w.heap.size w w' → Calls Try.prog 13 #[.agg #[sv, tv, .int .i64 n, .int .i64 a, .int .i64 b]] w' fun e w'' => e = .returned (.tuple #[.agg #[sv, tv], .agg #[sv, tv], .bool false]) ∧ Below w'.heap.size w' w'') := fun w' hb => by
    have := ask_any n a b w' (hS.below hb (Nat.le_refl _)) (hT.below hb (Nat.le_refl _)) gn ga gb
    rwa [hk] at this
  obtain ⟨sa, sc, rfl⟩ := hS.is_slice
  obtain ⟨ta, tc, rfl⟩ := hT.is_slice
  generalize S.length = ls at *
  generalize T.length = lt at *
  have BX : Hid (∀ w', Below WB.heap.size WB w' → w'.cell? ⟨w.heap.size, 0, none⟩ = some (.slice sa ls sc) ∧ w'.cell? ⟨w.heap.size, 1, none⟩ = some (.slice ta lt tc) ∧ w'.cell? ⟨w.heap.size, 2, none⟩ = some (.int .i64 n) ∧ w'.cell? ⟨w.heap.size, 3, none⟩ = some (.int .i64 a) ∧ w'.cell? ⟨w.heap.size, 4, none⟩ = some (.int .i64 b) ∧ w.heap.size < w'.heap.size) := fun w' hb => by
    refine ⟨below_cell hb lB ?_, below_cell hb lB ?_, below_cell hb lB ?_, below_cell hb lB ?_, below_cell hb lB ?_, Nat.lt_of_lt_of_le lB hb.size⟩ <;> (rw [cell_of_row _ _ _ _ _ _ r0]; rfl)
  have C1 : Hid (∀ W : World, Calls Try.prog 20 #[.agg #[.slice (some ⟨W.heap.size, 0, none⟩) 1 1, .slice (some ⟨W.heap.size + 1, 0, none⟩) 1 1], .int .i64 7] ((W.alloc (.cells #[.int .i64 7, .int .i64 0, .int .i64 3] 26)).alloc (.cells #[.int .i64 7, .int .i64 2] 41)) (One W)) := one_any
  have HWB := Lib.hid hWB
  have GB := Lib.hid bB
  have d2 : ((2 : Int) != 2) = false := rfl
  clear hS hT r0 bB hWB hk lB gn ga gb
  go_enter Try.func7, Try.ntmps7
  go_wp2_with fail
  rw [← HWB.out]
  have sB : WB.heap.size = w.heap.size + 1 := by rw [HWB.out]; simp
  rw [← sB]
  have SB := Lib.hid sB
  clear sB
  refine (C1.out WB).mono ?_
  rintro e w1 ⟨a1, d1, pb, po, pc, rfl, p2, b1⟩
  obtain ⟨c0, c1, c2, c3, c4, l1⟩ := BX.out w1 b1
  have H1 := Lib.hid b1
  clear b1 C1
  go_wp2_with fail
  refine (AK.out _ (below_more GB.out H1.out)).mono ?_
  rintro e w2 ⟨rfl, b2⟩
  have H2 : Hid (Below WB.heap.size WB w2) := below_more H1.out b2
  clear b2 AK c0 c1 c2 c3 c4 l1 p2 d2 H1
  have KB : Hid (∀ o1 o2, Below w.heap.size w ((w2.alloc o1).alloc o2)) := fun o1 o2 => by
    have g := below_more GB.out H2.out
    exact (g.alloc g.size _).alloc (by have := g.size; simp; omega) _
  go_wp2_with fail
  go_ret
  exact ⟨rfl, KB.out _ _⟩
set_option maxRecDepth 100000 in
set_option maxHeartbeats 8000000 in
theorem walk_yes {w : World} (sv tv : Value) (S : List Sp) (T : List St) (n a b : Int) (hS : Spans w sv S) (hT : Sites w tv T) (gn : i64 n) (ga : i64 a) (gb : i64 b) (hk : askB S T n a b = true) (mk : Int) (hm1 : -9223372036854775808 ≤ mk) (hm2 : mk ≤ 9223372036854775807) :
    Calls Try.prog 7 #[.agg #[sv, tv, .int .i64 n, .int .i64 a, .int .i64 b], .int .i64 mk] w fun e w' => e = .returned (.bool true) ∧ Below w.heap.size w w' := by
  obtain ⟨WB, hWB⟩ : ∃ WB, WB = w.alloc (.cells #[sv, tv, .int .i64 n, .int .i64 a, .int .i64 b] 33) := ⟨_, rfl⟩
  have bB : Below w.heap.size w WB := by rw [hWB]; exact (Below.refl _ _).alloc (Nat.le_refl _) _
  have r0 : WB.heap[w.heap.size]? = some (.cells #[sv, tv, .int .i64 n, .int .i64 a, .int .i64 b] 33 (0, 0)) := by rw [hWB]; exact heap_alloc_new _ _
  have lB : w.heap.size < WB.heap.size := by rw [hWB]; simp
  have AK : Hid (∀ w', Below w.heap.size w w' → Calls Try.prog 13 #[.agg #[sv, tv, .int .i64 n, .int .i64 a, .int .i64 b]] w' fun e w'' => e = .returned (.tuple #[.agg #[sv, tv], .agg #[sv, tv], .bool true]) ∧ Below w'.heap.size w' w'') := fun w' hb => by
    have := ask_any n a b w' (hS.below hb (Nat.le_refl _)) (hT.below hb (Nat.le_refl _)) gn ga gb
    rwa [hk] at this
  obtain ⟨q1, q2, q3, q4, q5, q6, q7, hRS, hRT⟩ := askB_of hk
  have CO : Hid (∀ w', Below w.heap.size w w' → Calls Try.prog 20 #[.agg #[sv, tv], .int .i64 mk] w' (GivesOf w' (ofS S mk) (ofT T mk))) := fun w' hb => of_any mk w' (hS.below hb (Nat.le_refl _)) (hT.below hb (Nat.le_refl _)) ⟨hm1, hm2⟩ (by omega) (by omega)
  have CRO : Hid (∀ w', Below w.heap.size w w' → Calls Try.prog 21 #[.agg #[sv, tv], .int .i64 mk] w' (GivesOf w' (ofS S mk) (ofT T mk))) := fun w' hb => rof_any mk w' (hS.below hb (Nat.le_refl _)) (hT.below hb (Nat.le_refl _)) ⟨hm1, hm2⟩ (by omega) (by omega)
  have CD : Hid (∀ w', Below w.heap.size w w' → Calls Try.prog 22 #[.agg #[sv, tv], .int .i64 mk] w' (GivesM w' (dropS S mk) (dropT T mk))) := fun w' hb => drop_any mk w' (hS.below hb (Nat.le_refl _)) (hT.below hb (Nat.le_refl _)) ⟨hm1, hm2⟩ (by omega) (by omega)
  have CRD : Hid (∀ w', Below w.heap.size w w' → Calls Try.prog 25 #[.agg #[sv, tv], .int .i64 mk] w' (GivesM w' (dropS S mk) (dropT T mk))) := fun w' hb => rdrop_any mk w' (hS.below hb (Nat.le_refl _)) (hT.below hb (Nat.le_refl _)) ⟨hm1, hm2⟩ (by omega) (by omega)
  have hl1 : (dropS S mk).length ≤ 10000 := Nat.le_trans (List.length_filter_le _ _) (by omega)
  have hl2 : (dropT T mk).length ≤ 10000 := Nat.le_trans (List.length_filter_le _ _) (by omega)
  have CE : Hid (∀ w' v1 v2, Spans w' v1 (dropS S mk) → Sites w' v2 (dropT T mk) → Calls Try.prog 20 #[.agg #[v1, v2], .int .i64 mk] w' (GivesOf w' [] [])) := fun w' v1 v2 h1 h2 => by
    have := of_any mk w' h1 h2 ⟨hm1, hm2⟩ hl1 hl2
    rwa [none_ofS, none_ofT] at this
  clear q1 q2 q3 q4 q5 hRS hRT hl1 hl2
  obtain ⟨sa, sc, rfl⟩ := hS.is_slice
  obtain ⟨ta, tc, rfl⟩ := hT.is_slice
  generalize S.length = ls at *
  generalize T.length = lt at *
  have BX : Hid (∀ w', Below WB.heap.size WB w' → w'.cell? ⟨w.heap.size, 0, none⟩ = some (.slice sa ls sc) ∧ w'.cell? ⟨w.heap.size, 1, none⟩ = some (.slice ta lt tc) ∧ w'.cell? ⟨w.heap.size, 2, none⟩ = some (.int .i64 n) ∧ w'.cell? ⟨w.heap.size, 3, none⟩ = some (.int .i64 a) ∧ w'.cell? ⟨w.heap.size, 4, none⟩ = some (.int .i64 b) ∧ w.heap.size < w'.heap.size) := fun w' hb => by
    refine ⟨below_cell hb lB ?_, below_cell hb lB ?_, below_cell hb lB ?_, below_cell hb lB ?_, below_cell hb lB ?_, Nat.lt_of_lt_of_le lB hb.size⟩ <;> (rw [cell_of_row _ _ _ _ _ _ r0]; rfl)
  have C1 : Hid (∀ W : World, Calls Try.prog 20 #[.agg #[.slice (some ⟨W.heap.size, 0, none⟩) 1 1, .slice (some ⟨W.heap.size + 1, 0, none⟩) 1 1], .int .i64 7] ((W.alloc (.cells #[.int .i64 7, .int .i64 0, .int .i64 3] 26)).alloc (.cells #[.int .i64 7, .int .i64 2] 41)) (One W)) := one_any
  have HWB := Lib.hid hWB
  have GB := Lib.hid bB
  have d2 : ((2 : Int) != 2) = false := rfl
  clear hS hT r0 bB hWB hk lB gn ga gb
  go_enter Try.func7, Try.ntmps7
  go_wp2_with fail
  rw [← HWB.out]
  have sB : WB.heap.size = w.heap.size + 1 := by rw [HWB.out]; simp
  rw [← sB]
  have SB := Lib.hid sB
  clear sB
  refine (C1.out WB).mono ?_
  rintro e w1 ⟨a1, d1, pb, po, pc, rfl, p2, b1⟩
  obtain ⟨c0, c1, c2, c3, c4, l1⟩ := BX.out w1 b1
  have H1 := Lib.hid b1
  clear b1 C1
  go_wp2_with fail
  refine (AK.out _ (below_more GB.out H1.out)).mono ?_
  rintro e w2 ⟨rfl, b2⟩
  have H2 : Hid (Below WB.heap.size WB w2) := below_more H1.out b2
  clear b2 AK c0 c1 c2 c3 c4 l1 p2 d2 H1
  obtain ⟨WM, hWM⟩ : ∃ WM, WM = (w2.alloc (.cells #[.slice sa ls sc, .slice ta lt tc] 28)).alloc (.cells #[.slice sa ls sc, .slice ta lt tc] 30) := ⟨_, rfl⟩
  have H3 : Hid (Below WB.heap.size WB WM) := by show Below _ _ _; rw [hWM]; exact (H2.out.alloc H2.out.size _).alloc (by have := H2.out.size; simp; omega) _
  have MX : Hid (∀ w', Below WM.heap.size WM w' → w'.cell? ⟨w2.heap.size, 0, none⟩ = some (.slice sa ls sc) ∧ w'.cell? ⟨w2.heap.size, 1, none⟩ = some (.slice ta lt tc) ∧ w'.cell? ⟨w2.heap.size + 1, 0, none⟩ = some (.slice sa ls sc) ∧ w'.cell? ⟨w2.heap.size + 1, 1, none⟩ = some (.slice ta lt tc) ∧ w2.heap.size + 1 < w'.heap.size) := fun w' hb => by
    have lm : WM.heap.size = w2.heap.size + 1 + 1 := by rw [hWM]; simp
    have m0 : WM.heap[w2.heap.size]? = some (.cells #[.slice sa ls sc, .slice ta lt tc] 28 (0, 0)) := by rw [hWM]; simp only [alloc_at, World.size_alloc]; repeat (first | rw [if_pos (by first | trivial | omega)] | rw [if_neg (by omega)])
    have m1 : WM.heap[w2.heap.size + 1]? = some (.cells #[.slice sa ls sc, .slice ta lt tc] 30 (0, 0)) := by rw [hWM]; simp only [alloc_at, World.size_alloc]; repeat (first | rw [if_pos (by first | trivial | omega)] | rw [if_neg (by omega)])
    refine ⟨below_cell hb (by omega) ?_, below_cell hb (by omega) ?_, below_cell hb (by omega) ?_, below_cell hb (by omega) ?_, by have := hb.size; omega⟩
    · rw [cell_of_row _ _ _ _ _ _ m0]; rfl
    · rw [cell_of_row _ _ _ _ _ _ m0]; rfl
    · rw [cell_of_row _ _ _ _ _ _ m1]; rfl
    · rw [cell_of_row _ _ _ _ _ _ m1]; rfl
  have HWM := Lib.hid hWM
  have GM := Lib.hid (below_more GB.out H3.out)
  clear hWM BX H2
  go_upto_region 7 with fail
  rw [← HWM.out]
  obtain ⟨m0, m1, m2, m3, l3⟩ := MX.out WM (Below.refl _ _)
  go_wp2_with fail
  refine (CO.out WM GM.out).mono ?_
  rintro e w3 ⟨v1, v2, rfl, o1, o2, b3⟩
  have G3 := Lib.hid b3
  have O3 : Hid (Spans w3 v1 (ofS S mk) ∧ Ints w3 v2 (ofT T mk)) := ⟨o1, o2⟩
  obtain ⟨a1, d1, rfl⟩ := o1.is_slice
  obtain ⟨a2, d2, rfl⟩ := o2.is_slice
  clear b3 o1 o2 m0 m1 m2 m3 l3 CO
  generalize (ofS S mk).length = k1 at *
  generalize (ofT T mk).length = k2 at *
  obtain ⟨m0, m1, m2, m3, l3⟩ := MX.out w3 G3.out
  go_wp2_with fail
  refine (CRO.out w3 (below_more GM.out G3.out)).mono ?_
  rintro e w4 ⟨x1, x2, rfl, o1, o2, b4⟩
  have G4 := Lib.hid (below_more G3.out b4)
  have O4 : Hid (Spans w4 (.slice a1 k1 d1) (ofS S mk) ∧ Ints w4 (.slice a2 k2 d2) (ofT T mk) ∧ Spans w4 x1 (ofS S mk) ∧ Ints w4 x2 (ofT T mk)) := ⟨O3.out.1.below b4 (Nat.le_refl _), O3.out.2.below b4 (Nat.le_refl _), o1, o2⟩
  obtain ⟨a3, d3, rfl⟩ := o1.is_slice
  obtain ⟨a4, d4, rfl⟩ := o2.is_slice
  clear b4 o1 o2 m0 m1 m2 m3 l3 CRO O3
  generalize (ofS S mk).length = k3 at *
  generalize (ofT T mk).length = k4 at *
  obtain ⟨m0, m1, m2, m3, l3⟩ := MX.out w4 G4.out
  go_wp2_with fail
  refine (CD.out w4 (below_more GM.out G4.out)).mono ?_
  rintro e w5 ⟨y1, y2, rfl, o1, o2, b5⟩
  have G5 := Lib.hid (below_more G4.out b5)
  have O5 : Hid (Spans w5 (.slice a1 k1 d1) (ofS S mk) ∧ Ints w5 (.slice a2 k2 d2) (ofT T mk) ∧ Spans w5 (.slice a3 k3 d3) (ofS S mk) ∧ Ints w5 (.slice a4 k4 d4) (ofT T mk) ∧ Spans w5 y1 (dropS S mk) ∧ Sites w5 y2 (dropT T mk)) := ⟨O4.out.1.below b5 (Nat.le_refl _), O4.out.2.1.below b5 (Nat.le_refl _), O4.out.2.2.1.below b5 (Nat.le_refl _), O4.out.2.2.2.below b5 (Nat.le_refl _), o1, o2⟩
  obtain ⟨a5, d5, rfl⟩ := o1.is_slice
  obtain ⟨a6, d6, rfl⟩ := o2.is_slice
  clear b5 o1 o2 m0 m1 m2 m3 l3 CD O4
  generalize (dropS S mk).length = k5 at *
  generalize (dropT T mk).length = k6 at *
  obtain ⟨WD, hWD⟩ : ∃ WD, WD = w5.alloc (.cells #[.slice a5 k5 d5, .slice a6 k6 d6] 28) := ⟨_, rfl⟩
  have BD : Hid (Below w5.heap.size w5 WD) := by show Below _ _ _; rw [hWD]; exact (Below.refl _ w5).alloc (Nat.le_refl _) _
  have DX : Hid (∀ w', Below WD.heap.size WD w' → w'.cell? ⟨w5.heap.size, 0, none⟩ = some (.slice a5 k5 d5) ∧ w'.cell? ⟨w5.heap.size, 1, none⟩ = some (.slice a6 k6 d6) ∧ w'.cell? ⟨w2.heap.size + 1, 0, none⟩ = some (.slice sa ls sc) ∧ w'.cell? ⟨w2.heap.size + 1, 1, none⟩ = some (.slice ta lt tc)) := fun w' hb => by
    have z0 : WD.heap[w5.heap.size]? = some (.cells #[.slice a5 k5 d5, .slice a6 k6 d6] 28 (0, 0)) := by rw [hWD]; exact heap_alloc_new _ _
    have lq : WD.heap.size = w5.heap.size + 1 := by rw [hWD]; simp
    have z1 : w'.heap[w5.heap.size]? = _ := (hb.block _ (by omega)).trans z0
    obtain ⟨_, _, t2, t3, _⟩ := MX.out w' (below_more G5.out (below_more BD.out hb))
    exact ⟨by rw [cell_of_row _ _ _ _ _ _ z1]; rfl, by rw [cell_of_row _ _ _ _ _ _ z1]; rfl, t2, t3⟩
  have HWD := Lib.hid hWD
  have O6 : Hid (∀ w', Below WD.heap.size WD w' → Spans w' (.slice a1 k1 d1) (ofS S mk) ∧ Ints w' (.slice a2 k2 d2) (ofT T mk) ∧ Spans w' (.slice a3 k3 d3) (ofS S mk) ∧ Ints w' (.slice a4 k4 d4) (ofT T mk) ∧ Spans w' (.slice a5 k5 d5) (dropS S mk) ∧ Sites w' (.slice a6 k6 d6) (dropT T mk)) := fun w' hb => by
    have b := below_more BD.out hb
    obtain ⟨h1, h2, h3, h4, h5, h6⟩ := O5.out
    exact ⟨h1.below b (Nat.le_refl _), h2.below b (Nat.le_refl _), h3.below b (Nat.le_refl _), h4.below b (Nat.le_refl _), h5.below b (Nat.le_refl _), h6.below b (Nat.le_refl _)⟩
  have GD : Hid (Below w.heap.size w WD) := below_more (below_more GM.out G5.out) BD.out
  clear hWD MX O5
  go_upto_region 10 with fail
  rw [← HWD.out]
  obtain ⟨m0, m1, m2, m3⟩ := DX.out WD (Below.refl _ _)
  go_wp2_with fail
  refine (CE.out WD _ _ (O6.out WD (Below.refl _ _)).2.2.2.2.1 (O6.out WD (Below.refl _ _)).2.2.2.2.2).mono ?_
  rintro e w6 ⟨z1, z2, rfl, o1, o2, b6⟩
  obtain ⟨a7, d7, rfl⟩ := o1.is_slice
  obtain ⟨a8, d8, rfl⟩ := o2.is_slice
  have G6 := Lib.hid b6
  have C23 : Hid (∀ w', Below w6.heap.size w6 w' → Calls Try.prog 23 #[.slice a1 k1 d1, .slice a3 k3 d3, .slice none 0 0, .slice none 0 0] w' fun e w'' => e = .returned (.bool true) ∧ Below w'.heap.size w' w'') := fun w' hb => by
    obtain ⟨h1, h2, h3, h4, h5, h6⟩ := O6.out w' (below_more G6.out hb)
    exact msame_any w' h1 h3 (Sites.nil_ _) (Sites.nil_ _)
  have C24 : Hid (∀ w', Below w6.heap.size w6 w' → Calls Try.prog 24 #[.slice a2 k2 d2, .slice a4 k4 d4] w' fun e w'' => e = .returned (.bool true) ∧ Below w'.heap.size w' w'') := fun w' hb => by
    obtain ⟨h1, h2, h3, h4, h5, h6⟩ := O6.out w' (below_more G6.out hb)
    exact ints_same w' h2 h4
  have C25 : Hid (∀ w', Below w6.heap.size w6 w' → Calls Try.prog 25 #[.agg #[.slice sa ls sc, .slice ta lt tc], .int .i64 mk] w' (GivesM w' (dropS S mk) (dropT T mk))) := fun w' hb => CRD.out w' (below_more (below_more GD.out G6.out) hb)
  have C14 : Hid (∀ w' x1 x2, Below w6.heap.size w6 w' → Spans w' x1 (dropS S mk) → Sites w' x2 (dropT T mk) → Calls Try.prog 14 #[.agg #[.slice a5 k5 d5, .slice a6 k6 d6], .agg #[x1, x2]] w' fun e w'' => e = .returned (.bool true) ∧ Below w'.heap.size w' w'') := fun w' x1 x2 hb g1 g2 => by
    obtain ⟨h1, h2, h3, h4, h5, h6⟩ := O6.out w' (below_more G6.out hb)
    exact same_any w' h5 h6 g1 g2
  have KP : Hid (∀ w', Below w6.heap.size w6 w' → Below w6.heap.size w6 w' ∧ w'.cell? ⟨w5.heap.size, 0, none⟩ = some (.slice a5 k5 d5) ∧ w'.cell? ⟨w5.heap.size, 1, none⟩ = some (.slice a6 k6 d6) ∧ w'.cell? ⟨w2.heap.size + 1, 0, none⟩ = some (.slice sa ls sc) ∧ w'.cell? ⟨w2.heap.size + 1, 1, none⟩ = some (.slice ta lt tc)) := fun w' hb => ⟨hb, DX.out w' (below_more G6.out hb)⟩
  have G7 := Lib.hid (below_more GD.out G6.out)
  have hD : Hid (∀ n, Below w6.heap.size w6 (w6.drewN n)) := fun n => below_drews (Below.refl _ _) n
  clear b6 o1 o2 m0 m1 m2 m3 CRD CE O6 DX G6 GD BD HWD G5 G4 G3
  go_upto_region 11 with fail
  go_region_held3 (fun w' => Below w6.heap.size w6 w' ∧ w'.cell? ⟨w5.heap.size, 0, none⟩ = some (.slice a5 k5 d5) ∧ w'.cell? ⟨w5.heap.size, 1, none⟩ = some (.slice a6 k6 d6) ∧ w'.cell? ⟨w2.heap.size + 1, 0, none⟩ = some (.slice sa ls sc) ∧ w'.cell? ⟨w2.heap.size + 1, 1, none⟩ = some (.slice ta lt tc))
    ((refine KP.out _ ?_; focus ((repeat first | assumption | exact hD.out _ | exact Below.refl _ _ | apply Below.drew | apply below_drews); done)))
    (first
      | (go_at_call 23; go_split_ands; (with_reducible refine (C23.out _ ?_).mono ?_); (focus ((repeat first | assumption | exact hD.out _ | exact Below.refl _ _ | apply Below.drew | apply below_drews); done)); rintro e w1 ⟨rfl, hb⟩; have hb1 := below_more (w := w6) (by (repeat first | assumption | exact hD.out _ | exact Below.refl _ _ | apply Below.drew | apply below_drews)) hb; clear hb)
      | (go_at_call 24; go_split_ands; (with_reducible refine (C24.out _ ?_).mono ?_); (focus ((repeat first | assumption | exact hD.out _ | exact Below.refl _ _ | apply Below.drew | apply below_drews); done)); rintro e w1 ⟨rfl, hb⟩; have hb1 := below_more (w := w6) (by (repeat first | assumption | exact hD.out _ | exact Below.refl _ _ | apply Below.drew | apply below_drews)) hb; clear hb)
      | (go_at_call 25; go_split_ands; (with_reducible refine (C25.out _ ?_).mono ?_); (focus ((repeat first | assumption | exact hD.out _ | exact Below.refl _ _ | apply Below.drew | apply below_drews); done)); rintro e w1 ⟨x1, x2, rfl, hx1, hx2, hb⟩; have hb1 := below_more (w := w6) (by (repeat first | assumption | exact hD.out _ | exact Below.refl _ _ | apply Below.drew | apply below_drews)) hb; clear hb)
      | (go_at_call 14; go_split_ands; (with_reducible refine (C14.out _ _ _ ?_ ?_ ?_).mono ?_); (focus ((repeat first | assumption | exact hD.out _ | exact Below.refl _ _ | apply Below.drew | apply below_drews); done)); assumption; assumption; rintro e w1 ⟨rfl, hb⟩; have hb1 := below_more (w := w6) (by (repeat first | assumption | exact hD.out _ | exact Below.refl _ _ | apply Below.drew | apply below_drews)) hb; clear hb))
  all_goals
    go_wp2_with fail
    go_ret
    exact ⟨rfl, below_more G7.out (by assumption)⟩

theorem walk {w : World} {v : Value} (S : List Sp) (T : List St) (n a b : Int) (h : Cs w v S T n a b) (mk : Int) (hm1 : -9223372036854775808 ≤ mk) (hm2 : mk ≤ 9223372036854775807) :
    Calls Try.prog 7 #[v, .int .i64 mk] w fun e w' => e = .returned (.bool true) ∧ Below w.heap.size w w' := by
  obtain ⟨⟨sv, tv, rfl, hS, hT⟩, gn, ga, gb⟩ := h
  cases hk : askB S T n a b with
  | false => exact walk_no sv tv S T n a b hS hT gn ga gb hk mk hm1 hm2
  | true => exact walk_yes sv tv S T n a b hS hT gn ga gb hk mk hm1 hm2

set_option maxRecDepth 100000 in
theorem lifted (os : Os) (started : os.Started) (H : Type) (enc : TypeId × Value → H) :
    ReturnsInHanded {} Try.checked os 7 .any (Rows.marksDropSpec.pre6 enc Try.prog Try.f7 Rows.marksDropRow.domain false) (Rows.marksDropSpec.post enc Try.prog Try.f7 false true false false) := by
  refine returnsInHanded_of_change (C := Try.checked) own started (by kernel_rfl) Try.func7
    (ChangeSpec.witness6 (enc := enc) (C := Try.checked) false ⟨#[], #[.agg #[.slice none 0 0, .slice none 0 0, .int .i64 0, .int .i64 0, .int .i64 0], .int .i64 0], []⟩ 8 (by kernel_rfl) (by kernel_rfl) (by kernel_rfl) (by kernel_rfl)) ?_
  intro W base args ds gs before hval0 hW hcnd _
  have hval : ∀ (j : Nat) t v, Try.f7.params[j]? = some t → args[j]? = some v → Value.okWide Try.prog W .any base t v := hval0
  have hread : ∀ t ∈ Try.f7.params.toList, Try.prog.readableRec t = true ∧ t < Try.prog.types.size := by
    have : (Try.f7.params.toList.all fun t => Try.prog.readableRec t && decide (t < Try.prog.types.size)) = true := by kernel_rfl
    intro t ht
    have := List.all_eq_true.1 this t ht
    simpa using this
  refine law_contract (P := Try.prog) (s := Rows.marksDropSpec) (fn := Try.f7) (tb := 4) laidOut rfl hread rfl Try.underlying4 (fun W' => okWide_bool_mk Try.underlying4 _) ?_ hW ?_
  · intro ds hds
    rw [Try.params7] at hds
    match ds, hds with
    | [d0, d1], _ => rfl
  intro pl hA
  rw [Try.params7] at hA hval
  obtain ⟨v0, vs0, d0, ds0, p0, q0, hargs, rfl, hp0, h0, r0⟩ := trodAll_cons hA
  obtain ⟨v1, vs1, d1, ds1, p1, q1, rfl, rfl, hp1, h1, r1⟩ := trodAll_cons r0
  obtain ⟨rfl, rfl, hpe⟩ := trodAll_nil r1
  obtain rfl : args = #[v0, v1] := by cases args; simp_all
  obtain ⟨S, T, n, a, b, hC⟩ := open_case (hval 0 33 v0 rfl rfl) h0
  obtain ⟨mk, rfl, rfl, _, hw1⟩ := open_int Try.underlying3 (hval 1 3 v1 rfl rfl) h1
  have hb1 : -9223372036854775808 ≤ mk ∧ mk ≤ 9223372036854775807 := by simpa [Lit.wf, IntKind.min, IntKind.max, IntKind.signed, IntKind.bits] using hw1
  exact walk S T n a b hC mk hb1.1 hb1.2

theorem over : Rows.marksDropRow.holds Try.pinned (OpenSpec.ofChange Rows.marksDropSpec) :=
  OpenClaim.holds_of_wide 7 Try.f7 rfl rfl rfl rfl rfl rfl rfl ⟨rfl, rfl, rfl, rfl, rfl⟩ rfl rfl rfl rfl rfl (by kernel_rfl) Try.func7 (by kernel_rfl)
    (of_decide_eq_true (by kernel_rfl)) (by unfold Func.isWrapper; first | (rw [if_pos (by decide +kernel)]; kernel_rfl) | (rw [if_neg (by decide +kernel)]; exact ⟨rfl, rfl⟩))
    (fun os started H enc _ => lifted os started H enc)

/-- The statement. -/
theorem proved : Rows.MarksDropSaid :=
  over
#print axioms proved
end Go.Proofs.Ytkbadhkjhkmlfaa.marksDrop
