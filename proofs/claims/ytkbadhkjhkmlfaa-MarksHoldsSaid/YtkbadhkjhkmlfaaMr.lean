/- Contracts: what may be asked; the same marks (of the laws of marks). -/
import Derived.Test.YtkbadhkjhkmlfaaMl
set_option linter.unusedVariables false
namespace Go.Proofs.Ytkbadhkjhkmlfaa.Rig
open Go.RowKit Go.Lib Go.Proofs.Ytkbadhkjhkmlfaa.Rt

theorem cell_set_ne {w : World} {B i b o : Nat} {u : Value} (h : b ≠ B) : (w.setCell ⟨B, i, none⟩ u).cell? ⟨b, o, none⟩ = w.cell? ⟨b, o, none⟩ :=
  World.cell?_of_block (w := w) (a := ⟨b, o, none⟩) (Below.heap_setCell w ⟨B, i, none⟩ u b (by exact h))

def okP (ls lt : Nat) (n a b : Int) : Prop := 0 ≤ n ∧ n ≤ 2000 ∧ 0 ≤ a ∧ a ≤ b ∧ b ≤ n ∧ ls ≤ 2000 ∧ lt ≤ 300
instance (ls lt : Nat) (n a b : Int) : Decidable (okP ls lt n a b) := by unfold okP; infer_instance
def okB (ls lt : Nat) (n a b : Int) : Bool := decide (okP ls lt n a b)
def askB (S : List Sp) (T : List St) (n a b : Int) : Bool := okB S.length T.length n a b && mrightB S T n

set_option maxRecDepth 100000 in
set_option maxHeartbeats 8000000 in
theorem ask_any {sv tv : Value} {S : List Sp} {T : List St} (n a b : Int) (w : World) (hS : Spans w sv S) (hT : Sites w tv T) (hn : i64 n) (ha : i64 a) (hb : i64 b) :
    Calls Try.prog 13 #[.agg #[sv, tv, .int .i64 n, .int .i64 a, .int .i64 b]] w fun e w' => e = .returned (.tuple #[.agg #[sv, tv], .agg #[sv, tv], .bool (askB S T n a b)]) ∧ Below w.heap.size w w' := by
  obtain ⟨W0, hW0⟩ : ∃ W0, W0 = ((w.alloc (.cells #[sv, tv, .int .i64 n, .int .i64 a, .int .i64 b] 33)).alloc (.cells #[.slice none 0 0, .slice none 0 0] 28)).alloc (.cells #[.slice none 0 0, .slice none 0 0] 30) := ⟨_, rfl⟩
  have b0 : Below w.heap.size w W0 := by rw [hW0]; exact (((Below.refl _ _).alloc (Nat.le_refl _) _).alloc (by simp) _).alloc (by simp; omega) _
  have r0 : W0.heap[w.heap.size]? = some (.cells #[sv, tv, .int .i64 n, .int .i64 a, .int .i64 b] 33 (0, 0)) := by rw [hW0]; simp only [alloc_at, World.size_alloc]; repeat (first | rw [if_pos (by first | trivial | omega)] | rw [if_neg (by omega)])
  have r1 : W0.heap[w.heap.size + 1]? = some (.cells #[.slice none 0 0, .slice none 0 0] 28 (0, 0)) := by rw [hW0]; simp only [alloc_at, World.size_alloc]; repeat (first | rw [if_pos (by first | trivial | omega)] | rw [if_neg (by omega)])
  have r2 : W0.heap[w.heap.size + 1 + 1]? = some (.cells #[.slice none 0 0, .slice none 0 0] 30 (0, 0)) := by rw [hW0]; simp only [alloc_at, World.size_alloc]; repeat (first | rw [if_pos (by first | trivial | omega)] | rw [if_neg (by omega)])
  have l0 : W0.heap.size = w.heap.size + 1 + 1 + 1 := by rw [hW0]; simp
  obtain ⟨W1, hW1⟩ : ∃ W1, W1 = W0.alloc (.cells #[sv, tv] 30) := ⟨_, rfl⟩
  have b1 : Below W0.heap.size W0 W1 := by rw [hW1]; exact (Below.refl _ _).alloc (Nat.le_refl _) _
  have r3 : W1.heap[w.heap.size + 1 + 1 + 1]? = some (.cells #[sv, tv] 30 (0, 0)) := by rw [hW1, ← l0]; exact heap_alloc_new _ _
  have l1 : W1.heap.size = w.heap.size + 1 + 1 + 1 + 1 := by rw [hW1]; simp; omega
  have CR : Hid (∀ w', Below W1.heap.size W1 w' → Calls Try.prog 11 #[.agg #[sv, tv], .int .i64 n] w' fun e w'' => e = .returned (.bool (mrightB S T n)) ∧ Below w'.heap.size w' w'') := fun w' hb =>
    rmright_any n w' (((hS.below b0 (Nat.le_refl _)).below b1 (Nat.le_refl _)).below hb (Nat.le_refl _)) (((hT.below b0 (Nat.le_refl _)).below b1 (Nat.le_refl _)).below hb (Nat.le_refl _)) hn
  obtain ⟨sa, sc, rfl⟩ := hS.is_slice
  obtain ⟨ta, tc, rfl⟩ := hT.is_slice
  have AK : Hid (askB S T n a b = (okB S.length T.length n a b && mrightB S T n)) := rfl
  generalize S.length = ls at *
  generalize T.length = lt at *
  generalize askB S T n a b = ak at *
  generalize mrightB S T n = mr at *
  have HX : Hid (∀ w', Below W1.heap.size W1 w' → w'.cell? ⟨w.heap.size, 0, none⟩ = some (.slice sa ls sc) ∧ w'.cell? ⟨w.heap.size, 1, none⟩ = some (.slice ta lt tc) ∧ w'.cell? ⟨w.heap.size, 2, none⟩ = some (.int .i64 n) ∧ w'.cell? ⟨w.heap.size + 1 + 1 + 1, 0, none⟩ = some (.slice sa ls sc) ∧ w'.cell? ⟨w.heap.size + 1 + 1 + 1, 1, none⟩ = some (.slice ta lt tc)) := fun w' hb => by
    have q0 : w'.heap[w.heap.size]? = some (.cells #[.slice sa ls sc, .slice ta lt tc, .int .i64 n, .int .i64 a, .int .i64 b] 33 (0, 0)) := by rw [hb.block _ (by omega), b1.block _ (by omega)]; exact r0
    have q3 : w'.heap[w.heap.size + 1 + 1 + 1]? = some (.cells #[.slice sa ls sc, .slice ta lt tc] 30 (0, 0)) := by rw [hb.block _ (by omega)]; exact r3
    exact ⟨by rw [cell_of_row _ _ _ _ _ _ q0]; rfl, by rw [cell_of_row _ _ _ _ _ _ q0]; rfl, by rw [cell_of_row _ _ _ _ _ _ q0]; rfl, by rw [cell_of_row _ _ _ _ _ _ q3]; rfl, by rw [cell_of_row _ _ _ _ _ _ q3]; rfl⟩
  have HR : Hid (∀ w', Below W1.heap.size W1 w' → w'.heap[w.heap.size + 1]? = some (.cells #[.slice none 0 0, .slice none 0 0] 28 (0, 0)) ∧ w'.heap[w.heap.size + 1 + 1]? = some (.cells #[.slice none 0 0, .slice none 0 0] 30 (0, 0))) := fun w' hb => by
    exact ⟨by rw [hb.block _ (by omega), b1.block _ (by omega)]; exact r1, by rw [hb.block _ (by omega), b1.block _ (by omega)]; exact r2⟩
  obtain ⟨n1, n2⟩ := hn
  obtain ⟨a1, a2⟩ := ha
  obtain ⟨e1, e2⟩ := hb
  have c0 : W0.cell? ⟨w.heap.size, 0, none⟩ = some (.slice sa ls sc) := by rw [cell_of_row _ _ _ _ _ _ r0]; rfl
  have c1 : W0.cell? ⟨w.heap.size, 1, none⟩ = some (.slice ta lt tc) := by rw [cell_of_row _ _ _ _ _ _ r0]; rfl
  have c2 : W0.cell? ⟨w.heap.size, 2, none⟩ = some (.int .i64 n) := by rw [cell_of_row _ _ _ _ _ _ r0]; rfl
  have c3 : W0.cell? ⟨w.heap.size, 3, none⟩ = some (.int .i64 a) := by rw [cell_of_row _ _ _ _ _ _ r0]; rfl
  have c4 : W0.cell? ⟨w.heap.size, 4, none⟩ = some (.int .i64 b) := by rw [cell_of_row _ _ _ _ _ _ r0]; rfl
  have HW0 := Lib.hid hW0
  have HW1 := Lib.hid hW1
  have L0 := Lib.hid l0
  have L1 := Lib.hid l1
  have B1 := Lib.hid ((b0.trans (b1.mono (by omega))))
  clear hS hT hW0 hW1 b0 b1 r0 r1 r2 r3 l0 l1
  go_enter Try.func13, Try.ntmps13
  go_upto_region 1 with fail
  rw [← HW0.out]
  go_cut [5] (fun s wx => s = .bool (okB ls lt n a b) ∧ wx = W0)
  case first =>
    by_cases q1 : 0 ≤ n
    · by_cases q2 : n ≤ 2000
      · by_cases q3 : 0 ≤ a
        · by_cases q4 : a ≤ b
          · by_cases q5 : b ≤ n
            · by_cases q6 : ls ≤ 2000
              · have d6 : decide (ls ≤ 2000) = true := by simpa using q6
                by_cases q7 : lt ≤ 300
                · have E : Hid (okB ls lt n a b = true) := decide_eq_true ⟨q1, q2, q3, q4, q5, q6, q7⟩
                  have d7 : decide ((lt : Int) ≤ 300) = true := by simp; omega
                  go_wp2_with fail
                  go_meet
                  case rel => exact ⟨congrArg Value.bool E.out.symm, rfl⟩
                · have E : Hid (okB ls lt n a b = false) := decide_eq_false (fun hc => q7 hc.2.2.2.2.2.2)
                  have d7 : decide ((lt : Int) ≤ 300) = false := by simp; omega
                  go_wp2_with fail
                  go_meet
                  case rel => exact ⟨congrArg Value.bool E.out.symm, rfl⟩
              · have E : Hid (okB ls lt n a b = false) := decide_eq_false (fun hc => q6 hc.2.2.2.2.2.1)
                have d6 : decide (ls ≤ 2000) = false := by simpa using q6
                go_wp2_with fail
                go_meet
                case rel => exact ⟨congrArg Value.bool E.out.symm, rfl⟩
            · have E : Hid (okB ls lt n a b = false) := decide_eq_false (fun hc => q5 hc.2.2.2.2.1)
              go_wp2_with fail
              go_meet
              case rel => exact ⟨congrArg Value.bool E.out.symm, rfl⟩
          · have E : Hid (okB ls lt n a b = false) := decide_eq_false (fun hc => q4 hc.2.2.2.1)
            go_wp2_with fail
            go_meet
            case rel => exact ⟨congrArg Value.bool E.out.symm, rfl⟩
        · have E : Hid (okB ls lt n a b = false) := decide_eq_false (fun hc => q3 hc.2.2.1)
          go_wp2_with fail
          go_meet
          case rel => exact ⟨congrArg Value.bool E.out.symm, rfl⟩
      · have E : Hid (okB ls lt n a b = false) := decide_eq_false (fun hc => q2 hc.2.1)
        go_wp2_with fail
        go_meet
        case rel => exact ⟨congrArg Value.bool E.out.symm, rfl⟩
    · have E : Hid (okB ls lt n a b = false) := decide_eq_false (fun hc => q1 hc.1)
      go_wp2_with fail
      go_meet
      case rel => exact ⟨congrArg Value.bool E.out.symm, rfl⟩
  case rest =>
    obtain ⟨rfl, rfl⟩ := hcut
    generalize okB ls lt n a b = ok at *
    have s0 := L0.out
    cases ok with
    | false =>
      have AE : Hid (ak = false) := AK.out.trans (Bool.false_and _)
      clear AK CR
      go_wp2_with fail
      rw [← HW1.out]
      obtain ⟨x0, x1, x2, x3, x4⟩ := HX.out W1 (Below.refl _ _)
      obtain ⟨y1, y2⟩ := HR.out W1 (Below.refl _ _)
      have f0 : W1.frozen? ⟨w.heap.size + 1, 0, none⟩ = false := block_frozen y1
      have f1 : W1.frozen? ⟨w.heap.size + 1, 1, none⟩ = false := block_frozen y1
      have f2 : W1.frozen? ⟨w.heap.size + 1 + 1, 0, none⟩ = false := block_frozen y2
      have f3 : W1.frozen? ⟨w.heap.size + 1 + 1, 1, none⟩ = false := block_frozen y2
      have v0 : W1.cell? ⟨w.heap.size + 1, 0, none⟩ = some (.slice none 0 0) := by rw [cell_of_row _ _ _ _ _ _ y1]; rfl
      have v1 : W1.cell? ⟨w.heap.size + 1, 1, none⟩ = some (.slice none 0 0) := by rw [cell_of_row _ _ _ _ _ _ y1]; rfl
      have v2 : W1.cell? ⟨w.heap.size + 1 + 1, 0, none⟩ = some (.slice none 0 0) := by rw [cell_of_row _ _ _ _ _ _ y2]; rfl
      have v3 : W1.cell? ⟨w.heap.size + 1 + 1, 1, none⟩ = some (.slice none 0 0) := by rw [cell_of_row _ _ _ _ _ _ y2]; rfl
      have r2' : ((W1.setCell ⟨w.heap.size + 1, 0, none⟩ (.slice sa ls sc)).setCell ⟨w.heap.size + 1, 1, none⟩ (.slice ta lt tc)).heap[w.heap.size + 1 + 1]? = some (.cells #[.slice none 0 0, .slice none 0 0] 30 (0, 0)) := by
        rw [Below.heap_setCell _ _ _ _ (by show w.heap.size + 1 + 1 ≠ w.heap.size + 1; omega), Below.heap_setCell _ _ _ _ (by show w.heap.size + 1 + 1 ≠ w.heap.size + 1; omega)]
        exact y2
      obtain ⟨z0, z1⟩ := res_cells (a1 := sa) (n1 := ls) (c1 := sc) (a2 := ta) (n2 := lt) (c2 := tc) y1
      obtain ⟨z2, z3⟩ := res_cells (a1 := sa) (n1 := ls) (c1 := sc) (a2 := ta) (n2 := lt) (c2 := tc) r2'
      clear y1 y2 r2' HX HR s0 L0
      go_region
      go_wp2_with fail
      refine bodyPost_ret (v := .tuple #[.agg #[.slice sa ls sc, .slice ta lt tc], .agg #[.slice sa ls sc, .slice ta lt tc], .bool false]) (by simp [results, Try.results13, go_sem, z0, z1, z2, z3]) rfl ⟨by rw [AE.out], ?_⟩
      exact ((((B1.out.setCell (p := ⟨w.heap.size + 1, 0, none⟩) (by show w.heap.size ≤ w.heap.size + 1; omega) _).setCell (p := ⟨w.heap.size + 1, 1, none⟩) (by show w.heap.size ≤ w.heap.size + 1; omega) _).setCell (p := ⟨w.heap.size + 1 + 1, 0, none⟩) (by show w.heap.size ≤ w.heap.size + 1 + 1; omega) _).setCell (p := ⟨w.heap.size + 1 + 1, 1, none⟩) (by show w.heap.size ≤ w.heap.size + 1 + 1; omega) _).drew
    | true =>
      have AE : Hid (ak = mr) := AK.out.trans (Bool.true_and _)
      have AFT : Hid (∀ w1, Below W1.heap.size W1 w1 → (w1.cell? ⟨w.heap.size, 0, none⟩ = some (.slice sa ls sc) ∧ w1.cell? ⟨w.heap.size, 1, none⟩ = some (.slice ta lt tc) ∧ w1.cell? ⟨w.heap.size, 2, none⟩ = some (.int .i64 n) ∧ w1.cell? ⟨w.heap.size + 1 + 1 + 1, 0, none⟩ = some (.slice sa ls sc) ∧ w1.cell? ⟨w.heap.size + 1 + 1 + 1, 1, none⟩ = some (.slice ta lt tc)) ∧
          (w1.frozen? ⟨w.heap.size + 1, 0, none⟩ = false ∧ w1.frozen? ⟨w.heap.size + 1, 1, none⟩ = false ∧ w1.frozen? ⟨w.heap.size + 1 + 1, 0, none⟩ = false ∧ w1.frozen? ⟨w.heap.size + 1 + 1, 1, none⟩ = false) ∧
          (w1.cell? ⟨w.heap.size + 1, 0, none⟩ = some (.slice none 0 0) ∧ w1.cell? ⟨w.heap.size + 1, 1, none⟩ = some (.slice none 0 0) ∧ w1.cell? ⟨w.heap.size + 1 + 1, 0, none⟩ = some (.slice none 0 0) ∧ w1.cell? ⟨w.heap.size + 1 + 1, 1, none⟩ = some (.slice none 0 0)) ∧
          Hid (w1.heap[w.heap.size + 1]? = some (.cells #[.slice none 0 0, .slice none 0 0] 28 (0, 0)) ∧ w1.heap[w.heap.size + 1 + 1]? = some (.cells #[.slice none 0 0, .slice none 0 0] 30 (0, 0)) ∧ Below w.heap.size w w1)) := fun w1 h1 => by
        obtain ⟨y1, y2⟩ := HR.out w1 h1
        exact ⟨HX.out w1 h1, ⟨block_frozen y1, block_frozen y1, block_frozen y2, block_frozen y2⟩, ⟨by rw [cell_of_row _ _ _ _ _ _ y1]; rfl, by rw [cell_of_row _ _ _ _ _ _ y1]; rfl, by rw [cell_of_row _ _ _ _ _ _ y2]; rfl, by rw [cell_of_row _ _ _ _ _ _ y2]; rfl⟩, y1, y2, below_more B1.out h1 (by have := L1.out; omega)⟩
      have KS : Hid (∀ (W : World) (B i : Nat) (u : Value), B ≠ w.heap.size → B ≠ w.heap.size + 1 + 1 + 1 → (W.cell? ⟨w.heap.size, 0, none⟩ = some (.slice sa ls sc) ∧ W.cell? ⟨w.heap.size, 1, none⟩ = some (.slice ta lt tc) ∧ W.cell? ⟨w.heap.size, 2, none⟩ = some (.int .i64 n) ∧ W.cell? ⟨w.heap.size + 1 + 1 + 1, 0, none⟩ = some (.slice sa ls sc) ∧ W.cell? ⟨w.heap.size + 1 + 1 + 1, 1, none⟩ = some (.slice ta lt tc)) → ((W.setCell ⟨B, i, none⟩ u).cell? ⟨w.heap.size, 0, none⟩ = some (.slice sa ls sc) ∧ (W.setCell ⟨B, i, none⟩ u).cell? ⟨w.heap.size, 1, none⟩ = some (.slice ta lt tc) ∧ (W.setCell ⟨B, i, none⟩ u).cell? ⟨w.heap.size, 2, none⟩ = some (.int .i64 n) ∧ (W.setCell ⟨B, i, none⟩ u).cell? ⟨w.heap.size + 1 + 1 + 1, 0, none⟩ = some (.slice sa ls sc) ∧ (W.setCell ⟨B, i, none⟩ u).cell? ⟨w.heap.size + 1 + 1 + 1, 1, none⟩ = some (.slice ta lt tc))) := fun W B i u e1 e2 ⟨h0, h1, h2, h3, h4⟩ => by
        refine ⟨?_, ?_, ?_, ?_, ?_⟩ <;> (rw [cell_set_ne (by omega)]; assumption)
      have KD : Hid (∀ W : World, (W.cell? ⟨w.heap.size, 0, none⟩ = some (.slice sa ls sc) ∧ W.cell? ⟨w.heap.size, 1, none⟩ = some (.slice ta lt tc) ∧ W.cell? ⟨w.heap.size, 2, none⟩ = some (.int .i64 n) ∧ W.cell? ⟨w.heap.size + 1 + 1 + 1, 0, none⟩ = some (.slice sa ls sc) ∧ W.cell? ⟨w.heap.size + 1 + 1 + 1, 1, none⟩ = some (.slice ta lt tc)) → (W.drew.cell? ⟨w.heap.size, 0, none⟩ = some (.slice sa ls sc) ∧ W.drew.cell? ⟨w.heap.size, 1, none⟩ = some (.slice ta lt tc) ∧ W.drew.cell? ⟨w.heap.size, 2, none⟩ = some (.int .i64 n) ∧ W.drew.cell? ⟨w.heap.size + 1 + 1 + 1, 0, none⟩ = some (.slice sa ls sc) ∧ W.drew.cell? ⟨w.heap.size + 1 + 1 + 1, 1, none⟩ = some (.slice ta lt tc))) := fun W h => h
      have hD : Hid (Below W1.heap.size W1 W1.drew) := (Below.refl _ _).drew
      clear AK
      go_wp2_with fail
      rw [← HW1.out]
      obtain ⟨x0, x1, x2, x3, x4⟩ := HX.out W1 (Below.refl _ _)
      clear HX HR L0 s0 c0 c1 c2 c3 c4
      go_region_held3 (fun w' => w'.cell? ⟨w.heap.size, 0, none⟩ = some (.slice sa ls sc) ∧ w'.cell? ⟨w.heap.size, 1, none⟩ = some (.slice ta lt tc) ∧ w'.cell? ⟨w.heap.size, 2, none⟩ = some (.int .i64 n) ∧ w'.cell? ⟨w.heap.size + 1 + 1 + 1, 0, none⟩ = some (.slice sa ls sc) ∧ w'.cell? ⟨w.heap.size + 1 + 1 + 1, 1, none⟩ = some (.slice ta lt tc))
        (((repeat (first | exact ⟨t0, t1, t2, t3, t4⟩ | exact ⟨x0, x1, x2, x3, x4⟩ | refine KS.out _ _ _ _ (by omega) (by omega) ?_ | refine KD.out _ ?_)); done))
        ((go_at_call 11; refine (CR.out _ ?_).mono ?_; (first | exact hD.out | exact Below.refl _ _); rintro e w1 ⟨rfl, hb⟩; have hb1 := below_more hD.out hb; clear hb; obtain ⟨⟨t0, t1, t2, t3, t4⟩, ⟨f0, f1, f2, f3⟩, ⟨v0, v1, v2, v3⟩, HY⟩ := AFT.out w1 hb1; clear hb1))
      go_wp2_with fail
      all_goals
        obtain ⟨y1, y2, hbw⟩ := HY.out
        have r2' : ((w1.setCell ⟨w.heap.size + 1, 0, none⟩ (.slice sa ls sc)).setCell ⟨w.heap.size + 1, 1, none⟩ (.slice ta lt tc)).heap[w.heap.size + 1 + 1]? = some (.cells #[.slice none 0 0, .slice none 0 0] 30 (0, 0)) := by
          rw [Below.heap_setCell _ _ _ _ (by show w.heap.size + 1 + 1 ≠ w.heap.size + 1; omega), Below.heap_setCell _ _ _ _ (by show w.heap.size + 1 + 1 ≠ w.heap.size + 1; omega)]
          exact y2
        obtain ⟨z0, z1⟩ := res_cells (a1 := sa) (n1 := ls) (c1 := sc) (a2 := ta) (n2 := lt) (c2 := tc) y1
        obtain ⟨z2, z3⟩ := res_cells (a1 := sa) (n1 := ls) (c1 := sc) (a2 := ta) (n2 := lt) (c2 := tc) r2'
        refine bodyPost_ret (v := .tuple #[.agg #[.slice sa ls sc, .slice ta lt tc], .agg #[.slice sa ls sc, .slice ta lt tc], .bool mr]) (by simp [results, Try.results13, go_sem, z0, z1, z2, z3]) rfl ⟨by rw [AE.out], ?_⟩
        exact ((((hbw.setCell (p := ⟨w.heap.size + 1, 0, none⟩) (by show w.heap.size ≤ w.heap.size + 1; omega) _).setCell (p := ⟨w.heap.size + 1, 1, none⟩) (by show w.heap.size ≤ w.heap.size + 1; omega) _).setCell (p := ⟨w.heap.size + 1 + 1, 0, none⟩) (by show w.heap.size ≤ w.heap.size + 1 + 1; omega) _).setCell (p := ⟨w.heap.size + 1 + 1, 1, none⟩) (by show w.heap.size ≤ w.heap.size + 1 + 1; omega) _)

/-- The same marks. -/
theorem same_any {s1 s2 t1 t2 : Value} {S : List Sp} {T : List St} (w : World) (h1 : Spans w s1 S) (h2 : Sites w t1 T) (h3 : Spans w s2 S) (h4 : Sites w t2 T) :
    Calls Try.prog 14 #[.agg #[s1, t1], .agg #[s2, t2]] w fun e w' => e = .returned (.bool true) ∧ Below w.heap.size w w' := by
  have b0 : Below w.heap.size w ((w.alloc (.cells #[s1, t1] 28)).alloc (.cells #[s2, t2] 30)) := ((Below.refl _ _).alloc (Nat.le_refl _) _).alloc (by simp) _
  have C := Lib.hid (msame_any _ (h1.below b0 (Nat.le_refl _)) (h3.below b0 (Nat.le_refl _)) (h2.below b0 (Nat.le_refl _)) (h4.below b0 (Nat.le_refl _)))
  have B0 := Lib.hid b0
  obtain ⟨a1, c1, rfl⟩ := h1.is_slice
  obtain ⟨a2, c2, rfl⟩ := h2.is_slice
  obtain ⟨a3, c3, rfl⟩ := h3.is_slice
  obtain ⟨a4, c4, rfl⟩ := h4.is_slice
  generalize S.length = ls at *
  generalize T.length = lt at *
  clear h1 h2 h3 h4 b0
  go_enter Try.func14, Try.ntmps14
  go_wp2_with fail
  refine C.out.mono ?_
  rintro e w' ⟨rfl, hb⟩
  have HB := Lib.hid (below_more B0.out hb)
  clear hb
  go_wp2_with fail
  go_ret
  exact ⟨rfl, HB.out⟩
end Go.Proofs.Ytkbadhkjhkmlfaa.Rig
