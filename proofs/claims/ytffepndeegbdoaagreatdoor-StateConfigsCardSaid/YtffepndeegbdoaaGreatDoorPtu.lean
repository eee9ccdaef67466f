/- Salt: the program's turn. -/
import Derived.Test.YtffepndeegbdoaaGreatDoorPro
import Derived.BigQuiet
import Derived.Deep.RegionHeld3
set_option linter.unusedVariables false
set_option linter.unusedSimpArgs false
set_option maxRecDepth 100000
namespace Go.Proofs.YtffepndeegbdoaaGreatDoor.Slt
open Go.RowKit Go.Lib Go.Proofs.YtffepndeegbdoaaGreatDoor.Bx

theorem put8 {w : World} {B : Nat} {ty : TypeId} {c0 c1 c2 c3 c4 c5 c6 c7 : Value} (a0 a1 a2 a3 a4 a5 a6 a7 : Value) (h : w.heap[B]? = some (.cells #[c0, c1, c2, c3, c4, c5, c6, c7] ty (0, 0))) : ((((((((w.setCell ⟨B, 0, none⟩ a0).setCell ⟨B, 1, none⟩ a1).setCell ⟨B, 2, none⟩ a2).setCell ⟨B, 3, none⟩ a3).setCell ⟨B, 4, none⟩ a4).setCell ⟨B, 5, none⟩ a5).setCell ⟨B, 6, none⟩ a6).setCell ⟨B, 7, none⟩ a7).heap[B]? = some (.cells #[a0, a1, a2, a3, a4, a5, a6, a7] ty (0, 0)) := by
  rw [set_block (set_block (set_block (set_block (set_block (set_block (set_block (set_block h)))))))]
  simp only [List.setIfInBounds_toArray, List.set_cons_zero, List.set_cons_succ]
theorem put8_below {W w : World} {A B : Nat} (a0 a1 a2 a3 a4 a5 a6 a7 : Value) (h : Below A W w) (hC : A ≤ B) : Below A W ((((((((w.setCell ⟨B, 0, none⟩ a0).setCell ⟨B, 1, none⟩ a1).setCell ⟨B, 2, none⟩ a2).setCell ⟨B, 3, none⟩ a3).setCell ⟨B, 4, none⟩ a4).setCell ⟨B, 5, none⟩ a5).setCell ⟨B, 6, none⟩ a6).setCell ⟨B, 7, none⟩ a7) := below_put (below_put (below_put (below_put (below_put (below_put (below_put (below_put h hC _) hC _) hC _) hC _) hC _) hC _) hC _) hC _
theorem info8 : (Tryz.prog.info? 73).map (·.size) = some 8 := by kernel_rfl
theorem p_drews {B : Nat} {a w : World} (h : Below B a w) (n : Nat) : Below B a (w.drewN n) := ⟨h.os, h.tape, h.output, h.size, h.block⟩
theorem p_one {v4 v5 v6 : Nat} {v7 x : Nat} (h4 : v4 < 4294967296) (h5 : v5 < 4294967296) (h6 : v6 < 4294967296) :
    ((v7 : Int) + bits .xor .u32 (bits .xor .u32 ((turnN v4 6 : Nat) : Int) ((turnN v4 11 : Nat) : Int)) ((turnN v4 25 : Nat) : Int) + bits .or .u32 (bits .and .u32 (v4 : Int) (v5 : Int)) (bits .and .u32 (bits .xor .u32 IntKind.u32.max (v4 : Int)) (v6 : Int)) + (x : Int)) % 4294967296 = ((add32 (add32 (add32 v7 (big1 v4)) ((v4 &&& v5) ||| (not32 v4 &&& v6))) x : Nat) : Int) := by
  rw [not_bits h4, big1_bits h4, cho_bits h4 h5 h6]
  unfold add32
  omega
theorem p_two {v0 v1 v2 : Nat} (h0 : v0 < 4294967296) (h1 : v1 < 4294967296) (h2 : v2 < 4294967296) :
    (bits .xor .u32 (bits .xor .u32 ((turnN v0 2 : Nat) : Int) ((turnN v0 13 : Nat) : Int)) ((turnN v0 22 : Nat) : Int) + bits .or .u32 (bits .or .u32 (bits .and .u32 (v0 : Int) (v1 : Int)) (bits .and .u32 (v0 : Int) (v2 : Int))) (bits .and .u32 (v1 : Int) (v2 : Int))) % 4294967296 = ((add32 (big0 v0) (((v0 &&& v1) ||| (v0 &&& v2)) ||| (v1 &&& v2)) : Nat) : Int) := two_bits h0 h1 h2
theorem pturn8 (v0 v1 v2 v3 v4 v5 v6 v7 x : Nat) (w : World) (u0 : v0 < 4294967296) (u1 : v1 < 4294967296) (u2 : v2 < 4294967296) (u4 : v4 < 4294967296) (u5 : v5 < 4294967296) (u6 : v6 < 4294967296) : Calls Tryz.prog 97 #[.agg #[.int .u32 (v0 : Nat), .int .u32 (v1 : Nat), .int .u32 (v2 : Nat), .int .u32 (v3 : Nat), .int .u32 (v4 : Nat), .int .u32 (v5 : Nat), .int .u32 (v6 : Nat), .int .u32 (v7 : Nat)], .int .u32 (x : Nat)] w fun e w' => e = .returned (.agg (toC .u32 (stepV [v0, v1, v2, v3, v4, v5, v6, v7] (add32 (add32 (add32 v7 (big1 v4)) ((v4 &&& v5) ||| (not32 v4 &&& v6))) x) (twoN [v0, v1, v2, v3, v4, v5, v6, v7])))) ∧ Below w.heap.size w w' := by
  obtain ⟨one, hone⟩ : ∃ one, one = add32 (add32 (add32 v7 (big1 v4)) ((v4 &&& v5) ||| (not32 v4 &&& v6))) x := ⟨_, rfl⟩
  obtain ⟨two, htwo⟩ : ∃ two, two = twoN [v0, v1, v2, v3, v4, v5, v6, v7] := ⟨_, rfl⟩
  rw [← hone, ← htwo]
  have HONE := Lib.hid hone
  have HTWO := Lib.hid htwo
  clear hone htwo
  have T6 : Hid (∀ w', Calls Tryz.prog 113 #[.int .u32 (v4 : Nat), .int .i64 6] w' fun e w'' => e = .returned (.int .u32 (turnN v4 6 : Nat)) ∧ Below w'.heap.size w' w'') := fun w' => rot_any v4 6 w' u4 (by decide) (by decide)
  have T11 : Hid (∀ w', Calls Tryz.prog 113 #[.int .u32 (v4 : Nat), .int .i64 11] w' fun e w'' => e = .returned (.int .u32 (turnN v4 11 : Nat)) ∧ Below w'.heap.size w' w'') := fun w' => rot_any v4 11 w' u4 (by decide) (by decide)
  have T25 : Hid (∀ w', Calls Tryz.prog 113 #[.int .u32 (v4 : Nat), .int .i64 25] w' fun e w'' => e = .returned (.int .u32 (turnN v4 25 : Nat)) ∧ Below w'.heap.size w' w'') := fun w' => rot_any v4 25 w' u4 (by decide) (by decide)
  have T2 : Hid (∀ w', Calls Tryz.prog 113 #[.int .u32 (v0 : Nat), .int .i64 2] w' fun e w'' => e = .returned (.int .u32 (turnN v0 2 : Nat)) ∧ Below w'.heap.size w' w'') := fun w' => rot_any v0 2 w' u0 (by decide) (by decide)
  have T13 : Hid (∀ w', Calls Tryz.prog 113 #[.int .u32 (v0 : Nat), .int .i64 13] w' fun e w'' => e = .returned (.int .u32 (turnN v0 13 : Nat)) ∧ Below w'.heap.size w' w'') := fun w' => rot_any v0 13 w' u0 (by decide) (by decide)
  have T22 : Hid (∀ w', Calls Tryz.prog 113 #[.int .u32 (v0 : Nat), .int .i64 22] w' fun e w'' => e = .returned (.int .u32 (turnN v0 22 : Nat)) ∧ Below w'.heap.size w' w'') := fun w' => rot_any v0 22 w' u0 (by decide) (by decide)
  go_enter Tryz.func97, Tryz.ntmps97
  go_upto_region 1 with fail
  obtain ⟨N, hN⟩ : ∃ N, N = w.heap.size := ⟨_, rfl⟩
  obtain ⟨W1, hW1⟩ : ∃ W1, W1 = (w.alloc (.cells #[.int .u32 (v0 : Nat), .int .u32 (v1 : Nat), .int .u32 (v2 : Nat), .int .u32 (v3 : Nat), .int .u32 (v4 : Nat), .int .u32 (v5 : Nat), .int .u32 (v6 : Nat), .int .u32 (v7 : Nat)] 73)).alloc (.cells #[.int .u32 0, .int .u32 0, .int .u32 0, .int .u32 0, .int .u32 0, .int .u32 0, .int .u32 0, .int .u32 0] 73) := ⟨_, rfl⟩
  rw [← hW1, ← hN]
  have H1 : W1.heap[N]? = some (.cells #[.int .u32 (v0 : Nat), .int .u32 (v1 : Nat), .int .u32 (v2 : Nat), .int .u32 (v3 : Nat), .int .u32 (v4 : Nat), .int .u32 (v5 : Nat), .int .u32 (v6 : Nat), .int .u32 (v7 : Nat)] 73 (0, 0)) := by
    rw [hW1, hN, heap_alloc2_old]
  have H2 : Hid (W1.heap[N + 1]? = some (.cells #[.int .u32 0, .int .u32 0, .int .u32 0, .int .u32 0, .int .u32 0, .int .u32 0, .int .u32 0, .int .u32 0] 73 (0, 0))) := by
    show _ = _
    rw [hW1, hN, heap_alloc2_new]
  have HB : Hid (Below w.heap.size w W1) := by rw [hW1]; exact below_al (below_al (Below.refl _ _) _) _
  have HS : Hid (W1.heap.size = N + 2) := by show _ = _; rw [hW1, hN]; simp
  have c0 : W1.cell? ⟨N, 0, none⟩ = some (.int .u32 (v0 : Nat)) := by rw [cell_of_row _ _ _ _ _ _ H1]; rfl
  have c1 : W1.cell? ⟨N, 1, none⟩ = some (.int .u32 (v1 : Nat)) := by rw [cell_of_row _ _ _ _ _ _ H1]; rfl
  have c2 : W1.cell? ⟨N, 2, none⟩ = some (.int .u32 (v2 : Nat)) := by rw [cell_of_row _ _ _ _ _ _ H1]; rfl
  have c3 : W1.cell? ⟨N, 3, none⟩ = some (.int .u32 (v3 : Nat)) := by rw [cell_of_row _ _ _ _ _ _ H1]; rfl
  have c4 : W1.cell? ⟨N, 4, none⟩ = some (.int .u32 (v4 : Nat)) := by rw [cell_of_row _ _ _ _ _ _ H1]; rfl
  have c5 : W1.cell? ⟨N, 5, none⟩ = some (.int .u32 (v5 : Nat)) := by rw [cell_of_row _ _ _ _ _ _ H1]; rfl
  have c6 : W1.cell? ⟨N, 6, none⟩ = some (.int .u32 (v6 : Nat)) := by rw [cell_of_row _ _ _ _ _ _ H1]; rfl
  have c7 : W1.cell? ⟨N, 7, none⟩ = some (.int .u32 (v7 : Nat)) := by rw [cell_of_row _ _ _ _ _ _ H1]; rfl
  have HN := Lib.hid hN
  clear hW1 H1 hN
  go_quiet (fail)
  obtain ⟨W2, hW2⟩ : ∃ W2, W2 = W1.drewN nq := ⟨_, rfl⟩
  rw [← hW2]
  have H3 : Hid (W2.heap[N + 1]? = some (.cells #[.int .u32 0, .int .u32 0, .int .u32 0, .int .u32 0, .int .u32 0, .int .u32 0, .int .u32 0, .int .u32 0] 73 (0, 0))) := by rw [hW2]; exact H2
  have HB2 : Hid (Below w.heap.size w W2) := by rw [hW2]; exact p_drews HB.out _
  have HS2 : Hid (W2.heap.size = N + 2) := by rw [hW2]; exact HS
  have HQ : Hid (Below W2.heap.size W2 W2) := Below.refl _ _
  clear hW2 c0 c1 c2 c3 c4 c5 c6 c7 H2 HB HS
  go_upto_region 2 with fail
  go_cut [13] from 31 to 52 (fun a wx => a = .int .u32 (one : Nat) ∧ Hid (Below W2.heap.size W2 wx))
  case first =>
    go_wp2_with fail
    refine (T6.out _).mono ?_
    rintro e wcT6 ⟨rfl, bT6⟩
    replace HQ := Lib.hid (below_on HQ.out bT6)
    clear bT6
    go_wp2_with fail
    refine (T11.out _).mono ?_
    rintro e wcT11 ⟨rfl, bT11⟩
    replace HQ := Lib.hid (below_on HQ.out bT11)
    clear bT11
    go_wp2_with fail
    refine (T25.out _).mono ?_
    rintro e wcT25 ⟨rfl, bT25⟩
    replace HQ := Lib.hid (below_on HQ.out bT25)
    clear bT25
    go_wp2_with fail
    go_meet
    exact ⟨by rw [p_one u4 u5 u6, ← HONE.out], HQ⟩
  case rest =>
    obtain ⟨rfl, HQ2⟩ := hcut
    clear HQ
    go_upto_region 3 with fail
    go_cut [14] from 52 to 72 (fun a wx => a = .int .u32 (two : Nat) ∧ Hid (Below W2.heap.size W2 wx))
    case first =>
      go_wp2_with fail
      refine (T2.out _).mono ?_
      rintro e wcT2 ⟨rfl, bT2⟩
      replace HQ2 := Lib.hid (below_on HQ2.out bT2)
      clear bT2
      go_wp2_with fail
      refine (T13.out _).mono ?_
      rintro e wcT13 ⟨rfl, bT13⟩
      replace HQ2 := Lib.hid (below_on HQ2.out bT13)
      clear bT13
      go_wp2_with fail
      refine (T22.out _).mono ?_
      rintro e wcT22 ⟨rfl, bT22⟩
      replace HQ2 := Lib.hid (below_on HQ2.out bT22)
      clear bT22
      go_wp2_with fail
      go_meet
      exact ⟨by rw [p_two u0 u1 u2]; exact congrArg _ (congrArg _ HTWO.out.symm), HQ2⟩
    case rest =>
      obtain ⟨rfl, HQ3⟩ := hcut
      clear HQ2
      have HBL : wc.heap[N + 1]? = some (.cells #[.int .u32 0, .int .u32 0, .int .u32 0, .int .u32 0, .int .u32 0, .int .u32 0, .int .u32 0, .int .u32 0] 73 (0, 0)) := (HQ3.out.block _ (by have := HS2.out; omega)).trans H3.out
      have c0 : wc.cell? ⟨N + 1, 0, none⟩ = some (.int .u32 0) := by rw [cell_of_row _ _ _ _ _ _ HBL]; rfl
      have f0 : wc.frozen? ⟨N + 1, 0, none⟩ = false := free_at HBL
      have c1 : wc.cell? ⟨N + 1, 1, none⟩ = some (.int .u32 0) := by rw [cell_of_row _ _ _ _ _ _ HBL]; rfl
      have f1 : wc.frozen? ⟨N + 1, 1, none⟩ = false := free_at HBL
      have c2 : wc.cell? ⟨N + 1, 2, none⟩ = some (.int .u32 0) := by rw [cell_of_row _ _ _ _ _ _ HBL]; rfl
      have f2 : wc.frozen? ⟨N + 1, 2, none⟩ = false := free_at HBL
      have c3 : wc.cell? ⟨N + 1, 3, none⟩ = some (.int .u32 0) := by rw [cell_of_row _ _ _ _ _ _ HBL]; rfl
      have f3 : wc.frozen? ⟨N + 1, 3, none⟩ = false := free_at HBL
      have c4 : wc.cell? ⟨N + 1, 4, none⟩ = some (.int .u32 0) := by rw [cell_of_row _ _ _ _ _ _ HBL]; rfl
      have f4 : wc.frozen? ⟨N + 1, 4, none⟩ = false := free_at HBL
      have c5 : wc.cell? ⟨N + 1, 5, none⟩ = some (.int .u32 0) := by rw [cell_of_row _ _ _ _ _ _ HBL]; rfl
      have f5 : wc.frozen? ⟨N + 1, 5, none⟩ = false := free_at HBL
      have c6 : wc.cell? ⟨N + 1, 6, none⟩ = some (.int .u32 0) := by rw [cell_of_row _ _ _ _ _ _ HBL]; rfl
      have f6 : wc.frozen? ⟨N + 1, 6, none⟩ = false := free_at HBL
      have c7 : wc.cell? ⟨N + 1, 7, none⟩ = some (.int .u32 0) := by rw [cell_of_row _ _ _ _ _ _ HBL]; rfl
      have f7 : wc.frozen? ⟨N + 1, 7, none⟩ = false := free_at HBL
      have HBL2 := Lib.hid HBL
      clear HBL
      go_upto_region 4 with fail
      go_wp2_with fail
      rw [madd32, madd32]
      have HV := put8 (.int .u32 ((add32 one two : Nat) : Int)) (.int .u32 (v0 : Nat)) (.int .u32 (v1 : Nat)) (.int .u32 (v2 : Nat)) (.int .u32 ((add32 v3 one : Nat) : Int)) (.int .u32 (v4 : Nat)) (.int .u32 (v5 : Nat)) (.int .u32 (v6 : Nat)) HBL2.out
      refine bodyPost_ret (v := .agg (toC .u32 (stepV [v0, v1, v2, v3, v4, v5, v6, v7] one two))) ?_ rfl ⟨rfl, put8_below _ _ _ _ _ _ _ _ (below_on HB2.out HQ3.out) (by rw [HN.out]; omega)⟩
      exact results_cell_row rfl _ _ (N + 1) _ _ _ _ rfl HV Tryz.underlying73 rfl info8
end Go.Proofs.YtffepndeegbdoaaGreatDoor.Slt
