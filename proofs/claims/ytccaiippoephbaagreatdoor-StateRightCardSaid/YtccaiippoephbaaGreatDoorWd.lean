/- Salt: the program's rotated. -/
import Derived.Test.YtccaiippoephbaaGreatDoorWc
import Derived.BigQuiet
import Derived.Deep.RegionHeld3
set_option linter.unusedVariables false
set_option linter.unusedSimpArgs false
set_option maxRecDepth 100000
namespace Go.Proofs.YtccaiippoephbaaGreatDoor.Slt
open Go.RowKit Go.Lib Go.Proofs.YtccaiippoephbaaGreatDoor.Bx

theorem neg_and31 {n : Nat} (h1 : 1 ≤ n) (h2 : n ≤ 31) : bits .and .u64 (IntKind.u64.wrap (-(n : Int))) 31 = ((32 - n : Nat) : Int) := by
  have : n = 1 ∨ n = 2 ∨ n = 3 ∨ n = 4 ∨ n = 5 ∨ n = 6 ∨ n = 7 ∨ n = 8 ∨ n = 9 ∨ n = 10 ∨ n = 11 ∨ n = 12 ∨ n = 13 ∨ n = 14 ∨ n = 15 ∨ n = 16 ∨ n = 17 ∨ n = 18 ∨ n = 19 ∨ n = 20 ∨ n = 21 ∨ n = 22 ∨ n = 23 ∨ n = 24 ∨ n = 25 ∨ n = 26 ∨ n = 27 ∨ n = 28 ∨ n = 29 ∨ n = 30 ∨ n = 31 := by omega
  rcases this with rfl | rfl | rfl | rfl | rfl | rfl | rfl | rfl | rfl | rfl | rfl | rfl | rfl | rfl | rfl | rfl | rfl | rfl | rfl | rfl | rfl | rfl | rfl | rfl | rfl | rfl | rfl | rfl | rfl | rfl | rfl <;> decide +kernel
theorem rotl_any (x n : Nat) (w : World) (hx : x < 4294967296) (h1 : 1 ≤ n) (h2 : n ≤ 31) : Calls Tryz.prog 139 #[.int .u32 (x : Nat), .int .i64 (-(n : Int))] w fun e w' => e = .returned (.int .u32 (turnN x n : Nat)) ∧ Below w.heap.size w w' := by
  have e1 : (x : Int) / 2 ^ n = ((x / 2 ^ n : Nat) : Int) := by rw [Int.natCast_ediv, Int.natCast_pow]; rfl
  have e2 : (x : Int) * 2 ^ (32 - n) % 4294967296 = ((x * 2 ^ (32 - n) % 4294967296 : Nat) : Int) := by rw [Int.natCast_emod, Int.natCast_mul, Int.natCast_pow]; rfl
  have E : Hid (bits .or .u32 ((x : Int) * 2 ^ (32 - n) % 4294967296) ((x : Int) / 2 ^ n) = (turnN x n : Nat)) := by
    show _ = _
    rw [e1, e2]
    unfold turnN
    rw [Nat.or_comm]
    exact or32 (Nat.mod_lt _ (by decide)) (Nat.lt_of_le_of_lt (Nat.div_le_self _ _) hx)
  have NA := neg_and31 h1 h2
  clear e1 e2
  go_enter Tryz.func139, Tryz.ntmps139
  go_wp2_with fail
  have e3 : 32 - (32 - n) = n := by omega
  rw [e3]
  go_ret
  exact ⟨by rw [← E.out]; rfl, Below.refl _ _⟩
theorem rot_any (x n : Nat) (w : World) (hx : x < 4294967296) (h1 : 1 ≤ n) (h2 : n ≤ 31) : Calls Tryz.prog 110 #[.int .u32 (x : Nat), .int .i64 (n : Nat)] w fun e w' => e = .returned (.int .u32 (turnN x n : Nat)) ∧ Below w.heap.size w w' := by
  have C := Lib.hid (rotl_any x n w hx h1 h2)
  go_enter Tryz.func110, Tryz.ntmps110
  go_wp2_with fail
  refine C.out.mono ?_
  rintro e w1 ⟨rfl, b1⟩
  go_wp2_with fail
  go_ret
  exact ⟨rfl, b1⟩
end Go.Proofs.YtccaiippoephbaaGreatDoor.Slt
/- Salt: the program's turn. -/
set_option linter.unusedVariables false
set_option linter.unusedSimpArgs false
set_option maxRecDepth 100000
namespace Go.Proofs.YtccaiippoephbaaGreatDoor.Slt
open Go.RowKit Go.Lib Go.Proofs.YtccaiippoephbaaGreatDoor.Bx

theorem put8 {w : World} {B : Nat} {ty : TypeId} {c0 c1 c2 c3 c4 c5 c6 c7 : Value} (a0 a1 a2 a3 a4 a5 a6 a7 : Value) (h : w.heap[B]? = some (.cells #[c0, c1, c2, c3, c4, c5, c6, c7] ty (0, 0))) : ((((((((w.setCell ⟨B, 0, none⟩ a0).setCell ⟨B, 1, none⟩ a1).setCell ⟨B, 2, none⟩ a2).setCell ⟨B, 3, none⟩ a3).setCell ⟨B, 4, none⟩ a4).setCell ⟨B, 5, none⟩ a5).setCell ⟨B, 6, none⟩ a6).setCell ⟨B, 7, none⟩ a7).heap[B]? = some (.cells #[a0, a1, a2, a3, a4, a5, a6, a7] ty (0, 0)) := by
  rw [set_block (set_block (set_block (set_block (set_block (set_block (set_block (set_block h)))))))]
  simp only [List.setIfInBounds_toArray, List.set_cons_zero, List.set_cons_succ]
theorem put8_below {W w : World} {A B : Nat} (a0 a1 a2 a3 a4 a5 a6 a7 : Value) (h : Below A W w) (hC : A ≤ B) : Below A W ((((((((w.setCell ⟨B, 0, none⟩ a0).setCell ⟨B, 1, none⟩ a1).setCell ⟨B, 2, none⟩ a2).setCell ⟨B, 3, none⟩ a3).setCell ⟨B, 4, none⟩ a4).setCell ⟨B, 5, none⟩ a5).setCell ⟨B, 6, none⟩ a6).setCell ⟨B, 7, none⟩ a7) := below_put (below_put (below_put (below_put (below_put (below_put (below_put (below_put h hC _) hC _) hC _) hC _) hC _) hC _) hC _) hC _
theorem info8 : (Tryz.prog.info? 85).map (·.size) = some 8 := by kernel_rfl
theorem p_drews {B : Nat} {a w : World} (h : Below B a w) (n : Nat) : Below B a (w.drewN n) := ⟨h.os, h.tape, h.output, h.size, h.block⟩
theorem p_one {v4 v5 v6 : Nat} {v7 x : Nat} (h4 : v4 < 4294967296) (h5 : v5 < 4294967296) (h6 : v6 < 4294967296) :
    ((v7 : Int) + bits .xor .u32 (bits .xor .u32 ((turnN v4 6 : Nat) : Int) ((turnN v4 11 : Nat) : Int)) ((turnN v4 25 : Nat) : Int) + bits .or .u32 (bits .and .u32 (v4 : Int) (v5 : Int)) (bits .and .u32 (bits .xor .u32 IntKind.u32.max (v4 : Int)) (v6 : Int)) + (x : Int)) % 4294967296 = ((add32 (add32 (add32 v7 (big1 v4)) ((v4 &&& v5) ||| (not32 v4 &&& v6))) x : Nat) : Int) := by
  rw [not_bits h4, big1_bits h4, cho_bits h4 h5 h6]
  unfold add32
  omega
theorem p_two {v0 v1 v2 : Nat} (h0 : v0 < 4294967296) (h1 : v1 < 4294967296) (h2 : v2 < 4294967296) :
    (bits .xor .u32 (bits .xor .u32 ((turnN v0 2 : Nat) : Int) ((turnN v0 13 : Nat) : Int)) ((turnN v0 22 : Nat) : Int) + bits .or .u32 (bits .or .u32 (bits .and .u32 (v0 : Int) (v1 : Int)) (bits .and .u32 (v0 : Int) (v2 : Int))) (bits .and .u32 (v1 : Int) (v2 : Int))) % 4294967296 = ((add32 (big0 v0) (((v0 &&& v1) ||| (v0 &&& v2)) ||| (v1 &&& v2)) : Nat) : Int) := two_bits h0 h1 h2
theorem pturn8 (v0 v1 v2 v3 v4 v5 v6 v7 x : Nat) (w : World) (u0 : v0 < 4294967296) (u1 : v1 < 4294967296) (u2 : v2 < 4294967296) (u4 : v4 < 4294967296) (u5 : v5 < 4294967296) (u6 : v6 < 4294967296) : Calls Tryz.prog 92 #[.agg #[.int .u32 (v0 : Nat), .int .u32 (v1 : Nat), .int .u32 (v2 : Nat), .int .u32 (v3 : Nat), .int .u32 (v4 : Nat), .int .u32 (v5 : Nat), .int .u32 (v6 : Nat), .int .u32 (v7 : Nat)], .int .u32 (x : Nat)] w fun e w' => e = .returned (.agg (toC .u32 (stepV [v0, v1, v2, v3, v4, v5, v6, v7] (add32 (add32 (add32 v7 (big1 v4)) ((v4 &&& v5) ||| (not32 v4 &&& v6))) x) (twoN [v0, v1, v2, v3, v4, v5, v6, v7])))) ∧ Below w.heap.size w w' := by
  obtain ⟨one, hone⟩ : ∃ one, one = add32 (add32 (add32 v7 (big1 v4)) ((v4 &&& v5) ||| (not32 v4 &&& v6))) x := ⟨_, rfl⟩
  obtain ⟨two, htwo⟩ : ∃ two, two = twoN [v0, v1, v2, v3, v4, v5, v6, v7] := ⟨_, rfl⟩
  rw [← hone, ← htwo]
  have HONE := Lib.hid hone
  have HTWO := Lib.hid htwo
  clear hone htwo
  have T6 : Hid (∀ w', Calls Tryz.prog 110 #[.int .u32 (v4 : Nat), .int .i64 6] w' fun e w'' => e = .returned (.int .u32 (turnN v4 6 : Nat)) ∧ Below w'.heap.size w' w'') := fun w' => rot_any v4 6 w' u4 (by decide) (by decide)
  have T11 : Hid (∀ w', Calls Tryz.prog 110 #[.int .u32 (v4 : Nat), .int .i64 11] w' fun e w'' => e = .returned (.int .u32 (turnN v4 11 : Nat)) ∧ Below w'.heap.size w' w'') := fun w' => rot_any v4 11 w' u4 (by decide) (by decide)
  have T25 : Hid (∀ w', Calls Tryz.prog 110 #[.int .u32 (v4 : Nat), .int .i64 25] w' fun e w'' => e = .returned (.int .u32 (turnN v4 25 : Nat)) ∧ Below w'.heap.size w' w'') := fun w' => rot_any v4 25 w' u4 (by decide) (by decide)
  have T2 : Hid (∀ w', Calls Tryz.prog 110 #[.int .u32 (v0 : Nat), .int .i64 2] w' fun e w'' => e = .returned (.int .u32 (turnN v0 2 : Nat)) ∧ Below w'.heap.size w' w'') := fun w' => rot_any v0 2 w' u0 (by decide) (by decide)
  have T13 : Hid (∀ w', Calls Tryz.prog 110 #[.int .u32 (v0 : Nat), .int .i64 13] w' fun e w'' => e = .returned (.int .u32 (turnN v0 13 : Nat)) ∧ Below w'.heap.size w' w'') := fun w' => rot_any v0 13 w' u0 (by decide) (by decide)
  have T22 : Hid (∀ w', Calls Tryz.prog 110 #[.int .u32 (v0 : Nat), .int .i64 22] w' fun e w'' => e = .returned (.int .u32 (turnN v0 22 : Nat)) ∧ Below w'.heap.size w' w'') := fun w' => rot_any v0 22 w' u0 (by decide) (by decide)
  go_enter Tryz.func92, Tryz.ntmps92
  go_upto_region 1 with fail
  obtain ⟨N, hN⟩ : ∃ N, N = w.heap.size := ⟨_, rfl⟩
  obtain ⟨W1, hW1⟩ : ∃ W1, W1 = (w.alloc (.cells #[.int .u32 (v0 : Nat), .int .u32 (v1 : Nat), .int .u32 (v2 : Nat), .int .u32 (v3 : Nat), .int .u32 (v4 : Nat), .int .u32 (v5 : Nat), .int .u32 (v6 : Nat), .int .u32 (v7 : Nat)] 85)).alloc (.cells #[.int .u32 0, .int .u32 0, .int .u32 0, .int .u32 0, .int .u32 0, .int .u32 0, .int .u32 0, .int .u32 0] 85) := ⟨_, rfl⟩
  rw [← hW1, ← hN]
  have H1 : W1.heap[N]? = some (.cells #[.int .u32 (v0 : Nat), .int .u32 (v1 : Nat), .int .u32 (v2 : Nat), .int .u32 (v3 : Nat), .int .u32 (v4 : Nat), .int .u32 (v5 : Nat), .int .u32 (v6 : Nat), .int .u32 (v7 : Nat)] 85 (0, 0)) := by
    rw [hW1, hN, heap_alloc2_old]
  have H2 : Hid (W1.heap[N + 1]? = some (.cells #[.int .u32 0, .int .u32 0, .int .u32 0, .int .u32 0, .int .u32 0, .int .u32 0, .int .u32 0, .int .u32 0] 85 (0, 0))) := by
    show _ = _
    rw [hW1, hN, heap_alloc2_new]
  have HB : Hid (Below w.heap.size w W1) := by rw [hW1]; exact below_al (below_al (Below.refl _ _) _) _
  have HS : Hid (W1.heap.size = N + 2) := by show _ = _; rw [hW1, hN]; simp
  have c0 : W1.cell? ⟨N, 0, none⟩ = some (.int .u32 (v0 : Nat)) := by rw [cell_of_row _ _ _ _ _ _ H1]; rfl
  have c1 : W1.cell? ⟨N, 1, none⟩ = some (.int .u32 (v1 : Nat)) := by rw [cell_of_row _ _ _ _ _ _ H1]; rfl
  have c2 : W1.cell? ⟨N, 2, none⟩ = some (.int .u32 (v2 : Nat)) := by rw [cell_of_row _ _ _ _ _ _ H1]; rfl
  have c3 : W1.cell? ⟨N, 3, none⟩ = some (.int .u32 (v3 : Nat)) := by rw [cell_of_row _ _ _ _ _ _ H1]; rfl
  have c4 : W1.cell? ⟨N, 4, none⟩ = some (.int .u32 (v4 : Nat)) := by rw [cell_of_row _ _ _ _ _ _ H1]; rfl
  have c5 : W1.cell? ⟨N, 5, none⟩ = some (.int .u32 (v5 : Nat)) := by rw [cell_of_row _ _ _ _ _ _ H1]; rfl
  have c6 : W1.cell? ⟨N, 6, none⟩ = some (.int .u32 (v6 : Nat)) := by rw [cell_of_row _ _ _ _ _ _ H1]; rfl
  have c7 : W1.cell? ⟨N, 7, none⟩ = some (.int .u32 (v7 : Nat)) := by rw [cell_of_row _ _ _ _ _ _ H1]; rfl
  have HN := Lib.hid hN
  clear hW1 H1 hN
  go_quiet (fail)
  obtain ⟨W2, hW2⟩ : ∃ W2, W2 = W1.drewN nq := ⟨_, rfl⟩
  rw [← hW2]
  have H3 : Hid (W2.heap[N + 1]? = some (.cells #[.int .u32 0, .int .u32 0, .int .u32 0, .int .u32 0, .int .u32 0, .int .u32 0, .int .u32 0, .int .u32 0] 85 (0, 0))) := by rw [hW2]; exact H2
  have HB2 : Hid (Below w.heap.size w W2) := by rw [hW2]; exact p_drews HB.out _
  have HS2 : Hid (W2.heap.size = N + 2) := by rw [hW2]; exact HS
  have HQ : Hid (Below W2.heap.size W2 W2) := Below.refl _ _
  clear hW2 c0 c1 c2 c3 c4 c5 c6 c7 H2 HB HS
  go_upto_region 2 with fail
  go_cut [13] from 31 to 52 (fun a wx => a = .int .u32 (one : Nat) ∧ Hid (Below W2.heap.size W2 wx))
  case first =>
    go_wp2_with fail
    refine (T6.out _).mono ?_
    rintro e wcT6 ⟨rfl, bT6⟩
    replace HQ := Lib.hid (below_on HQ.out bT6)
    clear bT6
    go_wp2_with fail
    refine (T11.out _).mono ?_
    rintro e wcT11 ⟨rfl, bT11⟩
    replace HQ := Lib.hid (below_on HQ.out bT11)
    clear bT11
    go_wp2_with fail
    refine (T25.out _).mono ?_
    rintro e wcT25 ⟨rfl, bT25⟩
    replace HQ := Lib.hid (below_on HQ.out bT25)
    clear bT25
    go_wp2_with fail
    go_meet
    exact ⟨by rw [p_one u4 u5 u6, ← HONE.out], HQ⟩
  case rest =>
    obtain ⟨rfl, HQ2⟩ := hcut
    clear HQ
    go_upto_region 3 with fail
    go_cut [14] from 52 to 72 (fun a wx => a = .int .u32 (two : Nat) ∧ Hid (Below W2.heap.size W2 wx))
    case first =>
      go_wp2_with fail
      refine (T2.out _).mono ?_
      rintro e wcT2 ⟨rfl, bT2⟩
      replace HQ2 := Lib.hid (below_on HQ2.out bT2)
      clear bT2
      go_wp2_with fail
      refine (T13.out _).mono ?_
      rintro e wcT13 ⟨rfl, bT13⟩
      replace HQ2 := Lib.hid (below_on HQ2.out bT13)
      clear bT13
      go_wp2_with fail
      refine (T22.out _).mono ?_
      rintro e wcT22 ⟨rfl, bT22⟩
      replace HQ2 := Lib.hid (below_on HQ2.out bT22)
      clear bT22
      go_wp2_with fail
      go_meet
      exact ⟨by rw [p_two u0 u1 u2]; exact congrArg _ (congrArg _ HTWO.out.symm), HQ2⟩
    case rest =>
      obtain ⟨rfl, HQ3⟩ := hcut
      clear HQ2
      have HBL : wc.heap[N + 1]? = some (.cells #[.int .u32 0, .int .u32 0, .int .u32 0, .int .u32 0, .int .u32 0, .int .u32 0, .int .u32 0, .int .u32 0] 85 (0, 0)) := (HQ3.out.block _ (by have := HS2.out; omega)).trans H3.out
      have c0 : wc.cell? ⟨N + 1, 0, none⟩ = some (.int .u32 0) := by rw [cell_of_row _ _ _ _ _ _ HBL]; rfl
      have f0 : wc.frozen? ⟨N + 1, 0, none⟩ = false := free_at HBL
      have c1 : wc.cell? ⟨N + 1, 1, none⟩ = some (.int .u32 0) := by rw [cell_of_row _ _ _ _ _ _ HBL]; rfl
      have f1 : wc.frozen? ⟨N + 1, 1, none⟩ = false := free_at HBL
      have c2 : wc.cell? ⟨N + 1, 2, none⟩ = some (.int .u32 0) := by rw [cell_of_row _ _ _ _ _ _ HBL]; rfl
      have f2 : wc.frozen? ⟨N + 1, 2, none⟩ = false := free_at HBL
      have c3 : wc.cell? ⟨N + 1, 3, none⟩ = some (.int .u32 0) := by rw [cell_of_row _ _ _ _ _ _ HBL]; rfl
      have f3 : wc.frozen? ⟨N + 1, 3, none⟩ = false := free_at HBL
      have c4 : wc.cell? ⟨N + 1, 4, none⟩ = some (.int .u32 0) := by rw [cell_of_row _ _ _ _ _ _ HBL]; rfl
      have f4 : wc.frozen? ⟨N + 1, 4, none⟩ = false := free_at HBL
      have c5 : wc.cell? ⟨N + 1, 5, none⟩ = some (.int .u32 0) := by rw [cell_of_row _ _ _ _ _ _ HBL]; rfl
      have f5 : wc.frozen? ⟨N + 1, 5, none⟩ = false := free_at HBL
      have c6 : wc.cell? ⟨N + 1, 6, none⟩ = some (.int .u32 0) := by rw [cell_of_row _ _ _ _ _ _ HBL]; rfl
      have f6 : wc.frozen? ⟨N + 1, 6, none⟩ = false := free_at HBL
      have c7 : wc.cell? ⟨N + 1, 7, none⟩ = some (.int .u32 0) := by rw [cell_of_row _ _ _ _ _ _ HBL]; rfl
      have f7 : wc.frozen? ⟨N + 1, 7, none⟩ = false := free_at HBL
      have HBL2 := Lib.hid HBL
      clear HBL
      go_upto_region 4 with fail
      go_wp2_with fail
      rw [madd32, madd32]
      have HV := put8 (.int .u32 ((add32 one two : Nat) : Int)) (.int .u32 (v0 : Nat)) (.int .u32 (v1 : Nat)) (.int .u32 (v2 : Nat)) (.int .u32 ((add32 v3 one : Nat) : Int)) (.int .u32 (v4 : Nat)) (.int .u32 (v5 : Nat)) (.int .u32 (v6 : Nat)) HBL2.out
      refine bodyPost_ret (v := .agg (toC .u32 (stepV [v0, v1, v2, v3, v4, v5, v6, v7] one two))) ?_ rfl ⟨rfl, put8_below _ _ _ _ _ _ _ _ (below_on HB2.out HQ3.out) (by rw [HN.out]; omega)⟩
      exact results_cell_row rfl _ _ (N + 1) _ _ _ _ rfl HV Tryz.underlying85 rfl info8
end Go.Proofs.YtccaiippoephbaaGreatDoor.Slt
/- Salt: the program's spread. -/
set_option linter.unusedVariables false
set_option linter.unusedSimpArgs false
set_option maxRecDepth 100000
namespace Go.Proofs.YtccaiippoephbaaGreatDoor.Slt
open Go.RowKit Go.Lib Go.Proofs.YtccaiippoephbaaGreatDoor.Bx

def accN (B : List Nat) (i : Nat) : Nat → Nat
  | 0 => 0
  | j + 1 => accN B i j * 256 % 4294967296 ||| B.getD (i + j) 0
theorem or_add (x b : Nat) (k : Nat) (h : b < 2 ^ k) : x * 2 ^ k ||| b = x * 2 ^ k + b := by
  rw [Nat.mul_comm, Nat.two_pow_add_eq_or_of_lt h]
theorem accN_4 {B : List Nat} (h : B8 B) (i : Nat) : accN B i 4 = wordN B i := by
  have h0 := h i
  have h1 := h (i + 1)
  have h2 := h (i + 2)
  have h3 := h (i + 3)
  unfold wordN
  show (((0 * 256 % 4294967296 ||| B.getD (i + 0) 0) * 256 % 4294967296 ||| B.getD (i + 1) 0) * 256 % 4294967296 ||| B.getD (i + 2) 0) * 256 % 4294967296 ||| B.getD (i + 3) 0 = _
  rw [Nat.add_zero]
  generalize B.getD i 0 = a at *
  generalize B.getD (i + 1) 0 = b at *
  generalize B.getD (i + 2) 0 = c at *
  generalize B.getD (i + 3) 0 = d at *
  have e1 : 0 * 256 % 4294967296 ||| a = a := by simp
  have e2 : a * 256 % 4294967296 ||| b = a * 256 + b := by
    rw [Nat.mod_eq_of_lt (by omega)]
    exact or_add a b 8 (by omega)
  have e3 : (a * 256 + b) * 256 % 4294967296 ||| c = (a * 256 + b) * 256 + c := by
    rw [Nat.mod_eq_of_lt (by omega)]
    exact or_add _ c 8 (by omega)
  have e4 : ((a * 256 + b) * 256 + c) * 256 % 4294967296 ||| d = ((a * 256 + b) * 256 + c) * 256 + d := by
    rw [Nat.mod_eq_of_lt (by omega)]
    exact or_add _ d 8 (by omega)
  rw [e1, e2, e3, e4]
  have g1 : a * 16777216 ||| b * 65536 = (a * 256 + b) * 65536 := by
    rw [show a * 16777216 = a * 2 ^ 24 by omega, or_add a (b * 65536) 24 (by omega)]
    omega
  have g2 : (a * 256 + b) * 65536 ||| c * 256 = ((a * 256 + b) * 256 + c) * 256 := by
    rw [show (a * 256 + b) * 65536 = (a * 256 + b) * 2 ^ 16 by omega, or_add _ (c * 256) 16 (by omega)]
    omega
  have g3 : ((a * 256 + b) * 256 + c) * 256 ||| d = ((a * 256 + b) * 256 + c) * 256 + d := or_add _ d 8 (by omega)
  rw [g1, g2, g3]
theorem sched_zero (B : List Nat) (a : Nat) : ∀ t i, t ≤ i → (sched B a t).getD i 0 = 0
  | 0, i, _ => by
    show (List.replicate 64 0).getD i 0 = 0
    rw [List.getD_eq_getElem?_getD, List.getElem?_replicate]
    split <;> simp
  | t + 1, i, h => by
    rw [sched, getD_set, if_neg (by omega)]
    exact sched_zero B a t i (by omega)
theorem set_self (S : List Nat) (t : Nat) (h : S.getD t 0 = 0) : S.set t 0 = S := by
  apply List.ext_getElem?
  intro i
  rw [List.getElem?_set]
  split
  · rename_i e
    subst e
    rw [List.getD_eq_getElem?_getD] at h
    by_cases hl : t < S.length
    · rw [if_pos hl, List.getElem?_eq_getElem hl] at *
      simp at h
      simp [h]
    · rw [if_neg hl, List.getElem?_eq_none (by omega)]
  · rfl
theorem acc_bits {a b : Nat} (hb : b < 256) : bits .or .u32 ((a : Int) * 256 % 4294967296) (b : Int) = ((a * 256 % 4294967296 ||| b : Nat) : Int) := by
  have e : (a : Int) * 256 % 4294967296 = ((a * 256 % 4294967296 : Nat) : Int) := by rw [Int.natCast_emod, Int.natCast_mul]; rfl
  rw [e]
  exact or32 (Nat.mod_lt _ (by decide)) (by omega)
theorem info64 : (Tryz.prog.info? 153).map (·.size) = some 64 := by kernel_rfl

def Z64 : Array Value := #[.int .u32 0, .int .u32 0, .int .u32 0, .int .u32 0, .int .u32 0, .int .u32 0, .int .u32 0, .int .u32 0, .int .u32 0, .int .u32 0, .int .u32 0, .int .u32 0, .int .u32 0, .int .u32 0, .int .u32 0, .int .u32 0, .int .u32 0, .int .u32 0, .int .u32 0, .int .u32 0, .int .u32 0, .int .u32 0, .int .u32 0, .int .u32 0, .int .u32 0, .int .u32 0, .int .u32 0, .int .u32 0, .int .u32 0, .int .u32 0, .int .u32 0, .int .u32 0, .int .u32 0, .int .u32 0, .int .u32 0, .int .u32 0, .int .u32 0, .int .u32 0, .int .u32 0, .int .u32 0, .int .u32 0, .int .u32 0, .int .u32 0, .int .u32 0, .int .u32 0, .int .u32 0, .int .u32 0, .int .u32 0, .int .u32 0, .int .u32 0, .int .u32 0, .int .u32 0, .int .u32 0, .int .u32 0, .int .u32 0, .int .u32 0, .int .u32 0, .int .u32 0, .int .u32 0, .int .u32 0, .int .u32 0, .int .u32 0, .int .u32 0, .int .u32 0]
theorem Z64_is : Z64 = toC .u32 (List.replicate 64 0) := rfl
theorem und33 : Tryz.prog.underlying 86 = some (.array (Tryz.prog.arrayLen 86) (Tryz.prog.elem 86)) := by kernel_rfl
theorem alen33 : Tryz.prog.arrayLen 86 = 64 := by kernel_rfl
theorem elem33 : Tryz.prog.elem 86 = 5 := by kernel_rfl
theorem size_u8 : (Tryz.prog.info? 5).map (·.size) = some 1 := by kernel_rfl
theorem run_size {t : TypeId} {n : Nat} (h : (Tryz.prog.info? t).map (·.size) = some n) (w : World) : (sizeOf t).run Tryz.prog w = .ok n w := by
  cases hq : Tryz.prog.info? t with
  | none => simp [hq] at h
  | some i =>
    have : i.size = n := by simpa [hq] using h
    simp [sizeOf, typeInfo, hq, this]
theorem slice4 (N t : Nat) (w : World) (h : t < 16) : (Instr.sliceAt 86 (.pointer (some ⟨N, 0, none⟩)) (some (.int .i64 (4 * (t : Int)))) (some (.int .i64 (4 * (t : Int) + 4))) none).run Tryz.prog w = .ok (.slice (some ⟨N, 4 * t, none⟩) 4 (64 - 4 * t)) w := by
  rw [run_sliceAt_array_lh w _ _ und33 _ _ _ _ (by omega) (by omega) (by rw [alen33]; omega), elem33, run_size size_u8, alen33]
  have e1 : (4 * (t : Int)).toNat = 4 * t := by omega
  have e2 : (4 * (t : Int) + 4).toNat = 4 * t + 4 := by omega
  rw [e1, e2]
  have e3 : ¬ (64 = 4 * t) := by omega
  have e4 : 4 * t + 4 - 4 * t = 4 := by omega
  show Result.ok (slicedAt ⟨N, 0, none⟩ (4 * t) (4 * t + 4) 64 1) w = _
  unfold slicedAt
  rw [if_neg e3, e4, Nat.mul_one]
  have hadd : (⟨N, 0, none⟩ : Addr).add (4 * t) = ⟨N, 4 * t, none⟩ := by unfold Addr.add; split <;> simp_all
  rw [hadd]
theorem toC_size (k : IntKind) (l : List Nat) : (toC k l).size = l.length := by unfold toC; simp
theorem toC_one (k : IntKind) (l : List Nat) : (toC k l).all (·.oneCell') = true := by
  rw [Array.all_eq_true_iff_forall_mem]
  intro x hx
  unfold toC at hx
  simp only [List.mem_toArray, List.mem_map] at hx
  obtain ⟨y, _, rfl⟩ := hx
  rfl
theorem below_row {A g : Nat} {W w : World} (h : Below A W w) (hg : A ≤ g) (cs : Array Value) : Below A W (w.setRow g cs) :=
  h.trans ⟨rfl, rfl, rfl, by rw [setRow_size]; exact Nat.le_refl _, fun k hk => setRow_other w g k cs (by omega)⟩
theorem next4 (z a u b : Nat) : ((z : Int) + (a : Int) + (u : Int) + (b : Int)) % 4294967296 = ((add32 (add32 (add32 z a) u) b : Nat) : Int) := by
  unfold add32
  omega
theorem pspread_any (B : List Nat) (w : World) (hl : B.length = 64) (h8 : B8 B) : Calls Tryz.prog 91 #[.agg (toC .u8 B)] w fun e w' => e = .returned (.agg (toC .u32 (sched B 0 64))) ∧ Below w.heap.size w w' := by
  have H8 := Lib.hid h8
  have HL := Lib.hid hl
  clear h8 hl
  go_enter Tryz.func91, Tryz.ntmps91
  go_upto_region 2 with fail
  obtain ⟨N, hN⟩ : ∃ N, N = w.heap.size := ⟨_, rfl⟩
  obtain ⟨W3, hW3⟩ : ∃ W3, W3 = ((w.alloc (.cells (toC .u8 B) 86)).alloc (.cells Z64 153)).alloc (.cells Z64 153) := ⟨_, rfl⟩
  unfold Z64 at hW3
  rw [← hW3, ← hN]
  replace hW3 : W3 = ((w.alloc (.cells (toC .u8 B) 86)).alloc (.cells Z64 153)).alloc (.cells Z64 153) := hW3
  obtain ⟨RB, hRB⟩ : ∃ RB, RB = N + 1 := ⟨_, rfl⟩
  obtain ⟨WB, hWB⟩ : ∃ WB, WB = RB + 1 := ⟨_, rfl⟩
  rw [← hRB, ← hWB]
  have P0 : Hid (W3.heap[N]? = some (.cells (toC .u8 B) 86 (0, 0))) := by
    show _ = _
    rw [hW3, heap_alloc_old _ _ (by simp [hN]; omega), hN, heap_alloc2_old]
  have P1 : Hid (W3.heap[RB]? = some (.cells Z64 153 (0, 0))) := by
    show _ = _
    rw [hW3, hRB, hN, heap_alloc_old _ _ (by simp), heap_alloc2_new]
  have P2 : Hid (W3.heap[WB]? = some (.cells (toC .u32 (sched B 0 0)) 153 (0, 0))) := by
    show _ = _
    rw [hW3, hWB, hRB, hN]
    have := heap_alloc_new ((w.alloc (.cells (toC .u8 B) 86)).alloc (.cells Z64 153)) (.cells Z64 153)
    simp only [World.size_alloc] at this
    rw [this, Z64_is]
    rfl
  have HB : Hid (Below w.heap.size w W3) := by rw [hW3]; exact below_al (below_al (below_al (Below.refl _ _) _) _) _
  have HNN := Lib.hid hN
  have HRB := Lib.hid hRB
  have HWB := Lib.hid hWB
  clear hW3 hN hRB hWB
  go_wp2_with fail
  go_loopg [12] 16 (fun g i_ wr => ∃ t : Nat, t ≤ 16 ∧ 16 - t ≤ g ∧ i_ = .int .i64 t ∧ Hid (wr.heap[WB]? = some (.cells (toC .u32 (sched B 0 t)) 153 (0, 0))) ∧ Below WB W3 wr)
  case atStart => exact ⟨0, by omega, by omega, rfl, P2, Below.refl _ _⟩
  case round =>
    obtain ⟨t, ht, hg, rfl, HS, hbel⟩ := hrel
    have HBW := Lib.hid hbel
    by_cases ht16 : t < 16
    · have iw : ((t : Nat) : Int) < 16 := by omega
      have n0 : (0 : Int) ≤ (t : Int) := by omega
      have n1 : (4 : Int) * (t : Int) + 4 ≤ 64 := by omega
      have SE : Hid (sched B 0 (t + 1) = (sched B 0 t).set t (wordN B (4 * t))) := by
        show _ = _
        rw [sched, if_pos ht16, Nat.zero_add]
      have SZ : Hid ((sched B 0 t).set t 0 = sched B 0 t) := set_self _ _ (sched_zero B 0 t t (Nat.le_refl _))
      have HSL : Hid ((sched B 0 t).length = 64) := sched_len _ _ _
      obtain ⟨S, hS⟩ : ∃ S, S = sched B 0 t := ⟨_, rfl⟩
      rw [← hS] at HS SE SZ HSL
      obtain ⟨wo, hwo⟩ : ∃ wo, wo = wr := ⟨_, rfl⟩
      rw [← hwo] at HS HBW ⊢
      clear hS hwo hbel
      have SA := fun w => slice4 N t w ht16
      go_upto_region 5 with fail
      go_wp2_with fail
      clear SA
      go_loopg [22] 4 (fun g j_ wr => ∃ j : Nat, j ≤ 4 ∧ 4 - j ≤ g ∧ j_ = .int .i64 j ∧ Hid (wr.heap[WB]? = some (.cells (toC .u32 (S.set t (accN B (4 * t) j))) 153 (0, 0))) ∧ Below WB W3 wr)
      case atStart => exact ⟨0, by omega, by omega, rfl, by rw [show accN B (4 * t) 0 = 0 from rfl, SZ.out]; exact HS, HBW.out⟩
      case round =>
        obtain ⟨j, hj, hg2, rfl, HS2, hbel⟩ := hrel
        have HB2 := Lib.hid hbel
        by_cases hj4 : j < 4
        · have jw : ((j : Nat) : Int) < 4 := by omega
          have m0 : (0 : Int) ≤ (j : Int) := by omega
          have AE : Hid (accN B (4 * t) (j + 1) = accN B (4 * t) j * 256 % 4294967296 ||| B.getD (4 * t + j) 0) := rfl
          have hb8 := H8.out (4 * t + j)
          have cb : wr.cell? ⟨N, 4 * t + j, none⟩ = some (.int .u8 (B.getD (4 * t + j) 0 : Nat)) := by
            have h1 : wr.heap[N]? = some (.cells (toC .u8 B) 86 (0, 0)) := (hbel.block _ (by rw [HWB.out, HRB.out]; omega)).trans P0.out
            rw [toC_cell h1 (by rw [HL.out]; omega), List.getD_eq_getElem?_getD, List.getElem?_eq_getElem]
            rfl
          have hsl : t < (S.set t (accN B (4 * t) j)).length := by rw [List.length_set, HSL.out]; omega
          have cw := toC_cell HS2.out hsl
          have fw := free_at (i := t) HS2.out
          rw [List.getElem_set_self] at cw
          generalize accN B (4 * t) j = a at *
          generalize B.getD (4 * t + j) 0 = b at *
          clear hbel
          go_wp2_with fail
          go_roundg (4 - (j + 1))
          case measure => omega
          case rel =>
            rw [acc_bits hb8]
            refine ⟨j + 1, by omega, Nat.le_refl _, by go_num, ?_, below_put HB2.out (Nat.le_refl _) _⟩
            show _ = _
            rw [AE.out, set_block HS2.out, toC_set, List.set_set]
        · obtain rfl : j = 4 := by omega
          have jw : ¬ (((4 : Nat) : Int) < 4) := by omega
          rw [accN_4 H8.out, ← SE.out] at HS2
          clear hbel
          go_wp2_with fail
          go_roundg (16 - (t + 1))
          case measure => omega
          case rel => exact ⟨t + 1, by omega, Nat.le_refl _, by go_num, HS2, HB2.out⟩
    · obtain rfl : t = 16 := by omega
      have iw : ¬ (((16 : Nat) : Int) < 16) := by omega
      obtain ⟨wo, hwo⟩ : ∃ wo, wo = wr := ⟨_, rfl⟩
      rw [← hwo] at HS HBW ⊢
      clear hwo hbel
      go_wp2_with fail
      go_loopg [7] 48 (fun g t_ wr => ∃ t : Nat, 16 ≤ t ∧ t ≤ 64 ∧ 64 - t ≤ g ∧ t_ = .int .i64 t ∧ Hid (wr.heap[WB]? = some (.cells (toC .u32 (sched B 0 t)) 153 (0, 0))) ∧ Below WB W3 wr)
      case atStart => exact ⟨16, by omega, by omega, by omega, rfl, HS, HBW.out⟩
      case round =>
        obtain ⟨t, ht16, ht, hg, rfl, HS3, hbel⟩ := hrel
        have HB3 := Lib.hid hbel
        by_cases ht64 : t < 64
        · skip
          have iw : ((t : Nat) : Int) < 64 := by omega
          have SE : Hid (sched B 0 (t + 1) = (sched B 0 t).set t (wNext (sched B 0 t) t)) := by
            show _ = _
            rw [sched, if_neg (by omega)]
          have HSO : Hid (B32 (sched B 0 t)) := sched_ok H8.out _ _
          have HSL : Hid ((sched B 0 t).length = 64) := sched_len _ _ _
          obtain ⟨S, hS⟩ : ∃ S, S = sched B 0 t := ⟨_, rfl⟩
          rw [← hS] at HS3 SE HSO HSL
          obtain ⟨wo, hwo⟩ : ∃ wo, wo = wr := ⟨_, rfl⟩
          rw [← hwo] at HS3 HB3 ⊢
          have hsl : t < S.length := by rw [HSL.out]; exact ht64
          have cx := toC_cell HS3.out (i := t - 15) (by have := HSL.out; omega)
          have cy := toC_cell HS3.out (i := t - 2) (by have := HSL.out; omega)
          have gx : S[t - 15]'(by have := HSL.out; omega) = S.getD (t - 15) 0 := by rw [List.getD_eq_getElem?_getD, List.getElem?_eq_getElem]; rfl
          have gy : S[t - 2]'(by have := HSL.out; omega) = S.getD (t - 2) 0 := by rw [List.getD_eq_getElem?_getD, List.getElem?_eq_getElem]; rfl
          rw [gx] at cx
          rw [gy] at cy
          have bx := HSO.out (t - 15)
          have by_ := HSO.out (t - 2)
          have HWX : Hid (wNext S t = add32 (add32 (add32 (S.getD (t - 16) 0) (small0 (S.getD (t - 15) 0))) (S.getD (t - 7) 0)) (small1 (S.getD (t - 2) 0))) := rfl
          generalize S.getD (t - 15) 0 = x at *
          generalize S.getD (t - 2) 0 = y at *
          have e15 : ((t : Int) - 15).toNat = t - 15 := by omega
          have e2 : ((t : Int) - 2).toNat = t - 2 := by omega
          have n1 : (0 : Int) ≤ (t : Int) - 15 := by omega
          have n2 : (t : Int) - 15 < 64 := by omega
          have n3 : (0 : Int) ≤ (t : Int) - 2 := by omega
          have n4 : (t : Int) - 2 < 64 := by omega
          have n5 : IntKind.i64.wrap ((t : Int) - 15) = (t : Int) - 15 := IntWalk.i64_in _ (by omega)
          have n6 : IntKind.i64.wrap ((t : Int) - 2) = (t : Int) - 2 := IntWalk.i64_in _ (by omega)
          have n7 : (15 : Int) ≤ (t : Int) := by omega
          have n8 : (2 : Int) ≤ (t : Int) := by omega
          have n9 : 15 ≤ t := by omega
          have n10 : 2 ≤ t := by omega
          clear gx gy hbel hS hwo
          go_upto_region 14 with fail
          go_cut [8, 9] from 41 to 49 (fun a b wx => a = .int .u32 (x : Nat) ∧ b = .int .u32 (y : Nat) ∧ Hid (∃ n, wx = wo.drewN n))
          case first =>
            go_quiet (fail)
            go_wp2_with fail
            go_meet
            exact ⟨rfl, rfl, _, rfl⟩
          case rest =>
            obtain ⟨rfl, rfl, HD⟩ := hcut
            have HQ : Hid (Below wo.heap.size wo wc) := by
              obtain ⟨n, rfl⟩ := HD.out
              exact p_drews (Below.refl _ _) n
            clear n1 n2 n3 n4 n5 n6 n7 n8 n9 n10 e15 e2 cx cy HD
            have T7 : Hid (∀ w', Calls Tryz.prog 110 #[.int .u32 (x : Nat), .int .i64 7] w' fun e w'' => e = .returned (.int .u32 (turnN x 7 : Nat)) ∧ Below w'.heap.size w' w'') := fun w' => rot_any x 7 w' bx (by decide) (by decide)
            have T18 : Hid (∀ w', Calls Tryz.prog 110 #[.int .u32 (x : Nat), .int .i64 18] w' fun e w'' => e = .returned (.int .u32 (turnN x 18 : Nat)) ∧ Below w'.heap.size w' w'') := fun w' => rot_any x 18 w' bx (by decide) (by decide)
            have T17 : Hid (∀ w', Calls Tryz.prog 110 #[.int .u32 (y : Nat), .int .i64 17] w' fun e w'' => e = .returned (.int .u32 (turnN y 17 : Nat)) ∧ Below w'.heap.size w' w'') := fun w' => rot_any y 17 w' by_ (by decide) (by decide)
            have T19 : Hid (∀ w', Calls Tryz.prog 110 #[.int .u32 (y : Nat), .int .i64 19] w' fun e w'' => e = .returned (.int .u32 (turnN y 19 : Nat)) ∧ Below w'.heap.size w' w'') := fun w' => rot_any y 19 w' by_ (by decide) (by decide)
            go_upto_region 15 with fail
            go_cut [10] from 49 to 57 (fun a wx => a = .int .u32 (small0 x : Nat) ∧ Hid (Below wo.heap.size wo wx))
            case first =>
              go_wp2_with fail
              refine (T7.out _).mono ?_
              rintro e wcT7 ⟨rfl, bT7⟩
              replace HQ := Lib.hid (below_on HQ.out bT7)
              clear bT7
              go_wp2_with fail
              refine (T18.out _).mono ?_
              rintro e wcT18 ⟨rfl, bT18⟩
              replace HQ := Lib.hid (below_on HQ.out bT18)
              clear bT18
              go_wp2_with fail
              go_meet
              exact ⟨by rw [small0_bits bx], HQ⟩
            case rest =>
              obtain ⟨rfl, HQ2⟩ := hcut
              clear HQ
              go_upto_region 16 with fail
              go_cut [11] from 57 to 65 (fun a wx => a = .int .u32 (small1 y : Nat) ∧ Hid (Below wo.heap.size wo wx))
              case first =>
                go_wp2_with fail
                refine (T17.out _).mono ?_
                rintro e wcT17 ⟨rfl, bT17⟩
                replace HQ2 := Lib.hid (below_on HQ2.out bT17)
                clear bT17
                go_wp2_with fail
                refine (T19.out _).mono ?_
                rintro e wcT19 ⟨rfl, bT19⟩
                replace HQ2 := Lib.hid (below_on HQ2.out bT19)
                clear bT19
                go_wp2_with fail
                go_meet
                exact ⟨by rw [small1_bits by_], HQ2⟩
              case rest =>
                obtain ⟨rfl, HQ3⟩ := hcut
                have HS4 : Hid (wc.heap[WB]? = some (.cells (toC .u32 S) 153 (0, 0))) := (HQ3.out.block _ (Array.getElem?_eq_some_iff.1 HS3.out).1).trans HS3.out
                have HB4 : Hid (Below WB W3 wc) := HB3.out.trans (HQ3.out.mono (Nat.le_of_lt (Array.getElem?_eq_some_iff.1 HS3.out).1))
                have c16 := toC_cell HS4.out (i := t - 16) (by have := HSL.out; omega)
                have c7 := toC_cell HS4.out (i := t - 7) (by have := HSL.out; omega)
                have g16 : S[t - 16]'(by have := HSL.out; omega) = S.getD (t - 16) 0 := by rw [List.getD_eq_getElem?_getD, List.getElem?_eq_getElem]; rfl
                have g7 : S[t - 7]'(by have := HSL.out; omega) = S.getD (t - 7) 0 := by rw [List.getD_eq_getElem?_getD, List.getElem?_eq_getElem]; rfl
                rw [g16] at c16
                rw [g7] at c7
                have cw := toC_cell HS4.out hsl
                have fw := free_at (i := t) HS4.out
                generalize S.getD (t - 16) 0 = z at *
                generalize S.getD (t - 7) 0 = u at *
                have e16 : ((t : Int) - 16).toNat = t - 16 := by omega
                have e7 : ((t : Int) - 7).toNat = t - 7 := by omega
                have n1 : (0 : Int) ≤ (t : Int) - 16 := by omega
                have n2 : (t : Int) - 16 < 64 := by omega
                have n3 : (0 : Int) ≤ (t : Int) - 7 := by omega
                have n4 : (t : Int) - 7 < 64 := by omega
                have n5 : IntKind.i64.wrap ((t : Int) - 16) = (t : Int) - 16 := IntWalk.i64_in _ (by omega)
                have n6 : IntKind.i64.wrap ((t : Int) - 7) = (t : Int) - 7 := IntWalk.i64_in _ (by omega)
                have n7 : (0 : Int) ≤ (t : Int) := by omega
                have n8 : (7 : Int) ≤ (t : Int) := by omega
                have n9 : 7 ≤ t := by omega
                clear HS3 HB3 HQ2 HQ3 T7 T18 T17 T19 g16 g7
                go_upto_region 17 with fail
                go_region
                go_wp2_with fail
                go_roundg (64 - (t + 1))
                case measure => omega
                case rel =>
                  rw [next4, ← HWX.out]
                  refine ⟨t + 1, by omega, by omega, Nat.le_refl _, by go_num, ?_, (below_put HB4.out (Nat.le_refl _) _).drew⟩
                  show _ = _
                  rw [SE.out, ← toC_set]
                  exact set_block HS4.out
        · obtain rfl : t = 64 := by omega
          have iw : ¬ (((64 : Nat) : Int) < 64) := by omega
          clear hbel
          obtain ⟨S, hS⟩ : ∃ S, S = sched B 0 64 := ⟨_, rfl⟩
          have HSE := Lib.hid hS
          have HSL : Hid (S.length = 64) := by rw [hS]; exact sched_len _ _ _
          rw [← hS] at HS3
          clear hS
          have hsz : (toC .u32 S).size = 64 := by rw [toC_size, HSL.out]
          have HP : Hid (wr.heap[RB]? = some (.cells Z64 153 (0, 0))) := (HB3.out.block _ (by rw [HWB.out]; omega)).trans P1.out
          have HZ : Hid ((Tryz.prog.info? 153).map (·.size) = some (toC .u32 S).size) := by show _ = _; rw [hsz]; exact info64
          have HZ2 : Hid (Z64.size = (toC .u32 S).size) := by show _ = _; rw [hsz]; rfl
          clear hsz
          go_upto_region 18 with fail
          refine wp_region_lit ?_
          refine wpList_load_row rfl _ _ rfl WB rfl _ _ _ _ HS3.out Tryz.underlying153 rfl HZ.out ?_
          refine wpList_store_row rfl _ _ _ rfl RB (toC .u32 S) rfl rfl _ _ HP.out HZ.out HZ2.out (toC_one _ _) ?_
          have HF := setRow_heap wr RB Z64 (toC .u32 S) 153 (0, 0) HP.out
          have HFH := Lib.hid HF
          have HLAST : Hid (Below w.heap.size w (wr.setRow RB (toC .u32 S))) := below_row (HB.out.trans (HB3.out.mono (by rw [HWB.out, HRB.out, HNN.out]; omega))) (by rw [HRB.out, HNN.out]; omega) _
          clear HF
          go_wp2_with fail
          refine bodyPost_ret (v := .agg (toC .u32 (sched B 0 64))) ?_ rfl ⟨rfl, HLAST.out⟩
          rw [← HSE.out]
          exact results_cell_row rfl _ _ RB _ _ _ _ rfl HFH.out Tryz.underlying153 rfl HZ.out
end Go.Proofs.YtccaiippoephbaaGreatDoor.Slt
/- Salt: the digest in memory. -/
set_option linter.unusedVariables false
set_option linter.unusedSimpArgs false
set_option maxRecDepth 100000
namespace Go.Proofs.YtccaiippoephbaaGreatDoor.Slt
open Go.RowKit Go.Lib Go.Proofs.YtccaiippoephbaaGreatDoor.Bx

def digL (H B : List Nat) (n : Nat) : List Value := (H.map fun x => Value.int .u32 (x : Nat)) ++ ((B.map fun x => Value.int .u8 (x : Nat)) ++ [.int .u64 (n : Nat)])
def digC (H B : List Nat) (n : Nat) : Array Value := (digL H B n).toArray
/-- A digest in block g: eight numbers, a block of 64 bytes, how many bytes came. -/
def Dig (g : Nat) (w : World) (H B : List Nat) (n : Nat) : Prop := H.length = 8 ∧ B.length = 64 ∧ w.heap[g]? = some (.cells (digC H B n) 89 (0, 0))
theorem Dig.lt {g : Nat} {w : World} {H B : List Nat} {n : Nat} (h : Dig g w H B n) : g < w.heap.size := (Array.getElem?_eq_some_iff.1 h.2.2).1
theorem Dig.kept {g : Nat} {w w' : World} {H B : List Nat} {n : Nat} (h : Dig g w H B n) (he : w'.heap[g]? = w.heap[g]?) : Dig g w' H B n := ⟨h.1, h.2.1, he.trans h.2.2⟩
theorem Dig.below {g : Nat} {w w' : World} {H B : List Nat} {n : Nat} (h : Dig g w H B n) (b : Below w.heap.size w w') : Dig g w' H B n := h.kept (b.block _ h.lt)
theorem dig_h {H B : List Nat} {n i : Nat} (h8 : H.length = 8) (hi : i < 8) : (digL H B n)[i]? = some (.int .u32 (H.getD i 0 : Nat)) := by
  unfold digL
  rw [List.getElem?_append_left (by rw [List.length_map]; omega), List.getElem?_map, List.getD_eq_getElem?_getD, List.getElem?_eq_getElem (by omega)]
  rfl
theorem dig_b {H B : List Nat} {n i : Nat} (h8 : H.length = 8) (hb : B.length = 64) (hi : i < 64) : (digL H B n)[8 + i]? = some (.int .u8 (B.getD i 0 : Nat)) := by
  unfold digL
  rw [List.getElem?_append_right (by rw [List.length_map]; omega), List.length_map, h8, show 8 + i - 8 = i by omega, List.getElem?_append_left (by rw [List.length_map]; omega), List.getElem?_map, List.getD_eq_getElem?_getD, List.getElem?_eq_getElem (by omega)]
  rfl
theorem dig_n {H B : List Nat} {n : Nat} (h8 : H.length = 8) (hb : B.length = 64) : (digL H B n)[72]? = some (.int .u64 (n : Nat)) := by
  unfold digL
  rw [List.getElem?_append_right (by rw [List.length_map]; omega), List.length_map, h8, List.getElem?_append_right (by rw [List.length_map]; omega), List.length_map, hb]
  rfl
theorem Dig.cell {g : Nat} {w : World} {H B : List Nat} {n : Nat} (h : Dig g w H B n) (i : Nat) : w.cell? ⟨g, i, none⟩ = (digL H B n)[i]? := by
  rw [cell_of_row _ _ _ _ _ _ h.2.2]
  exact List.getElem?_toArray ..
theorem Dig.h {g : Nat} {w : World} {H B : List Nat} {n : Nat} (h : Dig g w H B n) {i : Nat} (hi : i < 8) : w.cell? ⟨g, i, none⟩ = some (.int .u32 (H.getD i 0 : Nat)) := by
  rw [h.cell, dig_h h.1 hi]
theorem Dig.b {g : Nat} {w : World} {H B : List Nat} {n : Nat} (h : Dig g w H B n) {i : Nat} (hi : i < 64) : w.cell? ⟨g, 8 + i, none⟩ = some (.int .u8 (B.getD i 0 : Nat)) := by
  rw [h.cell, dig_b h.1 h.2.1 hi]
theorem Dig.n {g : Nat} {w : World} {H B : List Nat} {n : Nat} (h : Dig g w H B n) : w.cell? ⟨g, 72, none⟩ = some (.int .u64 (n : Nat)) := by
  rw [h.cell, dig_n h.1 h.2.1]
theorem Dig.free {g : Nat} {w : World} {H B : List Nat} {n : Nat} (h : Dig g w H B n) (i : Nat) : w.frozen? ⟨g, i, none⟩ = false := free_at h.2.2
theorem Dig.set_h {g : Nat} {w : World} {H B : List Nat} {n : Nat} (h : Dig g w H B n) {i : Nat} (hi : i < 8) (x : Nat) : Dig g (w.setCell ⟨g, i, none⟩ (.int .u32 (x : Nat))) (H.set i x) B n := by
  refine ⟨by rw [List.length_set]; exact h.1, h.2.1, ?_⟩
  rw [set_block h.2.2]
  unfold digC digL
  rw [List.setIfInBounds_toArray, List.set_append_left _ _ (by rw [List.length_map, h.1]; exact hi), List.map_set]
theorem Dig.set_b {g : Nat} {w : World} {H B : List Nat} {n : Nat} (h : Dig g w H B n) {i : Nat} (hi : i < 64) (x : Nat) : Dig g (w.setCell ⟨g, 8 + i, none⟩ (.int .u8 (x : Nat))) H (B.set i x) n := by
  refine ⟨h.1, by rw [List.length_set]; exact h.2.1, ?_⟩
  rw [set_block h.2.2]
  unfold digC digL
  rw [List.setIfInBounds_toArray, List.set_append_right _ _ (by rw [List.length_map, h.1]; omega), List.length_map, h.1, show 8 + i - 8 = i by omega, List.set_append_left _ _ (by rw [List.length_map, h.2.1]; exact hi), List.map_set]
theorem Dig.set_n {g : Nat} {w : World} {H B : List Nat} {n : Nat} (h : Dig g w H B n) (x : Nat) : Dig g (w.setCell ⟨g, 72, none⟩ (.int .u64 (x : Nat))) H B x := by
  refine ⟨h.1, h.2.1, ?_⟩
  rw [set_block h.2.2]
  unfold digC digL
  rw [List.setIfInBounds_toArray, List.set_append_right _ _ (by rw [List.length_map, h.1]; omega), List.length_map, h.1, List.set_append_right _ _ (by rw [List.length_map, h.2.1]; omega), List.length_map, h.2.1]
  rfl

/-- An array that is loaded out of the middle of a block. -/
theorem run_loadVar_off {P : Program} (w : World) (g off : Nat) (ty : TypeId) (cs : List Value) (d : TypeDesc) (hc : ∀ j v, cs[j]? = some v → w.cell? ⟨g, off + j, none⟩ = some v)
    (hu : P.underlying ty = some d) (hd : (match d with | .struct _ | .array _ _ => true | _ => false) = true) (hi : (P.info? ty).map (·.size) = some cs.length) :
    (loadVar ty ⟨g, off, none⟩).run P w = .ok (.agg cs.toArray) w := by
  have hl : (loadCells ⟨g, off, none⟩ cs.length).run P w = .ok cs.toArray w :=
    run_loadCells_list (P := P) w ⟨g, off, none⟩ cs (fun j v hv => by
      have hadd : (⟨g, off, none⟩ : Addr).add j = ⟨g, off + j, none⟩ := by unfold Addr.add; split <;> simp_all
      rw [hadd]
      exact hc j v hv)
  cases hq : P.info? ty with
  | none => simp [hq] at hi
  | some i =>
    have hs : i.size = cs.length := by simpa [hq] using hi
    have hagg : (isAgg ty).run P w = .ok true w := by
      unfold isAgg
      rw [Sem.run_bind, run_underlying hu w]
      cases d <;> simp_all
    simp [loadVar, Sem.run_bind, hagg, sizeOf, typeInfo, hq, hs, hl]
theorem wpList_load_off {P : Program} {ops : Array Oper} {rest : List Oper} {o : Oper} {a : Act} {w : World} {Q : Exit → Act → World → Prop} (hgd : o.guard = none) (ty : TypeId) (x : Operand) (ho : o.op = .load ty x)
    (g off : Nat) (hx : a.eval x = .pointer (some ⟨g, off, none⟩)) (cs : List Value) (d : TypeDesc) (hc : ∀ j v, cs[j]? = some v → w.cell? ⟨g, off + j, none⟩ = some v)
    (hu : P.underlying ty = some d) (hd : (match d with | .struct _ | .array _ _ => true | _ => false) = true) (hi : (P.info? ty).map (·.size) = some cs.length)
    (h : wpList P ops Q rest (a.put o.dst (.agg cs.toArray)) w) : wpList P ops Q (o :: rest) a w :=
  wpList_plain hgd fun K hK => by
    unfold Oper.wp execOp
    simp only [ho, hx, Instr.loadAt, Instr.sureAddr, Sem.run_bind, Sem.run_pure, Result.andThen_ok, run_loadVar_off w g off ty cs d hc hu hd hi]
    exact hK _ _ h
theorem infoB : (Tryz.prog.info? 86).map (·.size) = some 64 := by kernel_rfl
theorem toC_list (k : IntKind) (l : List Nat) : (l.map fun x => Value.int k (x : Nat)).toArray = toC k l := rfl
theorem Dig.load_b {g : Nat} {w : World} {H B : List Nat} {n : Nat} (h : Dig g w H B n) : ∀ j v, (B.map fun x => Value.int .u8 (x : Nat))[j]? = some v → w.cell? ⟨g, 8 + j, none⟩ = some v := fun j v hv => by
  have hj : j < B.length := by
    have := (List.getElem?_eq_some_iff.1 hv).1
    rwa [List.length_map] at this
  rw [h.b (by rw [h.2.1] at hj; exact hj), ← hv, List.getElem?_map, List.getElem?_eq_getElem hj, List.getD_eq_getElem?_getD, List.getElem?_eq_getElem hj]
  rfl

/-- The roots, as the program's text lays them. -/
def Roots (w : World) : Prop := ∀ t, t < 64 → w.cell? ⟨0, t, none⟩ = some (.int .u32 (K0.getD t 0 : Nat))
theorem Roots.below {w w' : World} {A : Nat} (h : Roots w) (b : Below A w w') (hA : 0 < A) : Roots w' := fun t ht => vcell b hA (h t ht)
end Go.Proofs.YtccaiippoephbaaGreatDoor.Slt
