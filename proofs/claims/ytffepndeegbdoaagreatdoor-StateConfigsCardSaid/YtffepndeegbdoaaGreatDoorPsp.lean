/- Salt: the program's spread. -/
import Derived.Test.YtffepndeegbdoaaGreatDoorPtu
set_option linter.unusedVariables false
set_option linter.unusedSimpArgs false
set_option maxRecDepth 100000
namespace Go.Proofs.YtffepndeegbdoaaGreatDoor.Slt
open Go.RowKit Go.Lib Go.Proofs.YtffepndeegbdoaaGreatDoor.Bx

def accN (B : List Nat) (i : Nat) : Nat → Nat
  | 0 => 0
  | j + 1 => accN B i j * 256 % 4294967296 ||| B.getD (i + j) 0
theorem or_add (x b : Nat) (k : Nat) (h : b < 2 ^ k) : x * 2 ^ k ||| b = x * 2 ^ k + b := by
  rw [Nat.mul_comm, Nat.two_pow_add_eq_or_of_lt h]
theorem accN_4 {B : List Nat} (h : B8 B) (i : Nat) : accN B i 4 = wordN B i := by
  have h0 := h i
  have h1 := h (i + 1)
  have h2 := h (i + 2)
  have h3 := h (i + 3)
  unfold wordN
  show (((0 * 256 % 4294967296 ||| B.getD (i + 0) 0) * 256 % 4294967296 ||| B.getD (i + 1) 0) * 256 % 4294967296 ||| B.getD (i + 2) 0) * 256 % 4294967296 ||| B.getD (i + 3) 0 = _
  rw [Nat.add_zero]
  generalize B.getD i 0 = a at *
  generalize B.getD (i + 1) 0 = b at *
  generalize B.getD (i + 2) 0 = c at *
  generalize B.getD (i + 3) 0 = d at *
  have e1 : 0 * 256 % 4294967296 ||| a = a := by simp
  have e2 : a * 256 % 4294967296 ||| b = a * 256 + b := by
    rw [Nat.mod_eq_of_lt (by omega)]
    exact or_add a b 8 (by omega)
  have e3 : (a * 256 + b) * 256 % 4294967296 ||| c = (a * 256 + b) * 256 + c := by
    rw [Nat.mod_eq_of_lt (by omega)]
    exact or_add _ c 8 (by omega)
  have e4 : ((a * 256 + b) * 256 + c) * 256 % 4294967296 ||| d = ((a * 256 + b) * 256 + c) * 256 + d := by
    rw [Nat.mod_eq_of_lt (by omega)]
    exact or_add _ d 8 (by omega)
  rw [e1, e2, e3, e4]
  have g1 : a * 16777216 ||| b * 65536 = (a * 256 + b) * 65536 := by
    rw [show a * 16777216 = a * 2 ^ 24 by omega, or_add a (b * 65536) 24 (by omega)]
    omega
  have g2 : (a * 256 + b) * 65536 ||| c * 256 = ((a * 256 + b) * 256 + c) * 256 := by
    rw [show (a * 256 + b) * 65536 = (a * 256 + b) * 2 ^ 16 by omega, or_add _ (c * 256) 16 (by omega)]
    omega
  have g3 : ((a * 256 + b) * 256 + c) * 256 ||| d = ((a * 256 + b) * 256 + c) * 256 + d := or_add _ d 8 (by omega)
  rw [g1, g2, g3]
theorem accN_lt {B : List Nat} (h : B8 B) (i : Nat) : ∀ j, accN B i j < 4294967296
  | 0 => by rw [accN]; decide
  | j + 1 => by
    rw [accN]
    exact lt_or32 (Nat.mod_lt _ (by decide)) (by have := h (i + j); omega)
theorem sched_zero (B : List Nat) (a : Nat) : ∀ t i, t ≤ i → (sched B a t).getD i 0 = 0
  | 0, i, _ => by
    show (List.replicate 64 0).getD i 0 = 0
    rw [List.getD_eq_getElem?_getD, List.getElem?_replicate]
    split <;> simp
  | t + 1, i, h => by
    rw [sched, getD_set, if_neg (by omega)]
    exact sched_zero B a t i (by omega)
theorem set_self (S : List Nat) (t : Nat) (h : S.getD t 0 = 0) : S.set t 0 = S := by
  apply List.ext_getElem?
  intro i
  rw [List.getElem?_set]
  split
  · rename_i e
    subst e
    rw [List.getD_eq_getElem?_getD] at h
    by_cases hl : t < S.length
    · rw [if_pos hl, List.getElem?_eq_getElem hl] at *
      simp at h
      simp [h]
    · rw [if_neg hl, List.getElem?_eq_none (by omega)]
  · rfl
theorem acc_bits {a b : Nat} (hb : b < 256) : bits .or .u32 ((a : Int) * 256 % 4294967296) (b : Int) = ((a * 256 % 4294967296 ||| b : Nat) : Int) := by
  have e : (a : Int) * 256 % 4294967296 = ((a * 256 % 4294967296 : Nat) : Int) := by rw [Int.natCast_emod, Int.natCast_mul]; rfl
  rw [e]
  exact or32 (Nat.mod_lt _ (by decide)) (by omega)
theorem info64 : (Tryz.prog.info? 153).map (·.size) = some 64 := by kernel_rfl

def Z64 : Array Value := #[.int .u32 0, .int .u32 0, .int .u32 0, .int .u32 0, .int .u32 0, .int .u32 0, .int .u32 0, .int .u32 0, .int .u32 0, .int .u32 0, .int .u32 0, .int .u32 0, .int .u32 0, .int .u32 0, .int .u32 0, .int .u32 0, .int .u32 0, .int .u32 0, .int .u32 0, .int .u32 0, .int .u32 0, .int .u32 0, .int .u32 0, .int .u32 0, .int .u32 0, .int .u32 0, .int .u32 0, .int .u32 0, .int .u32 0, .int .u32 0, .int .u32 0, .int .u32 0, .int .u32 0, .int .u32 0, .int .u32 0, .int .u32 0, .int .u32 0, .int .u32 0, .int .u32 0, .int .u32 0, .int .u32 0, .int .u32 0, .int .u32 0, .int .u32 0, .int .u32 0, .int .u32 0, .int .u32 0, .int .u32 0, .int .u32 0, .int .u32 0, .int .u32 0, .int .u32 0, .int .u32 0, .int .u32 0, .int .u32 0, .int .u32 0, .int .u32 0, .int .u32 0, .int .u32 0, .int .u32 0, .int .u32 0, .int .u32 0, .int .u32 0, .int .u32 0]
theorem Z64_is : Z64 = toC .u32 (List.replicate 64 0) := rfl
theorem und33 : Tryz.prog.underlying 74 = some (.array (Tryz.prog.arrayLen 74) (Tryz.prog.elem 74)) := by kernel_rfl
theorem alen33 : Tryz.prog.arrayLen 74 = 64 := by kernel_rfl
theorem elem33 : Tryz.prog.elem 74 = 5 := by kernel_rfl
theorem size_u8 : (Tryz.prog.info? 5).map (·.size) = some 1 := by kernel_rfl
theorem run_size {t : TypeId} {n : Nat} (h : (Tryz.prog.info? t).map (·.size) = some n) (w : World) : (sizeOf t).run Tryz.prog w = .ok n w := by
  cases hq : Tryz.prog.info? t with
  | none => simp [hq] at h
  | some i =>
    have : i.size = n := by simpa [hq] using h
    simp [sizeOf, typeInfo, hq, this]
theorem slice4 (N t : Nat) (w : World) (h : t < 16) : (Instr.sliceAt 74 (.pointer (some ⟨N, 0, none⟩)) (some (.int .i64 (4 * (t : Int)))) (some (.int .i64 (4 * (t : Int) + 4))) none).run Tryz.prog w = .ok (.slice (some ⟨N, 4 * t, none⟩) 4 (64 - 4 * t)) w := by
  rw [run_sliceAt_array_lh w _ _ und33 _ _ _ _ (by omega) (by omega) (by rw [alen33]; omega), elem33, run_size size_u8, alen33]
  have e1 : (4 * (t : Int)).toNat = 4 * t := by omega
  have e2 : (4 * (t : Int) + 4).toNat = 4 * t + 4 := by omega
  rw [e1, e2]
  have e3 : ¬ (64 = 4 * t) := by omega
  have e4 : 4 * t + 4 - 4 * t = 4 := by omega
  show Result.ok (slicedAt ⟨N, 0, none⟩ (4 * t) (4 * t + 4) 64 1) w = _
  unfold slicedAt
  rw [if_neg e3, e4, Nat.mul_one]
  have hadd : (⟨N, 0, none⟩ : Addr).add (4 * t) = ⟨N, 4 * t, none⟩ := by unfold Addr.add; split <;> simp_all
  rw [hadd]
theorem toC_size (k : IntKind) (l : List Nat) : (toC k l).size = l.length := by unfold toC; simp
theorem toC_one (k : IntKind) (l : List Nat) : (toC k l).all (·.oneCell') = true := by
  rw [Array.all_eq_true_iff_forall_mem]
  intro x hx
  unfold toC at hx
  simp only [List.mem_toArray, List.mem_map] at hx
  obtain ⟨y, _, rfl⟩ := hx
  rfl
theorem below_row {A g : Nat} {W w : World} (h : Below A W w) (hg : A ≤ g) (cs : Array Value) : Below A W (w.setRow g cs) :=
  h.trans ⟨rfl, rfl, rfl, by rw [setRow_size]; exact Nat.le_refl _, fun k hk => setRow_other w g k cs (by omega)⟩
theorem next4 (z a u b : Nat) : ((z : Int) + (a : Int) + (u : Int) + (b : Int)) % 4294967296 = ((add32 (add32 (add32 z a) u) b : Nat) : Int) := by
  unfold add32
  omega
theorem pspread_any (B : List Nat) (w : World) (hl : B.length = 64) (h8 : B8 B) : Calls Tryz.prog 96 #[.agg (toC .u8 B)] w fun e w' => e = .returned (.agg (toC .u32 (sched B 0 64))) ∧ Below w.heap.size w w' := by
  have H8 := Lib.hid h8
  have HL := Lib.hid hl
  clear h8 hl
  go_enter Tryz.func96, Tryz.ntmps96
  go_upto_region 2 with fail
  obtain ⟨N, hN⟩ : ∃ N, N = w.heap.size := ⟨_, rfl⟩
  obtain ⟨W3, hW3⟩ : ∃ W3, W3 = ((w.alloc (.cells (toC .u8 B) 74)).alloc (.cells Z64 153)).alloc (.cells Z64 153) := ⟨_, rfl⟩
  unfold Z64 at hW3
  rw [← hW3, ← hN]
  replace hW3 : W3 = ((w.alloc (.cells (toC .u8 B) 74)).alloc (.cells Z64 153)).alloc (.cells Z64 153) := hW3
  obtain ⟨RB, hRB⟩ : ∃ RB, RB = N + 1 := ⟨_, rfl⟩
  obtain ⟨WB, hWB⟩ : ∃ WB, WB = RB + 1 := ⟨_, rfl⟩
  rw [← hRB, ← hWB]
  have P0 : Hid (W3.heap[N]? = some (.cells (toC .u8 B) 74 (0, 0))) := by
    show _ = _
    rw [hW3, heap_alloc_old _ _ (by simp [hN]; omega), hN, heap_alloc2_old]
  have P1 : Hid (W3.heap[RB]? = some (.cells Z64 153 (0, 0))) := by
    show _ = _
    rw [hW3, hRB, hN, heap_alloc_old _ _ (by simp), heap_alloc2_new]
  have P2 : Hid (W3.heap[WB]? = some (.cells (toC .u32 (sched B 0 0)) 153 (0, 0))) := by
    show _ = _
    rw [hW3, hWB, hRB, hN]
    have := heap_alloc_new ((w.alloc (.cells (toC .u8 B) 74)).alloc (.cells Z64 153)) (.cells Z64 153)
    simp only [World.size_alloc] at this
    rw [this, Z64_is]
    rfl
  have HB : Hid (Below w.heap.size w W3) := by rw [hW3]; exact below_al (below_al (below_al (Below.refl _ _) _) _) _
  have HNN := Lib.hid hN
  have HRB := Lib.hid hRB
  have HWB := Lib.hid hWB
  clear hW3 hN hRB hWB
  go_wp2_with fail
  go_loopg [12] 16 (fun g i_ wr => ∃ t : Nat, t ≤ 16 ∧ 16 - t ≤ g ∧ i_ = .int .i64 t ∧ Hid (wr.heap[WB]? = some (.cells (toC .u32 (sched B 0 t)) 153 (0, 0))) ∧ Below WB W3 wr)
  case atStart => exact ⟨0, by omega, by omega, rfl, P2, Below.refl _ _⟩
  case round =>
    obtain ⟨t, ht, hg, rfl, HS, hbel⟩ := hrel
    have HBW := Lib.hid hbel
    by_cases ht16 : t < 16
    · have iw : ((t : Nat) : Int) < 16 := by omega
      have n0 : (0 : Int) ≤ (t : Int) := by omega
      have n1 : (4 : Int) * (t : Int) + 4 ≤ 64 := by omega
      have SE : Hid (sched B 0 (t + 1) = (sched B 0 t).set t (wordN B (4 * t))) := by
        show _ = _
        rw [sched, if_pos ht16, Nat.zero_add]
      have SZ : Hid ((sched B 0 t).set t 0 = sched B 0 t) := set_self _ _ (sched_zero B 0 t t (Nat.le_refl _))
      have HSL : Hid ((sched B 0 t).length = 64) := sched_len _ _ _
      obtain ⟨S, hS⟩ : ∃ S, S = sched B 0 t := ⟨_, rfl⟩
      rw [← hS] at HS SE SZ HSL
      obtain ⟨wo, hwo⟩ : ∃ wo, wo = wr := ⟨_, rfl⟩
      rw [← hwo] at HS HBW ⊢
      clear hS hwo hbel
      have SA := fun w => slice4 N t w ht16
      go_upto_region 5 with fail
      go_wp2_with fail
      clear SA
      go_loopg [22] 4 (fun g j_ wr => ∃ j : Nat, j ≤ 4 ∧ 4 - j ≤ g ∧ j_ = .int .i64 j ∧ Hid (wr.heap[WB]? = some (.cells (toC .u32 (S.set t (accN B (4 * t) j))) 153 (0, 0))) ∧ Below WB W3 wr)
      case atStart => exact ⟨0, by omega, by omega, rfl, by rw [show accN B (4 * t) 0 = 0 from rfl, SZ.out]; exact HS, HBW.out⟩
      case round =>
        obtain ⟨j, hj, hg2, rfl, HS2, hbel⟩ := hrel
        have HB2 := Lib.hid hbel
        by_cases hj4 : j < 4
        · have jw : ((j : Nat) : Int) < 4 := by omega
          have m0 : (0 : Int) ≤ (j : Int) := by omega
          have AE : Hid (accN B (4 * t) (j + 1) = accN B (4 * t) j * 256 % 4294967296 ||| B.getD (4 * t + j) 0) := rfl
          have hb8 := H8.out (4 * t + j)
          have cb : wr.cell? ⟨N, 4 * t + j, none⟩ = some (.int .u8 (B.getD (4 * t + j) 0 : Nat)) := by
            have h1 : wr.heap[N]? = some (.cells (toC .u8 B) 74 (0, 0)) := (hbel.block _ (by rw [HWB.out, HRB.out]; omega)).trans P0.out
            rw [toC_cell h1 (by rw [HL.out]; omega), List.getD_eq_getElem?_getD, List.getElem?_eq_getElem]
            rfl
          have hsl : t < (S.set t (accN B (4 * t) j)).length := by rw [List.length_set, HSL.out]; omega
          have cw := toC_cell HS2.out hsl
          have fw := free_at (i := t) HS2.out
          rw [List.getElem_set_self] at cw
          generalize accN B (4 * t) j = a at *
          generalize B.getD (4 * t + j) 0 = b at *
          clear hbel
          go_wp2_with fail
          go_roundg (4 - (j + 1))
          case measure => omega
          case rel =>
            rw [acc_bits hb8]
            refine ⟨j + 1, by omega, Nat.le_refl _, by go_num, ?_, below_put HB2.out (Nat.le_refl _) _⟩
            show _ = _
            rw [AE.out, set_block HS2.out, toC_set, List.set_set]
        · obtain rfl : j = 4 := by omega
          have jw : ¬ (((4 : Nat) : Int) < 4) := by omega
          rw [accN_4 H8.out, ← SE.out] at HS2
          clear hbel
          go_wp2_with fail
          go_roundg (16 - (t + 1))
          case measure => omega
          case rel => exact ⟨t + 1, by omega, Nat.le_refl _, by go_num, HS2, HB2.out⟩
    · obtain rfl : t = 16 := by omega
      have iw : ¬ (((16 : Nat) : Int) < 16) := by omega
      obtain ⟨wo, hwo⟩ : ∃ wo, wo = wr := ⟨_, rfl⟩
      rw [← hwo] at HS HBW ⊢
      clear hwo hbel
      go_wp2_with fail
      go_loopg [7] 48 (fun g t_ wr => ∃ t : Nat, 16 ≤ t ∧ t ≤ 64 ∧ 64 - t ≤ g ∧ t_ = .int .i64 t ∧ Hid (wr.heap[WB]? = some (.cells (toC .u32 (sched B 0 t)) 153 (0, 0))) ∧ Below WB W3 wr)
      case atStart => exact ⟨16, by omega, by omega, by omega, rfl, HS, HBW.out⟩
      case round =>
        obtain ⟨t, ht16, ht, hg, rfl, HS3, hbel⟩ := hrel
        have HB3 := Lib.hid hbel
        by_cases ht64 : t < 64
        · skip
          have iw : ((t : Nat) : Int) < 64 := by omega
          have SE : Hid (sched B 0 (t + 1) = (sched B 0 t).set t (wNext (sched B 0 t) t)) := by
            show _ = _
            rw [sched, if_neg (by omega)]
          have HSO : Hid (B32 (sched B 0 t)) := sched_ok H8.out _ _
          have HSL : Hid ((sched B 0 t).length = 64) := sched_len _ _ _
          obtain ⟨S, hS⟩ : ∃ S, S = sched B 0 t := ⟨_, rfl⟩
          rw [← hS] at HS3 SE HSO HSL
          obtain ⟨wo, hwo⟩ : ∃ wo, wo = wr := ⟨_, rfl⟩
          rw [← hwo] at HS3 HB3 ⊢
          have hsl : t < S.length := by rw [HSL.out]; exact ht64
          have cx := toC_cell HS3.out (i := t - 15) (by have := HSL.out; omega)
          have cy := toC_cell HS3.out (i := t - 2) (by have := HSL.out; omega)
          have gx : S[t - 15]'(by have := HSL.out; omega) = S.getD (t - 15) 0 := by rw [List.getD_eq_getElem?_getD, List.getElem?_eq_getElem]; rfl
          have gy : S[t - 2]'(by have := HSL.out; omega) = S.getD (t - 2) 0 := by rw [List.getD_eq_getElem?_getD, List.getElem?_eq_getElem]; rfl
          rw [gx] at cx
          rw [gy] at cy
          have bx := HSO.out (t - 15)
          have by_ := HSO.out (t - 2)
          have HWX : Hid (wNext S t = add32 (add32 (add32 (S.getD (t - 16) 0) (small0 (S.getD (t - 15) 0))) (S.getD (t - 7) 0)) (small1 (S.getD (t - 2) 0))) := rfl
          generalize S.getD (t - 15) 0 = x at *
          generalize S.getD (t - 2) 0 = y at *
          have e15 : ((t : Int) - 15).toNat = t - 15 := by omega
          have e2 : ((t : Int) - 2).toNat = t - 2 := by omega
          have n1 : (0 : Int) ≤ (t : Int) - 15 := by omega
          have n2 : (t : Int) - 15 < 64 := by omega
          have n3 : (0 : Int) ≤ (t : Int) - 2 := by omega
          have n4 : (t : Int) - 2 < 64 := by omega
          have n5 : IntKind.i64.wrap ((t : Int) - 15) = (t : Int) - 15 := IntWalk.i64_in _ (by omega)
          have n6 : IntKind.i64.wrap ((t : Int) - 2) = (t : Int) - 2 := IntWalk.i64_in _ (by omega)
          have n7 : (15 : Int) ≤ (t : Int) := by omega
          have n8 : (2 : Int) ≤ (t : Int) := by omega
          have n9 : 15 ≤ t := by omega
          have n10 : 2 ≤ t := by omega
          clear gx gy hbel hS hwo
          go_upto_region 14 with fail
          go_cut [8, 9] from 41 to 49 (fun a b wx => a = .int .u32 (x : Nat) ∧ b = .int .u32 (y : Nat) ∧ Hid (∃ n, wx = wo.drewN n))
          case first =>
            go_quiet (fail)
            go_wp2_with fail
            go_meet
            exact ⟨rfl, rfl, _, rfl⟩
          case rest =>
            obtain ⟨rfl, rfl, HD⟩ := hcut
            have HQ : Hid (Below wo.heap.size wo wc) := by
              obtain ⟨n, rfl⟩ := HD.out
              exact p_drews (Below.refl _ _) n
            clear n1 n2 n3 n4 n5 n6 n7 n8 n9 n10 e15 e2 cx cy HD
            have T7 : Hid (∀ w', Calls Tryz.prog 113 #[.int .u32 (x : Nat), .int .i64 7] w' fun e w'' => e = .returned (.int .u32 (turnN x 7 : Nat)) ∧ Below w'.heap.size w' w'') := fun w' => rot_any x 7 w' bx (by decide) (by decide)
            have T18 : Hid (∀ w', Calls Tryz.prog 113 #[.int .u32 (x : Nat), .int .i64 18] w' fun e w'' => e = .returned (.int .u32 (turnN x 18 : Nat)) ∧ Below w'.heap.size w' w'') := fun w' => rot_any x 18 w' bx (by decide) (by decide)
            have T17 : Hid (∀ w', Calls Tryz.prog 113 #[.int .u32 (y : Nat), .int .i64 17] w' fun e w'' => e = .returned (.int .u32 (turnN y 17 : Nat)) ∧ Below w'.heap.size w' w'') := fun w' => rot_any y 17 w' by_ (by decide) (by decide)
            have T19 : Hid (∀ w', Calls Tryz.prog 113 #[.int .u32 (y : Nat), .int .i64 19] w' fun e w'' => e = .returned (.int .u32 (turnN y 19 : Nat)) ∧ Below w'.heap.size w' w'') := fun w' => rot_any y 19 w' by_ (by decide) (by decide)
            go_upto_region 15 with fail
            go_cut [10] from 49 to 57 (fun a wx => a = .int .u32 (small0 x : Nat) ∧ Hid (Below wo.heap.size wo wx))
            case first =>
              go_wp2_with fail
              refine (T7.out _).mono ?_
              rintro e wcT7 ⟨rfl, bT7⟩
              replace HQ := Lib.hid (below_on HQ.out bT7)
              clear bT7
              go_wp2_with fail
              refine (T18.out _).mono ?_
              rintro e wcT18 ⟨rfl, bT18⟩
              replace HQ := Lib.hid (below_on HQ.out bT18)
              clear bT18
              go_wp2_with fail
              go_meet
              exact ⟨by rw [small0_bits bx], HQ⟩
            case rest =>
              obtain ⟨rfl, HQ2⟩ := hcut
              clear HQ
              go_upto_region 16 with fail
              go_cut [11] from 57 to 65 (fun a wx => a = .int .u32 (small1 y : Nat) ∧ Hid (Below wo.heap.size wo wx))
              case first =>
                go_wp2_with fail
                refine (T17.out _).mono ?_
                rintro e wcT17 ⟨rfl, bT17⟩
                replace HQ2 := Lib.hid (below_on HQ2.out bT17)
                clear bT17
                go_wp2_with fail
                refine (T19.out _).mono ?_
                rintro e wcT19 ⟨rfl, bT19⟩
                replace HQ2 := Lib.hid (below_on HQ2.out bT19)
                clear bT19
                go_wp2_with fail
                go_meet
                exact ⟨by rw [small1_bits by_], HQ2⟩
              case rest =>
                obtain ⟨rfl, HQ3⟩ := hcut
                have HS4 : Hid (wc.heap[WB]? = some (.cells (toC .u32 S) 153 (0, 0))) := (HQ3.out.block _ (Array.getElem?_eq_some_iff.1 HS3.out).1).trans HS3.out
                have HB4 : Hid (Below WB W3 wc) := HB3.out.trans (HQ3.out.mono (Nat.le_of_lt (Array.getElem?_eq_some_iff.1 HS3.out).1))
                have c16 := toC_cell HS4.out (i := t - 16) (by have := HSL.out; omega)
                have c7 := toC_cell HS4.out (i := t - 7) (by have := HSL.out; omega)
                have g16 : S[t - 16]'(by have := HSL.out; omega) = S.getD (t - 16) 0 := by rw [List.getD_eq_getElem?_getD, List.getElem?_eq_getElem]; rfl
                have g7 : S[t - 7]'(by have := HSL.out; omega) = S.getD (t - 7) 0 := by rw [List.getD_eq_getElem?_getD, List.getElem?_eq_getElem]; rfl
                rw [g16] at c16
                rw [g7] at c7
                have cw := toC_cell HS4.out hsl
                have fw := free_at (i := t) HS4.out
                generalize S.getD (t - 16) 0 = z at *
                generalize S.getD (t - 7) 0 = u at *
                have e16 : ((t : Int) - 16).toNat = t - 16 := by omega
                have e7 : ((t : Int) - 7).toNat = t - 7 := by omega
                have n1 : (0 : Int) ≤ (t : Int) - 16 := by omega
                have n2 : (t : Int) - 16 < 64 := by omega
                have n3 : (0 : Int) ≤ (t : Int) - 7 := by omega
                have n4 : (t : Int) - 7 < 64 := by omega
                have n5 : IntKind.i64.wrap ((t : Int) - 16) = (t : Int) - 16 := IntWalk.i64_in _ (by omega)
                have n6 : IntKind.i64.wrap ((t : Int) - 7) = (t : Int) - 7 := IntWalk.i64_in _ (by omega)
                have n7 : (0 : Int) ≤ (t : Int) := by omega
                have n8 : (7 : Int) ≤ (t : Int) := by omega
                have n9 : 7 ≤ t := by omega
                clear HS3 HB3 HQ2 HQ3 T7 T18 T17 T19 g16 g7
                go_upto_region 17 with fail
                go_region
                go_wp2_with fail
                go_roundg (64 - (t + 1))
                case measure => omega
                case rel =>
                  rw [next4, ← HWX.out]
                  refine ⟨t + 1, by omega, by omega, Nat.le_refl _, by go_num, ?_, (below_put HB4.out (Nat.le_refl _) _).drew⟩
                  show _ = _
                  rw [SE.out, ← toC_set]
                  exact set_block HS4.out
        · obtain rfl : t = 64 := by omega
          have iw : ¬ (((64 : Nat) : Int) < 64) := by omega
          clear hbel
          obtain ⟨S, hS⟩ : ∃ S, S = sched B 0 64 := ⟨_, rfl⟩
          have HSE := Lib.hid hS
          have HSL : Hid (S.length = 64) := by rw [hS]; exact sched_len _ _ _
          rw [← hS] at HS3
          clear hS
          have hsz : (toC .u32 S).size = 64 := by rw [toC_size, HSL.out]
          have HP : Hid (wr.heap[RB]? = some (.cells Z64 153 (0, 0))) := (HB3.out.block _ (by rw [HWB.out]; omega)).trans P1.out
          have HZ : Hid ((Tryz.prog.info? 153).map (·.size) = some (toC .u32 S).size) := by show _ = _; rw [hsz]; exact info64
          have HZ2 : Hid (Z64.size = (toC .u32 S).size) := by show _ = _; rw [hsz]; rfl
          clear hsz
          go_upto_region 18 with fail
          refine wp_region_lit ?_
          refine wpList_load_row rfl _ _ rfl WB rfl _ _ _ _ HS3.out Tryz.underlying153 rfl HZ.out ?_
          refine wpList_store_row rfl _ _ _ rfl RB (toC .u32 S) rfl rfl _ _ HP.out HZ.out HZ2.out (toC_one _ _) ?_
          have HF := setRow_heap wr RB Z64 (toC .u32 S) 153 (0, 0) HP.out
          have HFH := Lib.hid HF
          have HLAST : Hid (Below w.heap.size w (wr.setRow RB (toC .u32 S))) := below_row (HB.out.trans (HB3.out.mono (by rw [HWB.out, HRB.out, HNN.out]; omega))) (by rw [HRB.out, HNN.out]; omega) _
          clear HF
          go_wp2_with fail
          refine bodyPost_ret (v := .agg (toC .u32 (sched B 0 64))) ?_ rfl ⟨rfl, HLAST.out⟩
          rw [← HSE.out]
          exact results_cell_row rfl _ _ RB _ _ _ _ rfl HFH.out Tryz.underlying153 rfl HZ.out
end Go.Proofs.YtffepndeegbdoaaGreatDoor.Slt
