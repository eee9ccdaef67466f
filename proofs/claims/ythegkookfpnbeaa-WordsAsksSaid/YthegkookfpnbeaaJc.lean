/- Words: the program's writer: a number. -/
import Derived.Test.YthegkookfpnbeaaJb
import Derived.RegionTactic
import Derived.Deep.RegionLaw
import Derived.BigRegion
set_option linter.unusedVariables false
set_option linter.unusedSimpArgs false
set_option maxRecDepth 100000
namespace Go.Proofs.Ythegkookfpnbeaa.Wds
open Go.RowKit Go.Lib Go.Proofs.Ythegkookfpnbeaa.Bx Go.Proofs.Ythegkookfpnbeaa.Frm

theorem shift_byte (n : Int) {j : Nat} (hj : j < 8) : n / 2 ^ (56 - 8 * j) % 256 = ((byteN n j).toNat : Nat) := by
  rw [byte_nat]
  have h := u64_int n
  have e : 8 * (7 - j) = 56 - 8 * j := by omega
  rw [e]
  have hj' : j = 0 ∨ j = 1 ∨ j = 2 ∨ j = 3 ∨ j = 4 ∨ j = 5 ∨ j = 6 ∨ j = 7 := by omega
  generalize u64 n = u at *
  rcases hj' with rfl | rfl | rfl | rfl | rfl | rfl | rfl | rfl <;> simp <;> omega
set_option maxHeartbeats 8000000 in
theorem pnum_any {base B : Nat} {w : World} {v : Value} {l : List UInt8} {bad : Bool} (h : Wr base w B v l bad) (n : Int) (hl : l.length ≤ 300000000) : Calls Try.prog 25 #[.pointer (some ⟨B, 0, none⟩), .int .i64 n] w (Put base w B v (l ++ numL n) bad) := by
  have HW := Lib.hid h
  have HL : Hid (l.length ≤ 300000000) := hl
  clear h hl
  go_enter Try.func25, Try.ntmps25
  go_wp2_with fail
  go_loopg [4] 8 (fun g s_ wr => ∃ (j : Nat) (u : Value), j ≤ 8 ∧ 8 - j ≤ g ∧ s_ = .int .i64 (56 - 8 * (j : Int)) ∧ Hid (Wr base wr B u (l ++ (numL n).take j) bad) ∧ Hid (Stp w B v wr u))
  case atStart => exact ⟨0, v, by omega, by omega, rfl, by show Wr _ _ _ _ _ _; rw [List.take_zero, List.append_nil]; exact HW.out, Stp.refl _ _ _⟩
  case round =>
    obtain ⟨j, u, hj, hg, rfl, HR, HS⟩ := hrel
    by_cases hj8 : j < 8
    · have iw : (0 : Int) ≤ 56 - 8 * (j : Int) := by omega
      have i7 : 56 - 8 * (j : Int) ≤ 56 := by omega
      have iq : (56 - 8 * (j : Int)).toNat = 56 - 8 * j := by omega
      obtain ⟨x, hx⟩ : ∃ x : UInt8, x = byteN n j := ⟨_, rfl⟩
      have HV : n / 2 ^ (56 - 8 * j) % 256 = (x.toNat : Nat) := by rw [hx]; exact shift_byte n hj8
      have HV2 : IntKind.u8.wrap (n / 2 ^ (56 - 8 * j)) = (x.toNat : Nat) := by rw [← HV]; unfold IntKind.wrap; simp [IntKind.bits, IntKind.signed]
      obtain ⟨c0, c1, f0, f1⟩ := HR.out.cells
      obtain ⟨a, c, rfl⟩ := HR.out.is_slice
      obtain ⟨L, hL⟩ : ∃ L, L = l ++ (numL n).take j := ⟨_, rfl⟩
      obtain ⟨M, hM⟩ : ∃ M, M = l ++ (numL n).take (j + 1) := ⟨_, rfl⟩
      have hLM : M = L ++ [x] := by rw [hM, hL, num_next hj8, hx, List.append_assoc]
      have hLl : L.length ≤ 300000008 := by rw [hL, List.length_append]; have := List.length_take_le j (numL n); have := HL.out; omega
      rw [← hL] at HR HS c0
      have A1 : Hid (Rk.OwnK 5 1 base (wr.alloc (.cells #[.int .u8 (x.toNat : Nat)] 5)).drew (.slice a L.length c) (cellsB L)) := HR.out.2.2.2.below (Below.drew (box1 wr _ _).1)
      have A2 : Hid (∀ j (h : j < [x].length), (wr.alloc (.cells #[.int .u8 (x.toNat : Nat)] 5)).drew.cell? ((⟨wr.heap.size, 0, none⟩ : Addr).add j) = some (.int .u8 ([x][j].toNat : Nat))) := new_bytes wr #[.int .u8 (x.toNat : Nat)] [x] rfl
      have A3 : Hid (L.length + [x].length ≤ 400000000) := by show _ ≤ _; rw [List.length_singleton]; omega
      have A4 : Hid (base ≤ (wr.alloc (.cells #[.int .u8 (x.toNat : Nat)] 5)).drew.heap.size) := Nat.le_trans HR.out.2.1 (box1 wr _ _).1.size
      have c0' : (wr.alloc (.cells #[.int .u8 (x.toNat : Nat)] 5)).cell? ⟨B, 0, none⟩ = some (.slice a L.length c) := (HR.out.below (box1 wr _ _).1).cells.1
      obtain ⟨n9, hn9⟩ : ∃ n9, n9 = M.length := ⟨_, rfl⟩
      have FN : Hid (∀ (v9 : Value) (w9 : World), Rk.OwnK 5 1 base w9 v9 (cellsB (L ++ [x])) → ((wr.alloc (.cells #[.int .u8 (x.toNat : Nat)] 5)).drew).grownBy w9 (Value.slice a L.length c).ownBlock → (v9.ownBlock = (Value.slice a L.length c).ownBlock ∨ ∀ q, v9.ownBlock = some q → (wr.alloc (.cells #[.int .u8 (x.toNat : Nat)] 5)).drew.heap.size ≤ q) → (∃ a9 c9, v9 = .slice a9 n9 c9) ∧ w9.cell? ⟨B, 0, none⟩ = some (.slice a L.length c) ∧ w9.frozen? ⟨B, 0, none⟩ = false ∧ Hid (Put base w B v M bad (.returned (.tuple #[])) (w9.setCell ⟨B, 0, none⟩ v9))) := fun v9 w9 h5 g5 k5 => by
        rw [← hLM] at h5
        obtain ⟨u0, u1, FE⟩ := HR.out.more (Below.drew (box1 wr _ _).1) g5 (k5.imp_right fun n q e => Nat.le_trans (Below.drew (box1 wr #[.int .u8 (x.toNat : Nat)] 5).1).size (n q e)) h5
        obtain ⟨a9, c9, e9⟩ := h5.is_slice
        obtain ⟨-, v8, q1, q2⟩ := FE.out
        exact ⟨⟨a9, c9, by rw [hn9, ← cellsB_len]; exact e9⟩, u0, u1, rfl, v8, q1, HS.out.trans q2⟩
      have HM := Lib.hid hM
      clear HR hLM hL hM hx hn9 HV hLl
      go_wp2_with fail
      go_region_law (refine step_append_b rfl _ _ 52 5 Try.underlying52 infoU8 rfl base _ L [x] 1 ⟨wr.heap.size, 0, none⟩ 1 rfl rfl rfl A1.out A2.out A3.out A4.out ?_; intro v6 w6 h5 g5 k5; obtain ⟨⟨a6, c6, rfl⟩, u0, u1, FE⟩ := FN.out v6 w6 h5 g5 k5; clear h5 g5 k5)
      all_goals (
        obtain ⟨-, v8, q1, q2⟩ := FE.out
        have Q1 := Lib.hid q1
        have Q2 := Lib.hid q2
        clear q1 q2 FE FN A1 A2 A3 A4
        go_wp2_with fail
        go_roundg (8 - (j + 1)))
      all_goals first
        | (case measure => omega)
        | (case rel => exact ⟨j + 1, v8, by omega, Nat.le_refl _, by go_num, by show Wr _ _ _ _ _ _; rw [← HM.out]; exact Q1.out, Q2.out⟩)
    · obtain rfl : j = 8 := by omega
      have iw : ¬ (0 : Int) ≤ 56 - 8 * ((8 : Nat) : Int) := by omega
      have e8 : (numL n).take 8 = numL n := List.take_of_length_le (by rw [num_len]; exact Nat.le_refl _)
      rw [e8] at HR
      have FE : Hid (Put base w B v (l ++ numL n) bad (.returned (.tuple #[])) wr) := ⟨rfl, u, HR.out, HS.out⟩
      clear HR HS e8
      go_wp2_with fail
      all_goals exact bodyPost_ret (v := .tuple #[]) (by simp [results, Try.results25, go_sem]) rfl FE.out
end Go.Proofs.Ythegkookfpnbeaa.Wds
