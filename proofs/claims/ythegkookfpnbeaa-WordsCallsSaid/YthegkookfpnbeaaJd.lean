/- Words: the program's writer: numbers, and lists of numbers. -/
import Derived.Test.YthegkookfpnbeaaJc
import Derived.Test.YthegkookfpnbeaaGg
set_option linter.unusedVariables false
set_option linter.unusedSimpArgs false
set_option maxRecDepth 100000
namespace Go.Proofs.Ythegkookfpnbeaa.Wds
open Go.RowKit Go.Lib Go.Proofs.Ythegkookfpnbeaa.Bx Go.Proofs.Ythegkookfpnbeaa.Frm

/-- The numbers of a row that writing leaves alone. -/
def Stays (w : World) (B : Nat) (v : Value) (a : Option Addr) (xs : List Int) : Prop := ∀ w' v', Stp w B v w' v' → ∀ j, j < xs.length → ∃ b off, a = some ⟨b, off, none⟩ ∧ w'.cell? ⟨b, off + j, none⟩ = some (.int .i64 (xs.getD j 0))
theorem Stays.on {w w1 : World} {B : Nat} {v v1 : Value} {a : Option Addr} {xs : List Int} (h : Stays w B v a xs) (s : Stp w B v w1 v1) : Stays w1 B v1 a xs := fun w' v' s' => h w' v' (s.trans s')
theorem pnums_next {xs : List Int} {j : Nat} (h : j < xs.length) : (xs.take (j + 1)).flatMap numL = (xs.take j).flatMap numL ++ numL (xs.getD j 0) := by
  rw [List.take_succ_eq_append_getElem h, List.flatMap_append, List.flatMap_singleton, List.getD_eq_getElem?_getD, List.getElem?_eq_getElem h]
  rfl
theorem pnums_len (xs : List Int) : (xs.flatMap numL).length = 8 * xs.length := by
  induction xs with
  | nil => rfl
  | cons x xs ih => rw [List.flatMap_cons, List.length_append, num_len, ih, List.length_cons]; omega
set_option maxHeartbeats 8000000 in
theorem pnums_any {base B : Nat} {w : World} {v : Value} {l : List UInt8} {bad : Bool} (h : Wr base w B v l bad) (a : Option Addr) (c : Nat) (xs : List Int) (hq : Stays w B v a xs) (hl : l.length + 8 * xs.length ≤ 300000000) : Calls Try.prog 40 #[.pointer (some ⟨B, 0, none⟩), .slice a xs.length c] w (Put base w B v (l ++ xs.flatMap numL) bad) := by
  have HW := Lib.hid h
  have HQ := Lib.hid hq
  obtain ⟨n, hn⟩ : ∃ n, n = xs.length := ⟨_, rfl⟩
  have HL : Hid (l.length + 8 * n ≤ 300000000 ∧ n = xs.length) := ⟨by rw [hn]; exact hl, hn⟩
  rw [← hn]
  have hnb : n ≤ 3750000000 := by have := HL.out.1; omega
  clear h hl hq hn
  go_enter Try.func40, Try.ntmps40
  go_wp2_with fail
  go_loopg [8] n (fun g s_ wr => ∃ (j : Nat) (u : Value), j ≤ n ∧ n - j ≤ g ∧ s_ = .int .i64 (j : Nat) ∧ Hid (Wr base wr B u (l ++ (xs.take j).flatMap numL) bad) ∧ Hid (Stp w B v wr u))
  case atStart => exact ⟨0, v, by omega, by omega, rfl, by show Wr _ _ _ _ _ _; rw [List.take_zero, List.flatMap_nil, List.append_nil]; exact HW.out, Stp.refl _ _ _⟩
  case round =>
    obtain ⟨j, u, hj, hg, rfl, HR, HS⟩ := hrel
    by_cases hjn : j < n
    · have iw : ((j : Nat) : Int) < (n : Int) := by omega
      have n0 : (0 : Int) ≤ ((j : Nat) : Int) := by omega
      obtain ⟨b, off, rfl, hc⟩ := HQ.out _ _ HS.out j (by rw [← HL.out.2]; exact hjn)
      obtain ⟨x, hx⟩ : ∃ x, x = xs.getD j 0 := ⟨_, rfl⟩
      have HN : Hid ((xs.take (j + 1)).flatMap numL = (xs.take j).flatMap numL ++ numL x) := by rw [hx]; exact pnums_next (by rw [← HL.out.2]; exact hjn)
      have C := Lib.hid (pnum_any HR.out x (by rw [List.length_append, pnums_len, List.length_take]; have := HL.out; omega))
      rw [← hx] at hc
      clear hx HR
      go_wp2_with fail
      refine C.out.mono ?_
      rintro e w5 ⟨rfl, u5, K5, S5⟩
      have HK : Hid (Wr base w5 B u5 (l ++ (xs.take (j + 1)).flatMap numL) bad) := by
        show Wr _ _ _ _ _ _
        rw [HN.out, ← List.append_assoc]
        exact K5
      have HS5 := Lib.hid (HS.out.trans S5)
      clear K5 S5 C HS
      go_wp2_with fail
      go_roundg (n - (j + 1))
      case measure => omega
      case rel => exact ⟨j + 1, u5, by omega, Nat.le_refl _, by go_num, HK, HS5⟩
    · obtain rfl : j = n := by omega
      have iw : ¬ ((j : Nat) : Int) < ((j : Nat) : Int) := by omega
      have e8 : xs.take j = xs := List.take_of_length_le (by rw [← HL.out.2]; exact Nat.le_refl _)
      rw [e8] at HR
      have FE : Hid (Put base w B v (l ++ xs.flatMap numL) bad (.returned (.tuple #[])) wr) := ⟨rfl, u, HR.out, HS.out⟩
      clear HR HS e8
      go_wp2_with fail
      all_goals exact bodyPost_ret (v := .tuple #[]) (by simp [results, Try.results40, go_sem]) rfl FE.out
end Go.Proofs.Ythegkookfpnbeaa.Wds
