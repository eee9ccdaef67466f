/- Words: numbers, list of the plain text. -/
import Derived.Test.YthegkookfpnbeaaGf
import Derived.Test.YthegkookfpnbeaaInts
set_option linter.unusedVariables false
set_option linter.unusedSimpArgs false
set_option maxRecDepth 100000
namespace Go.Proofs.Ythegkookfpnbeaa.Wds
open Go.RowKit Go.Lib Go.Proofs.Ythegkookfpnbeaa.Bx Go.Proofs.Ythegkookfpnbeaa.Frm

def numsL (xs : List Int) : List UInt8 := xs.flatMap numL
theorem nums_len : ∀ xs : List Int, (numsL xs).length = 8 * xs.length
  | [] => rfl
  | x :: xs => by
    unfold numsL
    rw [List.flatMap_cons, List.length_append, num_len]
    have := nums_len xs
    unfold numsL at this
    rw [this, List.length_cons]
    omega
theorem nums_next {xs : List Int} {i : Nat} (h : i < xs.length) : numsL (xs.take (i + 1)) = numsL (xs.take i) ++ numL (Rt.at_ xs i) := by
  unfold numsL
  rw [List.take_succ_eq_append_getElem h, List.flatMap_append]
  unfold Rt.at_
  rw [List.getD_eq_getElem?_getD, List.getElem?_eq_getElem h]
  simp
set_option maxHeartbeats 8000000 in
theorem numbers_any {v : Value} {xs : List Int} (w : World) (h : Rig.Ints w v xs) (hl : xs.length ≤ 100000) : Calls Try.prog 45 #[v] w fun e w' => e = .returned (.string (mkB (numsL xs))) ∧ Below w.heap.size w w' := by
  obtain ⟨a, cap, rfl, hn, hm, hc⟩ := h.open_
  obtain ⟨n, hnn⟩ : ∃ n, n = xs.length := ⟨_, rfl⟩
  have HE : Hid (∀ w', Below w.heap.size w w' → ∀ j, j < n → ∃ b off, a = some ⟨b, off, none⟩ ∧ b < w.heap.size ∧ w'.cell? ⟨b, off + j, none⟩ = some (.int .i64 (Rt.at_ xs j))) := fun w' hb j hj => by
    obtain ⟨b, off, e, hlt, _, c⟩ := hc j (by omega)
    exact ⟨b, off, e, hlt, vcell hb hlt c⟩
  have CN : Hid (∀ j w, Calls Try.prog 29 #[.int .i64 (Rt.at_ xs j)] w fun e w' => e = .returned (.string (mkB (numL (Rt.at_ xs j)))) ∧ Below w.heap.size w w') := fun j w => number_any _ w
  have HX : Hid (∀ i, i < n → numsL (xs.take (i + 1)) = numsL (xs.take i) ++ numL (Rt.at_ xs i)) := fun i hi => nums_next (by omega)
  have HN : Hid (n = xs.length ∧ n ≤ 100000) := ⟨hnn, by omega⟩
  rw [← hnn] at hn ⊢
  clear h hc hnn hl
  go_enter Try.func45, Try.ntmps45
  go_wp2_with fail
  go_loopg [3, 4] n (fun g s_ i_ wr => ∃ (i : Nat), i ≤ n ∧ n - i ≤ g ∧ i_ = .int .i64 i ∧ s_ = .string (mkB (numsL (xs.take i))) ∧ Below w.heap.size w wr)
  case atStart => exact ⟨0, by omega, by omega, rfl, rfl, Below.refl _ _⟩
  case round =>
    obtain ⟨i, hi, hg, rfl, rfl, hbel⟩ := hrel
    have HB := Lib.hid hbel
    by_cases hin : i < n
    · have iw : ((i : Nat) : Int) < (n : Int) := by omega
      have n0 : (0 : Int) ≤ (i : Int) := by omega
      obtain ⟨b, off, rfl, hlt, c0⟩ := HE.out wr hbel i hin
      have C1 := Lib.hid (CN.out i wr)
      obtain ⟨s0, hs0⟩ : ∃ s0, s0 = mkB (numsL (xs.take i)) := ⟨_, rfl⟩
      obtain ⟨s1, hs1⟩ : ∃ s1, s1 = mkB (numL (Rt.at_ xs i)) := ⟨_, rfl⟩
      obtain ⟨s2, hs2⟩ : ∃ s2, s2 = mkB (numsL (xs.take (i + 1))) := ⟨_, rfl⟩
      have AD : ∀ w, (Op.stringOp .add s0 s1).run Try.prog w = .ok (.string s2) w := fun w => by
        have h2 := HN.out
        have e1 : s2 = s0 ++ s1 := by rw [hs2, hs0, hs1, mkB_app, HX.out i hin]
        rw [e1]
        refine run_string_add_sum w _ _ ?_
        rw [hs0, hs1, mkB_size, mkB_size, nums_len, num_len, List.length_take]
        omega
      have HS2 : Hid (s2 = mkB (numsL (xs.take (i + 1)))) := hs2
      rw [← hs1] at C1
      rw [← hs0]
      clear hs0 hs1 hs2 hbel
      generalize Rt.at_ xs i = z at *
      go_wp2_with fail
      refine C1.out.mono ?_
      rintro e w2 ⟨rfl, b2⟩
      have HB2 := Lib.hid (below_on HB.out b2)
      clear b2 C1
      go_wp2_with fail
      go_roundg (n - (i + 1))
      case measure => omega
      case rel => exact ⟨i + 1, by omega, Nat.le_refl _, by go_num, by rw [HS2.out], HB2.out⟩
    · obtain rfl : i = n := by omega
      have iw : ¬ ((i : Int) < (i : Int)) := by omega
      have et : xs.take i = xs := List.take_of_length_le (by have := HN.out.1; omega)
      rw [et]
      clear et
      go_wp2_with fail
      go_ret
      exact ⟨rfl, HB.out⟩
end Go.Proofs.Ythegkookfpnbeaa.Wds
