/- Words: Number, Text, Flag, Len of the plain text's reader. -/
import Derived.Test.YthegkookfpnbeaaGreatDoorZg
set_option linter.unusedVariables false
set_option linter.unusedSimpArgs false
set_option maxRecDepth 100000
namespace Go.Proofs.YthegkookfpnbeaaGreatDoor.Wds
open Go.RowKit Go.Lib Go.Proofs.YthegkookfpnbeaaGreatDoor.Bx Go.Proofs.YthegkookfpnbeaaGreatDoor.Frm

theorem val_snoc (l : List UInt8) (x : UInt8) : valN (l ++ [x]) = valN l * 256 + x.toNat := by
  unfold valN
  rw [List.foldl_append]
  rfl
theorem val_lt : ∀ (k : Nat) (l : List UInt8), l.length = k → valN l < 256 ^ k := by
  intro k
  induction k with
  | zero =>
    intro l h
    obtain rfl := List.eq_nil_of_length_eq_zero h
    decide
  | succ k ih =>
    intro l h
    obtain ⟨l', x, rfl⟩ : ∃ l' x, l = l' ++ [x] := ⟨l.dropLast, l.getLast (by intro e; rw [e] at h; cases h), (List.dropLast_concat_getLast _).symm⟩
    rw [List.length_append, List.length_singleton] at h
    have h1 := ih l' (by omega)
    have h2 := x.toNat_lt
    rw [val_snoc, Nat.pow_succ]
    omega
theorem val_next {t : List UInt8} {i : Nat} (h : i < t.length) : valN (t.take (i + 1)) = valN (t.take i) * 256 + (t.getD i 0).toNat := by
  rw [List.take_succ_eq_append_getElem h, val_snoc, List.getD_eq_getElem?_getD, List.getElem?_eq_getElem h]
  rfl
theorem wrap_back (m : Nat) : IntKind.i64.wrap (m : Int) = back m := by
  rw [IntKind.wrap_i64]
  unfold back
  split <;> omega
set_option maxHeartbeats 8000000 in
theorem number_rd (r : Rd) (B : Nat) (w : World) (h : At w B r) : Calls Tryz.prog 132 #[.pointer (some ⟨B, 0, none⟩)] w fun e w' => e = .returned (.int .i64 (numR r).1) ∧ At w' B (numR r).2 ∧ w.grownBy w' (some B) := by
  have C := Lib.hid (take_any r 8 B w h (by decide) (.inl (by decide)))
  obtain ⟨t, ht⟩ : ∃ t, t = (takeR r 8).1 := ⟨_, rfl⟩
  have hl : t.length = 8 := by rw [ht]; exact take_len _ _
  have HR : Hid ((numR r).1 = back (valN t) ∧ (numR r).2 = (takeR r 8).2) := ⟨by rw [ht]; rfl, rfl⟩
  rw [← ht] at C
  obtain ⟨s, hs⟩ : ∃ s, s = mkB t := ⟨_, rfl⟩
  have HS : Hid (s = mkB t ∧ t.length = 8) := ⟨hs, hl⟩
  have hsz : s.size = 8 := by rw [hs, mkB_size, hl]
  rw [← hs] at C
  clear ht hl hs h
  go_enter Tryz.func132, Tryz.ntmps132
  go_wp2_with fail
  refine C.out.mono ?_
  rintro e w1 ⟨rfl, K1, G1⟩
  have HK := Lib.hid K1
  have HG := Lib.hid G1
  clear K1 G1 C
  go_wp2_with fail
  go_loopg [4, 5] 8 (fun g n_ i_ wr => wr = w1 ∧ ∃ (i : Nat), i ≤ 8 ∧ 8 - i ≤ g ∧ i_ = .int .i64 i ∧ n_ = .int .u64 (valN (t.take i) : Nat))
  case atStart => exact ⟨rfl, 0, by omega, by omega, rfl, rfl⟩
  case round =>
    obtain ⟨rfl, i, hi, hg, rfl, rfl⟩ := hrel
    by_cases hi8 : i < 8
    · have iw : ((i : Nat) : Int) < 8 := by omega
      have n0 : (0 : Int) ≤ (i : Int) := by omega
      obtain ⟨y, hy⟩ : ∃ y : UInt8, y = t.getD i 0 := ⟨_, rfl⟩
      have XI : ∀ w, (Instr.index 9 (.string s) (.int .i64 (i : Nat))).run Tryz.prog w = .ok (.int .u8 (y.toNat : Nat)) w := fun w => by
        rw [HS.out.1, hy]
        exact byte_run w t .i64 (by rw [HS.out.2]; exact hi8)
      obtain ⟨a, ha⟩ : ∃ a, a = valN (t.take i) := ⟨_, rfl⟩
      have hb : Hid (valN (t.take (i + 1)) = a * 256 + y.toNat) := by show _ = _; rw [ha, hy]; exact val_next (by rw [HS.out.2]; exact hi8)
      have y8 : y.toNat < 256 := y.toNat_lt
      have hlt : a * 256 + y.toNat < 18446744073709551616 := by
        rw [← hb.out]
        have h1 := val_lt (i + 1) (t.take (i + 1)) (by rw [List.length_take, HS.out.2]; omega)
        exact Nat.lt_of_lt_of_le h1 (Nat.le_trans (Nat.pow_le_pow_right (by decide) (show i + 1 ≤ 8 by omega)) (by decide))
      rw [← ha]
      clear ha hy
      generalize y.toNat = x at *
      go_wp2_with fail
      go_roundg (8 - (i + 1))
      case measure => omega
      case rel => exact ⟨rfl, i + 1, by omega, Nat.le_refl _, by go_num, by rw [hb.out]; go_num⟩
    · obtain rfl : i = 8 := by omega
      have iw : ¬ (((8 : Nat) : Int) < 8) := by omega
      have et : t.take 8 = t := List.take_of_length_le (by rw [HS.out.2]; exact Nat.le_refl _)
      rw [et]
      have WB := wrap_back (valN t)
      generalize valN t = v at *
      generalize back v = z at *
      clear et
      go_wp2_with fail
      go_ret
      exact ⟨by rw [HR.out.1]; rfl, by rw [HR.out.2]; exact HK.out, HG.out⟩
end Go.Proofs.YthegkookfpnbeaaGreatDoor.Wds
