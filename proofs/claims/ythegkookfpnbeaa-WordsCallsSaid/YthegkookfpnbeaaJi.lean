/- Words: the program's reader: a byte, a number, a bool. -/
import Derived.Test.YthegkookfpnbeaaJh
import Derived.Deep.RegionWith
set_option linter.unusedVariables false
set_option linter.unusedSimpArgs false
set_option maxRecDepth 100000
namespace Go.Proofs.Ythegkookfpnbeaa.Wds
open Go.RowKit Go.Lib Go.Proofs.Ythegkookfpnbeaa.Bx Go.Proofs.Ythegkookfpnbeaa.Frm

set_option maxHeartbeats 8000000 in
theorem pbyte_rd {l : List UInt8} {B : Nat} {w : World} (h : At1 w B l) (hl : l.length ≤ 9223372036854775807) : Calls Try.prog 58 #[.pointer (some ⟨B, 0, none⟩)] w (Got w B (.int .i64 ((lenR ⟨l, false⟩).1 : Nat)) (lenR ⟨l, false⟩).2) := by
  have C := Lib.hid (ptake_any h 1 (by decide) hl)
  obtain ⟨t, ht⟩ : ∃ t, t = (takeR ⟨l, false⟩ 1).1 := ⟨_, rfl⟩
  obtain ⟨r1, hr1⟩ : ∃ r1, r1 = (takeR ⟨l, false⟩ 1).2 := ⟨_, rfl⟩
  have hlt : t.length = 1 := by rw [ht]; exact take_len _ _
  obtain ⟨x, hx⟩ : ∃ x, x = (t.getD 0 0).toNat := ⟨_, rfl⟩
  have HR : Hid ((lenR ⟨l, false⟩).1 = x ∧ (lenR ⟨l, false⟩).2 = r1) := ⟨by rw [hx, ht]; rfl, by rw [hr1]; rfl⟩
  have x8 : x < 256 := by rw [hx]; exact UInt8.toNat_lt _
  have XI : ∀ w, (Instr.index 9 (.string (mkB t)) (.int .i64 0)).run Try.prog w = .ok (.int .u8 (x : Nat)) w := fun w => by
    rw [hx]
    exact byte_run w t .i64 (i := 0) (by omega)
  rw [← ht, ← hr1] at C
  have hsz : (mkB t).size = 1 := by rw [mkB_size, hlt]
  rw [HR.out.1, HR.out.2]
  generalize mkB t = s at *
  clear ht hl h hx hlt hr1 HR
  go_enter Try.func58, Try.ntmps58
  go_wp2_with fail
  refine C.out.mono ?_
  rintro e w1 ⟨G, (⟨hb, rfl, K⟩ | ⟨hb, rfl⟩)⟩
  · have FE : Hid (Got w B (.int .i64 (x : Nat)) r1 (.returned (.int .i64 (x : Nat))) w1) := ⟨G, .inl ⟨hb, rfl, K⟩⟩
    clear G K hb C
    go_wp2_with fail
    go_ret
    exact FE.out
  · have FE : Hid (Got w B (.int .i64 (x : Nat)) r1 (.panicked [{ v := unr, recovered := false }]) w1) := ⟨G, .inr ⟨hb, rfl⟩⟩
    clear G hb C
    go_wp2_with fail
    exact ⟨rfl, FE.out⟩
set_option maxHeartbeats 8000000 in
theorem pbool_rd {l : List UInt8} {B : Nat} {w : World} (h : At1 w B l) (hl : l.length ≤ 9223372036854775807) : Calls Try.prog 74 #[.pointer (some ⟨B, 0, none⟩)] w (Got w B (.bool (flagR ⟨l, false⟩).1) (flagR ⟨l, false⟩).2) := by
  have C := Lib.hid (pbyte_rd h hl)
  obtain ⟨x, hx⟩ : ∃ x, x = (lenR ⟨l, false⟩).1 := ⟨_, rfl⟩
  obtain ⟨r1, hr1⟩ : ∃ r1, r1 = (lenR ⟨l, false⟩).2 := ⟨_, rfl⟩
  have HR : Hid ((flagR ⟨l, false⟩).1 = decide (x = 1) ∧ (flagR ⟨l, false⟩).2 = if 1 < x then ⟨r1.s, true⟩ else r1) := ⟨by rw [hx]; rfl, by rw [hx, hr1]; rfl⟩
  obtain ⟨y, hy⟩ : ∃ y, y = (flagR ⟨l, false⟩).1 := ⟨_, rfl⟩
  obtain ⟨r2, hr2⟩ : ∃ r2, r2 = (flagR ⟨l, false⟩).2 := ⟨_, rfl⟩
  rw [← hx, ← hr1] at C
  rw [← hy, ← hr2] at HR ⊢
  clear h hl hx hr1 hy hr2
  go_enter Try.func74, Try.ntmps74
  go_wp2_with fail
  refine C.out.mono ?_
  rintro e w1 ⟨G, (⟨hb, rfl, K⟩ | ⟨hb, rfl⟩)⟩
  · by_cases h1 : 1 < x
    · have q1 : (1 : Int) < (x : Int) := by omega
      have C2 := Lib.hid (giveup_any B w1)
      have FE : Hid (Got w B (.bool y) r2 (.panicked [{ v := unr, recovered := false }]) w1) := ⟨G, .inr ⟨by rw [HR.out.2, if_pos h1], rfl⟩⟩
      clear G K hb C
      go_wp2_with fail
      refine C2.out.mono ?_
      rintro e w2 ⟨rfl, rfl⟩
      clear C2
      go_wp2_with fail
      exact ⟨rfl, FE.out⟩
    · have q1 : ¬ (1 : Int) < (x : Int) := by omega
      have FE : Hid (Got w B (.bool y) r2 (.returned (.bool ((x : Int) == 1))) w1) := by
        show Got _ _ _ _ _ _
        rw [HR.out.1, HR.out.2, if_neg h1]
        exact ⟨G, .inl ⟨hb, by congr 2; rw [show ((x : Int) == 1) = decide ((x : Int) = 1) from rfl]; exact decide_eq_decide.2 (by omega), K⟩⟩
      clear G K hb C
      go_wp2_with fail
      all_goals exact bodyPost_ret (v := .bool ((x : Int) == 1)) (by simp [results, Try.results74, go_sem]) rfl FE.out
  · have FE : Hid (Got w B (.bool y) r2 (.panicked [{ v := unr, recovered := false }]) w1) := ⟨G, .inr ⟨by rw [HR.out.2]; split; rfl; exact hb, rfl⟩⟩
    clear G hb C
    go_wp2_with fail
    exact ⟨rfl, FE.out⟩
set_option maxHeartbeats 8000000 in
theorem pnum_rd {l : List UInt8} {B : Nat} {w : World} (h : At1 w B l) (hl : l.length ≤ 9223372036854775807) : Calls Try.prog 60 #[.pointer (some ⟨B, 0, none⟩)] w (Got w B (.int .i64 (numR ⟨l, false⟩).1) (numR ⟨l, false⟩).2) := by
  have C := Lib.hid (ptake_any h 8 (by decide) hl)
  obtain ⟨t, ht⟩ : ∃ t, t = (takeR ⟨l, false⟩ 8).1 := ⟨_, rfl⟩
  obtain ⟨r1, hr1⟩ : ∃ r1, r1 = (takeR ⟨l, false⟩ 8).2 := ⟨_, rfl⟩
  have hlt : t.length = 8 := by rw [ht]; exact take_len _ _
  have HR : Hid ((numR ⟨l, false⟩).1 = back (valN t) ∧ (numR ⟨l, false⟩).2 = r1) := ⟨by rw [ht]; rfl, by rw [hr1]; rfl⟩
  rw [← ht, ← hr1] at C
  rw [HR.out.1, HR.out.2]
  obtain ⟨s, hs⟩ : ∃ s, s = mkB t := ⟨_, rfl⟩
  have HS : Hid (s = mkB t ∧ t.length = 8) := ⟨hs, hlt⟩
  have hsz : s.size = 8 := by rw [hs, mkB_size, hlt]
  rw [← hs] at C
  clear ht hl hs h hlt hr1 HR
  go_enter Try.func60, Try.ntmps60
  go_wp2_with fail
  refine C.out.mono ?_
  rintro e w1 ⟨G, (⟨hb, rfl, K⟩ | ⟨hb, rfl⟩)⟩
  · have FN : Hid (∀ x, x = back (valN t) → Got w B (.int .i64 (back (valN t))) r1 (.returned (.int .i64 x)) w1) := fun x hx => ⟨G, .inl ⟨hb, by rw [hx], K⟩⟩
    clear G K hb C
    go_wp2_with fail
    go_loopg [4, 10] 8 (fun g n_ i_ wr => wr = w1 ∧ ∃ (i : Nat), i ≤ 8 ∧ 8 - i ≤ g ∧ i_ = .int .i64 i ∧ n_ = .int .u64 (valN (t.take i) : Nat))
    case atStart => exact ⟨rfl, 0, by omega, by omega, rfl, rfl⟩
    case round =>
      obtain ⟨rfl, i, hi, hg, rfl, rfl⟩ := hrel
      by_cases hi8 : i < 8
      · have iw : ((i : Nat) : Int) < 8 := by omega
        have n0 : (0 : Int) ≤ (i : Int) := by omega
        obtain ⟨y, hy⟩ : ∃ y : UInt8, y = t.getD i 0 := ⟨_, rfl⟩
        have XI : ∀ w, (Instr.index 9 (.string s) (.int .i64 (i : Nat))).run Try.prog w = .ok (.int .u8 (y.toNat : Nat)) w := fun w => by
          rw [HS.out.1, hy]
          exact byte_run w t .i64 (by rw [HS.out.2]; exact hi8)
        obtain ⟨a, ha⟩ : ∃ a, a = valN (t.take i) := ⟨_, rfl⟩
        have hb : Hid (valN (t.take (i + 1)) = a * 256 + y.toNat) := by show _ = _; rw [ha, hy]; exact val_next (by rw [HS.out.2]; exact hi8)
        have y8 : y.toNat < 256 := y.toNat_lt
        have hlt : a * 256 + y.toNat < 18446744073709551616 := by
          rw [← hb.out]
          have h1 := val_lt (i + 1) (t.take (i + 1)) (by rw [List.length_take, HS.out.2]; omega)
          exact Nat.lt_of_lt_of_le h1 (Nat.le_trans (Nat.pow_le_pow_right (by decide) (show i + 1 ≤ 8 by omega)) (by decide))
        rw [← ha]
        clear ha hy
        generalize y.toNat = x at *
        have hor : bits .or .u64 ((a : Int) * 256) (x : Int) = ((a * 256 + x : Nat) : Int) := by
          rw [bits_join .u64 64 (by decide) (fun n h0 h1 => IntWalk.u64_in n (by omega)) 8 _ _ (by omega) (by omega) (by omega) (by omega) (by omega) (by omega)]
          omega
        have hw1 : IntKind.u64.wrap ((a : Int) * 256) = (a : Int) * 256 := IntWalk.u64_in _ (by omega)
        have hw2 : IntKind.u64.wrap (x : Int) = (x : Int) := IntWalk.u64_in _ (by omega)
        go_wp2_with fail
        go_roundg (8 - (i + 1))
        case measure => omega
        case rel => exact ⟨rfl, i + 1, by omega, Nat.le_refl _, by go_num, by rw [hb.out]; go_num⟩
      · obtain rfl : i = 8 := by omega
        have iw : ¬ (((8 : Nat) : Int) < 8) := by omega
        have et : t.take 8 = t := List.take_of_length_le (by rw [HS.out.2]; exact Nat.le_refl _)
        rw [et]
        have WB := wrap_back (valN t)
        have FE := Lib.hid (FN.out _ rfl)
        generalize valN t = v at *
        generalize back v = z at *
        clear et FN
        go_wp2_with fail
        go_ret
        exact FE.out
  · have FE : Hid (Got w B (.int .i64 (back (valN t))) r1 (.panicked [{ v := unr, recovered := false }]) w1) := ⟨G, .inr ⟨hb, rfl⟩⟩
    clear G hb C
    go_wp2_with fail
    exact ⟨rfl, FE.out⟩
end Go.Proofs.Ythegkookfpnbeaa.Wds
