/- Words: Flag, Len, Text of the plain text's reader. -/
import Derived.Test.YthegkookfpnbeaaGd
set_option linter.unusedVariables false
set_option linter.unusedSimpArgs false
set_option maxRecDepth 100000
namespace Go.Proofs.Ythegkookfpnbeaa.Wds
open Go.RowKit Go.Lib Go.Proofs.Ythegkookfpnbeaa.Bx Go.Proofs.Ythegkookfpnbeaa.Frm

set_option maxHeartbeats 8000000 in
theorem len_rd (r : Rd) (B : Nat) (w : World) (h : At w B r) : Calls Try.prog 51 #[.pointer (some ⟨B, 0, none⟩)] w fun e w' => e = .returned (.int .i64 ((lenR r).1 : Nat)) ∧ At w' B (lenR r).2 ∧ w.grownBy w' (some B) := by
  have C := Lib.hid (take_any r 1 B w h (by decide) (.inl (by decide)))
  obtain ⟨t, ht⟩ : ∃ t, t = (takeR r 1).1 := ⟨_, rfl⟩
  have hl : t.length = 1 := by rw [ht]; exact take_len _ _
  obtain ⟨x, hx⟩ : ∃ x, x = (t.getD 0 0).toNat := ⟨_, rfl⟩
  have HR : Hid ((lenR r).1 = x ∧ (lenR r).2 = (takeR r 1).2) := ⟨by rw [hx, ht]; rfl, rfl⟩
  have x8 : x < 256 := by rw [hx]; exact UInt8.toNat_lt _
  have XI : ∀ w, (Instr.index 9 (.string (mkB t)) (.int .i64 0)).run Try.prog w = .ok (.int .u8 (x : Nat)) w := fun w => by
    rw [hx]
    exact byte_run w t .i64 (i := 0) (by omega)
  rw [← ht] at C
  have hsz : (mkB t).size = 1 := by rw [mkB_size, hl]
  generalize mkB t = s at *
  clear ht hl h hx
  go_enter Try.func51, Try.ntmps51
  go_wp2_with fail
  refine C.out.mono ?_
  rintro e w1 ⟨rfl, K1, G1⟩
  have HK := Lib.hid K1
  have HG := Lib.hid G1
  clear K1 G1 C
  go_wp2_with fail
  go_ret
  exact ⟨by rw [HR.out.1]; rfl, by rw [HR.out.2]; exact HK.out, HG.out⟩
set_option maxHeartbeats 8000000 in
theorem flag_rd (r : Rd) (B : Nat) (w : World) (h : At w B r) : Calls Try.prog 39 #[.pointer (some ⟨B, 0, none⟩)] w fun e w' => e = .returned (.bool (flagR r).1) ∧ At w' B (flagR r).2 ∧ w.grownBy w' (some B) := by
  have C := Lib.hid (take_any r 1 B w h (by decide) (.inl (by decide)))
  obtain ⟨t, ht⟩ : ∃ t, t = (takeR r 1).1 := ⟨_, rfl⟩
  obtain ⟨r1, hr1⟩ : ∃ r1, r1 = (takeR r 1).2 := ⟨_, rfl⟩
  have hl : t.length = 1 := by rw [ht]; exact take_len _ _
  obtain ⟨x, hx⟩ : ∃ x, x = (t.getD 0 0).toNat := ⟨_, rfl⟩
  have HR : Hid ((flagR r).1 = decide (x = 1) ∧ (flagR r).2 = if 1 < x then ⟨r1.s, true⟩ else r1) := ⟨by rw [hx, ht]; rfl, by rw [hx, ht, hr1]; rfl⟩
  have x8 : x < 256 := by rw [hx]; exact UInt8.toNat_lt _
  have XI : ∀ w, (Instr.index 9 (.string (mkB t)) (.int .i64 0)).run Try.prog w = .ok (.int .u8 (x : Nat)) w := fun w => by
    rw [hx]
    exact byte_run w t .i64 (i := 0) (by omega)
  rw [← ht, ← hr1] at C
  have hsz : (mkB t).size = 1 := by rw [mkB_size, hl]
  generalize mkB t = s at *
  clear ht hl h hx hr1
  go_enter Try.func39, Try.ntmps39
  go_wp2_with fail
  refine C.out.mono ?_
  rintro e w1 ⟨rfl, K1, G1⟩
  obtain ⟨c0, c1, hB⟩ := K1.cells
  have fr := fun i => K1.free (i := i)
  have HG := Lib.hid G1
  by_cases hbig : 1 < x
  · have g1 : (1 : Int) < (x : Int) := by omega
    have HK : Hid (At (w1.setCell ⟨B, 1, none⟩ (.bool true)) B ⟨r1.s, true⟩) := K1.set1 true
    have HG2 : Hid (w.grownBy (w1.setCell ⟨B, 1, none⟩ (.bool true)) (some B)) := grown_put HG.out
    have hx1 : decide ((x : Int) = 1) = decide (x = 1) := decide_eq_decide.2 (by omega)
    have hx2 : decide (x = 1) = false := decide_eq_false (by omega)
    have hx3 : ¬ (x : Int) = 1 := by omega
    have e2 := HR.out.2
    rw [if_pos hbig] at e2
    have HE := Lib.hid e2
    clear K1 G1 C e2
    go_wp2_with fail
    go_ret
    exact ⟨by rw [HR.out.1]; simp [hx2, hx3], by rw [HE.out]; exact HK.out, HG2.out⟩
  · have g1 : ¬ (1 : Int) < (x : Int) := by omega
    have hx1 : decide ((x : Int) = 1) = decide (x = 1) := decide_eq_decide.2 (by omega)
    have e2 := HR.out.2
    rw [if_neg hbig] at e2
    have HE := Lib.hid e2
    have HK := Lib.hid K1
    clear K1 G1 C e2 c0 c1 fr
    go_wp2_with fail
    go_ret
    exact ⟨by rw [HR.out.1]; first | rfl | (simp [hx1]; done) | (simp; omega), by rw [HE.out]; exact HK.out, HG.out⟩
end Go.Proofs.Ythegkookfpnbeaa.Wds
