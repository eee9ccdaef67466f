/- Words: Text of the plain text's reader. -/
import Derived.Test.YthegkookfpnbeaaGe
set_option linter.unusedVariables false
set_option linter.unusedSimpArgs false
set_option maxRecDepth 100000
namespace Go.Proofs.Ythegkookfpnbeaa.Wds
open Go.RowKit Go.Lib Go.Proofs.Ythegkookfpnbeaa.Bx Go.Proofs.Ythegkookfpnbeaa.Frm

set_option maxHeartbeats 8000000 in
theorem text_rd (r : Rd) (B : Nat) (w : World) (h : At w B r) : Calls Try.prog 37 #[.pointer (some ⟨B, 0, none⟩)] w fun e w' => e = .returned (.string (mkB (textR r).1)) ∧ At w' B (textR r).2 ∧ w.grownBy w' (some B) := by
  have C := Lib.hid (take_any r 2 B w h (by decide) (.inl (by decide)))
  obtain ⟨t, ht⟩ : ∃ t, t = (takeR r 2).1 := ⟨_, rfl⟩
  obtain ⟨r1, hr1⟩ : ∃ r1, r1 = (takeR r 2).2 := ⟨_, rfl⟩
  have hl : t.length = 2 := by rw [ht]; exact take_len _ _
  obtain ⟨x, hx⟩ : ∃ x, x = (t.getD 0 0).toNat := ⟨_, rfl⟩
  obtain ⟨y, hy⟩ : ∃ y, y = (t.getD 1 0).toNat := ⟨_, rfl⟩
  obtain ⟨n, hn⟩ : ∃ n, n = hd t := ⟨_, rfl⟩
  have HR : Hid (textR r = if r1.bad = true ∨ r1.s.length < n then ([], ⟨r1.s, true⟩) else takeR r1 n) := by
    show _ = _
    rw [hn, ht, hr1]
    rfl
  have x8 : x < 256 := by rw [hx]; exact UInt8.toNat_lt _
  have y8 : y < 256 := by rw [hy]; exact UInt8.toNat_lt _
  have hxy : x * 256 + y = n := by rw [hn, hx, hy]; rfl
  have hn6 : n ≤ 65535 := by omega
  have hxi : (x : Int) * 256 + (y : Int) = (n : Nat) := by omega
  have XI0 : ∀ w, (Instr.index 9 (.string (mkB t)) (.int .i64 0)).run Try.prog w = .ok (.int .u8 (x : Nat)) w := fun w => by
    rw [hx]
    exact byte_run w t .i64 (i := 0) (by omega)
  have XI1 : ∀ w, (Instr.index 9 (.string (mkB t)) (.int .i64 1)).run Try.prog w = .ok (.int .u8 (y : Nat)) w := fun w => by
    rw [hy]
    exact byte_run w t .i64 (i := 1) (by omega)
  rw [← ht, ← hr1] at C
  have hsz : (mkB t).size = 2 := by rw [mkB_size, hl]
  generalize mkB t = s at *
  clear ht hl h hx hy hr1 hn
  go_enter Try.func37, Try.ntmps37
  go_wp2_with fail
  refine C.out.mono ?_
  rintro e w1 ⟨rfl, K1, G1⟩
  have HK1 := Lib.hid K1
  have HG1 := Lib.hid G1
  clear K1 G1 C
  go_upto_region 2 with fail
  go_quiet (fail)
  have HK : Hid (At (w1.drewN nq) B r1) := HK1.out.kept (grown_of _ _ (d_drews (Below.refl _ _) _) _)
  have HG : Hid (w.grownBy (w1.drewN nq) (some B)) := grown_below HG1.out (d_drews (Below.refl _ _) _)
  generalize w1.drewN nq = w2 at HK HG ⊢
  clear hxy hxi XI0 XI1 HK1 HG1
  obtain ⟨c0, c1, hB⟩ := HK.out.cells
  have fr := fun i => HK.out.free (i := i)
  obtain ⟨l, b⟩ := r1
  obtain ⟨m, hm⟩ : ∃ m, m = l.length := ⟨_, rfl⟩
  have hsz2 : (mkB l).size = m := by rw [mkB_size, hm]
  by_cases hbad : b = true ∨ m < n
  · have e := HR.out
    rw [if_pos (by rw [← hm]; exact hbad)] at e
    have HE := Lib.hid e
    have HA : Hid (At (w2.setCell ⟨B, 1, none⟩ (.bool true)) B ⟨l, true⟩) := HK.out.set1 true
    have HG2 : Hid (w.grownBy (w2.setCell ⟨B, 1, none⟩ (.bool true)) (some B)) := grown_put HG.out
    have hbad' : b = true ∨ b = false ∧ (m : Int) < (n : Int) := by
      cases b with
      | true => exact .inl rfl
      | false => exact .inr ⟨rfl, by rcases hbad with hb | hb; cases hb; omega⟩
    simp only at c0 c1
    generalize mkB l = sl at *
    clear e hm HR
    rcases hbad' with rfl | ⟨rfl, g1⟩
    all_goals (
      go_wp2_with fail
      go_ret
      exact ⟨by rw [HE.out]; rfl, by rw [HE.out]; exact HA.out, HG2.out⟩)
  · have e := HR.out
    rw [if_neg (by rw [← hm]; exact hbad)] at e
    have HE := Lib.hid e
    obtain rfl : b = false := by cases b with
      | false => rfl
      | true => exact absurd (.inl rfl) hbad
    have g1 : ¬ (m : Int) < (n : Int) := by omega
    have g2 : decide ((m : Int) < (n : Int)) = false := decide_eq_false g1
    have C2 := Lib.hid (take_any ⟨l, false⟩ n B w2 HK.out (by omega) (.inr rfl))
    simp only at c0 c1
    generalize mkB l = sl at *
    clear e hm HR
    go_wp2_with fail
    refine C2.out.mono ?_
    rintro e w3 ⟨rfl, K3, G3⟩
    have HK3 := Lib.hid K3
    have HG3 := Lib.hid (grown_trans HG.out G3)
    clear K3 G3 C2
    go_wp2_with fail
    go_ret
    exact ⟨by rw [HE.out]; rfl, by rw [HE.out]; exact HK3.out, HG3.out⟩
end Go.Proofs.Ythegkookfpnbeaa.Wds
