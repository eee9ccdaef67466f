/- Plate: the program's New, Get, Limit, a step, and Lay. -/
import Derived.Test.YtffejfpbeimngaaDoorY16b
import Derived.Deep.RegionLaw
import Derived.OpenShut
import Derived.Lib.Strings
import Derived.BigQuiet
import Derived.Deep.DeepCutAuto
import Derived.Deep.CutBlock
import Derived.Deep.LoopGhost
import Derived.Deep.RegionHeld3
import Derived.Maps.AppendAt
set_option linter.unusedVariables false
set_option linter.unusedSimpArgs false
set_option maxRecDepth 100000
namespace Go.Proofs.YtffejfpbeimngaaDoor.Plt
open Go.RowKit Go.Lib Go.Proofs.YtffejfpbeimngaaDoor.Bx

section
variable {base B G : Nat} {w w' : World} {v : Value} {u : Nat → Value} {L : List Nat} {D : DK} {M : Nat → Prop}
theorem getB_is (D : DK) (i : Int) : getB D i = (!D.off && inB i D.n) := rfl
theorem inB_nat {i : Int} {n : Nat} (h : inB i n = true) : ∃ k : Nat, i = (k : Int) ∧ k < n := by
  unfold inB at h
  simp only [Bool.and_eq_true, decide_eq_true_eq] at h
  exact ⟨i.toNat, by omega, by omega⟩
set_option maxHeartbeats 2000000 in
theorem get_any (i : Int) (hd : Dm base w B G v u L D) : Calls Tryd.prog 8 #[.pointer (some ⟨B, 0, none⟩), .int .i64 i] w fun e w' => e = .returned (.tuple #[.string (getS D i), .bool (getB D i)]) ∧ w = w' := by
  obtain ⟨c0, c1, c2, c3, _⟩ := Dx.cells hd
  have CO := Lib.hid (on_any w c2)
  have CI := Lib.hid (has_any i w c0 hd.n2)
  have HG := getB_is D i
  cases ho : D.off with
  | true =>
    rw [ho, Bool.not_true, Bool.false_and] at HG
    have HS : getS D i = ByteArray.empty := by unfold getS; rw [HG]; rfl
    rw [HS, HG]
    rw [ho, Bool.not_true] at CO
    clear HS HG hd c0 c1 c2 c3 ho CI
    go_enter Tryd.func8, Tryd.ntmps8
    go_wp2_with (refine CO.out.mono ?_; rintro e w1 ⟨rfl, rfl⟩)
    exact bodyPost_ret (v := .tuple #[.string ByteArray.empty, .bool false]) (by simp [results, Tryd.results8, go_sem]; rfl) rfl ⟨rfl, rfl⟩
  | false =>
    rw [ho, Bool.not_false, Bool.true_and] at HG
    rw [ho, Bool.not_false] at CO
    cases hin : inB i D.n with
    | false =>
      rw [hin] at HG CI
      have HS : getS D i = ByteArray.empty := by unfold getS; rw [HG]; rfl
      rw [HS, HG]
      clear HS HG hd c0 c1 c2 c3 ho hin
      go_enter Tryd.func8, Tryd.ntmps8
      go_wp2_with (first | (refine CO.out.mono ?_; rintro e w1 ⟨rfl, rfl⟩) | (refine CI.out.mono ?_; rintro e w1 ⟨rfl, rfl⟩))
      exact bodyPost_ret (v := .tuple #[.string ByteArray.empty, .bool false]) (by simp [results, Tryd.results8, go_sem]; rfl) rfl ⟨rfl, rfl⟩
    | true =>
      rw [hin] at HG CI
      obtain ⟨k, rfl, hk⟩ := inB_nat hin
      have HS : getS D (k : Nat) = (D.P k).last := by unfold getS; rw [HG]; rfl
      rw [HS, HG]
      obtain ⟨g0, g1, _⟩ := hd.pl.cells hk
      have CL := Lib.hid (last_any w g0 g1 (hd.row k hk))
      generalize (D.P k).last = r at *
      have n1 : (k : Int) < (D.n : Nat) := by omega
      have n0 : (0 : Int) ≤ (k : Nat) := by omega
      generalize D.n = n at *
      clear HS HG hd c1 c2 c3 ho hin g0 g1
      go_enter Tryd.func8, Tryd.ntmps8
      go_wp2_with (first | (refine CO.out.mono ?_; rintro e w1 ⟨rfl, rfl⟩) | (refine CI.out.mono ?_; rintro e w1 ⟨rfl, rfl⟩) | (refine CL.out.mono ?_; rintro e w1 ⟨rfl, rfl⟩))
      exact bodyPost_ret (v := .tuple #[.string r, .bool true]) (by simp [results, Tryd.results8, go_sem]) rfl ⟨rfl, rfl⟩
theorem get_nil (i : Int) (w : World) : Calls Tryd.prog 8 #[.pointer none, .int .i64 i] w fun e w' => e = .returned (.tuple #[.string ByteArray.empty, .bool false]) ∧ w = w' := by
  have CO := Lib.hid (on_nil w)
  go_enter Tryd.func8, Tryd.ntmps8
  go_wp2_with (refine CO.out.mono ?_; rintro e w1 ⟨rfl, rfl⟩)
  exact bodyPost_ret (v := .tuple #[.string ByteArray.empty, .bool false]) (by simp [results, Tryd.results8, go_sem]; rfl) rfl ⟨rfl, rfl⟩
def OneB (B : Nat) (g : Nat) : Prop := g = B
theorem chg_set (w : World) (B o : Nat) (x : Value) : Chg (OneB B) w (w.setCell ⟨B, o, none⟩ x) := (Chg.refl (OneB B) w).set (.inl rfl) x
def Stepped (base : Nat) (w : World) (B G : Nat) (v : Value) (u : Nat → Value) (L : List Nat) (D' : DK) (r : Bool) : Ending → World → Prop := fun e w' => e = .returned (.bool r) ∧ Dm base w' B G v u L D' ∧ Chg (OneB B) w w'
theorem step_ko (hd : Dm base w B G v u L D) (h0 : D.left = 0) : Calls Tryd.prog 20 #[.pointer (some ⟨B, 0, none⟩)] w (Stepped base w B G v u L ⟨D.n, D.P, true, D.left⟩ false) := by
  obtain ⟨c0, c1, c2, c3, f0, f1, f2, f3⟩ := Dx.cells hd
  refine (step_no w (by rw [c3, h0]) c2 f2 _ c0).mono ?_
  rintro e w' ⟨rfl, rfl⟩
  exact ⟨rfl, Dx.set hd 2 _ v ⟨D.n, D.P, true, D.left⟩ rfl rfl hd.left1 hd.left2 L _ hd.nod hd.mem rfl hd.own hd.neBv, chg_set _ _ _ _⟩
theorem step_ok (hd : Dm base w B G v u L D) (h0 : D.left ≠ 0) : Calls Tryd.prog 20 #[.pointer (some ⟨B, 0, none⟩)] w (Stepped base w B G v u L ⟨D.n, D.P, D.off, dec D.left⟩ true) := by
  obtain ⟨c0, c1, c2, c3, f0, f1, f2, f3⟩ := Dx.cells hd
  have h1 := hd.left1
  have h2 := hd.left2
  rcases Int.lt_or_lt_of_ne h0 with h | h
  · refine (step_free w c3 h _ c0).mono ?_
    rintro e w' ⟨rfl, rfl⟩
    have e1 : dec D.left = D.left := if_neg (by omega)
    rw [e1]
    exact ⟨rfl, hd, Chg.refl _ _⟩
  · refine (step_dec w c3 h h2 f3 _ c0).mono ?_
    rintro e w' ⟨rfl, rfl⟩
    have e1 : dec D.left = D.left - 1 := if_pos h
    rw [e1]
    exact ⟨rfl, Dx.set hd 3 _ v ⟨D.n, D.P, D.off, D.left - 1⟩ rfl rfl (by show -1 ≤ D.left - 1; omega) (by show D.left - 1 ≤ _; omega) L _ hd.nod hd.mem rfl hd.own hd.neBv, chg_set _ _ _ _⟩
end
end Go.Proofs.YtffejfpbeimngaaDoor.Plt
