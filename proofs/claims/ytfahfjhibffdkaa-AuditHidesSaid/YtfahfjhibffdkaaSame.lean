/- Contracts: Ints and Same, of the same ints, the same labels. -/
import Derived.Test.YtfahfjhibffdkaaRight
set_option linter.unusedVariables false
namespace Go.Proofs.Ytfahfjhibffdkaa.Rig
open Go.RowKit Go.Lib Go.Proofs.Ytfahfjhibffdkaa.Rt

set_option maxRecDepth 100000 in
set_option maxHeartbeats 1000000 in
theorem ints_same {v1 v2 : Value} {xs : List Int} (w : World) (h1 : Ints w v1 xs) (h2 : Ints w v2 xs) :
    Calls Try.prog 20 #[v1, v2] w fun e w' => e = .returned (.bool true) ∧ ∃ q, w' = w.drewN q := by
  obtain ⟨a, ca, rfl, hla, hca, hc1⟩ := h1.open_
  obtain ⟨b, cb, rfl, hlb, hcb, hc2⟩ := h2.open_
  have H1 := Lib.hid hc1
  have H2 := Lib.hid hc2
  obtain ⟨n, hn⟩ : ∃ n, n = xs.length := ⟨_, rfl⟩
  rw [← hn] at hla hlb ⊢
  replace hn := Lib.hid hn
  clear hc1 hc2 h1 h2
  go_enter Try.func20, Try.ntmps20
  go_wp2_with fail
  go_loopw [5] (fun i wr => ∃ k q : Nat, k ≤ n ∧ i = .int .i64 k ∧ wr = w.drewN q) (fun i _ => n - (RowKit.intOf i).toNat)
  case atStart => exact ⟨0, 0, Nat.zero_le _, rfl, rfl⟩
  case round =>
    obtain ⟨k, q, hk, rfl, rfl⟩ := hrel
    by_cases hlt : k < n
    · have hkl : k < xs.length := by rw [← hn.out]; exact hlt
      obtain ⟨b1, f1, rfl, hb1, ⟨x1, x2⟩, c1⟩ := H1.out k hkl
      obtain ⟨b2, f2, rfl, hb2, _, c2⟩ := H2.out k hkl
      generalize at_ xs k = x at *
      have i0 : (0 : Int) ≤ (k : Int) := by omega
      have i1 : (k : Int) < (n : Int) := by omega
      have e0 : (x != x) = false := by simp
      clear H1 H2
      go_wp2_with fail
      go_quiet (fail)
      go_wp2
      go_roundw
      case rel => exact ⟨k + 1, _, by omega, by go_num, rfl⟩
      case measure => simp [RowKit.intOf]; omega
    · clear H1 H2
      go_wp2
      go_ret
      exact ⟨rfl, q, rfl⟩

end Go.Proofs.Ytfahfjhibffdkaa.Rig
