/- Contracts: Ints and Same, of the same ints, the same labels. -/
import Derived.Test.YtefibidkmfcccaaRight
set_option linter.unusedVariables false
namespace Go.Proofs.Ytefibidkmfcccaa.Rig
open Go.RowKit Go.Lib Go.Proofs.Ytefibidkmfcccaa.Rt

set_option maxRecDepth 100000 in
set_option maxHeartbeats 1000000 in
theorem ints_same {v1 v2 : Value} {xs : List Int} (w : World) (h1 : Ints w v1 xs) (h2 : Ints w v2 xs) :
    Calls Try.prog 27 #[v1, v2] w fun e w' => e = .returned (.bool true) ∧ ∃ q, w' = w.drewN q := by
  obtain ⟨a, ca, rfl, hla, hca, hc1⟩ := h1.open_
  obtain ⟨b, cb, rfl, hlb, hcb, hc2⟩ := h2.open_
  have H1 := Lib.hid hc1
  have H2 := Lib.hid hc2
  obtain ⟨n, hn⟩ : ∃ n, n = xs.length := ⟨_, rfl⟩
  rw [← hn] at hla hlb ⊢
  replace hn := Lib.hid hn
  clear hc1 hc2 h1 h2
  go_enter Try.func27, Try.ntmps27
  go_wp2_with fail
  go_loopw [5] (fun i wr => ∃ k q : Nat, k ≤ n ∧ i = .int .i64 k ∧ wr = w.drewN q) (fun i _ => n - (RowKit.intOf i).toNat)
  case atStart => exact ⟨0, 0, Nat.zero_le _, rfl, rfl⟩
  case round =>
    obtain ⟨k, q, hk, rfl, rfl⟩ := hrel
    by_cases hlt : k < n
    · have hkl : k < xs.length := by rw [← hn.out]; exact hlt
      obtain ⟨b1, f1, rfl, hb1, ⟨x1, x2⟩, c1⟩ := H1.out k hkl
      obtain ⟨b2, f2, rfl, hb2, _, c2⟩ := H2.out k hkl
      generalize at_ xs k = x at *
      have i0 : (0 : Int) ≤ (k : Int) := by omega
      have i1 : (k : Int) < (n : Int) := by omega
      have e0 : (x != x) = false := by simp
      clear H1 H2
      go_wp2_with fail
      go_quiet (fail)
      go_wp2
      go_roundw
      case rel => exact ⟨k + 1, _, by omega, by go_num, rfl⟩
      case measure => simp [RowKit.intOf]; omega
    · clear H1 H2
      go_wp2
      go_ret
      exact ⟨rfl, q, rfl⟩

set_option maxRecDepth 100000 in
set_option maxHeartbeats 1000000 in
theorem labs_same {v1 v2 : Value} {L : List Lb} (w : World) (h1 : Labs w v1 L) (h2 : Labs w v2 L) :
    Calls Try.prog 19 #[v1, v2] w fun e w' => e = .returned (.bool true) ∧ Below w.heap.size w w' := by
  obtain ⟨a, ca, rfl, hla, hca, hc1⟩ := h1.open_
  obtain ⟨b, cb, rfl, hlb, hcb, hc2⟩ := h2.open_
  have H1 := Lib.hid hc1
  have H2 := Lib.hid hc2
  obtain ⟨n, hn⟩ : ∃ n, n = L.length := ⟨_, rfl⟩
  rw [← hn] at hla hlb ⊢
  replace hn := Lib.hid hn
  clear hc1 hc2 h1 h2
  go_enter Try.func19, Try.ntmps19
  go_wp2_with fail
  go_loopw [5] (fun i wr => ∃ k : Nat, k ≤ n ∧ i = .int .i64 k ∧ Below w.heap.size w wr) (fun i _ => n - (RowKit.intOf i).toNat)
  case atStart => exact ⟨0, Nat.zero_le _, rfl, Below.refl _ _⟩
  case round =>
    obtain ⟨k, hk, rfl, hbel⟩ := hrel
    by_cases hlt : k < n
    · have hkl : k < L.length := by rw [← hn.out]; exact hlt
      obtain ⟨b1, f1, rfl, hb1, r1, s1, ⟨p1, p2⟩, ⟨o1, o2⟩, a0, a1, a2, a3, hr1, hs1⟩ := H1.out k hkl
      obtain ⟨b2, f2, rfl, hb2, r2, s2, _, _, e0, e1, e2, e3, hr2, hs2⟩ := H2.out k hkl
      generalize lb L k = x at *
      obtain ⟨p, o, r, s⟩ := x
      simp only at p1 p2 o1 o2 a0 a1 a2 a3 e0 e1 e2 e3 hr1 hs1 hr2 hs2
      replace a0 := below_cell hbel hb1 a0
      replace a1 := below_cell hbel hb1 a1
      replace a2 := below_cell hbel hb1 a2
      replace a3 := below_cell hbel hb1 a3
      replace e0 := below_cell hbel hb2 e0
      replace e1 := below_cell hbel hb2 e1
      replace e2 := below_cell hbel hb2 e2
      replace e3 := below_cell hbel hb2 e3
      have DB : ∀ m, Below wr.heap.size wr (wr.drewN m) := fun m => below_drews (Below.refl _ _) m
      have CR : Hid (∀ m, Calls Try.prog 27 #[r1, r2] (wr.drewN m) fun e w' => e = .returned (.bool true) ∧ ∃ q, w' = (wr.drewN m).drewN q) := fun m => ints_same _ ((hr1.below hbel (Nat.le_refl _)).below (DB m) (Nat.le_refl _)) ((hr2.below hbel (Nat.le_refl _)).below (DB m) (Nat.le_refl _))
      have CS : Hid (∀ m, Calls Try.prog 27 #[s1, s2] (wr.drewN m) fun e w' => e = .returned (.bool true) ∧ ∃ q, w' = (wr.drewN m).drewN q) := fun m => ints_same _ ((hs1.below hbel (Nat.le_refl _)).below (DB m) (Nat.le_refl _)) ((hs2.below hbel (Nat.le_refl _)).below (DB m) (Nat.le_refl _))
      obtain ⟨ra1, rc1, rfl⟩ := hr1.is_slice
      obtain ⟨ra2, rc2, rfl⟩ := hr2.is_slice
      obtain ⟨sa1, sc1, rfl⟩ := hs1.is_slice
      obtain ⟨sa2, sc2, rfl⟩ := hs2.is_slice
      generalize r.length = l1 at *
      generalize s.length = l2 at *
      have i0 : (0 : Int) ≤ (k : Int) := by omega
      have i1 : (k : Int) < (n : Int) := by omega
      have n0 : (p != p) = false := by simp
      have n1 : (o != o) = false := by simp
      have HB := Lib.hid hbel
      clear H1 H2 DB hr1 hr2 hs1 hs2 hbel
      go_wp2_with fail
      go_quiet ((first | (go_at_call 27; with_reducible exact Calls.quiet_of (CR.out _)) | (go_at_call 27; with_reducible exact Calls.quiet_of (CS.out _))))
      go_wp2
      go_roundw
      case rel => exact ⟨k + 1, by omega, by go_num, below_drews HB.out _⟩
      case measure => simp [RowKit.intOf]; omega
    · clear H1 H2
      go_wp2
      go_ret
      exact ⟨rfl, hbel⟩
end Go.Proofs.Ytefibidkmfcccaa.Rig
