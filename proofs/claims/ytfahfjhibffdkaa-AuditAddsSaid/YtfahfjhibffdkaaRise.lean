/- Contracts: rising of both, Has, Index, Contains, among. -/
import Derived.Test.YtfahfjhibffdkaaLab
import Derived.Deep.LoopGhost
import Derived.Deep.QuietTactic
import Derived.BigQuiet
import Derived.WalkSmall
import Derived.IntWalk
set_option linter.unusedVariables false
namespace Go.Proofs.Ytfahfjhibffdkaa.Rig
open Go.RowKit Go.Lib Go.Proofs.Ytfahfjhibffdkaa.Rt

set_option maxRecDepth 100000 in
set_option maxHeartbeats 1000000 in
theorem has_any {v : Value} {xs : List Int} (u : Int) (w : World) (h : Ints w v xs) (hu : i64 u) :
    Calls Try.prog 18 #[v, .int .i64 u] w fun e w' => e = .returned (.bool (hasB xs u)) ∧ w = w' := by
  obtain ⟨a, cap, rfl, hlc, hcap, hc⟩ := h.open_
  have H := Lib.hid hc
  clear hc h
  obtain ⟨n, hn⟩ : ∃ n, n = xs.length := ⟨_, rfl⟩
  rw [← hn] at hlc ⊢
  replace hn := Lib.hid hn
  obtain ⟨hu1, hu2⟩ := hu
  go_enter Try.func18, Try.ntmps18
  go_wp2_with fail
  go_loop [5] (fun i => ∃ k : Nat, k ≤ n ∧ i = .int .i64 k ∧ Hid (∀ j, j < k → at_ xs j ≠ u)) (fun i => n - (intOf i).toNat)
  case atStart => exact ⟨0, Nat.zero_le _, rfl, fun j hj => absurd hj (by omega)⟩
  case round =>
    obtain ⟨k, hk, rfl, OK⟩ := hrel
    by_cases hlt : k < n
    · have hkl : k < xs.length := by rw [← hn.out]; exact hlt
      obtain ⟨b, off, rfl, hb, ⟨hx1, hx2⟩, hcell⟩ := H.out k hkl
      obtain ⟨x, hX⟩ : ∃ x, x = at_ xs k := ⟨_, rfl⟩
      rw [← hX] at hcell hx1 hx2
      by_cases h1 : x = u
      · subst h1
        have R := Lib.hid (hasB_true hkl hX.symm)
        clear H OK hX
        go_wp2
        go_ret
        exact ⟨ret_bool R.out.symm, rfl⟩
      · have d1 : (x == u) = false := by simpa using h1
        have R : Hid (∀ j, j < k + 1 → at_ xs j ≠ u) := fun j hj => by
          by_cases e : j = k
          · subst e; rw [← hX]; exact h1
          · exact OK.out j (by omega)
        clear H OK hX
        go_wp2
        go_round
        case rel => exact ⟨k + 1, by omega, by go_num, R⟩
        case measure => simp [intOf]; omega
    · have R : Hid (hasB xs u = false) := hasB_false (fun j hj => OK.out j (by rw [← hn.out] at hj; omega))
      clear H OK
      go_wp2
      go_ret
      exact ⟨ret_bool R.out.symm, rfl⟩

/-- A place, or below 0. -/
def Placed (b : Bool) (w : World) (e : Ending) (w' : World) : Prop := ∃ i : Int, e = .returned (.int .i64 i) ∧ decide (0 ≤ i) = b ∧ w = w'

set_option maxRecDepth 100000 in
set_option maxHeartbeats 1000000 in
theorem index_any {v : Value} {xs : List Int} (u : Int) (w : World) (h : Ints w v xs) (hu : i64 u) :
    Calls Try.prog 25 #[v, .int .i64 u] w (Placed (hasB xs u) w) := by
  obtain ⟨a, cap, rfl, hlc, hcap, hc⟩ := h.open_
  have H := Lib.hid hc
  clear hc h
  obtain ⟨n, hn⟩ : ∃ n, n = xs.length := ⟨_, rfl⟩
  rw [← hn] at hlc ⊢
  replace hn := Lib.hid hn
  obtain ⟨hu1, hu2⟩ := hu
  go_enter Try.func25, Try.ntmps25
  go_wp2_with fail
  go_loop [8] (fun i => ∃ k : Nat, k ≤ n ∧ i = .int .i64 k ∧ Hid (∀ j, j < k → at_ xs j ≠ u)) (fun i => n - (intOf i).toNat)
  case atStart => exact ⟨0, Nat.zero_le _, rfl, fun j hj => absurd hj (by omega)⟩
  case round =>
    obtain ⟨k, hk, rfl, OK⟩ := hrel
    by_cases hlt : k < n
    · have hkl : k < xs.length := by rw [← hn.out]; exact hlt
      obtain ⟨b, off, rfl, hb, ⟨hx1, hx2⟩, hcell⟩ := H.out k hkl
      obtain ⟨x, hX⟩ : ∃ x, x = at_ xs k := ⟨_, rfl⟩
      rw [← hX] at hcell hx1 hx2
      by_cases h1 : x = u
      · subst h1
        have R := Lib.hid (hasB_true hkl hX.symm)
        clear H OK hX
        go_wp2
        go_ret
        exact ⟨(k : Int), rfl, by rw [R.out]; simp, rfl⟩
      · have d1 : (u == x) = false := by rw [beq_eq_false_iff_ne]; exact fun e => h1 e.symm
        have R : Hid (∀ j, j < k + 1 → at_ xs j ≠ u) := fun j hj => by
          by_cases e : j = k
          · subst e; rw [← hX]; exact h1
          · exact OK.out j (by omega)
        clear H OK hX
        go_wp2
        go_round
        case rel => exact ⟨k + 1, by omega, by go_num, R⟩
        case measure => simp [intOf]; omega
    · have R : Hid (hasB xs u = false) := hasB_false (fun j hj => OK.out j (by rw [← hn.out] at hj; omega))
      clear H OK
      go_wp2
      go_ret
      exact ⟨-1, rfl, by rw [R.out]; simp, rfl⟩

set_option maxRecDepth 100000 in
set_option maxHeartbeats 1000000 in
theorem contains_any {v : Value} {xs : List Int} (u : Int) (w : World) (h : Ints w v xs) (hu : i64 u) :
    Calls Try.prog 24 #[v, .int .i64 u] w fun e w' => e = .returned (.bool (hasB xs u)) ∧ w = w' := by
  have C := Lib.hid (index_any u w h hu)
  clear h
  go_enter Try.func24, Try.ntmps24
  go_wp2_with fail
  refine C.out.mono ?_
  rintro e w' ⟨i, rfl, hd, rfl⟩
  have HD := Lib.hid hd
  clear hd
  go_wp2_with fail
  go_ret
  exact ⟨ret_bool HD.out, rfl⟩

set_option maxRecDepth 100000 in
set_option maxHeartbeats 1000000 in
theorem among_any {x : Lb} {rv sv : Value} (u : Int) (b : Bool) (w : World) (hr : Ints w rv x.r) (hs : Ints w sv x.s) (hu : i64 u) :
    Calls Try.prog 23 #[.agg #[.int .i64 x.p, .int .i64 x.o, rv, sv], .int .i64 u, .bool b] w fun e w' => e = .returned (.bool (hasB (x.own b) u)) ∧ Below w.heap.size w w' := by
  have C1 : Hid (∀ w', Below w.heap.size w w' → Calls Try.prog 24 #[rv, .int .i64 u] w' fun e w'' => e = .returned (.bool (hasB x.r u)) ∧ w' = w'') := fun w' hb => contains_any u w' (hr.below hb (Nat.le_refl _)) hu
  have C2 : Hid (∀ w', Below w.heap.size w w' → Calls Try.prog 24 #[sv, .int .i64 u] w' fun e w'' => e = .returned (.bool (hasB x.s u)) ∧ w' = w'') := fun w' hb => contains_any u w' (hs.below hb (Nat.le_refl _)) hu
  obtain ⟨ra, rc, rfl⟩ := hr.is_slice
  obtain ⟨sa, sc, rfl⟩ := hs.is_slice
  clear hr hs
  generalize x.r.length = n1 at *
  generalize x.s.length = n2 at *
  cases b with
  | true =>
    rw [Lb.own_true]
    go_enter Try.func23, Try.ntmps23
    go_wp2_with fail
    refine (C2.out _ ((Below.refl _ _).alloc (Nat.le_refl _) _)).mono ?_
    rintro e w' ⟨rfl, rfl⟩
    go_wp2_with fail
    go_ret
    exact ⟨rfl, (Below.refl _ _).alloc (Nat.le_refl _) _⟩
  | false =>
    rw [Lb.own_false]
    go_enter Try.func23, Try.ntmps23
    go_wp2_with fail
    refine (C1.out _ ((Below.refl _ _).alloc (Nat.le_refl _) _)).mono ?_
    rintro e w' ⟨rfl, rfl⟩
    go_wp2_with fail
    go_ret
    exact ⟨rfl, (Below.refl _ _).alloc (Nat.le_refl _) _⟩
end Go.Proofs.Ytfahfjhibffdkaa.Rig
