/- Contracts: rising of both, Has, Index, Contains, among. -/
import Derived.Test.YtffepndeegbdoaaGreatDoorLab
import Derived.Deep.LoopGhost
import Derived.Deep.QuietTactic
import Derived.BigQuiet
import Derived.WalkSmall
import Derived.IntWalk
set_option linter.unusedVariables false
namespace Go.Proofs.YtffepndeegbdoaaGreatDoor.Rig
open Go.RowKit Go.Lib Go.Proofs.YtffepndeegbdoaaGreatDoor.Rt

set_option maxRecDepth 100000 in
set_option maxHeartbeats 1000000 in
theorem rising_any {v : Value} {xs : List Int} (u : Int) (w : World) (h : Ints w v xs) (hu : i64 u) :
    Calls Tryz.prog 45 #[v, .int .i64 u] w fun e w' => e = .returned (.bool (risB xs u)) ∧ w = w' := by
  obtain ⟨a, cap, rfl, hlc, hcap, hc⟩ := h.open_
  have H := Lib.hid hc
  clear hc h
  obtain ⟨n, hn⟩ : ∃ n, n = xs.length := ⟨_, rfl⟩
  rw [← hn] at hlc ⊢
  replace hn := Lib.hid hn
  obtain ⟨hu1, hu2⟩ := hu
  go_enter Tryz.func45, Tryz.ntmps45
  go_wp2_with fail
  go_loop [5, 10] (fun l i => ∃ k : Nat, k ≤ n ∧ i = .int .i64 k ∧ l = .int .i64 (prev xs k) ∧ Hid (∀ j, j < k → okAt xs u j)) (fun _ i => n - (intOf i).toNat)
  case atStart => exact ⟨0, Nat.zero_le _, rfl, rfl, fun j hj => absurd hj (by omega)⟩
  case round =>
    obtain ⟨k, hk, rfl, rfl, OK⟩ := hrel
    by_cases hlt : k < n
    · have hkl : k < xs.length := by rw [← hn.out]; exact hlt
      obtain ⟨b, off, rfl, hb, ⟨hx1, hx2⟩, hcell⟩ := H.out k hkl
      have hp := Lib.hid (prev_succ xs k)
      obtain ⟨x, hX⟩ : ∃ x, x = at_ xs k := ⟨_, rfl⟩
      obtain ⟨y, hY⟩ : ∃ y, y = prev xs k := ⟨_, rfl⟩
      rw [← hX] at hcell hx1 hx2
      rw [← hY]
      have NO : ¬ (y < x ∧ x < u) → Hid (risB xs u = false) := fun hno => risB_false hkl (fun hc => hno (by rw [hX, hY]; exact hc))
      have YES : (y < x ∧ x < u) → Hid (∀ j, j < k + 1 → okAt xs u j) := fun hy j hj => by
        by_cases e : j = k
        · subst e
          show prev xs j < at_ xs j ∧ at_ xs j < u
          rw [← hX, ← hY]
          exact hy
        · exact OK.out j (by omega)
      have HX := Lib.hid hX
      have HY := Lib.hid hY
      have N := Lib.hid NO
      have Y := Lib.hid YES
      clear hX hY NO YES H OK
      by_cases h1 : x ≤ y
      · have R := N.out (by omega)
        go_wp2
        go_ret
        exact ⟨ret_bool R.out.symm, rfl⟩
      · by_cases h2 : u ≤ x
        · have R := N.out (by omega)
          go_wp2
          go_ret
          exact ⟨ret_bool R.out.symm, rfl⟩
        · have R := Y.out (by omega)
          go_wp2
          go_round
          case rel => exact ⟨k + 1, by omega, by go_num, by rw [hp.out, HX.out], R⟩
          case measure => simp [intOf]; omega
    · have R : Hid (risB xs u = true) := risB_true (fun j hj => OK.out j (by rw [← hn.out] at hj; omega))
      clear H OK
      go_wp2
      go_ret
      exact ⟨ret_bool R.out.symm, rfl⟩

set_option maxRecDepth 100000 in
set_option maxHeartbeats 1000000 in
theorem rrising_any {v : Value} {xs : List Int} (u : Int) (w : World) (h : Ints w v xs) (hu : i64 u) :
    Calls Tryz.prog 62 #[v, .int .i64 u] w fun e w' => e = .returned (.bool (risB xs u)) ∧ Below w.heap.size w w' := by
  obtain ⟨a, cap, rfl, hlc, hcap, hc⟩ := h.open_
  have H := Lib.hid hc
  clear hc h
  obtain ⟨n, hn⟩ : ∃ n, n = xs.length := ⟨_, rfl⟩
  rw [← hn] at hlc ⊢
  replace hn := Lib.hid hn
  obtain ⟨hu1, hu2⟩ := hu
  go_enter Tryz.func62, Tryz.ntmps62
  go_wp2_with fail
  go_loopw [5] (fun i wr => ∃ k : Nat, k ≤ n ∧ i = .int .i64 k ∧ Hid (∀ j, j < k → okAt xs u j) ∧ Below w.heap.size w wr) (fun i _ => n - (intOf i).toNat)
  case atStart => exact ⟨0, Nat.zero_le _, rfl, fun j hj => absurd hj (by omega), Below.refl _ _⟩
  case round =>
    obtain ⟨k, hk, rfl, OK, hbel⟩ := hrel
    by_cases hlt : k < n
    · have hkl : k < xs.length := by rw [← hn.out]; exact hlt
      obtain ⟨b, off, rfl, hb, ⟨hx1, hx2⟩, hcell⟩ := H.out k hkl
      obtain ⟨x, hX⟩ : ∃ x, x = at_ xs k := ⟨_, rfl⟩
      have PS := Lib.hid (okAt_pos (l := xs) (u := u) (k - 1))
      rw [← hX] at hcell hx1 hx2
      replace hcell := below_cell hbel hb hcell
      have NO : ¬ (prev xs k < x ∧ x < u) → Hid (risB xs u = false) := fun hno => risB_false hkl (fun hc => hno (by rw [hX]; exact hc))
      have YES : (prev xs k < x ∧ x < u) → Hid (∀ j, j < k + 1 → okAt xs u j) := fun hy j hj => by
        by_cases e : j = k
        · subst e
          show prev xs j < at_ xs j ∧ at_ xs j < u
          rw [← hX]
          exact hy
        · exact OK.out j (by omega)
      have HX := Lib.hid hX
      have N := Lib.hid NO
      have Y := Lib.hid YES
      have hbe := Lib.hid hbel
      have i0 : (0 : Int) ≤ (k : Int) := by omega
      have i1 : (k : Int) < (n : Int) := by omega
      clear hX NO YES hbel
      by_cases hk0 : k = 0
      · subst hk0
        rw [Nat.add_zero] at hcell
        have hp : Hid (prev xs 0 = -1) := rfl
        have d0 : decide ((0 : Int) < 0) = false := by decide
        by_cases h1 : x < 0
        · have d1 : decide (x < 0) = true := by simpa using h1
          have R := N.out (by rw [hp.out]; omega)
          clear H OK N Y PS
          go_wp2_with fail
          go_quiet (fail)
          go_wp2
          go_ret
          exact ⟨ret_bool R.out.symm, below_drews hbe.out _⟩
        · have d1 : decide (x < 0) = false := by simpa using h1
          by_cases h2 : u ≤ x
          · have d2 : decide (u ≤ x) = true := by simpa using h2
            have R := N.out (by omega)
            clear H OK N Y PS
            go_wp2_with fail
            go_quiet (fail)
            go_wp2
            go_ret
            exact ⟨ret_bool R.out.symm, below_drews hbe.out _⟩
          · have d2 : decide (u ≤ x) = false := by simpa using h2
            have R := Y.out (by rw [hp.out]; omega)
            clear H OK N Y PS
            go_wp2_with fail
            go_quiet (fail)
            go_wp2
            go_roundw
            case rel => exact ⟨0 + 1, by omega, by go_num, R, below_drews hbe.out _⟩
            case measure => simp [intOf]; omega
      · have dk : decide ((0 : Int) < (k : Int)) = true := by simp; omega
        have dkn : decide (0 < k) = true := by simp; omega
        obtain ⟨b', off', e', hb', ⟨hy1, hy2⟩, hcy⟩ := H.out (k - 1) (by omega)
        injection e' with e'
        injection e' with e1 e2
        subst e1 e2
        have hp : Hid (prev xs k = at_ xs (k - 1)) := by show _ = _; unfold prev; rw [if_neg hk0]
        obtain ⟨y, hY⟩ : ∃ y, y = at_ xs (k - 1) := ⟨_, rfl⟩
        rw [← hY] at hcy hy1 hy2
        replace hcy := below_cell hbe.out hb' hcy
        have y0 : 0 ≤ y := by rw [hY]; exact PS.out (fun i hi => OK.out i (by omega))
        have hp2 : Hid (prev xs k = y) := by show _ = _; rw [hp.out, hY]
        have HY := Lib.hid hY
        have z1 : IntKind.i64.wrap ((k : Int) - 1) = (k : Int) - 1 := IntWalk.i64_in _ (by omega)
        have z2 : (1 : Int) ≤ (k : Int) := by omega
        have z3 : (0 : Int) ≤ (k : Int) - 1 := by omega
        have z5 : (k : Int) - 1 < (n : Int) := by omega
        have z4 : ((k : Int) - 1).toNat = k - 1 := by omega
        clear hY hp
        by_cases h1 : x < 0
        · have d1 : decide (x < 0) = true := by simpa using h1
          have R := N.out (by rw [hp2.out]; omega)
          clear H OK N Y PS
          go_wp2_with fail
          go_quiet (fail)
          clear z1 z3 z4 z5
          go_wp2
          go_ret
          exact ⟨ret_bool R.out.symm, below_drews hbe.out _⟩
        · have d1 : decide (x < 0) = false := by simpa using h1
          by_cases h2 : u ≤ x
          · have d2 : decide (u ≤ x) = true := by simpa using h2
            have R := N.out (by omega)
            clear H OK N Y PS
            go_wp2_with fail
            go_quiet (fail)
            clear z1 z3 z4 z5
            go_wp2
            go_ret
            exact ⟨ret_bool R.out.symm, below_drews hbe.out _⟩
          · have d2 : decide (u ≤ x) = false := by simpa using h2
            by_cases h3 : x ≤ y
            · have d3 : decide (x ≤ y) = true := by simpa using h3
              have R := N.out (by rw [hp2.out]; omega)
              clear H OK N Y PS
              go_wp2_with fail
              go_quiet (fail)
              clear z1 z3 z4 z5
              go_wp2
              go_ret
              exact ⟨ret_bool R.out.symm, below_drews hbe.out _⟩
            · have d3 : decide (x ≤ y) = false := by simpa using h3
              have R := Y.out (by rw [hp2.out]; omega)
              clear H OK N Y PS
              go_wp2_with fail
              go_quiet (fail)
              clear z1 z3 z4 z5
              go_wp2
              go_roundw
              case rel => exact ⟨k + 1, by omega, by go_num, R, below_drews hbe.out _⟩
              case measure => simp [intOf]; omega
    · have R : Hid (risB xs u = true) := risB_true (fun j hj => OK.out j (by rw [← hn.out] at hj; omega))
      clear H OK
      go_wp2
      go_ret
      exact ⟨ret_bool R.out.symm, hbel⟩

/-- A place, or below 0. -/
def Placed (b : Bool) (w : World) (e : Ending) (w' : World) : Prop := ∃ i : Int, e = .returned (.int .i64 i) ∧ decide (0 ≤ i) = b ∧ w = w'

set_option maxRecDepth 100000 in
set_option maxHeartbeats 1000000 in
theorem index_any {v : Value} {xs : List Int} (u : Int) (w : World) (h : Ints w v xs) (hu : i64 u) :
    Calls Tryz.prog 79 #[v, .int .i64 u] w (Placed (hasB xs u) w) := by
  obtain ⟨a, cap, rfl, hlc, hcap, hc⟩ := h.open_
  have H := Lib.hid hc
  clear hc h
  obtain ⟨n, hn⟩ : ∃ n, n = xs.length := ⟨_, rfl⟩
  rw [← hn] at hlc ⊢
  replace hn := Lib.hid hn
  obtain ⟨hu1, hu2⟩ := hu
  go_enter Tryz.func79, Tryz.ntmps79
  go_wp2_with fail
  go_loop [8] (fun i => ∃ k : Nat, k ≤ n ∧ i = .int .i64 k ∧ Hid (∀ j, j < k → at_ xs j ≠ u)) (fun i => n - (intOf i).toNat)
  case atStart => exact ⟨0, Nat.zero_le _, rfl, fun j hj => absurd hj (by omega)⟩
  case round =>
    obtain ⟨k, hk, rfl, OK⟩ := hrel
    by_cases hlt : k < n
    · have hkl : k < xs.length := by rw [← hn.out]; exact hlt
      obtain ⟨b, off, rfl, hb, ⟨hx1, hx2⟩, hcell⟩ := H.out k hkl
      obtain ⟨x, hX⟩ : ∃ x, x = at_ xs k := ⟨_, rfl⟩
      rw [← hX] at hcell hx1 hx2
      by_cases h1 : x = u
      · subst h1
        have R := Lib.hid (hasB_true hkl hX.symm)
        clear H OK hX
        go_wp2
        go_ret
        exact ⟨(k : Int), rfl, by rw [R.out]; simp, rfl⟩
      · have d1 : (u == x) = false := by rw [beq_eq_false_iff_ne]; exact fun e => h1 e.symm
        have R : Hid (∀ j, j < k + 1 → at_ xs j ≠ u) := fun j hj => by
          by_cases e : j = k
          · subst e; rw [← hX]; exact h1
          · exact OK.out j (by omega)
        clear H OK hX
        go_wp2
        go_round
        case rel => exact ⟨k + 1, by omega, by go_num, R⟩
        case measure => simp [intOf]; omega
    · have R : Hid (hasB xs u = false) := hasB_false (fun j hj => OK.out j (by rw [← hn.out] at hj; omega))
      clear H OK
      go_wp2
      go_ret
      exact ⟨-1, rfl, by rw [R.out]; simp, rfl⟩

set_option maxRecDepth 100000 in
set_option maxHeartbeats 1000000 in
theorem contains_any {v : Value} {xs : List Int} (u : Int) (w : World) (h : Ints w v xs) (hu : i64 u) :
    Calls Tryz.prog 54 #[v, .int .i64 u] w fun e w' => e = .returned (.bool (hasB xs u)) ∧ w = w' := by
  have C := Lib.hid (index_any u w h hu)
  clear h
  go_enter Tryz.func54, Tryz.ntmps54
  go_wp2_with fail
  refine C.out.mono ?_
  rintro e w' ⟨i, rfl, hd, rfl⟩
  have HD := Lib.hid hd
  clear hd
  go_wp2_with fail
  go_ret
  exact ⟨ret_bool HD.out, rfl⟩

end Go.Proofs.YtffepndeegbdoaaGreatDoor.Rig
