/- Labels in memory: a slice of labels; opened out of an argument's reading. -/
import Derived.Test.YtccaiippoephbaaGreatDoorWh
import Derived.Deep.LoopGhost
import Derived.Deep.QuietTactic
import Derived.BigQuiet
import Derived.WalkSmall
import Derived.IntWalk
set_option linter.unusedVariables false
set_option maxRecDepth 100000
namespace Go.Proofs.YtccaiippoephbaaGreatDoor.Rig
open Go.RowKit Go.Lib Go.Proofs.YtccaiippoephbaaGreatDoor.Rt

/-- The four cells of a label. -/
def LbAt (w : World) (b off : Nat) (x : Lb) : Prop :=
  ∃ rv sv, i64 x.p ∧ i64 x.o ∧ w.cell? ⟨b, off, none⟩ = some (.int .i64 x.p) ∧ w.cell? ⟨b, off + 1, none⟩ = some (.int .i64 x.o) ∧ w.cell? ⟨b, off + 2, none⟩ = some rv ∧ w.cell? ⟨b, off + 3, none⟩ = some sv ∧ Ints w rv x.r ∧ Ints w sv x.s
theorem LbAt.below {w w' : World} {b off : Nat} {x : Lb} (h : LbAt w b off x) {B : Nat} (hb : Below B w w') (hB : w.heap.size ≤ B) (hlt : b < w.heap.size) : LbAt w' b off x := by
  obtain ⟨rv, sv, h1, h2, h3, h4, h5, h6, h7, h8⟩ := h
  refine ⟨rv, sv, h1, h2, ?_, ?_, ?_, ?_, h7.below hb hB, h8.below hb hB⟩
  · rw [hb.cell (p := ⟨b, off, none⟩) (Nat.lt_of_lt_of_le hlt hB)]; exact h3
  · rw [hb.cell (p := ⟨b, off + 1, none⟩) (Nat.lt_of_lt_of_le hlt hB)]; exact h4
  · rw [hb.cell (p := ⟨b, off + 2, none⟩) (Nat.lt_of_lt_of_le hlt hB)]; exact h5
  · rw [hb.cell (p := ⟨b, off + 3, none⟩) (Nat.lt_of_lt_of_le hlt hB)]; exact h6

/-- The slice v has the labels L. -/
def Labs (w : World) (v : Value) (L : List Lb) : Prop :=
  ∃ a cap, v = .slice a L.length cap ∧ L.length ≤ cap ∧ cap ≤ maxLen ∧ (L = [] ∨ ∃ b off, a = some ⟨b, off, none⟩ ∧ b < w.heap.size ∧ ∀ j, j < L.length → LbAt w b (off + j * 4) (lb L j))
theorem Labs.below {w w' : World} {v : Value} {L : List Lb} (h : Labs w v L) {B : Nat} (hb : Below B w w') (hB : w.heap.size ≤ B) : Labs w' v L := by
  obtain ⟨a, cap, rfl, h1, h2, h3⟩ := h
  refine ⟨a, cap, rfl, h1, h2, ?_⟩
  rcases h3 with rfl | ⟨b, off, rfl, hlt, hc⟩
  · exact .inl rfl
  · exact .inr ⟨b, off, rfl, Nat.lt_of_lt_of_le hlt hb.size, fun j hj => (hc j hj).below hb hB hlt⟩
theorem Labs.open_ {w : World} {v : Value} {L : List Lb} (h : Labs w v L) :
    ∃ a cap, v = .slice a L.length cap ∧ L.length ≤ cap ∧ cap ≤ 9223372036854775807 ∧ ∀ j, j < L.length → ∃ b off, a = some ⟨b, off, none⟩ ∧ b < w.heap.size ∧ LbAt w b (off + j * 4) (lb L j) := by
  obtain ⟨a, cap, rfl, h1, h2, h3⟩ := h
  unfold maxLen at h2
  refine ⟨a, cap, rfl, h1, h2, fun j hj => ?_⟩
  rcases h3 with rfl | ⟨b, off, rfl, hlt, hc⟩
  · exact absurd hj (by simp)
  · exact ⟨b, off, rfl, hlt, hc j hj⟩
theorem Labs.nil_ (w : World) : Labs w (.slice none 0 0) [] := ⟨none, 0, rfl, Nat.le_refl _, by unfold maxLen; omega, .inl rfl⟩

section
open Go.ChangeShapes Go.WideShapes Go.Deep
variable {H : Type} {enc : TypeId × Value → H}
end
end Go.Proofs.YtccaiippoephbaaGreatDoor.Rig
/- Contracts: rising of both, Has, Index, Contains, among. -/
set_option linter.unusedVariables false
namespace Go.Proofs.YtccaiippoephbaaGreatDoor.Rig
open Go.RowKit Go.Lib Go.Proofs.YtccaiippoephbaaGreatDoor.Rt

set_option maxRecDepth 100000 in
set_option maxHeartbeats 1000000 in
theorem rising_any {v : Value} {xs : List Int} (u : Int) (w : World) (h : Ints w v xs) (hu : i64 u) :
    Calls Tryz.prog 54 #[v, .int .i64 u] w fun e w' => e = .returned (.bool (risB xs u)) ∧ w = w' := by
  obtain ⟨a, cap, rfl, hlc, hcap, hc⟩ := h.open_
  have H := Lib.hid hc
  clear hc h
  obtain ⟨n, hn⟩ : ∃ n, n = xs.length := ⟨_, rfl⟩
  rw [← hn] at hlc ⊢
  replace hn := Lib.hid hn
  obtain ⟨hu1, hu2⟩ := hu
  go_enter Tryz.func54, Tryz.ntmps54
  go_wp2_with fail
  go_loop [5, 10] (fun l i => ∃ k : Nat, k ≤ n ∧ i = .int .i64 k ∧ l = .int .i64 (prev xs k) ∧ Hid (∀ j, j < k → okAt xs u j)) (fun _ i => n - (intOf i).toNat)
  case atStart => exact ⟨0, Nat.zero_le _, rfl, rfl, fun j hj => absurd hj (by omega)⟩
  case round =>
    obtain ⟨k, hk, rfl, rfl, OK⟩ := hrel
    by_cases hlt : k < n
    · have hkl : k < xs.length := by rw [← hn.out]; exact hlt
      obtain ⟨b, off, rfl, hb, ⟨hx1, hx2⟩, hcell⟩ := H.out k hkl
      have hp := Lib.hid (prev_succ xs k)
      obtain ⟨x, hX⟩ : ∃ x, x = at_ xs k := ⟨_, rfl⟩
      obtain ⟨y, hY⟩ : ∃ y, y = prev xs k := ⟨_, rfl⟩
      rw [← hX] at hcell hx1 hx2
      rw [← hY]
      have NO : ¬ (y < x ∧ x < u) → Hid (risB xs u = false) := fun hno => risB_false hkl (fun hc => hno (by rw [hX, hY]; exact hc))
      have YES : (y < x ∧ x < u) → Hid (∀ j, j < k + 1 → okAt xs u j) := fun hy j hj => by
        by_cases e : j = k
        · subst e
          show prev xs j < at_ xs j ∧ at_ xs j < u
          rw [← hX, ← hY]
          exact hy
        · exact OK.out j (by omega)
      have HX := Lib.hid hX
      have HY := Lib.hid hY
      have N := Lib.hid NO
      have Y := Lib.hid YES
      clear hX hY NO YES H OK
      by_cases h1 : x ≤ y
      · have R := N.out (by omega)
        go_wp2
        go_ret
        exact ⟨ret_bool R.out.symm, rfl⟩
      · by_cases h2 : u ≤ x
        · have R := N.out (by omega)
          go_wp2
          go_ret
          exact ⟨ret_bool R.out.symm, rfl⟩
        · have R := Y.out (by omega)
          go_wp2
          go_round
          case rel => exact ⟨k + 1, by omega, by go_num, by rw [hp.out, HX.out], R⟩
          case measure => simp [intOf]; omega
    · have R : Hid (risB xs u = true) := risB_true (fun j hj => OK.out j (by rw [← hn.out] at hj; omega))
      clear H OK
      go_wp2
      go_ret
      exact ⟨ret_bool R.out.symm, rfl⟩

set_option maxRecDepth 100000 in
set_option maxHeartbeats 1000000 in
theorem rrising_any {v : Value} {xs : List Int} (u : Int) (w : World) (h : Ints w v xs) (hu : i64 u) :
    Calls Tryz.prog 68 #[v, .int .i64 u] w fun e w' => e = .returned (.bool (risB xs u)) ∧ Below w.heap.size w w' := by
  obtain ⟨a, cap, rfl, hlc, hcap, hc⟩ := h.open_
  have H := Lib.hid hc
  clear hc h
  obtain ⟨n, hn⟩ : ∃ n, n = xs.length := ⟨_, rfl⟩
  rw [← hn] at hlc ⊢
  replace hn := Lib.hid hn
  obtain ⟨hu1, hu2⟩ := hu
  go_enter Tryz.func68, Tryz.ntmps68
  go_wp2_with fail
  go_loopw [5] (fun i wr => ∃ k : Nat, k ≤ n ∧ i = .int .i64 k ∧ Hid (∀ j, j < k → okAt xs u j) ∧ Below w.heap.size w wr) (fun i _ => n - (intOf i).toNat)
  case atStart => exact ⟨0, Nat.zero_le _, rfl, fun j hj => absurd hj (by omega), Below.refl _ _⟩
  case round =>
    obtain ⟨k, hk, rfl, OK, hbel⟩ := hrel
    by_cases hlt : k < n
    · have hkl : k < xs.length := by rw [← hn.out]; exact hlt
      obtain ⟨b, off, rfl, hb, ⟨hx1, hx2⟩, hcell⟩ := H.out k hkl
      obtain ⟨x, hX⟩ : ∃ x, x = at_ xs k := ⟨_, rfl⟩
      have PS := Lib.hid (okAt_pos (l := xs) (u := u) (k - 1))
      rw [← hX] at hcell hx1 hx2
      replace hcell := below_cell hbel hb hcell
      have NO : ¬ (prev xs k < x ∧ x < u) → Hid (risB xs u = false) := fun hno => risB_false hkl (fun hc => hno (by rw [hX]; exact hc))
      have YES : (prev xs k < x ∧ x < u) → Hid (∀ j, j < k + 1 → okAt xs u j) := fun hy j hj => by
        by_cases e : j = k
        · subst e
          show prev xs j < at_ xs j ∧ at_ xs j < u
          rw [← hX]
          exact hy
        · exact OK.out j (by omega)
      have HX := Lib.hid hX
      have N := Lib.hid NO
      have Y := Lib.hid YES
      have hbe := Lib.hid hbel
      have i0 : (0 : Int) ≤ (k : Int) := by omega
      have i1 : (k : Int) < (n : Int) := by omega
      clear hX NO YES hbel
      by_cases hk0 : k = 0
      · subst hk0
        rw [Nat.add_zero] at hcell
        have hp : Hid (prev xs 0 = -1) := rfl
        have d0 : decide ((0 : Int) < 0) = false := by decide
        by_cases h1 : x < 0
        · have d1 : decide (x < 0) = true := by simpa using h1
          have R := N.out (by rw [hp.out]; omega)
          clear H OK N Y PS
          go_wp2_with fail
          go_quiet (fail)
          go_wp2
          go_ret
          exact ⟨ret_bool R.out.symm, below_drews hbe.out _⟩
        · have d1 : decide (x < 0) = false := by simpa using h1
          by_cases h2 : u ≤ x
          · have d2 : decide (u ≤ x) = true := by simpa using h2
            have R := N.out (by omega)
            clear H OK N Y PS
            go_wp2_with fail
            go_quiet (fail)
            go_wp2
            go_ret
            exact ⟨ret_bool R.out.symm, below_drews hbe.out _⟩
          · have d2 : decide (u ≤ x) = false := by simpa using h2
            have R := Y.out (by rw [hp.out]; omega)
            clear H OK N Y PS
            go_wp2_with fail
            go_quiet (fail)
            go_wp2
            go_roundw
            case rel => exact ⟨0 + 1, by omega, by go_num, R, below_drews hbe.out _⟩
            case measure => simp [intOf]; omega
      · have dk : decide ((0 : Int) < (k : Int)) = true := by simp; omega
        have dkn : decide (0 < k) = true := by simp; omega
        obtain ⟨b', off', e', hb', ⟨hy1, hy2⟩, hcy⟩ := H.out (k - 1) (by omega)
        injection e' with e'
        injection e' with e1 e2
        subst e1 e2
        have hp : Hid (prev xs k = at_ xs (k - 1)) := by show _ = _; unfold prev; rw [if_neg hk0]
        obtain ⟨y, hY⟩ : ∃ y, y = at_ xs (k - 1) := ⟨_, rfl⟩
        rw [← hY] at hcy hy1 hy2
        replace hcy := below_cell hbe.out hb' hcy
        have y0 : 0 ≤ y := by rw [hY]; exact PS.out (fun i hi => OK.out i (by omega))
        have hp2 : Hid (prev xs k = y) := by show _ = _; rw [hp.out, hY]
        have HY := Lib.hid hY
        have z1 : IntKind.i64.wrap ((k : Int) - 1) = (k : Int) - 1 := IntWalk.i64_in _ (by omega)
        have z2 : (1 : Int) ≤ (k : Int) := by omega
        have z3 : (0 : Int) ≤ (k : Int) - 1 := by omega
        have z5 : (k : Int) - 1 < (n : Int) := by omega
        have z4 : ((k : Int) - 1).toNat = k - 1 := by omega
        clear hY hp
        by_cases h1 : x < 0
        · have d1 : decide (x < 0) = true := by simpa using h1
          have R := N.out (by rw [hp2.out]; omega)
          clear H OK N Y PS
          go_wp2_with fail
          go_quiet (fail)
          clear z1 z3 z4 z5
          go_wp2
          go_ret
          exact ⟨ret_bool R.out.symm, below_drews hbe.out _⟩
        · have d1 : decide (x < 0) = false := by simpa using h1
          by_cases h2 : u ≤ x
          · have d2 : decide (u ≤ x) = true := by simpa using h2
            have R := N.out (by omega)
            clear H OK N Y PS
            go_wp2_with fail
            go_quiet (fail)
            clear z1 z3 z4 z5
            go_wp2
            go_ret
            exact ⟨ret_bool R.out.symm, below_drews hbe.out _⟩
          · have d2 : decide (u ≤ x) = false := by simpa using h2
            by_cases h3 : x ≤ y
            · have d3 : decide (x ≤ y) = true := by simpa using h3
              have R := N.out (by rw [hp2.out]; omega)
              clear H OK N Y PS
              go_wp2_with fail
              go_quiet (fail)
              clear z1 z3 z4 z5
              go_wp2
              go_ret
              exact ⟨ret_bool R.out.symm, below_drews hbe.out _⟩
            · have d3 : decide (x ≤ y) = false := by simpa using h3
              have R := Y.out (by rw [hp2.out]; omega)
              clear H OK N Y PS
              go_wp2_with fail
              go_quiet (fail)
              clear z1 z3 z4 z5
              go_wp2
              go_roundw
              case rel => exact ⟨k + 1, by omega, by go_num, R, below_drews hbe.out _⟩
              case measure => simp [intOf]; omega
    · have R : Hid (risB xs u = true) := risB_true (fun j hj => OK.out j (by rw [← hn.out] at hj; omega))
      clear H OK
      go_wp2
      go_ret
      exact ⟨ret_bool R.out.symm, hbel⟩

/-- A place, or below 0. -/
def Placed (b : Bool) (w : World) (e : Ending) (w' : World) : Prop := ∃ i : Int, e = .returned (.int .i64 i) ∧ decide (0 ≤ i) = b ∧ w = w'

set_option maxRecDepth 100000 in
set_option maxHeartbeats 1000000 in
theorem index_any {v : Value} {xs : List Int} (u : Int) (w : World) (h : Ints w v xs) (hu : i64 u) :
    Calls Tryz.prog 60 #[v, .int .i64 u] w (Placed (hasB xs u) w) := by
  obtain ⟨a, cap, rfl, hlc, hcap, hc⟩ := h.open_
  have H := Lib.hid hc
  clear hc h
  obtain ⟨n, hn⟩ : ∃ n, n = xs.length := ⟨_, rfl⟩
  rw [← hn] at hlc ⊢
  replace hn := Lib.hid hn
  obtain ⟨hu1, hu2⟩ := hu
  go_enter Tryz.func60, Tryz.ntmps60
  go_wp2_with fail
  go_loop [8] (fun i => ∃ k : Nat, k ≤ n ∧ i = .int .i64 k ∧ Hid (∀ j, j < k → at_ xs j ≠ u)) (fun i => n - (intOf i).toNat)
  case atStart => exact ⟨0, Nat.zero_le _, rfl, fun j hj => absurd hj (by omega)⟩
  case round =>
    obtain ⟨k, hk, rfl, OK⟩ := hrel
    by_cases hlt : k < n
    · have hkl : k < xs.length := by rw [← hn.out]; exact hlt
      obtain ⟨b, off, rfl, hb, ⟨hx1, hx2⟩, hcell⟩ := H.out k hkl
      obtain ⟨x, hX⟩ : ∃ x, x = at_ xs k := ⟨_, rfl⟩
      rw [← hX] at hcell hx1 hx2
      by_cases h1 : x = u
      · subst h1
        have R := Lib.hid (hasB_true hkl hX.symm)
        clear H OK hX
        go_wp2
        go_ret
        exact ⟨(k : Int), rfl, by rw [R.out]; simp, rfl⟩
      · have d1 : (u == x) = false := by rw [beq_eq_false_iff_ne]; exact fun e => h1 e.symm
        have R : Hid (∀ j, j < k + 1 → at_ xs j ≠ u) := fun j hj => by
          by_cases e : j = k
          · subst e; rw [← hX]; exact h1
          · exact OK.out j (by omega)
        clear H OK hX
        go_wp2
        go_round
        case rel => exact ⟨k + 1, by omega, by go_num, R⟩
        case measure => simp [intOf]; omega
    · have R : Hid (hasB xs u = false) := hasB_false (fun j hj => OK.out j (by rw [← hn.out] at hj; omega))
      clear H OK
      go_wp2
      go_ret
      exact ⟨-1, rfl, by rw [R.out]; simp, rfl⟩

set_option maxRecDepth 100000 in
set_option maxHeartbeats 1000000 in
theorem contains_any {v : Value} {xs : List Int} (u : Int) (w : World) (h : Ints w v xs) (hu : i64 u) :
    Calls Tryz.prog 33 #[v, .int .i64 u] w fun e w' => e = .returned (.bool (hasB xs u)) ∧ w = w' := by
  have C := Lib.hid (index_any u w h hu)
  clear h
  go_enter Tryz.func33, Tryz.ntmps33
  go_wp2_with fail
  refine C.out.mono ?_
  rintro e w' ⟨i, rfl, hd, rfl⟩
  have HD := Lib.hid hd
  clear hd
  go_wp2_with fail
  go_ret
  exact ⟨ret_bool HD.out, rfl⟩

end Go.Proofs.YtccaiippoephbaaGreatDoor.Rig
/- Contracts: two, Small, Right of both. -/
set_option linter.unusedVariables false
namespace Go.Proofs.YtccaiippoephbaaGreatDoor.Rig
open Go.RowKit Go.Lib Go.Proofs.YtccaiippoephbaaGreatDoor.Rt

theorem bcell {W w1 : World} (hb : Below W.heap.size W w1) : (∀ b o, b < W.heap.size → w1.cell? ⟨b, o, none⟩ = W.cell? ⟨b, o, none⟩) ∧ (∀ b o, b < W.heap.size → w1.frozen? ⟨b, o, none⟩ = W.frozen? ⟨b, o, none⟩) :=
  ⟨fun b o h => hb.cell (p := ⟨b, o, none⟩) h, fun b o h => hb.frozen (p := ⟨b, o, none⟩) h⟩

theorem rising_b {v : Value} {xs : List Int} (u : Int) (w : World) (h : Ints w v xs) (hu : i64 u) :
    Calls Tryz.prog 54 #[v, .int .i64 u] w fun e w' => e = .returned (.bool (risB xs u)) ∧ Below w.heap.size w w' :=
  (rising_any u w h hu).mono fun _ _ ⟨h1, h2⟩ => ⟨h1, by subst h2; exact Below.refl _ _⟩
theorem rrising_b {v : Value} {xs : List Int} (u : Int) (w : World) (h : Ints w v xs) (hu : i64 u) :
    Calls Tryz.prog 68 #[v, .int .i64 u] w fun e w' => e = .returned (.bool (risB xs u)) ∧ Below w.heap.size w w' :=
  rrising_any u w h hu

set_option maxRecDepth 100000 in
set_option maxHeartbeats 1600000 in
theorem right_any {v : Value} {L : List Lb} (u : Int) (w : World) (h : Labs w v L) (hu : i64 u) :
    Calls Tryz.prog 29 #[v, .int .i64 u] w fun e w' => e = .returned (.bool (rightB L u)) ∧ Below w.heap.size w w' := by
  obtain ⟨a, cap, rfl, hlc, hcap, hc⟩ := h.open_
  have H := Lib.hid hc
  have HU := Lib.hid hu
  clear hc h
  obtain ⟨n, hn⟩ : ∃ n, n = L.length := ⟨_, rfl⟩
  rw [← hn] at hlc ⊢
  replace hn := Lib.hid hn
  obtain ⟨hu1, hu2⟩ := hu
  by_cases hn1 : n < 1
  · have R : Hid (rightB L u = false) := rightB_len (by rw [← hn.out]; omega)
    clear H
    go_enter Tryz.func29, Tryz.ntmps29
    go_wp2_with fail
    go_ret
    exact ⟨ret_bool R.out.symm, Below.refl _ _⟩
  by_cases hn12 : 12 < n
  · have R : Hid (rightB L u = false) := rightB_len (by rw [← hn.out]; omega)
    clear H
    go_enter Tryz.func29, Tryz.ntmps29
    go_wp2_with fail
    go_ret
    exact ⟨ret_bool R.out.symm, Below.refl _ _⟩
  go_enter Tryz.func29, Tryz.ntmps29
  go_wp2_with fail
  go_loopw [17] (fun i wr => ∃ k : Nat, k ≤ n ∧ i = .int .i64 k ∧ Hid (∀ j, j < k → lbOk L u j) ∧ Below w.heap.size w wr) (fun i _ => n - (intOf i).toNat)
  case atStart => exact ⟨0, Nat.zero_le _, rfl, fun j hj => absurd hj (by omega), Below.refl _ _⟩
  case round =>
    obtain ⟨k, hk, rfl, OK, hbel⟩ := hrel
    by_cases hlt : k < n
    · have hkl : k < L.length := by rw [← hn.out]; exact hlt
      obtain ⟨b, off, rfl, hb, rv, sv, ⟨p1, p2⟩, ⟨o1, o2⟩, c0, c1, c2, c3, hr, hs⟩ := H.out k hkl
      have NO : ¬ lbOk L u k → Hid (rightB L u = false) := fun hno => rightB_false hkl hno
      have YES : lbOk L u k → Hid (∀ j, j < k + 1 → lbOk L u j) := fun hy j hj => by
        by_cases e : j = k
        · subst e; exact hy
        · exact OK.out j (by omega)
      unfold lbOk at NO YES
      generalize lb L k = x at *
      obtain ⟨p, o, r, s⟩ := x
      simp only at p1 p2 o1 o2 c0 c1 c2 c3 hr hs NO YES
      have N := Lib.hid NO
      have Y := Lib.hid YES
      replace c0 := below_cell hbel hb c0
      replace c1 := below_cell hbel hb c1
      replace c2 := below_cell hbel hb c2
      replace c3 := below_cell hbel hb c3
      have hr1 := hr.below hbel (Nat.le_refl _)
      have hs1 := hs.below hbel (Nat.le_refl _)
      have C1 : Hid (∀ w', Below wr.heap.size wr w' → Calls Tryz.prog 54 #[rv, .int .i64 u] w' fun e w'' => e = .returned (.bool (risB r u)) ∧ Below w'.heap.size w' w'') := fun w' hb => rising_b u w' (hr1.below hb (Nat.le_refl _)) HU.out
      have C2 : Hid (∀ w', Below wr.heap.size wr w' → Calls Tryz.prog 54 #[sv, .int .i64 u] w' fun e w'' => e = .returned (.bool (risB s u)) ∧ Below w'.heap.size w' w'') := fun w' hb => rising_b u w' (hs1.below hb (Nat.le_refl _)) HU.out
      obtain ⟨ra, rc, rfl⟩ := hr1.is_slice
      obtain ⟨sa, sc, rfl⟩ := hs1.is_slice
      generalize r.length = l1 at *
      generalize s.length = l2 at *
      have HB := Lib.hid hbel
      have KA : Hid (∀ o, Below wr.heap.size wr (wr.alloc o)) := fun o => (Below.refl _ _).alloc (Nat.le_refl _) _
      clear NO YES H OK hr hs hr1 hs1 hbel
      by_cases q1 : p < -1
      · have R := N.out (by omega)
        go_wp2_with fail
        go_ret
        exact ⟨ret_bool R.out.symm, below_more HB.out (KA.out _)⟩
      by_cases q2 : (k : Int) ≤ p
      · have R := N.out (by omega)
        go_wp2_with fail
        go_ret
        exact ⟨ret_bool R.out.symm, below_more HB.out (KA.out _)⟩
      by_cases q3 : o < 0
      · have R := N.out (by omega)
        go_wp2_with fail
        go_ret
        exact ⟨ret_bool R.out.symm, below_more HB.out (KA.out _)⟩
      by_cases q4 : u ≤ o
      · have R := N.out (by omega)
        go_wp2_with fail
        go_ret
        exact ⟨ret_bool R.out.symm, below_more HB.out (KA.out _)⟩
      cases h5 : risB r u with
      | false =>
        have R := N.out (by rw [h5]; simp)
        rw [h5] at C1
        clear h5 N Y C2
        go_wp2_with fail
        refine (C1.out _ (KA.out _)).mono ?_
        rintro e w5 ⟨rfl, hb5⟩
        go_wp2_with fail
        go_ret
        exact ⟨ret_bool R.out.symm, below_more (below_more HB.out (KA.out _)) hb5⟩
      | true =>
        cases h6 : risB s u with
        | false =>
          have R := N.out (by rw [h6]; simp)
          rw [h5] at C1
          rw [h6] at C2
          clear h5 h6 N Y
          go_wp2_with fail
          refine (C1.out _ (KA.out _)).mono ?_
          rintro e w5 ⟨rfl, hb5⟩
          have e5 := below_more (KA.out _) hb5
          have E5 := Lib.hid e5
          obtain ⟨hc5, hf5⟩ := bcell hb5
          clear e5
          go_wp2_with fail
          refine (C2.out _ E5.out).mono ?_
          rintro e w6 ⟨rfl, hb6⟩
          clear hc5 hf5
          go_wp2_with fail
          go_ret
          exact ⟨ret_bool R.out.symm, below_more (below_more HB.out E5.out) hb6⟩
        | true =>
          have R := Y.out ⟨by omega, by omega, by omega, by omega, h5, h6⟩
          rw [h5] at C1
          rw [h6] at C2
          clear h5 h6 N Y
          go_wp2_with fail
          refine (C1.out _ (KA.out _)).mono ?_
          rintro e w5 ⟨rfl, hb5⟩
          have e5 := below_more (KA.out _) hb5
          have E5 := Lib.hid e5
          obtain ⟨hc5, hf5⟩ := bcell hb5
          clear e5
          go_wp2_with fail
          refine (C2.out _ E5.out).mono ?_
          rintro e w6 ⟨rfl, hb6⟩
          clear hc5 hf5
          go_wp2_with fail
          go_roundw
          case rel => exact ⟨k + 1, by omega, by go_num, R, below_more (below_more HB.out E5.out) hb6⟩
          case measure => simp [intOf]; omega
    · have R : Hid (rightB L u = true) := rightB_true (by rw [← hn.out]; omega) (by rw [← hn.out]; omega) (fun j hj => OK.out j (by rw [← hn.out] at hj; omega))
      clear H OK
      go_wp2_with fail
      go_ret
      exact ⟨ret_bool R.out.symm, hbel⟩

set_option maxRecDepth 100000 in
set_option maxHeartbeats 1600000 in
theorem rright_any {v : Value} {L : List Lb} (u : Int) (w : World) (h : Labs w v L) (hu : i64 u) :
    Calls Tryz.prog 46 #[v, .int .i64 u] w fun e w' => e = .returned (.bool (rightB L u)) ∧ Below w.heap.size w w' := by
  obtain ⟨a, cap, rfl, hlc, hcap, hc⟩ := h.open_
  have H := Lib.hid hc
  have HU := Lib.hid hu
  clear hc h
  obtain ⟨n, hn⟩ : ∃ n, n = L.length := ⟨_, rfl⟩
  rw [← hn] at hlc ⊢
  replace hn := Lib.hid hn
  obtain ⟨hu1, hu2⟩ := hu
  by_cases hn1 : n < 1
  · have R : Hid (rightB L u = false) := rightB_len (by rw [← hn.out]; omega)
    clear H
    go_enter Tryz.func46, Tryz.ntmps46
    go_wp2_with fail
    go_ret
    exact ⟨ret_bool R.out.symm, Below.refl _ _⟩
  by_cases hn12 : 12 < n
  · have R : Hid (rightB L u = false) := rightB_len (by rw [← hn.out]; omega)
    clear H
    go_enter Tryz.func46, Tryz.ntmps46
    go_wp2_with fail
    go_ret
    exact ⟨ret_bool R.out.symm, Below.refl _ _⟩
  go_enter Tryz.func46, Tryz.ntmps46
  go_wp2_with fail
  go_loopw [5] (fun i wr => ∃ k : Nat, k ≤ n ∧ i = .int .i64 k ∧ Hid (∀ j, j < k → lbOk L u j) ∧ Below w.heap.size w wr) (fun i _ => n - (intOf i).toNat)
  case atStart => exact ⟨0, Nat.zero_le _, rfl, fun j hj => absurd hj (by omega), Below.refl _ _⟩
  case round =>
    obtain ⟨k, hk, rfl, OK, hbel⟩ := hrel
    by_cases hlt : k < n
    · have hkl : k < L.length := by rw [← hn.out]; exact hlt
      obtain ⟨b, off, rfl, hb, rv, sv, ⟨p1, p2⟩, ⟨o1, o2⟩, c0, c1, c2, c3, hr, hs⟩ := H.out k hkl
      have NO : ¬ lbOk L u k → Hid (rightB L u = false) := fun hno => rightB_false hkl hno
      have YES : lbOk L u k → Hid (∀ j, j < k + 1 → lbOk L u j) := fun hy j hj => by
        by_cases e : j = k
        · subst e; exact hy
        · exact OK.out j (by omega)
      unfold lbOk at NO YES
      generalize lb L k = x at *
      obtain ⟨p, o, r, s⟩ := x
      simp only at p1 p2 o1 o2 c0 c1 c2 c3 hr hs NO YES
      have N := Lib.hid NO
      have Y := Lib.hid YES
      replace c0 := below_cell hbel hb c0
      replace c1 := below_cell hbel hb c1
      replace c2 := below_cell hbel hb c2
      replace c3 := below_cell hbel hb c3
      have hr1 := hr.below hbel (Nat.le_refl _)
      have hs1 := hs.below hbel (Nat.le_refl _)
      have C1 : Hid (∀ w', Below wr.heap.size wr w' → Calls Tryz.prog 68 #[rv, .int .i64 u] w' fun e w'' => e = .returned (.bool (risB r u)) ∧ Below w'.heap.size w' w'') := fun w' hb => rrising_b u w' (hr1.below hb (Nat.le_refl _)) HU.out
      have C2 : Hid (∀ w', Below wr.heap.size wr w' → Calls Tryz.prog 68 #[sv, .int .i64 u] w' fun e w'' => e = .returned (.bool (risB s u)) ∧ Below w'.heap.size w' w'') := fun w' hb => rrising_b u w' (hs1.below hb (Nat.le_refl _)) HU.out
      obtain ⟨ra, rc, rfl⟩ := hr1.is_slice
      obtain ⟨sa, sc, rfl⟩ := hs1.is_slice
      generalize r.length = l1 at *
      generalize s.length = l2 at *
      have HB := Lib.hid hbel
      have KA : Hid (∀ o, Below wr.heap.size wr (wr.alloc o)) := fun o => (Below.refl _ _).alloc (Nat.le_refl _) _
      clear NO YES H OK hr hs hr1 hs1 hbel
      by_cases q1 : p < -1
      · have R := N.out (by omega)
        go_wp2_with fail
        go_ret
        exact ⟨ret_bool R.out.symm, below_more HB.out (KA.out _)⟩
      by_cases q2 : (k : Int) ≤ p
      · have R := N.out (by omega)
        go_wp2_with fail
        go_ret
        exact ⟨ret_bool R.out.symm, below_more HB.out (KA.out _)⟩
      by_cases q3 : o < 0
      · have R := N.out (by omega)
        go_wp2_with fail
        go_ret
        exact ⟨ret_bool R.out.symm, below_more HB.out (KA.out _)⟩
      by_cases q4 : u ≤ o
      · have R := N.out (by omega)
        go_wp2_with fail
        go_ret
        exact ⟨ret_bool R.out.symm, below_more HB.out (KA.out _)⟩
      cases h5 : risB r u with
      | false =>
        have R := N.out (by rw [h5]; simp)
        rw [h5] at C1
        clear h5 N Y C2
        go_wp2_with fail
        refine (C1.out _ (KA.out _)).mono ?_
        rintro e w5 ⟨rfl, hb5⟩
        go_wp2_with fail
        go_ret
        exact ⟨ret_bool R.out.symm, below_more (below_more HB.out (KA.out _)) hb5⟩
      | true =>
        cases h6 : risB s u with
        | false =>
          have R := N.out (by rw [h6]; simp)
          rw [h5] at C1
          rw [h6] at C2
          clear h5 h6 N Y
          go_wp2_with fail
          refine (C1.out _ (KA.out _)).mono ?_
          rintro e w5 ⟨rfl, hb5⟩
          have e5 := below_more (KA.out _) hb5
          have E5 := Lib.hid e5
          obtain ⟨hc5, hf5⟩ := bcell hb5
          clear e5
          go_wp2_with fail
          refine (C2.out _ E5.out).mono ?_
          rintro e w6 ⟨rfl, hb6⟩
          clear hc5 hf5
          go_wp2_with fail
          go_ret
          exact ⟨ret_bool R.out.symm, below_more (below_more HB.out E5.out) hb6⟩
        | true =>
          have R := Y.out ⟨by omega, by omega, by omega, by omega, h5, h6⟩
          rw [h5] at C1
          rw [h6] at C2
          clear h5 h6 N Y
          go_wp2_with fail
          refine (C1.out _ (KA.out _)).mono ?_
          rintro e w5 ⟨rfl, hb5⟩
          have e5 := below_more (KA.out _) hb5
          have E5 := Lib.hid e5
          obtain ⟨hc5, hf5⟩ := bcell hb5
          clear e5
          go_wp2_with fail
          refine (C2.out _ E5.out).mono ?_
          rintro e w6 ⟨rfl, hb6⟩
          clear hc5 hf5
          go_wp2_with fail
          go_roundw
          case rel => exact ⟨k + 1, by omega, by go_num, R, below_more (below_more HB.out E5.out) hb6⟩
          case measure => simp [intOf]; omega
    · have R : Hid (rightB L u = true) := rightB_true (by rw [← hn.out]; omega) (by rw [← hn.out]; omega) (fun j hj => OK.out j (by rw [← hn.out] at hj; omega))
      clear H OK
      go_wp2_with fail
      go_ret
      exact ⟨ret_bool R.out.symm, hbel⟩
end Go.Proofs.YtccaiippoephbaaGreatDoor.Rig
