/- State: the plain text's long: is a list or a text too long? -/
import Derived.Test.YtmdgjcikekojdaaGreatDoorWd
set_option linter.unusedVariables false
set_option linter.unusedSimpArgs false
set_option maxRecDepth 100000
namespace Go.Proofs.YtmdgjcikekojdaaGreatDoor.Sta
open Go.RowKit Go.Lib Go.Proofs.YtmdgjcikekojdaaGreatDoor.Bx Go.Proofs.YtmdgjcikekojdaaGreatDoor.Frm Go.Proofs.YtmdgjcikekojdaaGreatDoor.Wds

theorem lp_start {α : Type} {F : α → Prop} {xs : List α} {A : Prop} {b : Bool} (h : b = false ↔ A) : b = false ↔ A ∧ ∀ x ∈ xs.take 0, F x := by
  rw [h]
  simp
theorem lp_step {α : Type} {F : α → Prop} {xs : List α} {A : Prop} {b : Bool} {i : Nat} (hi : i < xs.length) (h : A ∧ ∀ x ∈ xs.take i, F x) (hb : b = false ↔ F xs[i]) : b = false ↔ A ∧ ∀ x ∈ xs.take (i + 1), F x := by
  obtain ⟨h1, h2⟩ := h
  rw [hb, List.take_succ_eq_append_getElem hi]
  constructor
  · intro h3
    refine ⟨h1, fun x hx => ?_⟩
    rcases List.mem_append.1 hx with hx | hx
    · exact h2 x hx
    · simp only [List.mem_singleton] at hx; subst hx; exact h3
  · intro h3
    exact h3.2 _ (List.mem_append.2 (.inr (by simp)))
theorem lp_end {α : Type} {F : α → Prop} {xs : List α} {A : Prop} {b : Bool} {i : Nat} (h : b = false ↔ A ∧ ∀ x ∈ xs.take i, F x) (hc : ¬ (i < xs.length ∧ b = false)) : b = false ↔ A ∧ ∀ x ∈ xs, F x := by
  by_cases hi : i < xs.length
  · have hb : b = true := by cases b with
      | true => rfl
      | false => exact absurd ⟨hi, rfl⟩ hc
    subst hb
    constructor
    · intro h1; cases h1
    · intro h1; exact h.2 ⟨h1.1, fun x hx => h1.2 x (List.mem_of_mem_take hx)⟩
  · rw [List.take_of_length_le (by omega)] at h
    exact h
def NotP (p : Prop) : Prop := ¬ p
theorem iff_yes {X : Prop} (h : X) : false = false ↔ X := ⟨fun _ => h, fun _ => rfl⟩
theorem iff_no {X : Prop} (h : NotP X) : true = false ↔ X := ⟨fun h1 => Bool.noConfusion h1, fun h1 => absurd h1 h⟩
theorem not_dec {p : Prop} [Decidable p] : decide p = false ↔ ¬ p := by simp
def labF (x : Lab) : Prop := x.2.2.1.length ≤ 65535 ∧ x.2.2.2.length ≤ 65535
def segF (y : Seg) : Prop := y.2.2.1.length ≤ 65535 ∧ y.2.2.2.1.length ≤ 65535 ∧ y.2.2.2.2.length ≤ 65535
def docF (x : Doc) : Prop := x.2.length ≤ 65535 ∧ ∀ y ∈ x.2, segF y
def thgF (x : Thg) : Prop := x.2.2.2.2.length ≤ 65535
def stkF (x : List Thg) : Prop := x.length ≤ 65535 ∧ ∀ y ∈ x, thgF y
def seaF (x : Sea) : Prop := x.1.length ≤ 65535 ∧ x.2.2.2.2.length ≤ 65535
def entF (x : Ent) : Prop := x.2.2.2.1.length ≤ 65535 ∧ x.2.2.2.2.length ≤ 65535
def lenF (a b c d e : Nat) : Prop := a ≤ 65535 ∧ b ≤ 65535 ∧ c ≤ 65535 ∧ d ≤ 65535 ∧ e ≤ 65535
def staF (S : Sta) : Prop := ((((lenF S.2.2.2.1.length S.2.2.2.2.1.length S.2.2.2.2.2.1.length S.2.2.2.2.2.2.1.length S.2.2.2.2.2.2.2.length ∧ ∀ x ∈ S.2.2.2.1, labF x) ∧ ∀ x ∈ S.2.2.2.2.1, docF x) ∧ ∀ x ∈ S.2.2.2.2.2.1, stkF x) ∧ ∀ x ∈ S.2.2.2.2.2.2.1, seaF x) ∧ ∀ x ∈ S.2.2.2.2.2.2.2, entF x
theorem fit_lab (x : Lab) : labC.fit x ↔ labF x := ⟨fun h => ⟨h.2.2.1.1, h.2.2.2.1⟩, fun h => ⟨trivial, trivial, ⟨h.1, fun _ _ => trivial⟩, h.2, fun _ _ => trivial⟩⟩
theorem fit_seg (x : Seg) : segC.fit x ↔ segF x := ⟨fun h => ⟨h.2.2.1, h.2.2.2.1.1, h.2.2.2.2.1⟩, fun h => ⟨trivial, trivial, h.1, ⟨h.2.1, fun _ _ => ⟨trivial, trivial, trivial⟩⟩, h.2.2, fun _ _ => ⟨trivial, trivial⟩⟩⟩
theorem fit_doc (x : Doc) : docC.fit x ↔ docF x := ⟨fun h => ⟨h.2.1, fun y hy => (fit_seg y).1 (h.2.2 y hy)⟩, fun h => ⟨trivial, h.1, fun y hy => (fit_seg y).2 (h.2 y hy)⟩⟩
theorem fit_thg (x : Thg) : thgC.fit x ↔ thgF x := ⟨fun h => h.2.2.2.2, fun h => ⟨trivial, trivial, trivial, trivial, h⟩⟩
theorem fit_stk (x : List Thg) : stkC.fit x ↔ stkF x := ⟨fun h => ⟨h.1, fun y hy => (fit_thg y).1 (h.2 y hy)⟩, fun h => ⟨h.1, fun y hy => (fit_thg y).2 (h.2 y hy)⟩⟩
theorem fit_sea (x : Sea) : seaC.fit x ↔ seaF x := ⟨fun h => ⟨h.1, h.2.2.2.2⟩, fun h => ⟨h.1, trivial, trivial, trivial, h.2⟩⟩
theorem fit_ent (x : Ent) : entC.fit x ↔ entF x := ⟨fun h => ⟨h.2.2.2.1.1, h.2.2.2.2.1⟩, fun h => ⟨trivial, trivial, trivial, ⟨h.1, fun _ _ => trivial⟩, h.2, fun _ _ => trivial⟩⟩
theorem fit_sta (S : Sta) : staC.fit S ↔ staF S :=
  ⟨fun h => ⟨⟨⟨⟨⟨⟨h.2.2.2.1.1, h.2.2.2.2.1.1, h.2.2.2.2.2.1.1, h.2.2.2.2.2.2.1.1, h.2.2.2.2.2.2.2.1⟩, fun x hx => (fit_lab x).1 (h.2.2.2.1.2 x hx)⟩, fun x hx => (fit_doc x).1 (h.2.2.2.2.1.2 x hx)⟩, fun x hx => (fit_stk x).1 (h.2.2.2.2.2.1.2 x hx)⟩, fun x hx => (fit_sea x).1 (h.2.2.2.2.2.2.1.2 x hx)⟩, fun x hx => (fit_ent x).1 (h.2.2.2.2.2.2.2.2 x hx)⟩,
   fun h => ⟨trivial, trivial, trivial, ⟨h.1.1.1.1.1.1, fun x hx => (fit_lab x).2 (h.1.1.1.1.2 x hx)⟩, ⟨h.1.1.1.1.1.2.1, fun x hx => (fit_doc x).2 (h.1.1.1.2 x hx)⟩, ⟨h.1.1.1.1.1.2.2.1, fun x hx => (fit_stk x).2 (h.1.1.2 x hx)⟩, ⟨h.1.1.1.1.1.2.2.2.1, fun x hx => (fit_sea x).2 (h.1.2 x hx)⟩, h.1.1.1.1.1.2.2.2.2, fun x hx => (fit_ent x).2 (h.2 x hx)⟩⟩
set_option maxHeartbeats 16000000 in
theorem long14 {P : Nat → Prop} {cs : List Value} (S : Sta) (w : World) (h : staM.R P w cs S) (ht : (∀ x ∈ S.2.2.2.2.1, ∀ y ∈ x.2, y.2.2.1.length ≤ 9223372036854775807) ∧ (∀ x ∈ S.2.2.2.2.2.1, ∀ y ∈ x, y.2.2.2.2.length ≤ 9223372036854775807) ∧ ∀ x ∈ S.2.2.2.2.2.2.1, x.1.length ≤ 9223372036854775807 ∧ x.2.2.2.2.length ≤ 9223372036854775807) : Calls Tryz.prog 18 #[.agg cs.toArray] w fun e w' => ∃ b, e = .returned (.bool b) ∧ (b = false ↔ staF S) ∧ Below w.heap.size w w' := by
  obtain ⟨u3, c3, u4, c4, u5, c5, u6, c6, u7, c7, rfl, p3, p4, p5, p6, p7⟩ := staM_cells h
  clear h
  obtain ⟨x0, x1, x2, L, D, K, E, A⟩ := S
  simp only at p3 p4 p5 p6 p7 ⊢
  obtain ⟨n3, hn3⟩ : ∃ n, n = L.length := ⟨_, rfl⟩
  have HN3 := Lib.hid hn3
  obtain ⟨n4, hn4⟩ : ∃ n, n = D.length := ⟨_, rfl⟩
  have HN4 := Lib.hid hn4
  obtain ⟨n5, hn5⟩ : ∃ n, n = K.length := ⟨_, rfl⟩
  have HN5 := Lib.hid hn5
  obtain ⟨n6, hn6⟩ : ∃ n, n = E.length := ⟨_, rfl⟩
  have HN6 := Lib.hid hn6
  obtain ⟨n7, hn7⟩ : ∃ n, n = A.length := ⟨_, rfl⟩
  have HN7 := Lib.hid hn7
  rw [← hn3, ← hn4, ← hn5, ← hn6, ← hn7]
  rw [← hn3] at p3
  rw [← hn4] at p4
  rw [← hn5] at p5
  rw [← hn6] at p6
  rw [← hn7] at p7
  have HT := Lib.hid ht
  have HG : Hid (∀ b : Bool, (b = false ↔ ((((lenF n3 n4 n5 n6 n7 ∧ ∀ x ∈ L, labF x) ∧ ∀ x ∈ D, docF x) ∧ ∀ x ∈ K, stkF x) ∧ ∀ x ∈ E, seaF x) ∧ ∀ x ∈ A, entF x) → (b = false ↔ staF (x0, x1, x2, L, D, K, E, A))) := fun b h => by
    unfold staF
    simp only
    rw [← hn3, ← hn4, ← hn5, ← hn6, ← hn7]
    exact h
  clear ht
  have hm3 : n3 ≤ 9223372036854775807 := by have q := p3.len; simp only [maxLen] at q; omega
  have hm4 : n4 ≤ 9223372036854775807 := by have q := p4.len; simp only [maxLen] at q; omega
  have hm5 : n5 ≤ 9223372036854775807 := by have q := p5.len; simp only [maxLen] at q; omega
  have hm6 : n6 ≤ 9223372036854775807 := by have q := p6.len; simp only [maxLen] at q; omega
  have hm7 : n7 ≤ 9223372036854775807 := by have q := p7.len; simp only [maxLen] at q; omega
  clear hn3 hn4 hn5 hn6 hn7
  show Calls _ _ #[.agg #[.int .i64 x0, .int .i64 x1, .int .i64 x2, .slice u3 n3 c3, .slice u4 n4 c4, .slice u5 n5 c5, .slice u6 n6 c6, .slice u7 n7 c7]] _ _
  obtain ⟨B0, P0, L0⟩ := box1 w #[.int .i64 x0, .int .i64 x1, .int .i64 x2, .slice u3 n3 c3, .slice u4 n4 c4, .slice u5 n5 c5, .slice u6 n6 c6, .slice u7 n7 c7] 28
  obtain ⟨W0, hW0⟩ : ∃ W0, W0 = w.alloc (.cells #[.int .i64 x0, .int .i64 x1, .int .i64 x2, .slice u3 n3 c3, .slice u4 n4 c4, .slice u5 n5 c5, .slice u6 n6 c6, .slice u7 n7 c7] 28) := ⟨_, rfl⟩
  rw [← hW0] at B0 P0 L0
  obtain ⟨R, hR⟩ : ∃ R, R = w.heap.size := ⟨_, rfl⟩
  rw [← hR] at P0 L0
  have HB : Hid (Below w.heap.size w W0) := B0
  have HP := Lib.hid P0
  have HL : Hid (W0.heap.size = R + 1) := L0
  have HW := Lib.hid hW0
  have HR : Hid (w.heap.size = R) := hR.symm
  have HX : Hid (Below W0.heap.size W0 W0) := Below.refl _ _
  have HD3 : Hid (∀ w', Below W0.heap.size W0 w' → RowP labM P w' (.slice u3 n3 c3) L) := fun w' b => p3.keep labM_ok (Keep.below (HB.out.trans (b.mono HB.out.size)))
  have HD4 : Hid (∀ w', Below W0.heap.size W0 w' → RowP docM P w' (.slice u4 n4 c4) D) := fun w' b => p4.keep docM_ok (Keep.below (HB.out.trans (b.mono HB.out.size)))
  have HD5 : Hid (∀ w', Below W0.heap.size W0 w' → RowP stkM P w' (.slice u5 n5 c5) K) := fun w' b => p5.keep stkM_ok (Keep.below (HB.out.trans (b.mono HB.out.size)))
  have HD6 : Hid (∀ w', Below W0.heap.size W0 w' → RowP seaM P w' (.slice u6 n6 c6) E) := fun w' b => p6.keep seaM_ok (Keep.below (HB.out.trans (b.mono HB.out.size)))
  have HD7 : Hid (∀ w', Below W0.heap.size W0 w' → RowP entM P w' (.slice u7 n7 c7) A) := fun w' b => p7.keep entM_ok (Keep.below (HB.out.trans (b.mono HB.out.size)))
  clear hR B0 P0 L0 hW0 p3 p4 p5 p6 p7
  go_enter Tryz.func18, Tryz.ntmps18
  go_upto_region 1 with fail
  rw [← HW.out, HR.out]
  obtain ⟨a0, a1, a2, a3, a4, a5, a6, a7⟩ := eight_cells ((HX.out.block R (by have := HL.out; omega)).trans HP.out)
  go_cut [3] from 12 to 39 (fun v wx => v = .bool (decide (65535 < n3 ∨ 65535 < n4 ∨ 65535 < n5 ∨ 65535 < n6 ∨ 65535 < n7)) ∧ W0 = wx)
  case first =>
    by_cases k0 : 65535 < n3
    · have kw0 : (65535 : Int) < (n3 : Nat) := by omega
      have kd0 : decide ((65535 : Int) < (n3 : Nat)) = true := decide_eq_true kw0
      go_wp2_with fail
      go_meet
      exact ⟨by congr 1; symm; exact decide_eq_true (by omega), rfl⟩
    · have kw0 : ¬ (65535 : Int) < (n3 : Nat) := by omega
      have kd0 : decide ((65535 : Int) < (n3 : Nat)) = false := decide_eq_false kw0
      by_cases k1 : 65535 < n4
      · have kw1 : (65535 : Int) < (n4 : Nat) := by omega
        have kd1 : decide ((65535 : Int) < (n4 : Nat)) = true := decide_eq_true kw1
        go_wp2_with fail
        go_meet
        exact ⟨by congr 1; symm; exact decide_eq_true (by omega), rfl⟩
      · have kw1 : ¬ (65535 : Int) < (n4 : Nat) := by omega
        have kd1 : decide ((65535 : Int) < (n4 : Nat)) = false := decide_eq_false kw1
        by_cases k2 : 65535 < n5
        · have kw2 : (65535 : Int) < (n5 : Nat) := by omega
          have kd2 : decide ((65535 : Int) < (n5 : Nat)) = true := decide_eq_true kw2
          go_wp2_with fail
          go_meet
          exact ⟨by congr 1; symm; exact decide_eq_true (by omega), rfl⟩
        · have kw2 : ¬ (65535 : Int) < (n5 : Nat) := by omega
          have kd2 : decide ((65535 : Int) < (n5 : Nat)) = false := decide_eq_false kw2
          by_cases k3 : 65535 < n6
          · have kw3 : (65535 : Int) < (n6 : Nat) := by omega
            have kd3 : decide ((65535 : Int) < (n6 : Nat)) = true := decide_eq_true kw3
            go_wp2_with fail
            go_meet
            exact ⟨by congr 1; symm; exact decide_eq_true (by omega), rfl⟩
          · have kw3 : ¬ (65535 : Int) < (n6 : Nat) := by omega
            have kd3 : decide ((65535 : Int) < (n6 : Nat)) = false := decide_eq_false kw3
            by_cases k4 : 65535 < n7
            · have kw4 : (65535 : Int) < (n7 : Nat) := by omega
              have kd4 : decide ((65535 : Int) < (n7 : Nat)) = true := decide_eq_true kw4
              go_wp2_with fail
              go_meet
              exact ⟨by congr 1; symm; exact decide_eq_true (by omega), rfl⟩
            · have kw4 : ¬ (65535 : Int) < (n7 : Nat) := by omega
              have kd4 : decide ((65535 : Int) < (n7 : Nat)) = false := decide_eq_false kw4
              go_wp2_with fail
              go_meet
              exact ⟨by congr 1; symm; exact decide_eq_false (by omega), rfl⟩
  case rest =>
    obtain ⟨rfl, rfl⟩ := hcut
    have HA : Hid (decide (65535 < n3 ∨ 65535 < n4 ∨ 65535 < n5 ∨ 65535 < n6 ∨ 65535 < n7) = false ↔ lenF n3 n4 n5 n6 n7) := by show _ ↔ _; rw [not_dec]; unfold lenF; omega
    obtain ⟨bz, hbz⟩ : ∃ bz, bz = decide (65535 < n3 ∨ 65535 < n4 ∨ 65535 < n5 ∨ 65535 < n6 ∨ 65535 < n7) := ⟨_, rfl⟩
    rw [← hbz] at HA ⊢
    clear hbz a0 a1 a2 a3 a4 a5 a6 a7
    go_wp2_with fail
    go_loopg [3, 4] n3 (fun g b_ i_ wr => ∃ (i3 : Nat) (bv : Bool), i3 ≤ n3 ∧ n3 - i3 ≤ g ∧ i_ = .int .i64 (i3 : Nat) ∧ b_ = .bool bv ∧ Hid (bv = false ↔ lenF n3 n4 n5 n6 n7 ∧ ∀ x ∈ L.take i3, labF x) ∧ Hid (Below W0.heap.size W0 wr))
    case atStart => exact ⟨0, _, by omega, by omega, rfl, rfl, lp_start HA.out, HX⟩
    case round =>
      clear HX HA
      obtain ⟨i3, bv, hii3, hgi3, rfl, rfl, HV, HX⟩ := hrel
      obtain ⟨a0, a1, a2, a3, a4, a5, a6, a7⟩ := eight_cells ((HX.out.block R (by have := HL.out; omega)).trans HP.out)
      go_upto_region 3 with fail
      go_cut [48] from 40 to 68 (fun v wx => v = .bool (decide (i3 < n3 ∧ bv = false)) ∧ wr = wx)
      case first =>
        by_cases hin : i3 < n3
        · have iw : ((i3 : Nat) : Int) < (n3 : Int) := by omega
          have d1 : decide (((i3 : Nat) : Int) < (n3 : Int)) = true := decide_eq_true iw
          cases bv with
          | true =>
            go_wp2_with fail
            go_meet
            exact ⟨by simp, rfl⟩
          | false =>
            go_wp2_with fail
            go_meet
            exact ⟨by simp [hin], rfl⟩
        · have iw : ¬ ((i3 : Nat) : Int) < (n3 : Int) := by omega
          have d1 : decide (((i3 : Nat) : Int) < (n3 : Int)) = false := decide_eq_false iw
          go_wp2_with fail
          go_meet
          exact ⟨by simp [hin], rfl⟩
      case rest =>
        obtain ⟨rfl, rfl⟩ := hcut
        by_cases hc : i3 < n3 ∧ bv = false
        · rw [decide_eq_true hc]
          obtain ⟨hin, hbv⟩ := hc
          have HV1 := Lib.hid (HV.out.1 hbv)
          clear HV
          have HV := HV1
          clear HV1
          subst hbv
          have n0i3 : (0 : Int) ≤ ((i3 : Nat) : Int) := by omega
          have iwi3 : ((i3 : Nat) : Int) < (n3 : Int) := by omega
          have hixi3 : i3 < L.length := by rw [← HN3.out]; exact hin
          obtain ⟨b1, f1, s1, rfl, hlt1, _, hR1, hc1⟩ := (HD3.out wr HX.out).get hixi3
          obtain ⟨x, hx⟩ : ∃ z, z = L[i3] := ⟨_, rfl⟩
          rw [← hx] at hR1
          have HXI : Hid (L[i3] = x) := hx.symm
          obtain ⟨r1, d1, r2, d2, rfl, _, _⟩ := labM_cells hR1
          obtain ⟨na, hna⟩ : ∃ q, q = x.2.2.1.length := ⟨_, rfl⟩
          obtain ⟨nb, hnb⟩ : ∃ q, q = x.2.2.2.length := ⟨_, rfl⟩
          rw [← hna, ← hnb] at hc1
          have HNN := Lib.hid (And.intro hna hnb)
          have m2 : wr.cell? ⟨b1, f1 + i3 * 4 + 2, none⟩ = some (.slice r1 na d1) := hc1 2 _ rfl
          have m3 : wr.cell? ⟨b1, f1 + i3 * 4 + 3, none⟩ = some (.slice r2 nb d2) := hc1 3 _ rfl
          clear hc1 hR1 hx hna hnb hlt1
          go_upto_region 5 with fail
          have HV2 : Hid (decide (65535 < na ∨ 65535 < nb) = false ↔ lenF n3 n4 n5 n6 n7 ∧ ∀ x ∈ L.take (i3 + 1), labF x) := lp_step hixi3 HV.out (by
            rw [not_dec, HXI.out]
            show _ ↔ labF x
            unfold labF
            rw [← HNN.out.1, ← HNN.out.2]
            omega)
          clear HV HXI HNN
          by_cases k0 : 65535 < na
          · have kw0 : (65535 : Int) < (na : Nat) := by omega
            have kd0 : decide ((65535 : Int) < (na : Nat)) = true := decide_eq_true kw0
            have HV4 : Hid (NotP _) := fun h => absurd (HV2.out.2 h) (by rw [decide_eq_true (show 65535 < na ∨ 65535 < nb from by omega)]; decide)
            clear HV2
            go_wp2_with fail
            go_roundg (n3 - (i3 + 1))
            case measure => omega
            case rel => exact ⟨i3 + 1, _, by omega, Nat.le_refl _, by go_num, rfl, (iff_no HV4.out), HX⟩
          · have kw0 : ¬ (65535 : Int) < (na : Nat) := by omega
            have kd0 : decide ((65535 : Int) < (na : Nat)) = false := decide_eq_false kw0
            by_cases k1 : 65535 < nb
            · have kw1 : (65535 : Int) < (nb : Nat) := by omega
              have kd1 : decide ((65535 : Int) < (nb : Nat)) = true := decide_eq_true kw1
              have HV4 : Hid (NotP _) := fun h => absurd (HV2.out.2 h) (by rw [decide_eq_true (show 65535 < na ∨ 65535 < nb from by omega)]; decide)
              clear HV2
              go_wp2_with fail
              go_roundg (n3 - (i3 + 1))
              case measure => omega
              case rel => exact ⟨i3 + 1, _, by omega, Nat.le_refl _, by go_num, rfl, (iff_no HV4.out), HX⟩
            · have kw1 : ¬ (65535 : Int) < (nb : Nat) := by omega
              have kd1 : decide ((65535 : Int) < (nb : Nat)) = false := decide_eq_false kw1
              have HV4 := Lib.hid (HV2.out.1 (decide_eq_false (by omega)))
              clear HV2
              go_wp2_with fail
              go_roundg (n3 - (i3 + 1))
              case measure => omega
              case rel => exact ⟨i3 + 1, _, by omega, Nat.le_refl _, by go_num, rfl, (iff_yes HV4.out), HX⟩
        · rw [decide_eq_false hc]
          have HA' : Hid (bv = false ↔ lenF n3 n4 n5 n6 n7 ∧ ∀ x ∈ L, labF x) := lp_end HV.out (by rw [← HN3.out]; exact hc)
          clear HV hc hii3 hgi3
          have HV := HA'
          clear HA'
          have HA : Hid (bv = false ↔ _) := HV.out
          clear HV
          clear a0 a1 a2 a3 a4 a5 a6 a7
          go_wp2_with fail
          go_loopg [3, 5] n4 (fun g b_ i_ wr => ∃ (i4 : Nat) (bv : Bool), i4 ≤ n4 ∧ n4 - i4 ≤ g ∧ i_ = .int .i64 (i4 : Nat) ∧ b_ = .bool bv ∧ Hid (bv = false ↔ (lenF n3 n4 n5 n6 n7 ∧ ∀ x ∈ L, labF x) ∧ ∀ x ∈ D.take i4, docF x) ∧ Hid (Below W0.heap.size W0 wr))
          case atStart => exact ⟨0, _, by omega, by omega, rfl, rfl, lp_start HA.out, HX⟩
          case round =>
            clear HX HA
            obtain ⟨i4, bv, hii4, hgi4, rfl, rfl, HV, HX⟩ := hrel
            obtain ⟨a0, a1, a2, a3, a4, a5, a6, a7⟩ := eight_cells ((HX.out.block R (by have := HL.out; omega)).trans HP.out)
            go_upto_region 7 with fail
            go_cut [77] from 69 to 127 (fun v wx => v = .bool (decide (i4 < n4 ∧ bv = false)) ∧ wr = wx)
            case first =>
              by_cases hin : i4 < n4
              · have iw : ((i4 : Nat) : Int) < (n4 : Int) := by omega
                have d1 : decide (((i4 : Nat) : Int) < (n4 : Int)) = true := decide_eq_true iw
                cases bv with
                | true =>
                  go_wp2_with fail
                  go_meet
                  exact ⟨by simp, rfl⟩
                | false =>
                  go_wp2_with fail
                  go_meet
                  exact ⟨by simp [hin], rfl⟩
              · have iw : ¬ ((i4 : Nat) : Int) < (n4 : Int) := by omega
                have d1 : decide (((i4 : Nat) : Int) < (n4 : Int)) = false := decide_eq_false iw
                go_wp2_with fail
                go_meet
                exact ⟨by simp [hin], rfl⟩
            case rest =>
              obtain ⟨rfl, rfl⟩ := hcut
              by_cases hc : i4 < n4 ∧ bv = false
              · rw [decide_eq_true hc]
                obtain ⟨hin, hbv⟩ := hc
                have HV1 := Lib.hid (HV.out.1 hbv)
                clear HV
                have HV := HV1
                clear HV1
                subst hbv
                have n0i4 : (0 : Int) ≤ ((i4 : Nat) : Int) := by omega
                have iwi4 : ((i4 : Nat) : Int) < (n4 : Int) := by omega
                have hixi4 : i4 < D.length := by rw [← HN4.out]; exact hin
                obtain ⟨b1, f1, s1, rfl, hlt1, _, hR1, hc1⟩ := (HD4.out wr HX.out).get hixi4
                obtain ⟨x, hx⟩ : ∃ z, z = D[i4] := ⟨_, rfl⟩
                rw [← hx] at hR1
                have HXI : Hid (D[i4] = x) := hx.symm
                obtain ⟨r1, d1, rfl, q1⟩ := docM_cells hR1
                obtain ⟨na, hna⟩ : ∃ q, q = x.2.length := ⟨_, rfl⟩
                rw [← hna] at hc1 q1
                have HNA := Lib.hid hna
                have hmna : na ≤ 9223372036854775807 := by have q := q1.len; simp only [maxLen] at q; omega
                have hmem : x ∈ D := hx ▸ List.getElem_mem hixi4
                have HTX : Hid (∀ y ∈ x.2, y.2.2.1.length ≤ 9223372036854775807) := HT.out.1 x hmem
                have m1 : wr.cell? ⟨b1, f1 + i4 * 2 + 1, none⟩ = some (.slice r1 na d1) := hc1 1 _ rfl
                obtain ⟨bq, hbq⟩ : ∃ bq, bq = decide ((65535 : Int) < (na : Nat)) := ⟨_, rfl⟩
                have hbd : decide ((65535 : Int) < (na : Nat)) = bq := hbq.symm
                have HAI : Hid (bq = false ↔ na ≤ 65535) := by show _ ↔ _; rw [hbq, not_dec]; omega
                obtain ⟨WI, hWI⟩ : ∃ WI : World, WI = wr := ⟨_, rfl⟩
                subst hWI
                have HM : Hid (∀ w', Below WI.heap.size WI w' → w'.cell? ⟨b1, f1 + i4 * 2 + 1, none⟩ = some (.slice r1 na d1)) := fun w' b => vcell b hlt1 m1
                have HQ1 : Hid (∀ w', Below WI.heap.size WI w' → RowP segM P w' (.slice r1 na d1) x.2) := fun w' b => q1.keep segM_ok (Keep.below b)
                obtain ⟨X2, hX2⟩ : ∃ X2, X2 = x.2 := ⟨_, rfl⟩
                rw [← hX2] at HQ1 HTX HNA
                have HX2 := Lib.hid hX2
                have HXO := HX
                have HVO := HV
                clear HV
                clear HX
                have HX : Hid (Below WI.heap.size WI WI) := Below.refl _ _
                clear hc1 hR1 hx hna hlt1 q1 hmem hbq hX2
                go_upto_region 10 with fail
                clear hbd m1 a0 a1 a2 a3 a4 a5 a6 a7
                go_wp2_with fail
                go_loopg [3, 6] na (fun g b_ i_ wr => ∃ (j4 : Nat) (bv : Bool), j4 ≤ na ∧ na - j4 ≤ g ∧ i_ = .int .i64 (j4 : Nat) ∧ b_ = .bool bv ∧ Hid (bv = false ↔ na ≤ 65535 ∧ ∀ x ∈ X2.take j4, segF x) ∧ Hid (Below WI.heap.size WI wr))
                case atStart => exact ⟨0, _, by omega, by omega, rfl, rfl, lp_start HAI.out, HX⟩
                case round =>
                  clear HX HAI
                  obtain ⟨j4, bv, hij4, hgj4, rfl, rfl, HV, HX⟩ := hrel
                  have HXW : Hid (Below W0.heap.size W0 wr) := below_on HXO.out HX.out
                  obtain ⟨a0, a1, a2, a3, a4, a5, a6, a7⟩ := eight_cells ((HXW.out.block R (by have := HL.out; omega)).trans HP.out)
                  have mo := HM.out wr HX.out
                  go_upto_region 11 with fail
                  go_cut [100] from 88 to 127 (fun v wx => v = .bool (decide (j4 < na ∧ bv = false)) ∧ wr = wx)
                  case first =>
                    by_cases hin : j4 < na
                    · have iw : ((j4 : Nat) : Int) < (na : Int) := by omega
                      have d1 : decide (((j4 : Nat) : Int) < (na : Int)) = true := decide_eq_true iw
                      cases bv with
                      | true =>
                        go_wp2_with fail
                        go_meet
                        exact ⟨by simp, rfl⟩
                      | false =>
                        go_wp2_with fail
                        go_meet
                        exact ⟨by simp [hin], rfl⟩
                    · have iw : ¬ ((j4 : Nat) : Int) < (na : Int) := by omega
                      have d1 : decide (((j4 : Nat) : Int) < (na : Int)) = false := decide_eq_false iw
                      go_wp2_with fail
                      go_meet
                      exact ⟨by simp [hin], rfl⟩
                  case rest =>
                    obtain ⟨rfl, rfl⟩ := hcut
                    by_cases hc : j4 < na ∧ bv = false
                    · rw [decide_eq_true hc]
                      obtain ⟨hin, hbv⟩ := hc
                      have HV1 := Lib.hid (HV.out.1 hbv)
                      clear HV
                      have HV := HV1
                      clear HV1
                      subst hbv
                      have n0j4 : (0 : Int) ≤ ((j4 : Nat) : Int) := by omega
                      have iwj4 : ((j4 : Nat) : Int) < (na : Int) := by omega
                      have hixj4 : j4 < X2.length := by rw [← HNA.out]; exact hin
                      obtain ⟨b2, f2, s2, rfl, hlt2, _, hR2, hc2⟩ := (HQ1.out wr HX.out).get hixj4
                      obtain ⟨y, hy⟩ : ∃ z, z = X2[j4] := ⟨_, rfl⟩
                      rw [← hy] at hR2
                      have HYI : Hid (X2[j4] = y) := hy.symm
                      have hmy : y ∈ X2 := hy ▸ List.getElem_mem hixj4
                      obtain ⟨r3, d3, r4, d4, rfl, _, _⟩ := segM_cells hR2
                      obtain ⟨y0, hy0⟩ : ∃ q, q = y.1 := ⟨_, rfl⟩
                      obtain ⟨y1, hy1⟩ : ∃ q, q = y.2.1 := ⟨_, rfl⟩
                      obtain ⟨n2, hn2⟩ : ∃ q, q = y.2.2.1.length := ⟨_, rfl⟩
                      obtain ⟨t2, ht2⟩ : ∃ q, q = mkB y.2.2.1 := ⟨_, rfl⟩
                      have zt : t2.size = n2 := by rw [ht2, mkB_size, hn2]
                      have bt2 : n2 ≤ 9223372036854775807 := by rw [hn2]; exact HTX.out y hmy
                      obtain ⟨m3, hm3⟩ : ∃ q, q = y.2.2.2.1.length := ⟨_, rfl⟩
                      obtain ⟨m4, hm4⟩ : ∃ q, q = y.2.2.2.2.length := ⟨_, rfl⟩
                      rw [← hy0, ← hy1, ← ht2, ← hm3, ← hm4] at hc2
                      have HNY := Lib.hid (And.intro hn2 (And.intro hm3 hm4))
                      have e0 : wr.cell? ⟨b2, f2 + j4 * 5, none⟩ = some (.int .i64 y0) := hc2 0 _ rfl
                      have e1 : wr.cell? ⟨b2, f2 + j4 * 5 + 1, none⟩ = some (.int .i64 y1) := hc2 1 _ rfl
                      have e2 : wr.cell? ⟨b2, f2 + j4 * 5 + 2, none⟩ = some (.string t2) := hc2 2 _ rfl
                      have e3 : wr.cell? ⟨b2, f2 + j4 * 5 + 3, none⟩ = some (.slice r3 m3 d3) := hc2 3 _ rfl
                      have e4 : wr.cell? ⟨b2, f2 + j4 * 5 + 4, none⟩ = some (.slice r4 m4 d4) := hc2 4 _ rfl
                      obtain ⟨bX, pX, lX⟩ := box1 wr #[.int .i64 y0, .int .i64 y1, .string t2, .slice r3 m3 d3, .slice r4 m4 d4] 112
                      obtain ⟨W5, hW5⟩ : ∃ W5, W5 = wr.alloc (.cells #[.int .i64 y0, .int .i64 y1, .string t2, .slice r3 m3 d3, .slice r4 m4 d4] 112) := ⟨_, rfl⟩
                      rw [← hW5] at bX pX lX
                      obtain ⟨X, hX⟩ : ∃ X, X = wr.heap.size := ⟨_, rfl⟩
                      rw [← hX] at pX lX
                      have HW5 := Lib.hid hW5
                      have HXX : Hid (wr.heap.size = X) := hX.symm
                      have HX5 : Hid (Below WI.heap.size WI W5) := below_on HX.out bX
                      obtain ⟨_, _, g2, g3, g4⟩ := five_cells' pX
                      clear hc2 hR2 hy hy0 hy1 hn2 ht2 hm3 hm4 hlt2 hX hW5 bX pX lX hmy
                      go_upto_region 14 with fail
                      rw [← HW5.out, HXX.out]
                      clear e0 e1 e2 e3 e4 mo a0 a1 a2 a3 a4 a5 a6 a7
                      have HV2 : Hid (decide (65535 < n2 ∨ 65535 < m3 ∨ 65535 < m4) = false ↔ na ≤ 65535 ∧ ∀ x ∈ X2.take (j4 + 1), segF x) := lp_step hixj4 HV.out (by
                        rw [not_dec, HYI.out]
                        show _ ↔ segF y
                        unfold segF
                        rw [← HNY.out.1, ← HNY.out.2.1, ← HNY.out.2.2]
                        omega)
                      clear HV HYI HNY
                      by_cases k0 : 65535 < n2
                      · have kw0 : (65535 : Int) < (n2 : Nat) := by omega
                        have kd0 : decide ((65535 : Int) < (n2 : Nat)) = true := decide_eq_true kw0
                        have HV4 : Hid (NotP _) := fun h => absurd (HV2.out.2 h) (by rw [decide_eq_true (show 65535 < n2 ∨ 65535 < m3 ∨ 65535 < m4 from by omega)]; decide)
                        clear HV2
                        go_wp2_with fail
                        go_roundg (na - (j4 + 1))
                        case measure => omega
                        case rel => exact ⟨j4 + 1, _, by omega, Nat.le_refl _, by go_num, rfl, (iff_no HV4.out), HX5⟩
                      · have kw0 : ¬ (65535 : Int) < (n2 : Nat) := by omega
                        have kd0 : decide ((65535 : Int) < (n2 : Nat)) = false := decide_eq_false kw0
                        by_cases k1 : 65535 < m3
                        · have kw1 : (65535 : Int) < (m3 : Nat) := by omega
                          have kd1 : decide ((65535 : Int) < (m3 : Nat)) = true := decide_eq_true kw1
                          have HV4 : Hid (NotP _) := fun h => absurd (HV2.out.2 h) (by rw [decide_eq_true (show 65535 < n2 ∨ 65535 < m3 ∨ 65535 < m4 from by omega)]; decide)
                          clear HV2
                          go_wp2_with fail
                          go_roundg (na - (j4 + 1))
                          case measure => omega
                          case rel => exact ⟨j4 + 1, _, by omega, Nat.le_refl _, by go_num, rfl, (iff_no HV4.out), HX5⟩
                        · have kw1 : ¬ (65535 : Int) < (m3 : Nat) := by omega
                          have kd1 : decide ((65535 : Int) < (m3 : Nat)) = false := decide_eq_false kw1
                          by_cases k2 : 65535 < m4
                          · have kw2 : (65535 : Int) < (m4 : Nat) := by omega
                            have kd2 : decide ((65535 : Int) < (m4 : Nat)) = true := decide_eq_true kw2
                            have HV4 : Hid (NotP _) := fun h => absurd (HV2.out.2 h) (by rw [decide_eq_true (show 65535 < n2 ∨ 65535 < m3 ∨ 65535 < m4 from by omega)]; decide)
                            clear HV2
                            go_wp2_with fail
                            go_roundg (na - (j4 + 1))
                            case measure => omega
                            case rel => exact ⟨j4 + 1, _, by omega, Nat.le_refl _, by go_num, rfl, (iff_no HV4.out), HX5⟩
                          · have kw2 : ¬ (65535 : Int) < (m4 : Nat) := by omega
                            have kd2 : decide ((65535 : Int) < (m4 : Nat)) = false := decide_eq_false kw2
                            have HV4 := Lib.hid (HV2.out.1 (decide_eq_false (by omega)))
                            clear HV2
                            go_wp2_with fail
                            go_roundg (na - (j4 + 1))
                            case measure => omega
                            case rel => exact ⟨j4 + 1, _, by omega, Nat.le_refl _, by go_num, rfl, (iff_yes HV4.out), HX5⟩
                    · rw [decide_eq_false hc]
                      have HA' : Hid (bv = false ↔ na ≤ 65535 ∧ ∀ x ∈ X2, segF x) := lp_end HV.out (by rw [← HNA.out]; exact hc)
                      clear HV hc hij4 hgj4
                      have HV := HA'
                      clear HA'
                      have HX9 : Hid (Below W0.heap.size W0 wr) := below_on HXO.out HX.out
                      have HV2 : Hid (bv = false ↔ (lenF n3 n4 n5 n6 n7 ∧ ∀ x ∈ L, labF x) ∧ ∀ x ∈ D.take (i4 + 1), docF x) := lp_step hixi4 HVO.out (by
                        rw [HXI.out]
                        show _ ↔ docF x
                        unfold docF
                        rw [← HX2.out, ← HNA.out]
                        exact HV.out)
                      clear HV HVO HXI HX
                      go_wp2_with fail
                      go_roundg (n4 - (i4 + 1))
                      case measure => omega
                      case rel => exact ⟨i4 + 1, _, by omega, Nat.le_refl _, by go_num, rfl, HV2, HX9⟩
              · rw [decide_eq_false hc]
                have HA' : Hid (bv = false ↔ (lenF n3 n4 n5 n6 n7 ∧ ∀ x ∈ L, labF x) ∧ ∀ x ∈ D, docF x) := lp_end HV.out (by rw [← HN4.out]; exact hc)
                clear HV hc hii4 hgi4
                have HV := HA'
                clear HA'
                have HA : Hid (bv = false ↔ _) := HV.out
                clear HV
                clear a0 a1 a2 a3 a4 a5 a6 a7
                go_wp2_with fail
                go_loopg [3, 8] n5 (fun g b_ i_ wr => ∃ (i5 : Nat) (bv : Bool), i5 ≤ n5 ∧ n5 - i5 ≤ g ∧ i_ = .int .i64 (i5 : Nat) ∧ b_ = .bool bv ∧ Hid (bv = false ↔ ((lenF n3 n4 n5 n6 n7 ∧ ∀ x ∈ L, labF x) ∧ ∀ x ∈ D, docF x) ∧ ∀ x ∈ K.take i5, stkF x) ∧ Hid (Below W0.heap.size W0 wr))
                case atStart => exact ⟨0, _, by omega, by omega, rfl, rfl, lp_start HA.out, HX⟩
                case round =>
                  clear HX HA
                  obtain ⟨i5, bv, hii5, hgi5, rfl, rfl, HV, HX⟩ := hrel
                  obtain ⟨a0, a1, a2, a3, a4, a5, a6, a7⟩ := eight_cells ((HX.out.block R (by have := HL.out; omega)).trans HP.out)
                  go_upto_region 16 with fail
                  go_cut [136] from 128 to 170 (fun v wx => v = .bool (decide (i5 < n5 ∧ bv = false)) ∧ wr = wx)
                  case first =>
                    by_cases hin : i5 < n5
                    · have iw : ((i5 : Nat) : Int) < (n5 : Int) := by omega
                      have d1 : decide (((i5 : Nat) : Int) < (n5 : Int)) = true := decide_eq_true iw
                      cases bv with
                      | true =>
                        go_wp2_with fail
                        go_meet
                        exact ⟨by simp, rfl⟩
                      | false =>
                        go_wp2_with fail
                        go_meet
                        exact ⟨by simp [hin], rfl⟩
                    · have iw : ¬ ((i5 : Nat) : Int) < (n5 : Int) := by omega
                      have d1 : decide (((i5 : Nat) : Int) < (n5 : Int)) = false := decide_eq_false iw
                      go_wp2_with fail
                      go_meet
                      exact ⟨by simp [hin], rfl⟩
                  case rest =>
                    obtain ⟨rfl, rfl⟩ := hcut
                    by_cases hc : i5 < n5 ∧ bv = false
                    · rw [decide_eq_true hc]
                      obtain ⟨hin, hbv⟩ := hc
                      have HV1 := Lib.hid (HV.out.1 hbv)
                      clear HV
                      have HV := HV1
                      clear HV1
                      subst hbv
                      have n0i5 : (0 : Int) ≤ ((i5 : Nat) : Int) := by omega
                      have iwi5 : ((i5 : Nat) : Int) < (n5 : Int) := by omega
                      have hixi5 : i5 < K.length := by rw [← HN5.out]; exact hin
                      obtain ⟨b1, f1, s1, rfl, hlt1, _, hR1, hc1⟩ := (HD5.out wr HX.out).get hixi5
                      obtain ⟨xk, hx⟩ : ∃ z, z = K[i5] := ⟨_, rfl⟩
                      rw [← hx] at hR1
                      have HXI : Hid (K[i5] = xk) := hx.symm
                      obtain ⟨r1, d1, rfl, q1⟩ := stkM_cells hR1
                      obtain ⟨na, hna⟩ : ∃ q, q = xk.length := ⟨_, rfl⟩
                      rw [← hna] at hc1 q1
                      have HNA := Lib.hid hna
                      have hmna : na ≤ 9223372036854775807 := by have q := q1.len; simp only [maxLen] at q; omega
                      have hmem : xk ∈ K := hx ▸ List.getElem_mem hixi5
                      have HTX : Hid (∀ y ∈ xk, y.2.2.2.2.length ≤ 9223372036854775807) := HT.out.2.1 xk hmem
                      have m1 : wr.cell? ⟨b1, f1 + i5, none⟩ = some (.slice r1 na d1) := by have q := hc1 0 _ rfl; rw [show f1 + i5 * stkM.k + 0 = f1 + i5 from by show f1 + i5 * 1 + 0 = _; omega] at q; exact q
                      obtain ⟨bq, hbq⟩ : ∃ bq, bq = decide ((65535 : Int) < (na : Nat)) := ⟨_, rfl⟩
                      have hbd : decide ((65535 : Int) < (na : Nat)) = bq := hbq.symm
                      have HAI : Hid (bq = false ↔ na ≤ 65535) := by show _ ↔ _; rw [hbq, not_dec]; omega
                      obtain ⟨WI, hWI⟩ : ∃ WI : World, WI = wr := ⟨_, rfl⟩
                      subst hWI
                      have HM : Hid (∀ w', Below WI.heap.size WI w' → w'.cell? ⟨b1, f1 + i5, none⟩ = some (.slice r1 na d1)) := fun w' b => vcell b hlt1 m1
                      have HQ1 : Hid (∀ w', Below WI.heap.size WI w' → RowP thgM P w' (.slice r1 na d1) xk) := fun w' b => q1.keep thgM_ok (Keep.below b)
                      have HXO := HX
                      have HVO := HV
                      clear HV
                      clear HX
                      have HX : Hid (Below WI.heap.size WI WI) := Below.refl _ _
                      clear hc1 hR1 hx hna hlt1 q1 hmem hbq
                      go_upto_region 19 with fail
                      clear hbd m1 a0 a1 a2 a3 a4 a5 a6 a7
                      go_wp2_with fail
                      go_loopg [3, 9] na (fun g b_ i_ wr => ∃ (j5 : Nat) (bv : Bool), j5 ≤ na ∧ na - j5 ≤ g ∧ i_ = .int .i64 (j5 : Nat) ∧ b_ = .bool bv ∧ Hid (bv = false ↔ na ≤ 65535 ∧ ∀ x ∈ xk.take j5, thgF x) ∧ Hid (Below WI.heap.size WI wr))
                      case atStart => exact ⟨0, _, by omega, by omega, rfl, rfl, lp_start HAI.out, HX⟩
                      case round =>
                        clear HX HAI
                        obtain ⟨j5, bv, hij5, hgj5, rfl, rfl, HV, HX⟩ := hrel
                        have HXW : Hid (Below W0.heap.size W0 wr) := below_on HXO.out HX.out
                        obtain ⟨a0, a1, a2, a3, a4, a5, a6, a7⟩ := eight_cells ((HXW.out.block R (by have := HL.out; omega)).trans HP.out)
                        have mo := HM.out wr HX.out
                        go_upto_region 20 with fail
                        go_cut [157] from 146 to 170 (fun v wx => v = .bool (decide (j5 < na ∧ bv = false)) ∧ wr = wx)
                        case first =>
                          by_cases hin : j5 < na
                          · have iw : ((j5 : Nat) : Int) < (na : Int) := by omega
                            have d1 : decide (((j5 : Nat) : Int) < (na : Int)) = true := decide_eq_true iw
                            cases bv with
                            | true =>
                              go_wp2_with fail
                              go_meet
                              exact ⟨by simp, rfl⟩
                            | false =>
                              go_wp2_with fail
                              go_meet
                              exact ⟨by simp [hin], rfl⟩
                          · have iw : ¬ ((j5 : Nat) : Int) < (na : Int) := by omega
                            have d1 : decide (((j5 : Nat) : Int) < (na : Int)) = false := decide_eq_false iw
                            go_wp2_with fail
                            go_meet
                            exact ⟨by simp [hin], rfl⟩
                        case rest =>
                          obtain ⟨rfl, rfl⟩ := hcut
                          by_cases hc : j5 < na ∧ bv = false
                          · rw [decide_eq_true hc]
                            obtain ⟨hin, hbv⟩ := hc
                            have HV1 := Lib.hid (HV.out.1 hbv)
                            clear HV
                            have HV := HV1
                            clear HV1
                            subst hbv
                            have n0j5 : (0 : Int) ≤ ((j5 : Nat) : Int) := by omega
                            have iwj5 : ((j5 : Nat) : Int) < (na : Int) := by omega
                            have hixj5 : j5 < xk.length := by rw [← HNA.out]; exact hin
                            obtain ⟨b2, f2, s2, rfl, hlt2, _, hR2, hc2⟩ := (HQ1.out wr HX.out).get hixj5
                            obtain ⟨y, hy⟩ : ∃ z, z = xk[j5] := ⟨_, rfl⟩
                            rw [← hy] at hR2
                            have HYI : Hid (xk[j5] = y) := hy.symm
                            have hmy : y ∈ xk := hy ▸ List.getElem_mem hixj5
                            obtain rfl := thgM_cells hR2
                            obtain ⟨n2, hn2⟩ : ∃ q, q = y.2.2.2.2.length := ⟨_, rfl⟩
                            obtain ⟨t2, ht2⟩ : ∃ q, q = mkB y.2.2.2.2 := ⟨_, rfl⟩
                            have zt : t2.size = n2 := by rw [ht2, mkB_size, hn2]
                            have bt2 : n2 ≤ 9223372036854775807 := by rw [hn2]; exact HTX.out y hmy
                            rw [← ht2] at hc2
                            have HNY := Lib.hid hn2
                            have e4 : wr.cell? ⟨b2, f2 + j5 * 5 + 4, none⟩ = some (.string t2) := hc2 4 _ rfl
                            obtain ⟨bu, hbu⟩ : ∃ bu, bu = decide ((65535 : Int) < (n2 : Nat)) := ⟨_, rfl⟩
                            have hbe : decide ((65535 : Int) < (n2 : Nat)) = bu := hbu.symm
                            have HV2 : Hid (bu = false ↔ na ≤ 65535 ∧ ∀ x ∈ xk.take (j5 + 1), thgF x) := lp_step hixj5 HV.out (by
                              rw [HYI.out, hbu, not_dec]
                              show _ ↔ thgF y
                              unfold thgF
                              rw [← HNY.out]
                              omega)
                            clear HV HYI HNY hc2 hR2 hy hn2 ht2 hlt2 hmy hbu
                            go_wp2_with fail
                            go_roundg (na - (j5 + 1))
                            case measure => omega
                            case rel => exact ⟨j5 + 1, _, by omega, Nat.le_refl _, by go_num, rfl, HV2, HX⟩
                          · rw [decide_eq_false hc]
                            have HA' : Hid (bv = false ↔ na ≤ 65535 ∧ ∀ x ∈ xk, thgF x) := lp_end HV.out (by rw [← HNA.out]; exact hc)
                            clear HV hc hij5 hgj5
                            have HV := HA'
                            clear HA'
                            have HX9 : Hid (Below W0.heap.size W0 wr) := below_on HXO.out HX.out
                            have HV2 : Hid (bv = false ↔ ((lenF n3 n4 n5 n6 n7 ∧ ∀ x ∈ L, labF x) ∧ ∀ x ∈ D, docF x) ∧ ∀ x ∈ K.take (i5 + 1), stkF x) := lp_step hixi5 HVO.out (by
                              rw [HXI.out]
                              show _ ↔ stkF xk
                              unfold stkF
                              rw [← HNA.out]
                              exact HV.out)
                            clear HV HVO HXI HX
                            go_wp2_with fail
                            go_roundg (n5 - (i5 + 1))
                            case measure => omega
                            case rel => exact ⟨i5 + 1, _, by omega, Nat.le_refl _, by go_num, rfl, HV2, HX9⟩
                    · rw [decide_eq_false hc]
                      have HA' : Hid (bv = false ↔ ((lenF n3 n4 n5 n6 n7 ∧ ∀ x ∈ L, labF x) ∧ ∀ x ∈ D, docF x) ∧ ∀ x ∈ K, stkF x) := lp_end HV.out (by rw [← HN5.out]; exact hc)
                      clear HV hc hii5 hgi5
                      have HV := HA'
                      clear HA'
                      have HA : Hid (bv = false ↔ _) := HV.out
                      clear HV
                      clear a0 a1 a2 a3 a4 a5 a6 a7
                      go_wp2_with fail
                      go_loopg [3, 10] n6 (fun g b_ i_ wr => ∃ (i6 : Nat) (bv : Bool), i6 ≤ n6 ∧ n6 - i6 ≤ g ∧ i_ = .int .i64 (i6 : Nat) ∧ b_ = .bool bv ∧ Hid (bv = false ↔ (((lenF n3 n4 n5 n6 n7 ∧ ∀ x ∈ L, labF x) ∧ ∀ x ∈ D, docF x) ∧ ∀ x ∈ K, stkF x) ∧ ∀ x ∈ E.take i6, seaF x) ∧ Hid (Below W0.heap.size W0 wr))
                      case atStart => exact ⟨0, _, by omega, by omega, rfl, rfl, lp_start HA.out, HX⟩
                      case round =>
                        clear HX HA
                        obtain ⟨i6, bv, hii6, hgi6, rfl, rfl, HV, HX⟩ := hrel
                        obtain ⟨a0, a1, a2, a3, a4, a5, a6, a7⟩ := eight_cells ((HX.out.block R (by have := HL.out; omega)).trans HP.out)
                        go_upto_region 24 with fail
                        go_cut [179] from 171 to 199 (fun v wx => v = .bool (decide (i6 < n6 ∧ bv = false)) ∧ wr = wx)
                        case first =>
                          by_cases hin : i6 < n6
                          · have iw : ((i6 : Nat) : Int) < (n6 : Int) := by omega
                            have d1 : decide (((i6 : Nat) : Int) < (n6 : Int)) = true := decide_eq_true iw
                            cases bv with
                            | true =>
                              go_wp2_with fail
                              go_meet
                              exact ⟨by simp, rfl⟩
                            | false =>
                              go_wp2_with fail
                              go_meet
                              exact ⟨by simp [hin], rfl⟩
                          · have iw : ¬ ((i6 : Nat) : Int) < (n6 : Int) := by omega
                            have d1 : decide (((i6 : Nat) : Int) < (n6 : Int)) = false := decide_eq_false iw
                            go_wp2_with fail
                            go_meet
                            exact ⟨by simp [hin], rfl⟩
                        case rest =>
                          obtain ⟨rfl, rfl⟩ := hcut
                          by_cases hc : i6 < n6 ∧ bv = false
                          · rw [decide_eq_true hc]
                            obtain ⟨hin, hbv⟩ := hc
                            have HV1 := Lib.hid (HV.out.1 hbv)
                            clear HV
                            have HV := HV1
                            clear HV1
                            subst hbv
                            have n0i6 : (0 : Int) ≤ ((i6 : Nat) : Int) := by omega
                            have iwi6 : ((i6 : Nat) : Int) < (n6 : Int) := by omega
                            have hixi6 : i6 < E.length := by rw [← HN6.out]; exact hin
                            obtain ⟨b1, f1, s1, rfl, hlt1, _, hR1, hc1⟩ := (HD6.out wr HX.out).get hixi6
                            obtain ⟨x, hx⟩ : ∃ z, z = E[i6] := ⟨_, rfl⟩
                            rw [← hx] at hR1
                            have HXI : Hid (E[i6] = x) := hx.symm
                            have hmem : x ∈ E := hx ▸ List.getElem_mem hixi6
                            obtain rfl := seaM_cells hR1
                            obtain ⟨na, hna⟩ : ∃ q, q = x.1.length := ⟨_, rfl⟩
                            obtain ⟨tna, htna⟩ : ∃ q, q = mkB x.1 := ⟨_, rfl⟩
                            have zna : tna.size = na := by rw [htna, mkB_size, hna]
                            have bbna : na ≤ 9223372036854775807 := by rw [hna]; exact (HT.out.2.2 x hmem).1
                            rw [← htna] at hc1
                            obtain ⟨nb, hnb⟩ : ∃ q, q = x.2.2.2.2.length := ⟨_, rfl⟩
                            obtain ⟨tnb, htnb⟩ : ∃ q, q = mkB x.2.2.2.2 := ⟨_, rfl⟩
                            have znb : tnb.size = nb := by rw [htnb, mkB_size, hnb]
                            have bbnb : nb ≤ 9223372036854775807 := by rw [hnb]; exact (HT.out.2.2 x hmem).2
                            rw [← htnb] at hc1
                            have HNN := Lib.hid (And.intro hna hnb)
                            have m0 : wr.cell? ⟨b1, f1 + i6 * 5, none⟩ = some (.string tna) := hc1 0 _ rfl
                            have m4 : wr.cell? ⟨b1, f1 + i6 * 5 + 4, none⟩ = some (.string tnb) := hc1 4 _ rfl
                            clear hc1 hR1 hx hna hnb hlt1 htna htnb hmem
                            go_upto_region 26 with fail
                            have HV2 : Hid (decide (65535 < na ∨ 65535 < nb) = false ↔ (((lenF n3 n4 n5 n6 n7 ∧ ∀ x ∈ L, labF x) ∧ ∀ x ∈ D, docF x) ∧ ∀ x ∈ K, stkF x) ∧ ∀ x ∈ E.take (i6 + 1), seaF x) := lp_step hixi6 HV.out (by
                              rw [not_dec, HXI.out]
                              show _ ↔ seaF x
                              unfold seaF
                              rw [← HNN.out.1, ← HNN.out.2]
                              omega)
                            clear HV HXI HNN
                            by_cases k0 : 65535 < na
                            · have kw0 : (65535 : Int) < (na : Nat) := by omega
                              have kd0 : decide ((65535 : Int) < (na : Nat)) = true := decide_eq_true kw0
                              have HV4 : Hid (NotP _) := fun h => absurd (HV2.out.2 h) (by rw [decide_eq_true (show 65535 < na ∨ 65535 < nb from by omega)]; decide)
                              clear HV2
                              go_wp2_with fail
                              go_roundg (n6 - (i6 + 1))
                              case measure => omega
                              case rel => exact ⟨i6 + 1, _, by omega, Nat.le_refl _, by go_num, rfl, (iff_no HV4.out), HX⟩
                            · have kw0 : ¬ (65535 : Int) < (na : Nat) := by omega
                              have kd0 : decide ((65535 : Int) < (na : Nat)) = false := decide_eq_false kw0
                              by_cases k1 : 65535 < nb
                              · have kw1 : (65535 : Int) < (nb : Nat) := by omega
                                have kd1 : decide ((65535 : Int) < (nb : Nat)) = true := decide_eq_true kw1
                                have HV4 : Hid (NotP _) := fun h => absurd (HV2.out.2 h) (by rw [decide_eq_true (show 65535 < na ∨ 65535 < nb from by omega)]; decide)
                                clear HV2
                                go_wp2_with fail
                                go_roundg (n6 - (i6 + 1))
                                case measure => omega
                                case rel => exact ⟨i6 + 1, _, by omega, Nat.le_refl _, by go_num, rfl, (iff_no HV4.out), HX⟩
                              · have kw1 : ¬ (65535 : Int) < (nb : Nat) := by omega
                                have kd1 : decide ((65535 : Int) < (nb : Nat)) = false := decide_eq_false kw1
                                have HV4 := Lib.hid (HV2.out.1 (decide_eq_false (by omega)))
                                clear HV2
                                go_wp2_with fail
                                go_roundg (n6 - (i6 + 1))
                                case measure => omega
                                case rel => exact ⟨i6 + 1, _, by omega, Nat.le_refl _, by go_num, rfl, (iff_yes HV4.out), HX⟩
                          · rw [decide_eq_false hc]
                            have HA' : Hid (bv = false ↔ (((lenF n3 n4 n5 n6 n7 ∧ ∀ x ∈ L, labF x) ∧ ∀ x ∈ D, docF x) ∧ ∀ x ∈ K, stkF x) ∧ ∀ x ∈ E, seaF x) := lp_end HV.out (by rw [← HN6.out]; exact hc)
                            clear HV hc hii6 hgi6
                            have HV := HA'
                            clear HA'
                            have HA : Hid (bv = false ↔ _) := HV.out
                            clear HV
                            clear a0 a1 a2 a3 a4 a5 a6 a7
                            go_wp2_with fail
                            go_loopg [3, 11] n7 (fun g b_ i_ wr => ∃ (i7 : Nat) (bv : Bool), i7 ≤ n7 ∧ n7 - i7 ≤ g ∧ i_ = .int .i64 (i7 : Nat) ∧ b_ = .bool bv ∧ Hid (bv = false ↔ ((((lenF n3 n4 n5 n6 n7 ∧ ∀ x ∈ L, labF x) ∧ ∀ x ∈ D, docF x) ∧ ∀ x ∈ K, stkF x) ∧ ∀ x ∈ E, seaF x) ∧ ∀ x ∈ A.take i7, entF x) ∧ Hid (Below W0.heap.size W0 wr))
                            case atStart => exact ⟨0, _, by omega, by omega, rfl, rfl, lp_start HA.out, HX⟩
                            case round =>
                              clear HX HA
                              obtain ⟨i7, bv, hii7, hgi7, rfl, rfl, HV, HX⟩ := hrel
                              obtain ⟨a0, a1, a2, a3, a4, a5, a6, a7⟩ := eight_cells ((HX.out.block R (by have := HL.out; omega)).trans HP.out)
                              go_upto_region 28 with fail
                              go_cut [208] from 200 to 228 (fun v wx => v = .bool (decide (i7 < n7 ∧ bv = false)) ∧ wr = wx)
                              case first =>
                                by_cases hin : i7 < n7
                                · have iw : ((i7 : Nat) : Int) < (n7 : Int) := by omega
                                  have d1 : decide (((i7 : Nat) : Int) < (n7 : Int)) = true := decide_eq_true iw
                                  cases bv with
                                  | true =>
                                    go_wp2_with fail
                                    go_meet
                                    exact ⟨by simp, rfl⟩
                                  | false =>
                                    go_wp2_with fail
                                    go_meet
                                    exact ⟨by simp [hin], rfl⟩
                                · have iw : ¬ ((i7 : Nat) : Int) < (n7 : Int) := by omega
                                  have d1 : decide (((i7 : Nat) : Int) < (n7 : Int)) = false := decide_eq_false iw
                                  go_wp2_with fail
                                  go_meet
                                  exact ⟨by simp [hin], rfl⟩
                              case rest =>
                                obtain ⟨rfl, rfl⟩ := hcut
                                by_cases hc : i7 < n7 ∧ bv = false
                                · rw [decide_eq_true hc]
                                  obtain ⟨hin, hbv⟩ := hc
                                  have HV1 := Lib.hid (HV.out.1 hbv)
                                  clear HV
                                  have HV := HV1
                                  clear HV1
                                  subst hbv
                                  have n0i7 : (0 : Int) ≤ ((i7 : Nat) : Int) := by omega
                                  have iwi7 : ((i7 : Nat) : Int) < (n7 : Int) := by omega
                                  have hixi7 : i7 < A.length := by rw [← HN7.out]; exact hin
                                  obtain ⟨b1, f1, s1, rfl, hlt1, _, hR1, hc1⟩ := (HD7.out wr HX.out).get hixi7
                                  obtain ⟨x, hx⟩ : ∃ z, z = A[i7] := ⟨_, rfl⟩
                                  rw [← hx] at hR1
                                  have HXI : Hid (A[i7] = x) := hx.symm
                                  obtain ⟨r1, d1, r2, d2, rfl, _, _⟩ := entM_cells hR1
                                  obtain ⟨na, hna⟩ : ∃ q, q = x.2.2.2.1.length := ⟨_, rfl⟩
                                  obtain ⟨nb, hnb⟩ : ∃ q, q = x.2.2.2.2.length := ⟨_, rfl⟩
                                  rw [← hna, ← hnb] at hc1
                                  have HNN := Lib.hid (And.intro hna hnb)
                                  have m3 : wr.cell? ⟨b1, f1 + i7 * 5 + 3, none⟩ = some (.slice r1 na d1) := hc1 3 _ rfl
                                  have m4 : wr.cell? ⟨b1, f1 + i7 * 5 + 4, none⟩ = some (.slice r2 nb d2) := hc1 4 _ rfl
                                  clear hc1 hR1 hx hna hnb hlt1
                                  go_upto_region 30 with fail
                                  have HV2 : Hid (decide (65535 < na ∨ 65535 < nb) = false ↔ ((((lenF n3 n4 n5 n6 n7 ∧ ∀ x ∈ L, labF x) ∧ ∀ x ∈ D, docF x) ∧ ∀ x ∈ K, stkF x) ∧ ∀ x ∈ E, seaF x) ∧ ∀ x ∈ A.take (i7 + 1), entF x) := lp_step hixi7 HV.out (by
                                    rw [not_dec, HXI.out]
                                    show _ ↔ entF x
                                    unfold entF
                                    rw [← HNN.out.1, ← HNN.out.2]
                                    omega)
                                  clear HV HXI HNN
                                  by_cases k0 : 65535 < na
                                  · have kw0 : (65535 : Int) < (na : Nat) := by omega
                                    have kd0 : decide ((65535 : Int) < (na : Nat)) = true := decide_eq_true kw0
                                    have HV4 : Hid (NotP _) := fun h => absurd (HV2.out.2 h) (by rw [decide_eq_true (show 65535 < na ∨ 65535 < nb from by omega)]; decide)
                                    clear HV2
                                    go_wp2_with fail
                                    go_roundg (n7 - (i7 + 1))
                                    case measure => omega
                                    case rel => exact ⟨i7 + 1, _, by omega, Nat.le_refl _, by go_num, rfl, (iff_no HV4.out), HX⟩
                                  · have kw0 : ¬ (65535 : Int) < (na : Nat) := by omega
                                    have kd0 : decide ((65535 : Int) < (na : Nat)) = false := decide_eq_false kw0
                                    by_cases k1 : 65535 < nb
                                    · have kw1 : (65535 : Int) < (nb : Nat) := by omega
                                      have kd1 : decide ((65535 : Int) < (nb : Nat)) = true := decide_eq_true kw1
                                      have HV4 : Hid (NotP _) := fun h => absurd (HV2.out.2 h) (by rw [decide_eq_true (show 65535 < na ∨ 65535 < nb from by omega)]; decide)
                                      clear HV2
                                      go_wp2_with fail
                                      go_roundg (n7 - (i7 + 1))
                                      case measure => omega
                                      case rel => exact ⟨i7 + 1, _, by omega, Nat.le_refl _, by go_num, rfl, (iff_no HV4.out), HX⟩
                                    · have kw1 : ¬ (65535 : Int) < (nb : Nat) := by omega
                                      have kd1 : decide ((65535 : Int) < (nb : Nat)) = false := decide_eq_false kw1
                                      have HV4 := Lib.hid (HV2.out.1 (decide_eq_false (by omega)))
                                      clear HV2
                                      go_wp2_with fail
                                      go_roundg (n7 - (i7 + 1))
                                      case measure => omega
                                      case rel => exact ⟨i7 + 1, _, by omega, Nat.le_refl _, by go_num, rfl, (iff_yes HV4.out), HX⟩
                                · rw [decide_eq_false hc]
                                  have HA' : Hid (bv = false ↔ ((((lenF n3 n4 n5 n6 n7 ∧ ∀ x ∈ L, labF x) ∧ ∀ x ∈ D, docF x) ∧ ∀ x ∈ K, stkF x) ∧ ∀ x ∈ E, seaF x) ∧ ∀ x ∈ A, entF x) := lp_end HV.out (by rw [← HN7.out]; exact hc)
                                  clear HV hc hii7 hgi7
                                  have HV := HA'
                                  clear HA'
                                  have HE : Hid (Below w.heap.size w wr) := HB.out.trans (HX.out.mono HB.out.size)
                                  go_wp2_with fail
                                  go_ret
                                  exact ⟨bv, rfl, HG.out bv HV.out, HE.out⟩
end Go.Proofs.YtmdgjcikekojdaaGreatDoor.Sta
/- State: the plain text's Write of a state. -/
set_option linter.unusedVariables false
set_option linter.unusedSimpArgs false
set_option maxRecDepth 100000
namespace Go.Proofs.YtmdgjcikekojdaaGreatDoor.Sta
open Go.RowKit Go.Lib Go.Proofs.YtmdgjcikekojdaaGreatDoor.Bx Go.Proofs.YtmdgjcikekojdaaGreatDoor.Frm Go.Proofs.YtmdgjcikekojdaaGreatDoor.Wds

theorem labW_is (x : Lab) : labC.enc x = numL x.1 ++ (numL x.2.1 ++ ((listC numC).enc x.2.2.1 ++ ((listC numC).enc x.2.2.2))) := rfl
theorem seaW_is (x : Sea) : seaC.enc x = textL x.1 ++ (numL x.2.1 ++ (numL x.2.2.1 ++ (numL x.2.2.2.1 ++ (textL x.2.2.2.2)))) := rfl
theorem entW_is (x : Ent) : entC.enc x = numL x.1 ++ (numL x.2.1 ++ (numL x.2.2.1 ++ ((listC numC).enc x.2.2.2.1 ++ ((listC numC).enc x.2.2.2.2)))) := rfl
theorem thgW_is (x : Thg) : thgC.enc x = numL x.1 ++ (numL x.2.1 ++ (numL x.2.2.1 ++ (numL x.2.2.2.1 ++ (textL x.2.2.2.2)))) := rfl
theorem stkW_is (x : List Thg) : stkC.enc x = pairL x.length ++ x.flatMap thgC.enc := rfl
theorem staW_is (x0 x1 x2 : Int) (L : List Lab) (D : List Doc) (K : List (List Thg)) (E : List Sea) (A : List Ent) : staC.enc (x0, x1, x2, L, D, K, E, A) = (((((((((((numL x0 ++ numL x1) ++ numL x2) ++ pairL L.length) ++ L.flatMap labC.enc) ++ pairL D.length) ++ D.flatMap docC.enc) ++ pairL K.length) ++ K.flatMap stkC.enc) ++ pairL E.length) ++ E.flatMap seaC.enc) ++ pairL A.length) ++ A.flatMap entC.enc := by
  show numL x0 ++ (numL x1 ++ (numL x2 ++ ((pairL L.length ++ L.flatMap labC.enc) ++ ((pairL D.length ++ D.flatMap docC.enc) ++ ((pairL K.length ++ K.flatMap stkC.enc) ++ ((pairL E.length ++ E.flatMap seaC.enc) ++ (pairL A.length ++ A.flatMap entC.enc))))))) = _
  simp only [List.append_assoc]
theorem below_refl (w : World) : Below w.heap.size w w := Below.refl _ _
def BigT (S : Sta) : Prop := (∀ x ∈ S.2.2.2.2.1, ∀ y ∈ x.2, y.2.2.1.length ≤ 9223372036854775807) ∧ (∀ x ∈ S.2.2.2.2.2.1, ∀ y ∈ x, y.2.2.2.2.length ≤ 9223372036854775807) ∧ ∀ x ∈ S.2.2.2.2.2.2.1, x.1.length ≤ 9223372036854775807 ∧ x.2.2.2.2.length ≤ 9223372036854775807
theorem fit_big {S : Sta} (h : staF S) : BigT S := ⟨fun x hx y hy => Nat.le_trans ((h.1.1.1.2 x hx).2 y hy).1 (by decide), fun x hx y hy => Nat.le_trans ((h.1.1.2 x hx).2 y hy) (by decide), fun x hx => ⟨Nat.le_trans (h.1.2 x hx).1 (by decide), Nat.le_trans (h.1.2 x hx).2 (by decide)⟩⟩
set_option maxHeartbeats 16000000 in
theorem write14_no {P : Nat → Prop} {cs : List Value} (S : Sta) (w : World) (h : staM.R P w cs S) (ht : BigT S) (hf : ¬ staF S) : Calls Tryz.prog 8 #[.agg cs.toArray] w fun e w' => e = .returned (.tuple #[.string (mkB []), .bool false]) ∧ Below w.heap.size w w' := by
  have CL0 : ∀ w', Below w.heap.size w w' → Calls Tryz.prog 18 #[.agg cs.toArray] w' fun e w'' => e = .returned (.bool true) ∧ Below w'.heap.size w' w'' := fun w' b => (long14 S w' (staM_ok.keep h (Keep.below b)) ht).mono (by
    rintro e w'' ⟨b, rfl, h1, h2⟩
    cases b with
    | true => exact ⟨rfl, h2⟩
    | false => exact absurd (h1.1 rfl) hf)
  obtain ⟨u3, c3, u4, c4, u5, c5, u6, c6, u7, c7, rfl, p3, p4, p5, p6, p7⟩ := staM_cells h
  clear h
  obtain ⟨x0, x1, x2, L, D, K, E, A⟩ := S
  simp only at p3 p4 p5 p6 p7 CL0 ⊢
  obtain ⟨n3, hn3⟩ : ∃ n, n = L.length := ⟨_, rfl⟩
  have HN3 := Lib.hid hn3
  obtain ⟨n4, hn4⟩ : ∃ n, n = D.length := ⟨_, rfl⟩
  have HN4 := Lib.hid hn4
  obtain ⟨n5, hn5⟩ : ∃ n, n = K.length := ⟨_, rfl⟩
  have HN5 := Lib.hid hn5
  obtain ⟨n6, hn6⟩ : ∃ n, n = E.length := ⟨_, rfl⟩
  have HN6 := Lib.hid hn6
  obtain ⟨n7, hn7⟩ : ∃ n, n = A.length := ⟨_, rfl⟩
  have HN7 := Lib.hid hn7
  rw [← hn3, ← hn4, ← hn5, ← hn6, ← hn7] at CL0 ⊢
  rw [← hn3] at p3
  rw [← hn4] at p4
  rw [← hn5] at p5
  rw [← hn6] at p6
  rw [← hn7] at p7
  have HCL := Lib.hid CL0
  clear CL0 hf ht
  have hm3 : n3 ≤ 9223372036854775807 := by have q := p3.len; simp only [maxLen] at q; omega
  have hm4 : n4 ≤ 9223372036854775807 := by have q := p4.len; simp only [maxLen] at q; omega
  have hm5 : n5 ≤ 9223372036854775807 := by have q := p5.len; simp only [maxLen] at q; omega
  have hm6 : n6 ≤ 9223372036854775807 := by have q := p6.len; simp only [maxLen] at q; omega
  have hm7 : n7 ≤ 9223372036854775807 := by have q := p7.len; simp only [maxLen] at q; omega
  clear hn3 hn4 hn5 hn6 hn7
  show Calls _ _ #[.agg #[.int .i64 x0, .int .i64 x1, .int .i64 x2, .slice u3 n3 c3, .slice u4 n4 c4, .slice u5 n5 c5, .slice u6 n6 c6, .slice u7 n7 c7]] _ _
  obtain ⟨B0, P0, L0⟩ := box1 w #[.int .i64 x0, .int .i64 x1, .int .i64 x2, .slice u3 n3 c3, .slice u4 n4 c4, .slice u5 n5 c5, .slice u6 n6 c6, .slice u7 n7 c7] 28
  obtain ⟨W0, hW0⟩ : ∃ W0, W0 = w.alloc (.cells #[.int .i64 x0, .int .i64 x1, .int .i64 x2, .slice u3 n3 c3, .slice u4 n4 c4, .slice u5 n5 c5, .slice u6 n6 c6, .slice u7 n7 c7] 28) := ⟨_, rfl⟩
  rw [← hW0] at B0 P0 L0
  obtain ⟨R, hR⟩ : ∃ R, R = w.heap.size := ⟨_, rfl⟩
  rw [← hR] at P0 L0
  have HB : Hid (Below w.heap.size w W0) := B0
  have HP := Lib.hid P0
  have HL : Hid (W0.heap.size = R + 1) := L0
  have HW := Lib.hid hW0
  have HR : Hid (w.heap.size = R) := hR.symm
  have HX : Hid (Below W0.heap.size W0 W0) := Below.refl _ _
  have HD3 : Hid (∀ w', Below W0.heap.size W0 w' → RowP labM P w' (.slice u3 n3 c3) L) := fun w' b => p3.keep labM_ok (Keep.below (HB.out.trans (b.mono HB.out.size)))
  have HD4 : Hid (∀ w', Below W0.heap.size W0 w' → RowP docM P w' (.slice u4 n4 c4) D) := fun w' b => p4.keep docM_ok (Keep.below (HB.out.trans (b.mono HB.out.size)))
  have HD5 : Hid (∀ w', Below W0.heap.size W0 w' → RowP stkM P w' (.slice u5 n5 c5) K) := fun w' b => p5.keep stkM_ok (Keep.below (HB.out.trans (b.mono HB.out.size)))
  have HD6 : Hid (∀ w', Below W0.heap.size W0 w' → RowP seaM P w' (.slice u6 n6 c6) E) := fun w' b => p6.keep seaM_ok (Keep.below (HB.out.trans (b.mono HB.out.size)))
  have HD7 : Hid (∀ w', Below W0.heap.size W0 w' → RowP entM P w' (.slice u7 n7 c7) A) := fun w' b => p7.keep entM_ok (Keep.below (HB.out.trans (b.mono HB.out.size)))
  clear hR B0 P0 L0 hW0 p3 p4 p5 p6 p7
  go_enter Tryz.func8, Tryz.ntmps8
  go_upto_region 1 with fail
  rw [← HW.out, HR.out]
  obtain ⟨a0, a1, a2, a3, a4, a5, a6, a7⟩ := eight_cells ((HX.out.block R (by have := HL.out; omega)).trans HP.out)
  have CL : Hid (Calls Tryz.prog 18 #[.agg #[.int .i64 x0, .int .i64 x1, .int .i64 x2, .slice u3 n3 c3, .slice u4 n4 c4, .slice u5 n5 c5, .slice u6 n6 c6, .slice u7 n7 c7]] W0 fun e w'' => e = .returned (.bool true) ∧ Below W0.heap.size W0 w'') := HCL.out W0 HB.out
  clear HCL
  go_wp2_with fail
  refine CL.out.mono ?_
  rintro e w1 ⟨rfl, b1⟩
  have HX1 : Hid (Below W0.heap.size W0 w1) := b1
  clear b1 CL HX a0 a1 a2 a3 a4 a5 a6 a7
  have HX := HX1
  clear HX1
  have HE : Hid (Below w.heap.size w w1) := HB.out.trans (HX.out.mono HB.out.size)
  go_wp2_with fail
  exact bodyPost_ret (v := .tuple #[.string (ByteArray.mk #[]), .bool false]) (by simp [results, Tryz.results8, go_sem]) rfl ⟨rfl, HE.out⟩
end Go.Proofs.YtmdgjcikekojdaaGreatDoor.Sta
/- State: the plain text's Write of a state that has bytes. -/
set_option linter.unusedVariables false
set_option linter.unusedSimpArgs false
set_option maxRecDepth 100000
namespace Go.Proofs.YtmdgjcikekojdaaGreatDoor.Sta
open Go.RowKit Go.Lib Go.Proofs.YtmdgjcikekojdaaGreatDoor.Bx Go.Proofs.YtmdgjcikekojdaaGreatDoor.Frm Go.Proofs.YtmdgjcikekojdaaGreatDoor.Wds

set_option maxHeartbeats 16000000 in
theorem write14_yes {cs : List Value} (S : Sta) (w : World) (h : staM.R (fun _ => True) w cs S) (hf : staF S) (hl : (staC.enc S).length ≤ 290000000) : Calls Tryz.prog 8 #[.agg cs.toArray] w fun e w' => e = .returned (.tuple #[.string (mkB (staC.enc S)), .bool true]) ∧ Below w.heap.size w w' := by
  have CL0 : ∀ w', Below w.heap.size w w' → Calls Tryz.prog 18 #[.agg cs.toArray] w' fun e w'' => e = .returned (.bool false) ∧ Below w'.heap.size w' w'' := fun w' b => (long14 S w' (staM_ok.keep h (Keep.below b)) (fit_big hf)).mono (by
    rintro e w'' ⟨b, rfl, h1, h2⟩
    cases b with
    | false => exact ⟨rfl, h2⟩
    | true => exact absurd (h1.2 hf) (by decide))
  obtain ⟨u3, c3, u4, c4, u5, c5, u6, c6, u7, c7, rfl, p3, p4, p5, p6, p7⟩ := staM_cells h
  clear h
  obtain ⟨x0, x1, x2, L, D, K, E, A⟩ := S
  simp only at p3 p4 p5 p6 p7 CL0 ⊢
  obtain ⟨n3, hn3⟩ : ∃ n, n = L.length := ⟨_, rfl⟩
  have HN3 := Lib.hid hn3
  obtain ⟨n4, hn4⟩ : ∃ n, n = D.length := ⟨_, rfl⟩
  have HN4 := Lib.hid hn4
  obtain ⟨n5, hn5⟩ : ∃ n, n = K.length := ⟨_, rfl⟩
  have HN5 := Lib.hid hn5
  obtain ⟨n6, hn6⟩ : ∃ n, n = E.length := ⟨_, rfl⟩
  have HN6 := Lib.hid hn6
  obtain ⟨n7, hn7⟩ : ∃ n, n = A.length := ⟨_, rfl⟩
  have HN7 := Lib.hid hn7
  rw [← hn3, ← hn4, ← hn5, ← hn6, ← hn7] at CL0 ⊢
  rw [← hn3] at p3
  rw [← hn4] at p4
  rw [← hn5] at p5
  rw [← hn6] at p6
  rw [← hn7] at p7
  have HCL := Lib.hid CL0
  obtain ⟨⟨⟨⟨⟨⟨f3, f4, f5, f6, f7⟩, hf3⟩, hf4⟩, hf5⟩, hf6⟩, hf7⟩ := hf
  simp only at f3 f4 f5 f6 f7 hf3 hf4 hf5 hf6 hf7
  rw [← hn3] at f3
  rw [← hn4] at f4
  rw [← hn5] at f5
  rw [← hn6] at f6
  rw [← hn7] at f7
  have HFl3 := Lib.hid f3
  have HF3 := Lib.hid hf3
  have HFl4 := Lib.hid f4
  have HF4 := Lib.hid hf4
  have HFl5 := Lib.hid f5
  have HF5 := Lib.hid hf5
  have HFl6 := Lib.hid f6
  have HF6 := Lib.hid hf6
  have HFl7 := Lib.hid f7
  have HF7 := Lib.hid hf7
  have hG := staW_is x0 x1 x2 L D K E A
  rw [← hn3, ← hn4, ← hn5, ← hn6, ← hn7] at hG
  obtain ⟨b3, hb3⟩ : ∃ q, q = (((numL x0 ++ numL x1) ++ numL x2) ++ pairL n3) := ⟨_, rfl⟩
  obtain ⟨b4, hb4⟩ : ∃ q, q = (b3 ++ L.flatMap labC.enc) ++ pairL n4 := ⟨_, rfl⟩
  obtain ⟨b5, hb5⟩ : ∃ q, q = (b4 ++ D.flatMap docC.enc) ++ pairL n5 := ⟨_, rfl⟩
  obtain ⟨b6, hb6⟩ : ∃ q, q = (b5 ++ K.flatMap stkC.enc) ++ pairL n6 := ⟨_, rfl⟩
  obtain ⟨b7, hb7⟩ : ∃ q, q = (b6 ++ E.flatMap seaC.enc) ++ pairL n7 := ⟨_, rfl⟩
  rw [← hb3, ← hb4, ← hb5, ← hb6, ← hb7] at hG
  rw [hG] at hl
  have hq4 := congrArg List.length hb4
  rw [List.length_append, List.length_append, pair_len] at hq4
  have hq5 := congrArg List.length hb5
  rw [List.length_append, List.length_append, pair_len] at hq5
  have hq6 := congrArg List.length hb6
  rw [List.length_append, List.length_append, pair_len] at hq6
  have hq7 := congrArg List.length hb7
  rw [List.length_append, List.length_append, pair_len] at hq7
  rw [List.length_append] at hl
  have HB3 : Hid (b3.length + (L.flatMap labC.enc).length + 2 ≤ 290000000) := by show _ ≤ _; omega
  have HB4 : Hid (b4.length + (D.flatMap docC.enc).length + 2 ≤ 290000000) := by show _ ≤ _; omega
  have HB5 : Hid (b5.length + (K.flatMap stkC.enc).length + 2 ≤ 290000000) := by show _ ≤ _; omega
  have HB6 : Hid (b6.length + (E.flatMap seaC.enc).length + 2 ≤ 290000000) := by show _ ≤ _; omega
  have HB7 : Hid (b7.length + (A.flatMap entC.enc).length ≤ 290000000) := by show _ ≤ _; omega
  have HE3 := Lib.hid hb3
  have HE4 := Lib.hid hb4
  have HE5 := Lib.hid hb5
  have HE6 := Lib.hid hb6
  have HE7 := Lib.hid hb7
  have HG := Lib.hid hG
  have hq3 := congrArg List.length hb3
  simp only [List.length_append, num_len, pair_len] at hq3
  have HQ3 := Lib.hid hq3
  clear CL0 hG hl hb3 hq3 f3 hf3 hb4 hq4 f4 hf4 hb5 hq5 f5 hf5 hb6 hq6 f6 hf6 hb7 hq7 f7 hf7
  have hm3 : n3 ≤ 9223372036854775807 := by have q := p3.len; simp only [maxLen] at q; omega
  have hm4 : n4 ≤ 9223372036854775807 := by have q := p4.len; simp only [maxLen] at q; omega
  have hm5 : n5 ≤ 9223372036854775807 := by have q := p5.len; simp only [maxLen] at q; omega
  have hm6 : n6 ≤ 9223372036854775807 := by have q := p6.len; simp only [maxLen] at q; omega
  have hm7 : n7 ≤ 9223372036854775807 := by have q := p7.len; simp only [maxLen] at q; omega
  clear hn3 hn4 hn5 hn6 hn7
  show Calls _ _ #[.agg #[.int .i64 x0, .int .i64 x1, .int .i64 x2, .slice u3 n3 c3, .slice u4 n4 c4, .slice u5 n5 c5, .slice u6 n6 c6, .slice u7 n7 c7]] _ _
  obtain ⟨B0, P0, L0⟩ := box1 w #[.int .i64 x0, .int .i64 x1, .int .i64 x2, .slice u3 n3 c3, .slice u4 n4 c4, .slice u5 n5 c5, .slice u6 n6 c6, .slice u7 n7 c7] 28
  obtain ⟨W0, hW0⟩ : ∃ W0, W0 = w.alloc (.cells #[.int .i64 x0, .int .i64 x1, .int .i64 x2, .slice u3 n3 c3, .slice u4 n4 c4, .slice u5 n5 c5, .slice u6 n6 c6, .slice u7 n7 c7] 28) := ⟨_, rfl⟩
  rw [← hW0] at B0 P0 L0
  obtain ⟨R, hR⟩ : ∃ R, R = w.heap.size := ⟨_, rfl⟩
  rw [← hR] at P0 L0
  have HB : Hid (Below w.heap.size w W0) := B0
  have HP := Lib.hid P0
  have HL : Hid (W0.heap.size = R + 1) := L0
  have HW := Lib.hid hW0
  have HR : Hid (w.heap.size = R) := hR.symm
  have HX : Hid (Below W0.heap.size W0 W0) := Below.refl _ _
  have HD3 : Hid (∀ w', Below W0.heap.size W0 w' → RowP labM (fun _ => True) w' (.slice u3 n3 c3) L) := fun w' b => p3.keep labM_ok (Keep.below (HB.out.trans (b.mono HB.out.size)))
  have HD4 : Hid (∀ w', Below W0.heap.size W0 w' → RowP docM (fun _ => True) w' (.slice u4 n4 c4) D) := fun w' b => p4.keep docM_ok (Keep.below (HB.out.trans (b.mono HB.out.size)))
  have HD5 : Hid (∀ w', Below W0.heap.size W0 w' → RowP stkM (fun _ => True) w' (.slice u5 n5 c5) K) := fun w' b => p5.keep stkM_ok (Keep.below (HB.out.trans (b.mono HB.out.size)))
  have HD6 : Hid (∀ w', Below W0.heap.size W0 w' → RowP seaM (fun _ => True) w' (.slice u6 n6 c6) E) := fun w' b => p6.keep seaM_ok (Keep.below (HB.out.trans (b.mono HB.out.size)))
  have HD7 : Hid (∀ w', Below W0.heap.size W0 w' → RowP entM (fun _ => True) w' (.slice u7 n7 c7) A) := fun w' b => p7.keep entM_ok (Keep.below (HB.out.trans (b.mono HB.out.size)))
  clear hR B0 P0 L0 hW0 p3 p4 p5 p6 p7
  go_enter Tryz.func8, Tryz.ntmps8
  go_upto_region 1 with fail
  rw [← HW.out, HR.out]
  obtain ⟨a0, a1, a2, a3, a4, a5, a6, a7⟩ := eight_cells ((HX.out.block R (by have := HL.out; omega)).trans HP.out)
  have CL : Hid (Calls Tryz.prog 18 #[.agg #[.int .i64 x0, .int .i64 x1, .int .i64 x2, .slice u3 n3 c3, .slice u4 n4 c4, .slice u5 n5 c5, .slice u6 n6 c6, .slice u7 n7 c7]] W0 fun e w'' => e = .returned (.bool false) ∧ Below W0.heap.size W0 w'') := HCL.out W0 HB.out
  clear HCL
  go_wp2_with fail
  refine CL.out.mono ?_
  rintro e w1 ⟨rfl, b1⟩
  have HX1 : Hid (Below W0.heap.size W0 w1) := b1
  clear b1 CL HX a0 a1 a2 a3 a4 a5 a6 a7
  have HX := HX1
  clear HX1
  obtain ⟨g0, hg0⟩ : ∃ q, q = mkB (numL x0) := ⟨_, rfl⟩
  obtain ⟨g1, hg1⟩ : ∃ q, q = mkB (numL x1) := ⟨_, rfl⟩
  obtain ⟨g2, hg2⟩ : ∃ q, q = mkB (numL x2) := ⟨_, rfl⟩
  obtain ⟨g3, hg3⟩ : ∃ q, q = mkB (pairL n3) := ⟨_, rfl⟩
  have N0 : Hid (∀ w', Calls Tryz.prog 19 #[.int .i64 x0] w' fun e w'' => e = .returned (.string g0) ∧ Below w'.heap.size w' w'') := by rw [hg0]; exact fun w' => num14 x0 w'
  have N1 : Hid (∀ w', Calls Tryz.prog 19 #[.int .i64 x1] w' fun e w'' => e = .returned (.string g1) ∧ Below w'.heap.size w' w'') := by rw [hg1]; exact fun w' => num14 x1 w'
  have N2 : Hid (∀ w', Calls Tryz.prog 19 #[.int .i64 x2] w' fun e w'' => e = .returned (.string g2) ∧ Below w'.heap.size w' w'') := by rw [hg2]; exact fun w' => num14 x2 w'
  have N3 : Hid (∀ w', Calls Tryz.prog 20 #[.int .i64 (n3 : Nat)] w' fun e w'' => e = .returned (.string g3) ∧ Below w'.heap.size w' w'') := by rw [hg3]; exact fun w' => length14 n3 HFl3.out w'
  obtain ⟨v1, hv1⟩ : ∃ u, u = mkB (numL x0 ++ numL x1) := ⟨_, rfl⟩
  have Av1 : ∀ w, (Op.stringOp .add g0 g1).run Tryz.prog w = .ok (.string v1) w := fun w => by rw [hv1, hg0, hg1]; exact add_fact _ _ w (by simp only [num_len]; omega)
  obtain ⟨v2, hv2⟩ : ∃ u, u = mkB ((numL x0 ++ numL x1) ++ numL x2) := ⟨_, rfl⟩
  have Av2 : ∀ w, (Op.stringOp .add v1 g2).run Tryz.prog w = .ok (.string v2) w := fun w => by rw [hv2, hv1, hg2]; exact add_fact _ _ w (by simp only [List.length_append, num_len]; omega)
  obtain ⟨v3, hv3⟩ : ∃ u, u = mkB b3 := ⟨_, rfl⟩
  have Av3 : ∀ w, (Op.stringOp .add v2 g3).run Tryz.prog w = .ok (.string v3) w := fun w => by rw [hv3, HE3.out, hv2, hg3]; exact add_fact _ _ w (by simp only [List.length_append, num_len, pair_len]; omega)
  have HT3 : Hid (v3 = mkB b3) := hv3
  have K1 : Hid (Below w1.heap.size w1 w1) := Below.refl _ _
  have HC1 : Hid (∀ w', Below w1.heap.size w1 w' → Below w1.heap.size w1 w' ∧ w'.cell? ⟨R, 0, none⟩ = some (.int .i64 x0) ∧ w'.cell? ⟨R, 1, none⟩ = some (.int .i64 x1) ∧ w'.cell? ⟨R, 2, none⟩ = some (.int .i64 x2) ∧ w'.cell? ⟨R, 3, none⟩ = some (.slice u3 n3 c3)) := fun w' hb => ⟨hb, by
    obtain ⟨a0, a1, a2, a3, _⟩ := eight_cells (((below_on HX.out hb).block R (by have := HL.out; omega)).trans HP.out)
    exact ⟨a0, a1, a2, a3⟩⟩
  clear hg0 hg1 hg2 hg3 hv1 hv2 hv3
  go_upto_region 3 with fail
  go_region_held3 (fun w' => Below w1.heap.size w1 w' ∧ w'.cell? ⟨R, 0, none⟩ = some (.int .i64 x0) ∧ w'.cell? ⟨R, 1, none⟩ = some (.int .i64 x1) ∧ w'.cell? ⟨R, 2, none⟩ = some (.int .i64 x2) ∧ w'.cell? ⟨R, 3, none⟩ = some (.slice u3 n3 c3))
    ((refine HC1.out _ ?_; focus ((repeat first | with_reducible assumption | with_reducible exact K1.out | with_reducible apply Below.drew | with_reducible apply below_drews); done)))
    (first
      | (go_at_call 19; (with_reducible refine (N0.out _).mono ?_); rintro e wt ⟨rfl, bt⟩; have hkt := below_on (B := w1.heap.size) (w := w1) (by (repeat first | with_reducible assumption | with_reducible exact K1.out | with_reducible apply Below.drew | with_reducible apply below_drews)) bt (Nat.le_refl _); clear bt)
      | (go_at_call 19; (with_reducible refine (N1.out _).mono ?_); rintro e wt ⟨rfl, bt⟩; have hkt := below_on (B := w1.heap.size) (w := w1) (by (repeat first | with_reducible assumption | with_reducible exact K1.out | with_reducible apply Below.drew | with_reducible apply below_drews)) bt (Nat.le_refl _); clear bt)
      | (go_at_call 19; (with_reducible refine (N2.out _).mono ?_); rintro e wt ⟨rfl, bt⟩; have hkt := below_on (B := w1.heap.size) (w := w1) (by (repeat first | with_reducible assumption | with_reducible exact K1.out | with_reducible apply Below.drew | with_reducible apply below_drews)) bt (Nat.le_refl _); clear bt)
      | (go_at_call 20; (with_reducible refine (N3.out _).mono ?_); rintro e wt ⟨rfl, bt⟩; have hkt := below_on (B := w1.heap.size) (w := w1) (by (repeat first | with_reducible assumption | with_reducible exact K1.out | with_reducible apply Below.drew | with_reducible apply below_drews)) bt (Nat.le_refl _); clear bt))
  have HX2 : Hid (Below W0.heap.size W0 wt) := below_on HX.out hkt
  clear HX hkt HC1 K1 N0 N1 N2 N3 Av1 Av2 Av3
  have HX := HX2
  clear HX2
  go_wp2_with fail
  go_loopg [4, 5] n3 (fun g t_ i_ wr => ∃ (i3 : Nat) (lv : List UInt8) (v : ByteArray), i3 ≤ n3 ∧ n3 - i3 ≤ g ∧ i_ = .int .i64 (i3 : Nat) ∧ t_ = .string v ∧ Hid (v = mkB lv ∧ lv = b3 ++ (L.take i3).flatMap labC.enc) ∧ Hid (Below W0.heap.size W0 wr))
  case atStart => exact ⟨0, b3, _, by omega, by omega, rfl, rfl, ⟨HT3.out, by rw [List.take_zero]; exact (List.append_nil _).symm⟩, HX⟩
  case round =>
    clear HX HT3
    obtain ⟨i3, lv, v, hii3, hgi3, rfl, rfl, HV, HX⟩ := hrel
    obtain ⟨a0, a1, a2, a3, a4, a5, a6, a7⟩ := eight_cells ((HX.out.block R (by have := HL.out; omega)).trans HP.out)
    by_cases hin : i3 < n3
    · have iwi3 : ((i3 : Nat) : Int) < (n3 : Int) := by omega
      have n0i3 : (0 : Int) ≤ ((i3 : Nat) : Int) := by omega
      have hixi3 : i3 < L.length := by rw [← HN3.out]; exact hin
      obtain ⟨b1, f1, s1_, rfl, hlt1, _, hR1, hc1⟩ := (HD3.out wr HX.out).get hixi3
      have hbd := take_le_flat labC.enc L hixi3
      have hnx := take_flat labC.enc L hixi3
      have hfit := HF3.out _ (List.getElem_mem hixi3)
      obtain ⟨x, hx⟩ : ∃ z, z = L[i3] := ⟨_, rfl⟩
      rw [← hx] at hR1 hbd hnx hfit
      rw [labW_is] at hbd hnx
      obtain ⟨r2, d2, r3, d3, rfl, q2, q3⟩ := labM_cells hR1
      clear hx
      obtain ⟨z0, hz0⟩ : ∃ q, q = x.1 := ⟨_, rfl⟩
      obtain ⟨z1, hz1⟩ : ∃ q, q = x.2.1 := ⟨_, rfl⟩
      obtain ⟨z2, hz2⟩ : ∃ q, q = x.2.2.1 := ⟨_, rfl⟩
      obtain ⟨z3, hz3⟩ : ∃ q, q = x.2.2.2 := ⟨_, rfl⟩
      rw [← hz0, ← hz1, ← hz2, ← hz3] at hbd hnx hc1
      obtain ⟨l0, hl0⟩ : ∃ q, q = numL z0 := ⟨_, rfl⟩
      obtain ⟨g0, hg0⟩ : ∃ q, q = mkB l0 := ⟨_, rfl⟩
      obtain ⟨l1, hl1⟩ : ∃ q, q = numL z1 := ⟨_, rfl⟩
      obtain ⟨g1, hg1⟩ : ∃ q, q = mkB l1 := ⟨_, rfl⟩
      obtain ⟨l2, hl2⟩ : ∃ q, q = (listC numC).enc z2 := ⟨_, rfl⟩
      obtain ⟨g2, hg2⟩ : ∃ q, q = mkB l2 := ⟨_, rfl⟩
      obtain ⟨m2, hm2⟩ : ∃ q, q = z2.length := ⟨_, rfl⟩
      rw [← hz2] at q2
      rw [← hm2] at hc1 q2
      obtain ⟨l3, hl3⟩ : ∃ q, q = (listC numC).enc z3 := ⟨_, rfl⟩
      obtain ⟨g3, hg3⟩ : ∃ q, q = mkB l3 := ⟨_, rfl⟩
      obtain ⟨m3, hm3⟩ : ∃ q, q = z3.length := ⟨_, rfl⟩
      rw [← hz3] at q3
      rw [← hm3] at hc1 q3
      rw [← hl0, ← hl1, ← hl2, ← hl3] at hbd hnx
      simp only [List.length_append] at hbd
      have e0 : wr.cell? ⟨b1, f1 + i3 * 4, none⟩ = some (.int .i64 z0) := hc1 0 _ rfl
      have e1 : wr.cell? ⟨b1, f1 + i3 * 4 + 1, none⟩ = some (.int .i64 z1) := hc1 1 _ rfl
      have e2 : wr.cell? ⟨b1, f1 + i3 * 4 + 2, none⟩ = some (.slice r2 m2 d2) := hc1 2 _ rfl
      have e3 : wr.cell? ⟨b1, f1 + i3 * 4 + 3, none⟩ = some (.slice r3 m3 d3) := hc1 3 _ rfl
      have hv := HV.out.1
      have hlv : lv.length + (l0.length + l1.length + l2.length + l3.length) ≤ 290000000 := by
        have q := congrArg List.length HV.out.2
        rw [List.length_append] at q
        have := HB3.out
        omega
      obtain ⟨bX, pX, lX⟩ := box1 wr #[.int .i64 z0, .int .i64 z1, .slice r2 m2 d2, .slice r3 m3 d3] 51
      obtain ⟨W5, hW5⟩ : ∃ W5, W5 = wr.alloc (.cells #[.int .i64 z0, .int .i64 z1, .slice r2 m2 d2, .slice r3 m3 d3] 51) := ⟨_, rfl⟩
      rw [← hW5] at bX pX lX
      obtain ⟨X, hX⟩ : ∃ X, X = wr.heap.size := ⟨_, rfl⟩
      rw [← hX] at pX lX
      have HPX := Lib.hid pX
      have HXL : Hid (W5.heap.size = X + 1) := lX
      have HW5 := Lib.hid hW5
      have HXX : Hid (wr.heap.size = X) := hX.symm
      have HX5 : Hid (Below W0.heap.size W0 W5) := below_on HX.out bX
      have K5 : Hid (Below W5.heap.size W5 W5) := Below.refl _ _
      have HCX : Hid (∀ w', Below W5.heap.size W5 w' → Below W5.heap.size W5 w' ∧ w'.cell? ⟨X, 0, none⟩ = some (.int .i64 z0) ∧ w'.cell? ⟨X, 1, none⟩ = some (.int .i64 z1) ∧ w'.cell? ⟨X, 2, none⟩ = some (.slice r2 m2 d2) ∧ w'.cell? ⟨X, 3, none⟩ = some (.slice r3 m3 d3)) := fun w' hb => ⟨hb, four_cells ((hb.block X (by have := HXL.out; omega)).trans HPX.out)⟩
      have N0 : Hid (∀ w', Calls Tryz.prog 19 #[.int .i64 z0] w' fun e w'' => e = .returned (.string g0) ∧ Below w'.heap.size w' w'') := by rw [hg0, hl0]; exact fun w' => num14 z0 w'
      have N1 : Hid (∀ w', Calls Tryz.prog 19 #[.int .i64 z1] w' fun e w'' => e = .returned (.string g1) ∧ Below w'.heap.size w' w'') := by rw [hg1, hl1]; exact fun w' => num14 z1 w'
      have hft2 : z2.length ≤ 65535 := by rw [hz2]; exact hfit.1
      have N2 : Hid (∀ w', Below W5.heap.size W5 w' → Calls Tryz.prog 21 #[.slice r2 m2 d2] w' fun e w'' => e = .returned (.string g2) ∧ Below w'.heap.size w' w'') := by rw [hg2, hl2]; exact fun w' b => nums14 z2 (q2.keep numM_ok (Keep.below (bX.trans (b.mono bX.size)))) hft2 (fun _ => trivial)
      have hft3 : z3.length ≤ 65535 := by rw [hz3]; exact hfit.2
      have N3 : Hid (∀ w', Below W5.heap.size W5 w' → Calls Tryz.prog 21 #[.slice r3 m3 d3] w' fun e w'' => e = .returned (.string g3) ∧ Below w'.heap.size w' w'') := by rw [hg3, hl3]; exact fun w' b => nums14 z3 (q3.keep numM_ok (Keep.below (bX.trans (b.mono bX.size)))) hft3 (fun _ => trivial)
      obtain ⟨v1, hv1⟩ : ∃ u, u = mkB (lv ++ l0) := ⟨_, rfl⟩
      have Av1 : ∀ w, (Op.stringOp .add v g0).run Tryz.prog w = .ok (.string v1) w := fun w => by rw [hv1, hv, hg0]; exact add_fact _ _ w (by (try simp only [List.length_append, num_len, pair_len]); omega)
      obtain ⟨v2, hv2⟩ : ∃ u, u = mkB ((lv ++ l0) ++ l1) := ⟨_, rfl⟩
      have Av2 : ∀ w, (Op.stringOp .add v1 g1).run Tryz.prog w = .ok (.string v2) w := fun w => by rw [hv2, hv1, hg1]; exact add_fact _ _ w (by (try simp only [List.length_append, num_len, pair_len]); omega)
      obtain ⟨v3, hv3⟩ : ∃ u, u = mkB (((lv ++ l0) ++ l1) ++ l2) := ⟨_, rfl⟩
      have Av3 : ∀ w, (Op.stringOp .add v2 g2).run Tryz.prog w = .ok (.string v3) w := fun w => by rw [hv3, hv2, hg2]; exact add_fact _ _ w (by (try simp only [List.length_append, num_len, pair_len]); omega)
      obtain ⟨v4, hv4⟩ : ∃ u, u = mkB ((((lv ++ l0) ++ l1) ++ l2) ++ l3) := ⟨_, rfl⟩
      have Av4 : ∀ w, (Op.stringOp .add v3 g3).run Tryz.prog w = .ok (.string v4) w := fun w => by rw [hv4, hv3, hg3]; exact add_fact _ _ w (by (try simp only [List.length_append, num_len, pair_len]); omega)
      have HV2 : Hid (v4 = mkB ((((lv ++ l0) ++ l1) ++ l2) ++ l3) ∧ ((((lv ++ l0) ++ l1) ++ l2) ++ l3) = b3 ++ (L.take (i3 + 1)).flatMap labC.enc) := ⟨hv4, by rw [hnx, HV.out.2]; simp only [List.append_assoc]⟩
      clear hbd hnx hR1 hc1 hv hlv bX pX lX hW5 hX hfit hz0 hl0 hg0 hv1 hz1 hl1 hg1 hv2 hz2 hl2 hg2 hv3 hz3 hl3 hg3 hv4 hft2 hft3  hm2 q2 hm3 q3
      go_upto_region 8 with fail
      rw [← HW5.out, HXX.out]
      clear a0 a1 a2 a3 a4 a5 a6 a7 e0 e1 e2 e3
      go_region_held3 (fun w' => Below W5.heap.size W5 w' ∧ w'.cell? ⟨X, 0, none⟩ = some (.int .i64 z0) ∧ w'.cell? ⟨X, 1, none⟩ = some (.int .i64 z1) ∧ w'.cell? ⟨X, 2, none⟩ = some (.slice r2 m2 d2) ∧ w'.cell? ⟨X, 3, none⟩ = some (.slice r3 m3 d3))
        ((refine HCX.out _ ?_; focus ((repeat first | with_reducible assumption | with_reducible exact K5.out | with_reducible apply Below.drew | with_reducible apply below_drews); done)))
        (first
          | (go_at_call 19; (with_reducible refine (N0.out _).mono ?_); rintro e wt ⟨rfl, bt⟩; have hkt := below_on (B := W5.heap.size) (w := W5) (by (repeat first | with_reducible assumption | with_reducible exact K5.out | with_reducible apply Below.drew | with_reducible apply below_drews)) bt (Nat.le_refl _); clear bt)
          | (go_at_call 19; (with_reducible refine (N1.out _).mono ?_); rintro e wt ⟨rfl, bt⟩; have hkt := below_on (B := W5.heap.size) (w := W5) (by (repeat first | with_reducible assumption | with_reducible exact K5.out | with_reducible apply Below.drew | with_reducible apply below_drews)) bt (Nat.le_refl _); clear bt)
          | (go_at_call 21; (with_reducible refine (N2.out _ (by (repeat first | with_reducible assumption | with_reducible exact K5.out | with_reducible apply Below.drew | with_reducible apply below_drews))).mono ?_); rintro e wt ⟨rfl, bt⟩; have hkt := below_on (B := W5.heap.size) (w := W5) (by (repeat first | with_reducible assumption | with_reducible exact K5.out | with_reducible apply Below.drew | with_reducible apply below_drews)) bt (Nat.le_refl _); clear bt)
          | (go_at_call 21; (with_reducible refine (N3.out _ (by (repeat first | with_reducible assumption | with_reducible exact K5.out | with_reducible apply Below.drew | with_reducible apply below_drews))).mono ?_); rintro e wt ⟨rfl, bt⟩; have hkt := below_on (B := W5.heap.size) (w := W5) (by (repeat first | with_reducible assumption | with_reducible exact K5.out | with_reducible apply Below.drew | with_reducible apply below_drews)) bt (Nat.le_refl _); clear bt))
      have HX2 : Hid (Below W0.heap.size W0 wt) := below_on HX5.out hkt
      clear HX HX5 HCX K5 hkt HPX HXL N0 Av1 N1 Av2 N2 Av3 N3 Av4
      go_wp2_with fail
      go_roundg (n3 - (i3 + 1))
      case measure => omega
      case rel => exact ⟨i3 + 1, _, _, by omega, Nat.le_refl _, by go_num, rfl, HV2, HX2⟩
    · obtain rfl : n3 = i3 := by omega
      have iwi3 : ¬ ((n3 : Nat) : Int) < ((n3 : Nat) : Int) := by omega
      have hv : v = mkB (b3 ++ L.flatMap labC.enc) := by rw [HV.out.1, HV.out.2, List.take_of_length_le (by rw [← HN3.out]; exact Nat.le_refl _)]
      clear HV hii3 hgi3 hin
      obtain ⟨gl, hgl⟩ : ∃ q, q = mkB (pairL n4) := ⟨_, rfl⟩
      obtain ⟨tl, htl⟩ : ∃ q, q = mkB b4 := ⟨_, rfl⟩
      have Al : ∀ w, (Op.stringOp .add v gl).run Tryz.prog w = .ok (.string tl) w := fun w => by
        rw [htl, HE4.out, hv, hgl]
        exact add_fact _ _ w (by have h9 := HB3.out; simp only [List.length_append, pair_len]; omega)
      have HT4 : Hid (tl = mkB b4) := htl
      have Cl : Hid (Calls Tryz.prog 20 #[.int .i64 (n4 : Nat)] wr fun e w'' => e = .returned (.string gl) ∧ Below wr.heap.size wr w'') := by rw [hgl]; exact length14 n4 HFl4.out wr
      clear hv hgl htl
      go_wp2_with fail
      refine Cl.out.mono ?_
      rintro e w7 ⟨rfl, b7⟩
      have HX7 : Hid (Below W0.heap.size W0 w7) := below_on HX.out b7
      clear b7 Cl HX a0 a1 a2 a3 a4 a5 a6 a7
      have HX := HX7
      clear HX7
      go_wp2_with fail
      clear Al
      go_loopg [4, 7] n4 (fun g t_ i_ wr => ∃ (i4 : Nat) (lv : List UInt8) (v : ByteArray), i4 ≤ n4 ∧ n4 - i4 ≤ g ∧ i_ = .int .i64 (i4 : Nat) ∧ t_ = .string v ∧ Hid (v = mkB lv ∧ lv = b4 ++ (D.take i4).flatMap docC.enc) ∧ Hid (Below W0.heap.size W0 wr))
      case atStart => exact ⟨0, b4, _, by omega, by omega, rfl, rfl, ⟨HT4.out, by rw [List.take_zero]; exact (List.append_nil _).symm⟩, HX⟩
      case round =>
        clear HX HT4
        obtain ⟨i4, lv, v, hii4, hgi4, rfl, rfl, HV, HX⟩ := hrel
        obtain ⟨a0, a1, a2, a3, a4, a5, a6, a7⟩ := eight_cells ((HX.out.block R (by have := HL.out; omega)).trans HP.out)
        by_cases hin : i4 < n4
        · have iwi4 : ((i4 : Nat) : Int) < (n4 : Int) := by omega
          have n0i4 : (0 : Int) ≤ ((i4 : Nat) : Int) := by omega
          have hixi4 : i4 < D.length := by rw [← HN4.out]; exact hin
          obtain ⟨b1, f1, s1_, rfl, hlt1, _, hR1, hc1⟩ := (HD4.out wr HX.out).get hixi4
          have hbd := take_le_flat docC.enc D hixi4
          have hnx := take_flat docC.enc D hixi4
          have hfit := HF4.out _ (List.getElem_mem hixi4)
          obtain ⟨x, hx⟩ : ∃ z, z = D[i4] := ⟨_, rfl⟩
          rw [← hx] at hR1 hbd hnx hfit
          clear hx
          obtain ⟨r1, d1, hk, q1⟩ := docM_cells hR1
          obtain ⟨l0, hl0⟩ : ∃ q, q = docC.enc x := ⟨_, rfl⟩
          obtain ⟨g0, hg0⟩ : ∃ q, q = mkB l0 := ⟨_, rfl⟩
          have hv := HV.out.1
          rw [← hl0] at hbd hnx
          have hlv : lv.length + l0.length ≤ 290000000 := by
            have q := congrArg List.length HV.out.2
            rw [List.length_append] at q
            have := HB4.out
            omega
          have Cd := doc14 x wr hR1 ((fit_doc x).2 hfit) (by rw [← hl0]; omega)
          rw [hk, ← hl0, ← hg0] at Cd
          rw [hk] at hc1
          obtain ⟨z0, hz0⟩ : ∃ q, q = x.1 := ⟨_, rfl⟩
          obtain ⟨m1, hm1⟩ : ∃ q, q = x.2.length := ⟨_, rfl⟩
          rw [← hz0, ← hm1] at hc1 Cd
          have e0 : wr.cell? ⟨b1, f1 + i4 * 2, none⟩ = some (.bool z0) := hc1 0 _ rfl
          have e1 : wr.cell? ⟨b1, f1 + i4 * 2 + 1, none⟩ = some (.slice r1 m1 d1) := hc1 1 _ rfl
          have C : Hid (Calls Tryz.prog 22 #[.agg #[.bool z0, .slice r1 m1 d1]] wr fun e w'' => e = .returned (.string g0) ∧ Below wr.heap.size wr w'') := Cd
          obtain ⟨v1, hv1⟩ : ∃ u, u = mkB (lv ++ l0) := ⟨_, rfl⟩
          have Av1 : ∀ w, (Op.stringOp .add v g0).run Tryz.prog w = .ok (.string v1) w := fun w => by rw [hv1, hv, hg0]; exact add_fact _ _ w (by omega)
          have HV2 : Hid (v1 = mkB (lv ++ l0) ∧ (lv ++ l0) = b4 ++ (D.take (i4 + 1)).flatMap docC.enc) := ⟨hv1, by rw [hnx, HV.out.2]; simp only [List.append_assoc]⟩
          clear hbd hnx hR1 hc1 hv hlv hfit hl0 hg0 hv1 hz0 hm1 hk q1 Cd
          go_wp2_with fail
          refine C.out.mono ?_
          rintro e w7 ⟨rfl, b7⟩
          have HX2 : Hid (Below W0.heap.size W0 w7) := below_on HX.out b7
          clear b7 C HX a0 a1 a2 a3 a4 a5 a6 a7 e0 e1
          go_wp2_with fail
          go_roundg (n4 - (i4 + 1))
          case measure => omega
          case rel => exact ⟨i4 + 1, _, _, by omega, Nat.le_refl _, by go_num, rfl, HV2, HX2⟩
        · obtain rfl : n4 = i4 := by omega
          have iwi4 : ¬ ((n4 : Nat) : Int) < ((n4 : Nat) : Int) := by omega
          have hv : v = mkB (b4 ++ D.flatMap docC.enc) := by rw [HV.out.1, HV.out.2, List.take_of_length_le (by rw [← HN4.out]; exact Nat.le_refl _)]
          clear HV hii4 hgi4 hin
          obtain ⟨gl, hgl⟩ : ∃ q, q = mkB (pairL n5) := ⟨_, rfl⟩
          obtain ⟨tl, htl⟩ : ∃ q, q = mkB b5 := ⟨_, rfl⟩
          have Al : ∀ w, (Op.stringOp .add v gl).run Tryz.prog w = .ok (.string tl) w := fun w => by
            rw [htl, HE5.out, hv, hgl]
            exact add_fact _ _ w (by have h9 := HB4.out; simp only [List.length_append, pair_len]; omega)
          have HT5 : Hid (tl = mkB b5) := htl
          have Cl : Hid (Calls Tryz.prog 20 #[.int .i64 (n5 : Nat)] wr fun e w'' => e = .returned (.string gl) ∧ Below wr.heap.size wr w'') := by rw [hgl]; exact length14 n5 HFl5.out wr
          clear hv hgl htl
          go_wp2_with fail
          refine Cl.out.mono ?_
          rintro e w7 ⟨rfl, b7⟩
          have HX7 : Hid (Below W0.heap.size W0 w7) := below_on HX.out b7
          clear b7 Cl HX a0 a1 a2 a3 a4 a5 a6 a7
          have HX := HX7
          clear HX7
          go_wp2_with fail
          clear Al
          go_loopg [4, 8] n5 (fun g t_ i_ wr => ∃ (i5 : Nat) (lv : List UInt8) (v : ByteArray), i5 ≤ n5 ∧ n5 - i5 ≤ g ∧ i_ = .int .i64 (i5 : Nat) ∧ t_ = .string v ∧ Hid (v = mkB lv ∧ lv = b5 ++ (K.take i5).flatMap stkC.enc) ∧ Hid (Below W0.heap.size W0 wr))
          case atStart => exact ⟨0, b5, _, by omega, by omega, rfl, rfl, ⟨HT5.out, by rw [List.take_zero]; exact (List.append_nil _).symm⟩, HX⟩
          case round =>
            clear HX HT5
            obtain ⟨i5, lv, v, hii5, hgi5, rfl, rfl, HV, HX⟩ := hrel
            obtain ⟨a0, a1, a2, a3, a4, a5, a6, a7⟩ := eight_cells ((HX.out.block R (by have := HL.out; omega)).trans HP.out)
            by_cases hin : i5 < n5
            · have iwi5 : ((i5 : Nat) : Int) < (n5 : Int) := by omega
              have n0i5 : (0 : Int) ≤ ((i5 : Nat) : Int) := by omega
              have hixi5 : i5 < K.length := by rw [← HN5.out]; exact hin
              obtain ⟨b1, f1, s1_, rfl, hlt1, _, hR1, hc1⟩ := (HD5.out wr HX.out).get hixi5
              have hbd := take_le_flat stkC.enc K hixi5
              have hnx := take_flat stkC.enc K hixi5
              have hfit := HF5.out _ (List.getElem_mem hixi5)
              obtain ⟨xk, hx⟩ : ∃ z, z = K[i5] := ⟨_, rfl⟩
              rw [← hx] at hR1 hbd hnx hfit
              clear hx
              have HNX := Lib.hid hnx
              obtain ⟨r1, d1, rfl, q1⟩ := stkM_cells hR1
              obtain ⟨na, hna⟩ : ∃ q, q = xk.length := ⟨_, rfl⟩
              rw [← hna] at hc1 q1
              have HNA := Lib.hid hna
              have hna65 : na ≤ 65535 := by rw [hna]; exact hfit.1
              have HFI : Hid (∀ y ∈ xk, thgF y) := hfit.2
              have m1 : wr.cell? ⟨b1, f1 + i5, none⟩ = some (.slice r1 na d1) := by have q := hc1 0 _ rfl; rw [show f1 + i5 * stkM.k + 0 = f1 + i5 from by show f1 + i5 * 1 + 0 = _; omega] at q; exact q
              rw [stkW_is] at hbd
              simp only [List.length_append, pair_len] at hbd
              have hv := HV.out.1
              have HVO : Hid (lv = b5 ++ (K.take i5).flatMap stkC.enc) := HV.out.2
              obtain ⟨bi, hbi⟩ : ∃ q, q = lv ++ pairL na := ⟨_, rfl⟩
              have HBIE := Lib.hid hbi
              have HBI : Hid (bi.length + (xk.flatMap thgC.enc).length ≤ 290000000) := by
                have q := congrArg List.length HV.out.2
                rw [List.length_append] at q
                have := HB5.out
                show _ ≤ _
                rw [hbi, List.length_append, pair_len]
                omega
              obtain ⟨gl, hgl⟩ : ∃ q, q = mkB (pairL na) := ⟨_, rfl⟩
              obtain ⟨tl, htl⟩ : ∃ q, q = mkB bi := ⟨_, rfl⟩
              have Al : ∀ w, (Op.stringOp .add v gl).run Tryz.prog w = .ok (.string tl) w := fun w => by
                rw [htl, hbi, hv, hgl]
                exact add_fact _ _ w (by have h9 := HBI.out; rw [hbi, List.length_append] at h9; omega)
              have HTI : Hid (tl = mkB bi) := htl
              have Cl : Hid (Calls Tryz.prog 20 #[.int .i64 (na : Nat)] wr fun e w'' => e = .returned (.string gl) ∧ Below wr.heap.size wr w'') := by rw [hgl]; exact length14 na hna65 wr
              obtain ⟨WO, hWO⟩ : ∃ WO : World, WO = wr := ⟨_, rfl⟩
              subst hWO
              have HM0 : Hid (∀ w', Below WO.heap.size WO w' → w'.cell? ⟨b1, f1 + i5, none⟩ = some (.slice r1 na d1)) := fun w' b => vcell b hlt1 m1
              have HQ0 : Hid (∀ w', Below WO.heap.size WO w' → RowP thgM (fun _ => True) w' (.slice r1 na d1) xk) := fun w' b => q1.keep thgM_ok (Keep.below b)
              clear hR1 hc1 hna hbd hnx hfit hv hbi hgl htl HV q1 hlt1
              go_wp2_with fail
              refine Cl.out.mono ?_
              rintro e WI ⟨rfl, b7⟩
              have HXO : Hid (Below W0.heap.size W0 WI) := below_on HX.out b7
              have HM : Hid (∀ w', Below WI.heap.size WI w' → w'.cell? ⟨b1, f1 + i5, none⟩ = some (.slice r1 na d1)) := fun w' b => HM0.out w' (below_on b7 b)
              have HQ1 : Hid (∀ w', Below WI.heap.size WI w' → RowP thgM (fun _ => True) w' (.slice r1 na d1) xk) := fun w' b => HQ0.out w' (below_on b7 b)
              clear b7 Cl HX HM0 HQ0 m1 a0 a1 a2 a3 a4 a5 a6 a7
              have HX : Hid (Below WI.heap.size WI WI) := Below.refl _ _
              go_wp2_with fail
              clear Al
              go_loopg [4, 9] na (fun g t_ i_ wr => ∃ (j5 : Nat) (lv : List UInt8) (v : ByteArray), j5 ≤ na ∧ na - j5 ≤ g ∧ i_ = .int .i64 (j5 : Nat) ∧ t_ = .string v ∧ Hid (v = mkB lv ∧ lv = bi ++ (xk.take j5).flatMap thgC.enc) ∧ Hid (Below WI.heap.size WI wr))
              case atStart => exact ⟨0, bi, _, by omega, by omega, rfl, rfl, ⟨HTI.out, by rw [List.take_zero]; exact (List.append_nil _).symm⟩, HX⟩
              case round =>
                clear HX HTI
                obtain ⟨j5, lv, v, hij5, hgj5, rfl, rfl, HV, HX⟩ := hrel
                have HXW : Hid (Below W0.heap.size W0 wr) := below_on HXO.out HX.out
                obtain ⟨a0, a1, a2, a3, a4, a5, a6, a7⟩ := eight_cells ((HXW.out.block R (by have := HL.out; omega)).trans HP.out)
                have mo := HM.out wr HX.out
                clear HXW
                by_cases hin : j5 < na
                · have iwj5 : ((j5 : Nat) : Int) < (na : Int) := by omega
                  have n0j5 : (0 : Int) ≤ ((j5 : Nat) : Int) := by omega
                  have hixj5 : j5 < xk.length := by rw [← HNA.out]; exact hin
                  obtain ⟨b1, f1, s1_, rfl, hlt1, _, hR1, hc1⟩ := (HQ1.out wr HX.out).get hixj5
                  have hbd := take_le_flat thgC.enc xk hixj5
                  have hnx := take_flat thgC.enc xk hixj5
                  have hfit := HFI.out _ (List.getElem_mem hixj5)
                  obtain ⟨y, hy⟩ : ∃ z, z = xk[j5] := ⟨_, rfl⟩
                  rw [← hy] at hR1 hbd hnx hfit
                  rw [thgW_is] at hbd hnx
                  obtain rfl := thgM_cells hR1
                  clear hy
                  obtain ⟨z0, hz0⟩ : ∃ q, q = y.1 := ⟨_, rfl⟩
                  obtain ⟨z1, hz1⟩ : ∃ q, q = y.2.1 := ⟨_, rfl⟩
                  obtain ⟨z2, hz2⟩ : ∃ q, q = y.2.2.1 := ⟨_, rfl⟩
                  obtain ⟨z3, hz3⟩ : ∃ q, q = y.2.2.2.1 := ⟨_, rfl⟩
                  obtain ⟨z4, hz4⟩ : ∃ q, q = y.2.2.2.2 := ⟨_, rfl⟩
                  rw [← hz0, ← hz1, ← hz2, ← hz3, ← hz4] at hbd hnx hc1
                  obtain ⟨l0, hl0⟩ : ∃ q, q = numL z0 := ⟨_, rfl⟩
                  obtain ⟨g0, hg0⟩ : ∃ q, q = mkB l0 := ⟨_, rfl⟩
                  obtain ⟨l1, hl1⟩ : ∃ q, q = numL z1 := ⟨_, rfl⟩
                  obtain ⟨g1, hg1⟩ : ∃ q, q = mkB l1 := ⟨_, rfl⟩
                  obtain ⟨l2, hl2⟩ : ∃ q, q = numL z2 := ⟨_, rfl⟩
                  obtain ⟨g2, hg2⟩ : ∃ q, q = mkB l2 := ⟨_, rfl⟩
                  obtain ⟨l3, hl3⟩ : ∃ q, q = numL z3 := ⟨_, rfl⟩
                  obtain ⟨g3, hg3⟩ : ∃ q, q = mkB l3 := ⟨_, rfl⟩
                  obtain ⟨l4, hl4⟩ : ∃ q, q = textL z4 := ⟨_, rfl⟩
                  obtain ⟨g4, hg4⟩ : ∃ q, q = mkB l4 := ⟨_, rfl⟩
                  obtain ⟨s4, hs4⟩ : ∃ q, q = mkB z4 := ⟨_, rfl⟩
                  rw [← hl0, ← hl1, ← hl2, ← hl3, ← hl4] at hbd hnx
                  rw [← hs4] at hc1
                  simp only [List.length_append] at hbd
                  have e0 : wr.cell? ⟨b1, f1 + j5 * 5, none⟩ = some (.int .i64 z0) := hc1 0 _ rfl
                  have e1 : wr.cell? ⟨b1, f1 + j5 * 5 + 1, none⟩ = some (.int .i64 z1) := hc1 1 _ rfl
                  have e2 : wr.cell? ⟨b1, f1 + j5 * 5 + 2, none⟩ = some (.int .i64 z2) := hc1 2 _ rfl
                  have e3 : wr.cell? ⟨b1, f1 + j5 * 5 + 3, none⟩ = some (.int .i64 z3) := hc1 3 _ rfl
                  have e4 : wr.cell? ⟨b1, f1 + j5 * 5 + 4, none⟩ = some (.string s4) := hc1 4 _ rfl
                  have hv := HV.out.1
                  have hlv : lv.length + (l0.length + l1.length + l2.length + l3.length + l4.length) ≤ 290000000 := by
                    have q := congrArg List.length HV.out.2
                    rw [List.length_append] at q
                    have := HBI.out
                    omega
                  obtain ⟨bX, pX, lX⟩ := box1 wr #[.int .i64 z0, .int .i64 z1, .int .i64 z2, .int .i64 z3, .string s4] 63
                  obtain ⟨W5, hW5⟩ : ∃ W5, W5 = wr.alloc (.cells #[.int .i64 z0, .int .i64 z1, .int .i64 z2, .int .i64 z3, .string s4] 63) := ⟨_, rfl⟩
                  rw [← hW5] at bX pX lX
                  obtain ⟨X, hX⟩ : ∃ X, X = wr.heap.size := ⟨_, rfl⟩
                  rw [← hX] at pX lX
                  have HPX := Lib.hid pX
                  have HXL : Hid (W5.heap.size = X + 1) := lX
                  have HW5 := Lib.hid hW5
                  have HXX : Hid (wr.heap.size = X) := hX.symm
                  have HX5 : Hid (Below WI.heap.size WI W5) := below_on HX.out bX
                  have K5 : Hid (Below W5.heap.size W5 W5) := Below.refl _ _
                  have HCX : Hid (∀ w', Below W5.heap.size W5 w' → Below W5.heap.size W5 w' ∧ w'.cell? ⟨X, 0, none⟩ = some (.int .i64 z0) ∧ w'.cell? ⟨X, 1, none⟩ = some (.int .i64 z1) ∧ w'.cell? ⟨X, 2, none⟩ = some (.int .i64 z2) ∧ w'.cell? ⟨X, 3, none⟩ = some (.int .i64 z3) ∧ w'.cell? ⟨X, 4, none⟩ = some (.string s4)) := fun w' hb => ⟨hb, five_cells' ((hb.block X (by have := HXL.out; omega)).trans HPX.out)⟩
                  have N0 : Hid (∀ w', Calls Tryz.prog 19 #[.int .i64 z0] w' fun e w'' => e = .returned (.string g0) ∧ Below w'.heap.size w' w'') := by rw [hg0, hl0]; exact fun w' => num14 z0 w'
                  have N1 : Hid (∀ w', Calls Tryz.prog 19 #[.int .i64 z1] w' fun e w'' => e = .returned (.string g1) ∧ Below w'.heap.size w' w'') := by rw [hg1, hl1]; exact fun w' => num14 z1 w'
                  have N2 : Hid (∀ w', Calls Tryz.prog 19 #[.int .i64 z2] w' fun e w'' => e = .returned (.string g2) ∧ Below w'.heap.size w' w'') := by rw [hg2, hl2]; exact fun w' => num14 z2 w'
                  have N3 : Hid (∀ w', Calls Tryz.prog 19 #[.int .i64 z3] w' fun e w'' => e = .returned (.string g3) ∧ Below w'.heap.size w' w'') := by rw [hg3, hl3]; exact fun w' => num14 z3 w'
                  have hft4 : z4.length ≤ 65535 := by rw [hz4]; exact hfit
                  have N4 : Hid (∀ w', Calls Tryz.prog 23 #[.string s4] w' fun e w'' => e = .returned (.string g4) ∧ Below w'.heap.size w' w'') := by rw [hg4, hl4, hs4]; exact fun w' => text14 z4 hft4 w'
                  obtain ⟨v1, hv1⟩ : ∃ u, u = mkB (lv ++ l0) := ⟨_, rfl⟩
                  have Av1 : ∀ w, (Op.stringOp .add v g0).run Tryz.prog w = .ok (.string v1) w := fun w => by rw [hv1, hv, hg0]; exact add_fact _ _ w (by (try simp only [List.length_append, num_len, pair_len]); omega)
                  obtain ⟨v2, hv2⟩ : ∃ u, u = mkB ((lv ++ l0) ++ l1) := ⟨_, rfl⟩
                  have Av2 : ∀ w, (Op.stringOp .add v1 g1).run Tryz.prog w = .ok (.string v2) w := fun w => by rw [hv2, hv1, hg1]; exact add_fact _ _ w (by (try simp only [List.length_append, num_len, pair_len]); omega)
                  obtain ⟨v3, hv3⟩ : ∃ u, u = mkB (((lv ++ l0) ++ l1) ++ l2) := ⟨_, rfl⟩
                  have Av3 : ∀ w, (Op.stringOp .add v2 g2).run Tryz.prog w = .ok (.string v3) w := fun w => by rw [hv3, hv2, hg2]; exact add_fact _ _ w (by (try simp only [List.length_append, num_len, pair_len]); omega)
                  obtain ⟨v4, hv4⟩ : ∃ u, u = mkB ((((lv ++ l0) ++ l1) ++ l2) ++ l3) := ⟨_, rfl⟩
                  have Av4 : ∀ w, (Op.stringOp .add v3 g3).run Tryz.prog w = .ok (.string v4) w := fun w => by rw [hv4, hv3, hg3]; exact add_fact _ _ w (by (try simp only [List.length_append, num_len, pair_len]); omega)
                  obtain ⟨v5, hv5⟩ : ∃ u, u = mkB (((((lv ++ l0) ++ l1) ++ l2) ++ l3) ++ l4) := ⟨_, rfl⟩
                  have Av5 : ∀ w, (Op.stringOp .add v4 g4).run Tryz.prog w = .ok (.string v5) w := fun w => by rw [hv5, hv4, hg4]; exact add_fact _ _ w (by (try simp only [List.length_append, num_len, pair_len]); omega)
                  have HV2 : Hid (v5 = mkB (((((lv ++ l0) ++ l1) ++ l2) ++ l3) ++ l4) ∧ (((((lv ++ l0) ++ l1) ++ l2) ++ l3) ++ l4) = bi ++ (xk.take (j5 + 1)).flatMap thgC.enc) := ⟨hv5, by rw [hnx, HV.out.2]; simp only [List.append_assoc]⟩
                  clear hbd hnx hR1 hc1 hv hlv bX pX lX hW5 hX hfit hz0 hl0 hg0 hv1 hz1 hl1 hg1 hv2 hz2 hl2 hg2 hv3 hz3 hl3 hg3 hv4 hz4 hl4 hg4 hv5 hft4 hs4 
                  go_upto_region 23 with fail
                  rw [← HW5.out, HXX.out]
                  clear a0 a1 a2 a3 a4 a5 a6 a7 mo e0 e1 e2 e3 e4
                  go_region_held3 (fun w' => Below W5.heap.size W5 w' ∧ w'.cell? ⟨X, 0, none⟩ = some (.int .i64 z0) ∧ w'.cell? ⟨X, 1, none⟩ = some (.int .i64 z1) ∧ w'.cell? ⟨X, 2, none⟩ = some (.int .i64 z2) ∧ w'.cell? ⟨X, 3, none⟩ = some (.int .i64 z3) ∧ w'.cell? ⟨X, 4, none⟩ = some (.string s4))
                    ((refine HCX.out _ ?_; focus ((repeat first | with_reducible assumption | with_reducible exact K5.out | with_reducible apply Below.drew | with_reducible apply below_drews); done)))
                    (first
                      | (go_at_call 19; (with_reducible refine (N0.out _).mono ?_); rintro e wt ⟨rfl, bt⟩; have hkt := below_on (B := W5.heap.size) (w := W5) (by (repeat first | with_reducible assumption | with_reducible exact K5.out | with_reducible apply Below.drew | with_reducible apply below_drews)) bt (Nat.le_refl _); clear bt)
                      | (go_at_call 19; (with_reducible refine (N1.out _).mono ?_); rintro e wt ⟨rfl, bt⟩; have hkt := below_on (B := W5.heap.size) (w := W5) (by (repeat first | with_reducible assumption | with_reducible exact K5.out | with_reducible apply Below.drew | with_reducible apply below_drews)) bt (Nat.le_refl _); clear bt)
                      | (go_at_call 19; (with_reducible refine (N2.out _).mono ?_); rintro e wt ⟨rfl, bt⟩; have hkt := below_on (B := W5.heap.size) (w := W5) (by (repeat first | with_reducible assumption | with_reducible exact K5.out | with_reducible apply Below.drew | with_reducible apply below_drews)) bt (Nat.le_refl _); clear bt)
                      | (go_at_call 19; (with_reducible refine (N3.out _).mono ?_); rintro e wt ⟨rfl, bt⟩; have hkt := below_on (B := W5.heap.size) (w := W5) (by (repeat first | with_reducible assumption | with_reducible exact K5.out | with_reducible apply Below.drew | with_reducible apply below_drews)) bt (Nat.le_refl _); clear bt)
                      | (go_at_call 23; (with_reducible refine (N4.out _).mono ?_); rintro e wt ⟨rfl, bt⟩; have hkt := below_on (B := W5.heap.size) (w := W5) (by (repeat first | with_reducible assumption | with_reducible exact K5.out | with_reducible apply Below.drew | with_reducible apply below_drews)) bt (Nat.le_refl _); clear bt))
                  have HX2 : Hid (Below WI.heap.size WI wt) := below_on HX5.out hkt
                  clear HX HX5 HCX K5 hkt HPX HXL N0 Av1 N1 Av2 N2 Av3 N3 Av4 N4 Av5
                  go_wp2_with fail
                  go_roundg (na - (j5 + 1))
                  case measure => omega
                  case rel => exact ⟨j5 + 1, _, _, by omega, Nat.le_refl _, by go_num, rfl, HV2, HX2⟩
                · obtain rfl : na = j5 := by omega
                  have iwj5 : ¬ ((na : Nat) : Int) < ((na : Nat) : Int) := by omega
                  have hv : v = mkB (bi ++ xk.flatMap thgC.enc) := by rw [HV.out.1, HV.out.2, List.take_of_length_le (by rw [← HNA.out]; exact Nat.le_refl _)]
                  clear HV hij5 hgj5 hin
                  have HX9 : Hid (Below W0.heap.size W0 wr) := below_on HXO.out HX.out
                  have HV2 : Hid (v = mkB (bi ++ xk.flatMap thgC.enc) ∧ bi ++ xk.flatMap thgC.enc = b5 ++ (K.take (i5 + 1)).flatMap stkC.enc) := ⟨hv, by rw [HNX.out, stkW_is, HBIE.out, HVO.out, ← HNA.out]; simp only [List.append_assoc]⟩
                  clear hv HVO HX HBI HFI HQ1 HM
                  go_wp2_with fail
                  go_roundg (n5 - (i5 + 1))
                  case measure => omega
                  case rel => exact ⟨i5 + 1, _, _, by omega, Nat.le_refl _, by go_num, rfl, HV2, HX9⟩
            · obtain rfl : n5 = i5 := by omega
              have iwi5 : ¬ ((n5 : Nat) : Int) < ((n5 : Nat) : Int) := by omega
              have hv : v = mkB (b5 ++ K.flatMap stkC.enc) := by rw [HV.out.1, HV.out.2, List.take_of_length_le (by rw [← HN5.out]; exact Nat.le_refl _)]
              clear HV hii5 hgi5 hin
              obtain ⟨gl, hgl⟩ : ∃ q, q = mkB (pairL n6) := ⟨_, rfl⟩
              obtain ⟨tl, htl⟩ : ∃ q, q = mkB b6 := ⟨_, rfl⟩
              have Al : ∀ w, (Op.stringOp .add v gl).run Tryz.prog w = .ok (.string tl) w := fun w => by
                rw [htl, HE6.out, hv, hgl]
                exact add_fact _ _ w (by have h9 := HB5.out; simp only [List.length_append, pair_len]; omega)
              have HT6 : Hid (tl = mkB b6) := htl
              have Cl : Hid (Calls Tryz.prog 20 #[.int .i64 (n6 : Nat)] wr fun e w'' => e = .returned (.string gl) ∧ Below wr.heap.size wr w'') := by rw [hgl]; exact length14 n6 HFl6.out wr
              clear hv hgl htl
              go_wp2_with fail
              refine Cl.out.mono ?_
              rintro e w7 ⟨rfl, b7⟩
              have HX7 : Hid (Below W0.heap.size W0 w7) := below_on HX.out b7
              clear b7 Cl HX a0 a1 a2 a3 a4 a5 a6 a7
              have HX := HX7
              clear HX7
              go_wp2_with fail
              clear Al
              go_loopg [4, 11] n6 (fun g t_ i_ wr => ∃ (i6 : Nat) (lv : List UInt8) (v : ByteArray), i6 ≤ n6 ∧ n6 - i6 ≤ g ∧ i_ = .int .i64 (i6 : Nat) ∧ t_ = .string v ∧ Hid (v = mkB lv ∧ lv = b6 ++ (E.take i6).flatMap seaC.enc) ∧ Hid (Below W0.heap.size W0 wr))
              case atStart => exact ⟨0, b6, _, by omega, by omega, rfl, rfl, ⟨HT6.out, by rw [List.take_zero]; exact (List.append_nil _).symm⟩, HX⟩
              case round =>
                clear HX HT6
                obtain ⟨i6, lv, v, hii6, hgi6, rfl, rfl, HV, HX⟩ := hrel
                obtain ⟨a0, a1, a2, a3, a4, a5, a6, a7⟩ := eight_cells ((HX.out.block R (by have := HL.out; omega)).trans HP.out)
                by_cases hin : i6 < n6
                · have iwi6 : ((i6 : Nat) : Int) < (n6 : Int) := by omega
                  have n0i6 : (0 : Int) ≤ ((i6 : Nat) : Int) := by omega
                  have hixi6 : i6 < E.length := by rw [← HN6.out]; exact hin
                  obtain ⟨b1, f1, s1_, rfl, hlt1, _, hR1, hc1⟩ := (HD6.out wr HX.out).get hixi6
                  have hbd := take_le_flat seaC.enc E hixi6
                  have hnx := take_flat seaC.enc E hixi6
                  have hfit := HF6.out _ (List.getElem_mem hixi6)
                  obtain ⟨x, hx⟩ : ∃ z, z = E[i6] := ⟨_, rfl⟩
                  rw [← hx] at hR1 hbd hnx hfit
                  rw [seaW_is] at hbd hnx
                  obtain rfl := seaM_cells hR1
                  clear hx
                  obtain ⟨z0, hz0⟩ : ∃ q, q = x.1 := ⟨_, rfl⟩
                  obtain ⟨z1, hz1⟩ : ∃ q, q = x.2.1 := ⟨_, rfl⟩
                  obtain ⟨z2, hz2⟩ : ∃ q, q = x.2.2.1 := ⟨_, rfl⟩
                  obtain ⟨z3, hz3⟩ : ∃ q, q = x.2.2.2.1 := ⟨_, rfl⟩
                  obtain ⟨z4, hz4⟩ : ∃ q, q = x.2.2.2.2 := ⟨_, rfl⟩
                  rw [← hz0, ← hz1, ← hz2, ← hz3, ← hz4] at hbd hnx hc1
                  obtain ⟨l0, hl0⟩ : ∃ q, q = textL z0 := ⟨_, rfl⟩
                  obtain ⟨g0, hg0⟩ : ∃ q, q = mkB l0 := ⟨_, rfl⟩
                  obtain ⟨s0, hs0⟩ : ∃ q, q = mkB z0 := ⟨_, rfl⟩
                  obtain ⟨l1, hl1⟩ : ∃ q, q = numL z1 := ⟨_, rfl⟩
                  obtain ⟨g1, hg1⟩ : ∃ q, q = mkB l1 := ⟨_, rfl⟩
                  obtain ⟨l2, hl2⟩ : ∃ q, q = numL z2 := ⟨_, rfl⟩
                  obtain ⟨g2, hg2⟩ : ∃ q, q = mkB l2 := ⟨_, rfl⟩
                  obtain ⟨l3, hl3⟩ : ∃ q, q = numL z3 := ⟨_, rfl⟩
                  obtain ⟨g3, hg3⟩ : ∃ q, q = mkB l3 := ⟨_, rfl⟩
                  obtain ⟨l4, hl4⟩ : ∃ q, q = textL z4 := ⟨_, rfl⟩
                  obtain ⟨g4, hg4⟩ : ∃ q, q = mkB l4 := ⟨_, rfl⟩
                  obtain ⟨s4, hs4⟩ : ∃ q, q = mkB z4 := ⟨_, rfl⟩
                  rw [← hl0, ← hl1, ← hl2, ← hl3, ← hl4] at hbd hnx
                  rw [← hs0, ← hs4] at hc1
                  simp only [List.length_append] at hbd
                  have e0 : wr.cell? ⟨b1, f1 + i6 * 5, none⟩ = some (.string s0) := hc1 0 _ rfl
                  have e1 : wr.cell? ⟨b1, f1 + i6 * 5 + 1, none⟩ = some (.int .i64 z1) := hc1 1 _ rfl
                  have e2 : wr.cell? ⟨b1, f1 + i6 * 5 + 2, none⟩ = some (.int .i64 z2) := hc1 2 _ rfl
                  have e3 : wr.cell? ⟨b1, f1 + i6 * 5 + 3, none⟩ = some (.int .i64 z3) := hc1 3 _ rfl
                  have e4 : wr.cell? ⟨b1, f1 + i6 * 5 + 4, none⟩ = some (.string s4) := hc1 4 _ rfl
                  have hv := HV.out.1
                  have hlv : lv.length + (l0.length + l1.length + l2.length + l3.length + l4.length) ≤ 290000000 := by
                    have q := congrArg List.length HV.out.2
                    rw [List.length_append] at q
                    have := HB6.out
                    omega
                  obtain ⟨bX, pX, lX⟩ := box1 wr #[.string s0, .int .i64 z1, .int .i64 z2, .int .i64 z3, .string s4] 65
                  obtain ⟨W5, hW5⟩ : ∃ W5, W5 = wr.alloc (.cells #[.string s0, .int .i64 z1, .int .i64 z2, .int .i64 z3, .string s4] 65) := ⟨_, rfl⟩
                  rw [← hW5] at bX pX lX
                  obtain ⟨X, hX⟩ : ∃ X, X = wr.heap.size := ⟨_, rfl⟩
                  rw [← hX] at pX lX
                  have HPX := Lib.hid pX
                  have HXL : Hid (W5.heap.size = X + 1) := lX
                  have HW5 := Lib.hid hW5
                  have HXX : Hid (wr.heap.size = X) := hX.symm
                  have HX5 : Hid (Below W0.heap.size W0 W5) := below_on HX.out bX
                  have K5 : Hid (Below W5.heap.size W5 W5) := Below.refl _ _
                  have HCX : Hid (∀ w', Below W5.heap.size W5 w' → Below W5.heap.size W5 w' ∧ w'.cell? ⟨X, 0, none⟩ = some (.string s0) ∧ w'.cell? ⟨X, 1, none⟩ = some (.int .i64 z1) ∧ w'.cell? ⟨X, 2, none⟩ = some (.int .i64 z2) ∧ w'.cell? ⟨X, 3, none⟩ = some (.int .i64 z3) ∧ w'.cell? ⟨X, 4, none⟩ = some (.string s4)) := fun w' hb => ⟨hb, five_cells' ((hb.block X (by have := HXL.out; omega)).trans HPX.out)⟩
                  have hft0 : z0.length ≤ 65535 := by rw [hz0]; exact hfit.1
                  have N0 : Hid (∀ w', Calls Tryz.prog 23 #[.string s0] w' fun e w'' => e = .returned (.string g0) ∧ Below w'.heap.size w' w'') := by rw [hg0, hl0, hs0]; exact fun w' => text14 z0 hft0 w'
                  have N1 : Hid (∀ w', Calls Tryz.prog 19 #[.int .i64 z1] w' fun e w'' => e = .returned (.string g1) ∧ Below w'.heap.size w' w'') := by rw [hg1, hl1]; exact fun w' => num14 z1 w'
                  have N2 : Hid (∀ w', Calls Tryz.prog 19 #[.int .i64 z2] w' fun e w'' => e = .returned (.string g2) ∧ Below w'.heap.size w' w'') := by rw [hg2, hl2]; exact fun w' => num14 z2 w'
                  have N3 : Hid (∀ w', Calls Tryz.prog 19 #[.int .i64 z3] w' fun e w'' => e = .returned (.string g3) ∧ Below w'.heap.size w' w'') := by rw [hg3, hl3]; exact fun w' => num14 z3 w'
                  have hft4 : z4.length ≤ 65535 := by rw [hz4]; exact hfit.2
                  have N4 : Hid (∀ w', Calls Tryz.prog 23 #[.string s4] w' fun e w'' => e = .returned (.string g4) ∧ Below w'.heap.size w' w'') := by rw [hg4, hl4, hs4]; exact fun w' => text14 z4 hft4 w'
                  obtain ⟨v1, hv1⟩ : ∃ u, u = mkB (lv ++ l0) := ⟨_, rfl⟩
                  have Av1 : ∀ w, (Op.stringOp .add v g0).run Tryz.prog w = .ok (.string v1) w := fun w => by rw [hv1, hv, hg0]; exact add_fact _ _ w (by (try simp only [List.length_append, num_len, pair_len]); omega)
                  obtain ⟨v2, hv2⟩ : ∃ u, u = mkB ((lv ++ l0) ++ l1) := ⟨_, rfl⟩
                  have Av2 : ∀ w, (Op.stringOp .add v1 g1).run Tryz.prog w = .ok (.string v2) w := fun w => by rw [hv2, hv1, hg1]; exact add_fact _ _ w (by (try simp only [List.length_append, num_len, pair_len]); omega)
                  obtain ⟨v3, hv3⟩ : ∃ u, u = mkB (((lv ++ l0) ++ l1) ++ l2) := ⟨_, rfl⟩
                  have Av3 : ∀ w, (Op.stringOp .add v2 g2).run Tryz.prog w = .ok (.string v3) w := fun w => by rw [hv3, hv2, hg2]; exact add_fact _ _ w (by (try simp only [List.length_append, num_len, pair_len]); omega)
                  obtain ⟨v4, hv4⟩ : ∃ u, u = mkB ((((lv ++ l0) ++ l1) ++ l2) ++ l3) := ⟨_, rfl⟩
                  have Av4 : ∀ w, (Op.stringOp .add v3 g3).run Tryz.prog w = .ok (.string v4) w := fun w => by rw [hv4, hv3, hg3]; exact add_fact _ _ w (by (try simp only [List.length_append, num_len, pair_len]); omega)
                  obtain ⟨v5, hv5⟩ : ∃ u, u = mkB (((((lv ++ l0) ++ l1) ++ l2) ++ l3) ++ l4) := ⟨_, rfl⟩
                  have Av5 : ∀ w, (Op.stringOp .add v4 g4).run Tryz.prog w = .ok (.string v5) w := fun w => by rw [hv5, hv4, hg4]; exact add_fact _ _ w (by (try simp only [List.length_append, num_len, pair_len]); omega)
                  have HV2 : Hid (v5 = mkB (((((lv ++ l0) ++ l1) ++ l2) ++ l3) ++ l4) ∧ (((((lv ++ l0) ++ l1) ++ l2) ++ l3) ++ l4) = b6 ++ (E.take (i6 + 1)).flatMap seaC.enc) := ⟨hv5, by rw [hnx, HV.out.2]; simp only [List.append_assoc]⟩
                  clear hbd hnx hR1 hc1 hv hlv bX pX lX hW5 hX hfit hz0 hl0 hg0 hv1 hz1 hl1 hg1 hv2 hz2 hl2 hg2 hv3 hz3 hl3 hg3 hv4 hz4 hl4 hg4 hv5 hft0 hft4 hs0 hs4 
                  go_upto_region 29 with fail
                  rw [← HW5.out, HXX.out]
                  clear a0 a1 a2 a3 a4 a5 a6 a7 e0 e1 e2 e3 e4
                  go_region_held3 (fun w' => Below W5.heap.size W5 w' ∧ w'.cell? ⟨X, 0, none⟩ = some (.string s0) ∧ w'.cell? ⟨X, 1, none⟩ = some (.int .i64 z1) ∧ w'.cell? ⟨X, 2, none⟩ = some (.int .i64 z2) ∧ w'.cell? ⟨X, 3, none⟩ = some (.int .i64 z3) ∧ w'.cell? ⟨X, 4, none⟩ = some (.string s4))
                    ((refine HCX.out _ ?_; focus ((repeat first | with_reducible assumption | with_reducible exact K5.out | with_reducible apply Below.drew | with_reducible apply below_drews); done)))
                    (first
                      | (go_at_call 23; (with_reducible refine (N0.out _).mono ?_); rintro e wt ⟨rfl, bt⟩; have hkt := below_on (B := W5.heap.size) (w := W5) (by (repeat first | with_reducible assumption | with_reducible exact K5.out | with_reducible apply Below.drew | with_reducible apply below_drews)) bt (Nat.le_refl _); clear bt)
                      | (go_at_call 19; (with_reducible refine (N1.out _).mono ?_); rintro e wt ⟨rfl, bt⟩; have hkt := below_on (B := W5.heap.size) (w := W5) (by (repeat first | with_reducible assumption | with_reducible exact K5.out | with_reducible apply Below.drew | with_reducible apply below_drews)) bt (Nat.le_refl _); clear bt)
                      | (go_at_call 19; (with_reducible refine (N2.out _).mono ?_); rintro e wt ⟨rfl, bt⟩; have hkt := below_on (B := W5.heap.size) (w := W5) (by (repeat first | with_reducible assumption | with_reducible exact K5.out | with_reducible apply Below.drew | with_reducible apply below_drews)) bt (Nat.le_refl _); clear bt)
                      | (go_at_call 19; (with_reducible refine (N3.out _).mono ?_); rintro e wt ⟨rfl, bt⟩; have hkt := below_on (B := W5.heap.size) (w := W5) (by (repeat first | with_reducible assumption | with_reducible exact K5.out | with_reducible apply Below.drew | with_reducible apply below_drews)) bt (Nat.le_refl _); clear bt)
                      | (go_at_call 23; (with_reducible refine (N4.out _).mono ?_); rintro e wt ⟨rfl, bt⟩; have hkt := below_on (B := W5.heap.size) (w := W5) (by (repeat first | with_reducible assumption | with_reducible exact K5.out | with_reducible apply Below.drew | with_reducible apply below_drews)) bt (Nat.le_refl _); clear bt))
                  have HX2 : Hid (Below W0.heap.size W0 wt) := below_on HX5.out hkt
                  clear HX HX5 HCX K5 hkt HPX HXL N0 Av1 N1 Av2 N2 Av3 N3 Av4 N4 Av5
                  go_wp2_with fail
                  go_roundg (n6 - (i6 + 1))
                  case measure => omega
                  case rel => exact ⟨i6 + 1, _, _, by omega, Nat.le_refl _, by go_num, rfl, HV2, HX2⟩
                · obtain rfl : n6 = i6 := by omega
                  have iwi6 : ¬ ((n6 : Nat) : Int) < ((n6 : Nat) : Int) := by omega
                  have hv : v = mkB (b6 ++ E.flatMap seaC.enc) := by rw [HV.out.1, HV.out.2, List.take_of_length_le (by rw [← HN6.out]; exact Nat.le_refl _)]
                  clear HV hii6 hgi6 hin
                  obtain ⟨gl, hgl⟩ : ∃ q, q = mkB (pairL n7) := ⟨_, rfl⟩
                  obtain ⟨tl, htl⟩ : ∃ q, q = mkB b7 := ⟨_, rfl⟩
                  have Al : ∀ w, (Op.stringOp .add v gl).run Tryz.prog w = .ok (.string tl) w := fun w => by
                    rw [htl, HE7.out, hv, hgl]
                    exact add_fact _ _ w (by have h9 := HB6.out; simp only [List.length_append, pair_len]; omega)
                  have HT7 : Hid (tl = mkB b7) := htl
                  have Cl : Hid (Calls Tryz.prog 20 #[.int .i64 (n7 : Nat)] wr fun e w'' => e = .returned (.string gl) ∧ Below wr.heap.size wr w'') := by rw [hgl]; exact length14 n7 HFl7.out wr
                  clear hv hgl htl
                  go_wp2_with fail
                  refine Cl.out.mono ?_
                  rintro e w7 ⟨rfl, b7⟩
                  have HX7 : Hid (Below W0.heap.size W0 w7) := below_on HX.out b7
                  clear b7 Cl HX a0 a1 a2 a3 a4 a5 a6 a7
                  have HX := HX7
                  clear HX7
                  go_wp2_with fail
                  clear Al
                  go_loopg [4, 13] n7 (fun g t_ i_ wr => ∃ (i7 : Nat) (lv : List UInt8) (v : ByteArray), i7 ≤ n7 ∧ n7 - i7 ≤ g ∧ i_ = .int .i64 (i7 : Nat) ∧ t_ = .string v ∧ Hid (v = mkB lv ∧ lv = b7 ++ (A.take i7).flatMap entC.enc) ∧ Hid (Below W0.heap.size W0 wr))
                  case atStart => exact ⟨0, b7, _, by omega, by omega, rfl, rfl, ⟨HT7.out, by rw [List.take_zero]; exact (List.append_nil _).symm⟩, HX⟩
                  case round =>
                    clear HX HT7
                    obtain ⟨i7, lv, v, hii7, hgi7, rfl, rfl, HV, HX⟩ := hrel
                    obtain ⟨a0, a1, a2, a3, a4, a5, a6, a7⟩ := eight_cells ((HX.out.block R (by have := HL.out; omega)).trans HP.out)
                    by_cases hin : i7 < n7
                    · have iwi7 : ((i7 : Nat) : Int) < (n7 : Int) := by omega
                      have n0i7 : (0 : Int) ≤ ((i7 : Nat) : Int) := by omega
                      have hixi7 : i7 < A.length := by rw [← HN7.out]; exact hin
                      obtain ⟨b1, f1, s1_, rfl, hlt1, _, hR1, hc1⟩ := (HD7.out wr HX.out).get hixi7
                      have hbd := take_le_flat entC.enc A hixi7
                      have hnx := take_flat entC.enc A hixi7
                      have hfit := HF7.out _ (List.getElem_mem hixi7)
                      obtain ⟨x, hx⟩ : ∃ z, z = A[i7] := ⟨_, rfl⟩
                      rw [← hx] at hR1 hbd hnx hfit
                      rw [entW_is] at hbd hnx
                      obtain ⟨r3, d3, r4, d4, rfl, q3, q4⟩ := entM_cells hR1
                      clear hx
                      obtain ⟨z0, hz0⟩ : ∃ q, q = x.1 := ⟨_, rfl⟩
                      obtain ⟨z1, hz1⟩ : ∃ q, q = x.2.1 := ⟨_, rfl⟩
                      obtain ⟨z2, hz2⟩ : ∃ q, q = x.2.2.1 := ⟨_, rfl⟩
                      obtain ⟨z3, hz3⟩ : ∃ q, q = x.2.2.2.1 := ⟨_, rfl⟩
                      obtain ⟨z4, hz4⟩ : ∃ q, q = x.2.2.2.2 := ⟨_, rfl⟩
                      rw [← hz0, ← hz1, ← hz2, ← hz3, ← hz4] at hbd hnx hc1
                      obtain ⟨l0, hl0⟩ : ∃ q, q = numL z0 := ⟨_, rfl⟩
                      obtain ⟨g0, hg0⟩ : ∃ q, q = mkB l0 := ⟨_, rfl⟩
                      obtain ⟨l1, hl1⟩ : ∃ q, q = numL z1 := ⟨_, rfl⟩
                      obtain ⟨g1, hg1⟩ : ∃ q, q = mkB l1 := ⟨_, rfl⟩
                      obtain ⟨l2, hl2⟩ : ∃ q, q = numL z2 := ⟨_, rfl⟩
                      obtain ⟨g2, hg2⟩ : ∃ q, q = mkB l2 := ⟨_, rfl⟩
                      obtain ⟨l3, hl3⟩ : ∃ q, q = (listC numC).enc z3 := ⟨_, rfl⟩
                      obtain ⟨g3, hg3⟩ : ∃ q, q = mkB l3 := ⟨_, rfl⟩
                      obtain ⟨m3, hm3⟩ : ∃ q, q = z3.length := ⟨_, rfl⟩
                      rw [← hz3] at q3
                      rw [← hm3] at hc1 q3
                      obtain ⟨l4, hl4⟩ : ∃ q, q = (listC numC).enc z4 := ⟨_, rfl⟩
                      obtain ⟨g4, hg4⟩ : ∃ q, q = mkB l4 := ⟨_, rfl⟩
                      obtain ⟨m4, hm4⟩ : ∃ q, q = z4.length := ⟨_, rfl⟩
                      rw [← hz4] at q4
                      rw [← hm4] at hc1 q4
                      rw [← hl0, ← hl1, ← hl2, ← hl3, ← hl4] at hbd hnx
                      simp only [List.length_append] at hbd
                      have e0 : wr.cell? ⟨b1, f1 + i7 * 5, none⟩ = some (.int .i64 z0) := hc1 0 _ rfl
                      have e1 : wr.cell? ⟨b1, f1 + i7 * 5 + 1, none⟩ = some (.int .i64 z1) := hc1 1 _ rfl
                      have e2 : wr.cell? ⟨b1, f1 + i7 * 5 + 2, none⟩ = some (.int .i64 z2) := hc1 2 _ rfl
                      have e3 : wr.cell? ⟨b1, f1 + i7 * 5 + 3, none⟩ = some (.slice r3 m3 d3) := hc1 3 _ rfl
                      have e4 : wr.cell? ⟨b1, f1 + i7 * 5 + 4, none⟩ = some (.slice r4 m4 d4) := hc1 4 _ rfl
                      have hv := HV.out.1
                      have hlv : lv.length + (l0.length + l1.length + l2.length + l3.length + l4.length) ≤ 290000000 := by
                        have q := congrArg List.length HV.out.2
                        rw [List.length_append] at q
                        have := HB7.out
                        omega
                      obtain ⟨bX, pX, lX⟩ := box1 wr #[.int .i64 z0, .int .i64 z1, .int .i64 z2, .slice r3 m3 d3, .slice r4 m4 d4] 67
                      obtain ⟨W5, hW5⟩ : ∃ W5, W5 = wr.alloc (.cells #[.int .i64 z0, .int .i64 z1, .int .i64 z2, .slice r3 m3 d3, .slice r4 m4 d4] 67) := ⟨_, rfl⟩
                      rw [← hW5] at bX pX lX
                      obtain ⟨X, hX⟩ : ∃ X, X = wr.heap.size := ⟨_, rfl⟩
                      rw [← hX] at pX lX
                      have HPX := Lib.hid pX
                      have HXL : Hid (W5.heap.size = X + 1) := lX
                      have HW5 := Lib.hid hW5
                      have HXX : Hid (wr.heap.size = X) := hX.symm
                      have HX5 : Hid (Below W0.heap.size W0 W5) := below_on HX.out bX
                      have K5 : Hid (Below W5.heap.size W5 W5) := Below.refl _ _
                      have HCX : Hid (∀ w', Below W5.heap.size W5 w' → Below W5.heap.size W5 w' ∧ w'.cell? ⟨X, 0, none⟩ = some (.int .i64 z0) ∧ w'.cell? ⟨X, 1, none⟩ = some (.int .i64 z1) ∧ w'.cell? ⟨X, 2, none⟩ = some (.int .i64 z2) ∧ w'.cell? ⟨X, 3, none⟩ = some (.slice r3 m3 d3) ∧ w'.cell? ⟨X, 4, none⟩ = some (.slice r4 m4 d4)) := fun w' hb => ⟨hb, five_cells' ((hb.block X (by have := HXL.out; omega)).trans HPX.out)⟩
                      have N0 : Hid (∀ w', Calls Tryz.prog 19 #[.int .i64 z0] w' fun e w'' => e = .returned (.string g0) ∧ Below w'.heap.size w' w'') := by rw [hg0, hl0]; exact fun w' => num14 z0 w'
                      have N1 : Hid (∀ w', Calls Tryz.prog 19 #[.int .i64 z1] w' fun e w'' => e = .returned (.string g1) ∧ Below w'.heap.size w' w'') := by rw [hg1, hl1]; exact fun w' => num14 z1 w'
                      have N2 : Hid (∀ w', Calls Tryz.prog 19 #[.int .i64 z2] w' fun e w'' => e = .returned (.string g2) ∧ Below w'.heap.size w' w'') := by rw [hg2, hl2]; exact fun w' => num14 z2 w'
                      have hft3 : z3.length ≤ 65535 := by rw [hz3]; exact hfit.1
                      have N3 : Hid (∀ w', Below W5.heap.size W5 w' → Calls Tryz.prog 21 #[.slice r3 m3 d3] w' fun e w'' => e = .returned (.string g3) ∧ Below w'.heap.size w' w'') := by rw [hg3, hl3]; exact fun w' b => nums14 z3 (q3.keep numM_ok (Keep.below (bX.trans (b.mono bX.size)))) hft3 (fun _ => trivial)
                      have hft4 : z4.length ≤ 65535 := by rw [hz4]; exact hfit.2
                      have N4 : Hid (∀ w', Below W5.heap.size W5 w' → Calls Tryz.prog 21 #[.slice r4 m4 d4] w' fun e w'' => e = .returned (.string g4) ∧ Below w'.heap.size w' w'') := by rw [hg4, hl4]; exact fun w' b => nums14 z4 (q4.keep numM_ok (Keep.below (bX.trans (b.mono bX.size)))) hft4 (fun _ => trivial)
                      obtain ⟨v1, hv1⟩ : ∃ u, u = mkB (lv ++ l0) := ⟨_, rfl⟩
                      have Av1 : ∀ w, (Op.stringOp .add v g0).run Tryz.prog w = .ok (.string v1) w := fun w => by rw [hv1, hv, hg0]; exact add_fact _ _ w (by (try simp only [List.length_append, num_len, pair_len]); omega)
                      obtain ⟨v2, hv2⟩ : ∃ u, u = mkB ((lv ++ l0) ++ l1) := ⟨_, rfl⟩
                      have Av2 : ∀ w, (Op.stringOp .add v1 g1).run Tryz.prog w = .ok (.string v2) w := fun w => by rw [hv2, hv1, hg1]; exact add_fact _ _ w (by (try simp only [List.length_append, num_len, pair_len]); omega)
                      obtain ⟨v3, hv3⟩ : ∃ u, u = mkB (((lv ++ l0) ++ l1) ++ l2) := ⟨_, rfl⟩
                      have Av3 : ∀ w, (Op.stringOp .add v2 g2).run Tryz.prog w = .ok (.string v3) w := fun w => by rw [hv3, hv2, hg2]; exact add_fact _ _ w (by (try simp only [List.length_append, num_len, pair_len]); omega)
                      obtain ⟨v4, hv4⟩ : ∃ u, u = mkB ((((lv ++ l0) ++ l1) ++ l2) ++ l3) := ⟨_, rfl⟩
                      have Av4 : ∀ w, (Op.stringOp .add v3 g3).run Tryz.prog w = .ok (.string v4) w := fun w => by rw [hv4, hv3, hg3]; exact add_fact _ _ w (by (try simp only [List.length_append, num_len, pair_len]); omega)
                      obtain ⟨v5, hv5⟩ : ∃ u, u = mkB (((((lv ++ l0) ++ l1) ++ l2) ++ l3) ++ l4) := ⟨_, rfl⟩
                      have Av5 : ∀ w, (Op.stringOp .add v4 g4).run Tryz.prog w = .ok (.string v5) w := fun w => by rw [hv5, hv4, hg4]; exact add_fact _ _ w (by (try simp only [List.length_append, num_len, pair_len]); omega)
                      have HV2 : Hid (v5 = mkB (((((lv ++ l0) ++ l1) ++ l2) ++ l3) ++ l4) ∧ (((((lv ++ l0) ++ l1) ++ l2) ++ l3) ++ l4) = b7 ++ (A.take (i7 + 1)).flatMap entC.enc) := ⟨hv5, by rw [hnx, HV.out.2]; simp only [List.append_assoc]⟩
                      clear hbd hnx hR1 hc1 hv hlv bX pX lX hW5 hX hfit hz0 hl0 hg0 hv1 hz1 hl1 hg1 hv2 hz2 hl2 hg2 hv3 hz3 hl3 hg3 hv4 hz4 hl4 hg4 hv5 hft3 hft4  hm3 q3 hm4 q4
                      go_upto_region 35 with fail
                      rw [← HW5.out, HXX.out]
                      clear a0 a1 a2 a3 a4 a5 a6 a7 e0 e1 e2 e3 e4
                      go_region_held3 (fun w' => Below W5.heap.size W5 w' ∧ w'.cell? ⟨X, 0, none⟩ = some (.int .i64 z0) ∧ w'.cell? ⟨X, 1, none⟩ = some (.int .i64 z1) ∧ w'.cell? ⟨X, 2, none⟩ = some (.int .i64 z2) ∧ w'.cell? ⟨X, 3, none⟩ = some (.slice r3 m3 d3) ∧ w'.cell? ⟨X, 4, none⟩ = some (.slice r4 m4 d4))
                        ((refine HCX.out _ ?_; focus ((repeat first | with_reducible assumption | with_reducible exact K5.out | with_reducible apply Below.drew | with_reducible apply below_drews); done)))
                        (first
                          | (go_at_call 19; (with_reducible refine (N0.out _).mono ?_); rintro e wt ⟨rfl, bt⟩; have hkt := below_on (B := W5.heap.size) (w := W5) (by (repeat first | with_reducible assumption | with_reducible exact K5.out | with_reducible apply Below.drew | with_reducible apply below_drews)) bt (Nat.le_refl _); clear bt)
                          | (go_at_call 19; (with_reducible refine (N1.out _).mono ?_); rintro e wt ⟨rfl, bt⟩; have hkt := below_on (B := W5.heap.size) (w := W5) (by (repeat first | with_reducible assumption | with_reducible exact K5.out | with_reducible apply Below.drew | with_reducible apply below_drews)) bt (Nat.le_refl _); clear bt)
                          | (go_at_call 19; (with_reducible refine (N2.out _).mono ?_); rintro e wt ⟨rfl, bt⟩; have hkt := below_on (B := W5.heap.size) (w := W5) (by (repeat first | with_reducible assumption | with_reducible exact K5.out | with_reducible apply Below.drew | with_reducible apply below_drews)) bt (Nat.le_refl _); clear bt)
                          | (go_at_call 21; (with_reducible refine (N3.out _ (by (repeat first | with_reducible assumption | with_reducible exact K5.out | with_reducible apply Below.drew | with_reducible apply below_drews))).mono ?_); rintro e wt ⟨rfl, bt⟩; have hkt := below_on (B := W5.heap.size) (w := W5) (by (repeat first | with_reducible assumption | with_reducible exact K5.out | with_reducible apply Below.drew | with_reducible apply below_drews)) bt (Nat.le_refl _); clear bt)
                          | (go_at_call 21; (with_reducible refine (N4.out _ (by (repeat first | with_reducible assumption | with_reducible exact K5.out | with_reducible apply Below.drew | with_reducible apply below_drews))).mono ?_); rintro e wt ⟨rfl, bt⟩; have hkt := below_on (B := W5.heap.size) (w := W5) (by (repeat first | with_reducible assumption | with_reducible exact K5.out | with_reducible apply Below.drew | with_reducible apply below_drews)) bt (Nat.le_refl _); clear bt))
                      have HX2 : Hid (Below W0.heap.size W0 wt) := below_on HX5.out hkt
                      clear HX HX5 HCX K5 hkt HPX HXL N0 Av1 N1 Av2 N2 Av3 N3 Av4 N4 Av5
                      go_wp2_with fail
                      go_roundg (n7 - (i7 + 1))
                      case measure => omega
                      case rel => exact ⟨i7 + 1, _, _, by omega, Nat.le_refl _, by go_num, rfl, HV2, HX2⟩
                    · obtain rfl : n7 = i7 := by omega
                      have iwi7 : ¬ ((n7 : Nat) : Int) < ((n7 : Nat) : Int) := by omega
                      have hv : v = mkB (b7 ++ A.flatMap entC.enc) := by rw [HV.out.1, HV.out.2, List.take_of_length_le (by rw [← HN7.out]; exact Nat.le_refl _)]
                      clear HV hii7 hgi7 hin
                      have HE : Hid (Below w.heap.size w wr) := HB.out.trans (HX.out.mono HB.out.size)
                      have hr : Hid (mkB (staC.enc (x0, x1, x2, L, D, K, E, A)) = v) := by show _ = _; rw [hv, HG.out]
                      clear hv
                      go_wp2_with fail
                      exact bodyPost_ret (v := .tuple #[.string v, .bool true]) (by simp [results, Tryz.results8, go_sem]) rfl ⟨by rw [hr.out], HE.out⟩
end Go.Proofs.YtmdgjcikekojdaaGreatDoor.Sta
