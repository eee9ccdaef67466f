/- State: what the laws' Small bounds. -/
import Derived.Test.YtmdgjcikekojdaaGreatDoorZh
import Derived.Test.YtmdgjcikekojdaaGreatDoorOz
import Derived.IntWalk
import Derived.Test.YtmdgjcikekojdaaGreatDoorWt
import Derived.Test.YtmdgjcikekojdaaGreatDoorTl
import Derived.Test.YtmdgjcikekojdaaGreatDoorTm
import Derived.Test.YtmdgjcikekojdaaGreatDoorTj
import Derived.Test.YtmdgjcikekojdaaGreatDoorTi
set_option linter.unusedVariables false
set_option linter.unusedSimpArgs false
set_option maxRecDepth 100000
namespace Go.Proofs.YtmdgjcikekojdaaGreatDoor.Sta
open Go.RowKit Go.Lib Go.Proofs.YtmdgjcikekojdaaGreatDoor.Bx Go.Proofs.YtmdgjcikekojdaaGreatDoor.Frm Go.Proofs.YtmdgjcikekojdaaGreatDoor.Wds

theorem take_step {α : Type} {F : α → Prop} {xs : List α} {i : Nat} (hi : i < xs.length) (h : ∀ x ∈ xs.take i, F x) (hx : F xs[i]) : ∀ x ∈ xs.take (i + 1), F x := by
  intro x hm
  rw [List.take_succ_eq_append_getElem hi] at hm
  rcases List.mem_append.1 hm with hm | hm
  · exact h x hm
  · simp only [List.mem_singleton] at hm; subst hm; exact hx
theorem take_mono {α : Type} {F G : α → Prop} {xs : List α} (h : ∀ x ∈ xs, F x) (hx : ∀ x, F x → G x) : ∀ x ∈ xs, G x := fun x hm => hx x (h x hm)
theorem take_zero {α : Type} {F : α → Prop} {xs : List α} : ∀ x ∈ xs.take 0, F x := fun x h => by simp at h
theorem take_whole {α : Type} {F : α → Prop} {xs : List α} {n : Nat} (hn : n = xs.length) (h : ∀ x ∈ xs.take n, F x) : ∀ x ∈ xs, F x := fun x hm => h x (by rw [List.take_of_length_le (by omega)]; exact hm)
def AnyS (p : Prop) (e : Ending) : Prop := ∃ b : Bool, e = .returned (.bool b) ∧ (b = true → p)
theorem any_no {p : Prop} : AnyS p (.returned (.bool false)) := ⟨false, rfl, fun h => by cases h⟩
theorem any_yes {p : Prop} (h : p) : AnyS p (.returned (.bool true)) := ⟨true, rfl, fun _ => h⟩
def labS (x : Lab) : Prop := x.2.2.1.length ≤ 100 ∧ x.2.2.2.length ≤ 100
def segS (x : Seg) : Prop := x.2.2.1.length ≤ 3000 ∧ x.2.2.2.1.length ≤ 3000 ∧ x.2.2.2.2.length ≤ 3000
def docS (x : Doc) : Prop := x.2.length ≤ 40 ∧ ∀ y ∈ x.2, segS y
def thgS (a : Nat) (x : Thg) : Prop := x.2.2.2.2.length ≤ a
def stkS (a : Nat) (x : List Thg) : Prop := x.length ≤ 60 ∧ ∀ y ∈ x, thgS a y
def seaS (a : Nat) (x : Sea) : Prop := x.1.length ≤ a ∧ x.2.2.2.2.length ≤ a
def entS (x : Ent) : Prop := x.2.2.2.1.length ≤ 300 ∧ x.2.2.2.2.length ≤ 300
def labsS (L : List Lab) : Prop := L.length ≤ 100 ∧ ∀ x ∈ L, labS x
def segsS (L : List Seg) : Prop := L.length ≤ 40 ∧ ∀ x ∈ L, segS x
def staS (S : Sta) : Prop := labsS S.2.2.2.1 ∧ (S.2.2.2.2.1.length ≤ 20 ∧ ∀ x ∈ S.2.2.2.2.1, docS x) ∧ (S.2.2.2.2.2.1.length ≤ 20 ∧ ∀ x ∈ S.2.2.2.2.2.1, stkS 70000 x) ∧ (S.2.2.2.2.2.2.1.length ≤ 20 ∧ ∀ x ∈ S.2.2.2.2.2.2.1, seaS 70000 x) ∧ S.2.2.2.2.2.2.2.length ≤ 300 ∧ ∀ x ∈ S.2.2.2.2.2.2.2, entS x
set_option maxHeartbeats 8000000 in
theorem sm03 {P : Nat → Prop} {v : Value} (L : List Lab) (w : World) (h : RowP labM P w v L) : Calls Tryz.prog 16 #[v] w fun e w' => AnyS (labsS L) e ∧ Below w.heap.size w w' := by
  obtain ⟨u, c, rfl⟩ := h.is_slice
  obtain ⟨n, hn⟩ : ∃ n, n = L.length := ⟨_, rfl⟩
  have HN := Lib.hid hn
  rw [← hn] at h ⊢
  have hmn : n ≤ 9223372036854775807 := by have q := h.len; simp only [maxLen] at q; omega
  have HD : Hid (∀ w', Below w.heap.size w w' → RowP labM P w' (.slice u n c) L) := fun w' b => h.keep labM_ok (Keep.below b)
  have HX : Hid (Below w.heap.size w w) := Below.refl _ _
  clear h hn
  go_enter Tryz.func16, Tryz.ntmps16
  go_wp2_with fail
  go_loopg [7] n (fun g i_ wr => ∃ (i : Nat), i ≤ n ∧ n - i ≤ g ∧ i_ = .int .i64 (i : Nat) ∧ Hid (∀ x ∈ L.take i, labS x) ∧ Hid (Below w.heap.size w wr))
  case atStart => exact ⟨0, by omega, by omega, rfl, take_zero, HX⟩
  case round =>
    clear HX
    obtain ⟨i, hi, hg, rfl, HV, HX⟩ := hrel
    by_cases hin : i < n
    · have iwi : ((i : Nat) : Int) < (n : Int) := by omega
      have n0i : (0 : Int) ≤ ((i : Nat) : Int) := by omega
      have hixi : i < L.length := by rw [← HN.out]; exact hin
      obtain ⟨b1, f1, s1_, rfl, hlt1, _, hR1, hc1⟩ := (HD.out wr HX.out).get hixi
      obtain ⟨x, hx⟩ : ∃ z, z = L[i] := ⟨_, rfl⟩
      have hmem : x ∈ L := hx ▸ List.getElem_mem hixi
      rw [← hx] at hR1
      have HXI : Hid (L[i] = x) := hx.symm
      obtain ⟨r2, d2, r3, d3, rfl, q2, q3⟩ := labM_cells hR1
      obtain ⟨z0, hz0⟩ : ∃ q, q = x.1 := ⟨_, rfl⟩
      obtain ⟨z1, hz1⟩ : ∃ q, q = x.2.1 := ⟨_, rfl⟩
      obtain ⟨m2, hm2⟩ : ∃ q, q = x.2.2.1.length := ⟨_, rfl⟩
      obtain ⟨m3, hm3⟩ : ∃ q, q = x.2.2.2.length := ⟨_, rfl⟩
      rw [← hz0, ← hz1, ← hm2, ← hm3] at hc1
      rw [← hm2] at q2
      rw [← hm3] at q3
      have HMM := Lib.hid (And.intro hm2 hm3)
      have e0 : wr.cell? ⟨b1, f1 + i * 4, none⟩ = some (.int .i64 z0) := hc1 0 _ rfl
      have e1 : wr.cell? ⟨b1, f1 + i * 4 + 1, none⟩ = some (.int .i64 z1) := hc1 1 _ rfl
      have e2 : wr.cell? ⟨b1, f1 + i * 4 + 2, none⟩ = some (.slice r2 m2 d2) := hc1 2 _ rfl
      have e3 : wr.cell? ⟨b1, f1 + i * 4 + 3, none⟩ = some (.slice r3 m3 d3) := hc1 3 _ rfl
      obtain ⟨bX, pX, lX⟩ := box1 wr #[.int .i64 z0, .int .i64 z1, .slice r2 m2 d2, .slice r3 m3 d3] 51
      obtain ⟨W5, hW5⟩ : ∃ W5, W5 = wr.alloc (.cells #[.int .i64 z0, .int .i64 z1, .slice r2 m2 d2, .slice r3 m3 d3] 51) := ⟨_, rfl⟩
      rw [← hW5] at bX pX lX
      obtain ⟨X, hX⟩ : ∃ X, X = wr.heap.size := ⟨_, rfl⟩
      rw [← hX] at pX lX
      have HW5 := Lib.hid hW5
      have HXX : Hid (wr.heap.size = X) := hX.symm
      have HX5 : Hid (Below w.heap.size w W5) := below_on HX.out bX
      obtain ⟨g0, g1, g2, g3⟩ := four_cells pX
      clear hc1 hR1 hx hlt1 hX hW5 bX pX lX hmem hz0 hz1 hm2 hm3 q2 q3
      go_upto_region 4 with fail
      rw [← HW5.out, HXX.out]
      clear e0 e1 e2 e3
      by_cases k0 : 100 < m2
      · have kw0 : (100 : Int) < (m2 : Nat) := by omega
        have kd0 : decide ((100 : Int) < (m2 : Nat)) = true := decide_eq_true kw0
        go_wp2_with fail
        go_ret
        exact ⟨any_no, HX5.out⟩
      · have kw0 : ¬ (100 : Int) < (m2 : Nat) := by omega
        have kd0 : decide ((100 : Int) < (m2 : Nat)) = false := decide_eq_false kw0
        by_cases k1 : 100 < m3
        · have kw1 : (100 : Int) < (m3 : Nat) := by omega
          have kd1 : decide ((100 : Int) < (m3 : Nat)) = true := decide_eq_true kw1
          go_wp2_with fail
          go_ret
          exact ⟨any_no, HX5.out⟩
        · have kw1 : ¬ (100 : Int) < (m3 : Nat) := by omega
          have kd1 : decide ((100 : Int) < (m3 : Nat)) = false := decide_eq_false kw1
          have HV2 : Hid (∀ x ∈ L.take (i + 1), labS x) := take_step hixi HV.out (by rw [HXI.out]; exact ⟨by rw [← HMM.out.1]; omega, by rw [← HMM.out.2]; omega⟩)
          clear HV HXI HMM
          go_wp2_with fail
          go_roundg (n - (i + 1))
          case measure => omega
          case rel => exact ⟨i + 1, by omega, Nat.le_refl _, by go_num, HV2, HX5⟩
    · obtain rfl : n = i := by omega
      have iwi : ¬ ((n : Nat) : Int) < ((n : Nat) : Int) := by omega
      have HA : Hid (∀ x ∈ L, labS x) := take_whole HN.out HV.out
      clear HV
      by_cases k : n ≤ 100
      · have kw : (n : Int) ≤ 100 := by omega
        have kd : decide ((n : Int) ≤ 100) = true := decide_eq_true kw
        go_wp2_with fail
        go_ret
        exact ⟨any_yes ⟨by rw [← HN.out]; exact k, HA.out⟩, HX.out⟩
      · have kw : ¬ (n : Int) ≤ 100 := by omega
        have kd : decide ((n : Int) ≤ 100) = false := decide_eq_false kw
        go_wp2_with fail
        go_ret
        exact ⟨any_no, HX.out⟩
set_option maxHeartbeats 8000000 in
theorem sm06 {P : Nat → Prop} {v : Value} (L : List Seg) (w : World) (h : RowP segM P w v L) (ht : ∀ x ∈ L, x.2.2.1.length ≤ 140737488355328 ∧ x.2.2.2.1.length ≤ 140737488355328 ∧ x.2.2.2.2.length ≤ 140737488355328) : Calls Tryz.prog 17 #[v] w fun e w' => AnyS (segsS L) e ∧ Below w.heap.size w w' := by
  have HT := Lib.hid ht
  clear ht
  obtain ⟨u, c, rfl⟩ := h.is_slice
  obtain ⟨n, hn⟩ : ∃ n, n = L.length := ⟨_, rfl⟩
  have HN := Lib.hid hn
  rw [← hn] at h ⊢
  have hmn : n ≤ 9223372036854775807 := by have q := h.len; simp only [maxLen] at q; omega
  have HD : Hid (∀ w', Below w.heap.size w w' → RowP segM P w' (.slice u n c) L) := fun w' b => h.keep segM_ok (Keep.below b)
  have HX : Hid (Below w.heap.size w w) := Below.refl _ _
  clear h hn
  go_enter Tryz.func17, Tryz.ntmps17
  go_wp2_with fail
  go_loopg [3, 8] n (fun g a_ i_ wr => ∃ (i : Nat) (acc : Nat), i ≤ n ∧ n - i ≤ g ∧ i_ = .int .i64 (i : Nat) ∧ a_ = .int .i64 (acc : Nat) ∧ acc ≤ 3000 ∧ Hid (∀ x ∈ L.take i, segS x) ∧ Hid (Below w.heap.size w wr))
  case atStart => exact ⟨0, 0, by omega, by omega, rfl, rfl, by omega, take_zero, HX⟩
  case round =>
    clear HX
    obtain ⟨i, acc, hi, hg, rfl, rfl, hacc, HV, HX⟩ := hrel
    by_cases hin : i < n
    · have iwi : ((i : Nat) : Int) < (n : Int) := by omega
      have n0i : (0 : Int) ≤ ((i : Nat) : Int) := by omega
      have hixi : i < L.length := by rw [← HN.out]; exact hin
      obtain ⟨b1, f1, s1_, rfl, hlt1, _, hR1, hc1⟩ := (HD.out wr HX.out).get hixi
      obtain ⟨x, hx⟩ : ∃ z, z = L[i] := ⟨_, rfl⟩
      have hmem : x ∈ L := hx ▸ List.getElem_mem hixi
      rw [← hx] at hR1
      have HXI : Hid (L[i] = x) := hx.symm
      obtain ⟨r3, d3, r4, d4, rfl, q3, q4⟩ := segM_cells hR1
      obtain ⟨z0, hz0⟩ : ∃ q, q = x.1 := ⟨_, rfl⟩
      obtain ⟨z1, hz1⟩ : ∃ q, q = x.2.1 := ⟨_, rfl⟩
      obtain ⟨m2, hm2⟩ : ∃ q, q = x.2.2.1.length := ⟨_, rfl⟩
      obtain ⟨t2, ht2⟩ : ∃ q, q = mkB x.2.2.1 := ⟨_, rfl⟩
      have y2 : t2.size = m2 := by rw [ht2, mkB_size, hm2]
      obtain ⟨m3, hm3⟩ : ∃ q, q = x.2.2.2.1.length := ⟨_, rfl⟩
      obtain ⟨m4, hm4⟩ : ∃ q, q = x.2.2.2.2.length := ⟨_, rfl⟩
      rw [← hz0, ← hz1, ← ht2, ← hm3, ← hm4] at hc1
      rw [← hm3] at q3
      rw [← hm4] at q4
      have hb2 : m2 ≤ 140737488355328 := by rw [hm2]; exact (HT.out x hmem).1
      have hb3 : m3 ≤ 140737488355328 := by rw [hm3]; exact (HT.out x hmem).2.1
      have hb4 : m4 ≤ 140737488355328 := by rw [hm4]; exact (HT.out x hmem).2.2
      have HMM := Lib.hid (And.intro hm2 (And.intro hm3 hm4))
      have e0 : wr.cell? ⟨b1, f1 + i * 5, none⟩ = some (.int .i64 z0) := hc1 0 _ rfl
      have e1 : wr.cell? ⟨b1, f1 + i * 5 + 1, none⟩ = some (.int .i64 z1) := hc1 1 _ rfl
      have e2 : wr.cell? ⟨b1, f1 + i * 5 + 2, none⟩ = some (.string t2) := hc1 2 _ rfl
      have e3 : wr.cell? ⟨b1, f1 + i * 5 + 3, none⟩ = some (.slice r3 m3 d3) := hc1 3 _ rfl
      have e4 : wr.cell? ⟨b1, f1 + i * 5 + 4, none⟩ = some (.slice r4 m4 d4) := hc1 4 _ rfl
      obtain ⟨bX, pX, lX⟩ := box1 wr #[.int .i64 z0, .int .i64 z1, .string t2, .slice r3 m3 d3, .slice r4 m4 d4] 112
      obtain ⟨W5, hW5⟩ : ∃ W5, W5 = wr.alloc (.cells #[.int .i64 z0, .int .i64 z1, .string t2, .slice r3 m3 d3, .slice r4 m4 d4] 112) := ⟨_, rfl⟩
      rw [← hW5] at bX pX lX
      obtain ⟨X, hX⟩ : ∃ X, X = wr.heap.size := ⟨_, rfl⟩
      rw [← hX] at pX lX
      have HW5 := Lib.hid hW5
      have HXX : Hid (wr.heap.size = X) := hX.symm
      have HX5 : Hid (Below w.heap.size w W5) := below_on HX.out bX
      obtain ⟨g0, g1, g2, g3, g4⟩ := five_cells' pX
      clear hc1 hR1 hx hlt1 hX hW5 bX pX lX hmem hz0 hz1 ht2 hm2 hm3 hm4 q3 q4
      go_upto_region 5 with fail
      rw [← HW5.out, HXX.out]
      clear e0 e1 e2 e3 e4
      have z_0 : IntKind.i64.wrap (((m2 : Nat) : Int) + (m3 : Nat)) = ((m2 : Nat) : Int) + (m3 : Nat) := IntWalk.i64_in _ (by omega)
      have z_1 : IntKind.i64.wrap (((m2 : Nat) : Int) + (m3 : Nat) + (m4 : Nat)) = ((m2 : Nat) : Int) + (m3 : Nat) + (m4 : Nat) := IntWalk.i64_in _ (by omega)
      have z_2 : IntKind.i64.wrap (((acc : Nat) : Int) + (((m2 : Nat) : Int) + (m3 : Nat) + (m4 : Nat))) = ((acc : Nat) : Int) + (((m2 : Nat) : Int) + (m3 : Nat) + (m4 : Nat)) := IntWalk.i64_in _ (by omega)
      by_cases k0 : 3000 < acc + (m2 + m3 + m4)
      · have kw0 : (3000 : Int) < ((acc : Nat) : Int) + (((m2 : Nat) : Int) + (m3 : Nat) + (m4 : Nat)) := by omega
        have kd0 : decide ((3000 : Int) < ((acc : Nat) : Int) + (((m2 : Nat) : Int) + (m3 : Nat) + (m4 : Nat))) = true := decide_eq_true kw0
        go_wp2_with fail
        go_ret
        exact ⟨any_no, HX5.out⟩
      · have kw0 : ¬ (3000 : Int) < ((acc : Nat) : Int) + (((m2 : Nat) : Int) + (m3 : Nat) + (m4 : Nat)) := by omega
        have kd0 : decide ((3000 : Int) < ((acc : Nat) : Int) + (((m2 : Nat) : Int) + (m3 : Nat) + (m4 : Nat))) = false := decide_eq_false kw0
        have HV2 : Hid (∀ x ∈ L.take (i + 1), segS x) := take_step hixi HV.out (by rw [HXI.out]; exact ⟨by rw [← HMM.out.1]; omega, by rw [← HMM.out.2.1]; omega, by rw [← HMM.out.2.2]; omega⟩)
        clear HV HXI HMM
        go_wp2_with fail
        go_roundg (n - (i + 1))
        case measure => omega
        case rel => exact ⟨i + 1, acc + (m2 + m3 + m4), by omega, Nat.le_refl _, by go_num, by simp, by omega, HV2, HX5⟩
    · obtain rfl : n = i := by omega
      have iwi : ¬ ((n : Nat) : Int) < ((n : Nat) : Int) := by omega
      have HA : Hid (∀ x ∈ L, segS x) := take_whole HN.out HV.out
      clear HV
      by_cases k : n ≤ 40
      · have kw : (n : Int) ≤ 40 := by omega
        have kd : decide ((n : Int) ≤ 40) = true := decide_eq_true kw
        go_wp2_with fail
        go_ret
        exact ⟨any_yes ⟨by rw [← HN.out]; exact k, HA.out⟩, HX.out⟩
      · have kw : ¬ (n : Int) ≤ 40 := by omega
        have kd : decide ((n : Int) ≤ 40) = false := decide_eq_false kw
        go_wp2_with fail
        go_ret
        exact ⟨any_no, HX.out⟩
end Go.Proofs.YtmdgjcikekojdaaGreatDoor.Sta
/- State: what the law's Small of a state bounds. -/
set_option linter.unusedVariables false
set_option linter.unusedSimpArgs false
set_option maxRecDepth 100000
namespace Go.Proofs.YtmdgjcikekojdaaGreatDoor.Sta
open Go.RowKit Go.Lib Go.Proofs.YtmdgjcikekojdaaGreatDoor.Bx Go.Proofs.YtmdgjcikekojdaaGreatDoor.Frm Go.Proofs.YtmdgjcikekojdaaGreatDoor.Wds

def BigS (S : Sta) : Prop := (∀ x ∈ S.2.2.2.2.1, ∀ y ∈ x.2, y.2.2.1.length ≤ 140737488355328 ∧ y.2.2.2.1.length ≤ 140737488355328 ∧ y.2.2.2.2.length ≤ 140737488355328) ∧ (∀ x ∈ S.2.2.2.2.2.1, ∀ y ∈ x, y.2.2.2.2.length ≤ 140737488355328) ∧ ∀ x ∈ S.2.2.2.2.2.2.1, x.1.length ≤ 140737488355328 ∧ x.2.2.2.2.length ≤ 140737488355328
theorem staG_big {S : Sta} (h : staG S) : BigS S :=
  ⟨fun x hx y hy => ⟨((h.2.2.2.2.1.2 x hx).2.2 y hy).2.2.1, ((h.2.2.2.2.1.2 x hx).2.2 y hy).2.2.2.1.1, ((h.2.2.2.2.1.2 x hx).2.2 y hy).2.2.2.2.1⟩, fun x hx y hy => ((h.2.2.2.2.2.1.2 x hx).2 y hy).2.2.2.2, fun x hx => ⟨(h.2.2.2.2.2.2.1.2 x hx).1, (h.2.2.2.2.2.2.1.2 x hx).2.2.2.2⟩⟩
theorem stkS_mono {a b : Nat} (h : a ≤ b) (x : List Thg) (hx : stkS a x) : stkS b x := ⟨hx.1, fun y hy => Nat.le_trans (hx.2 y hy) h⟩
theorem seaS_mono {a b : Nat} (h : a ≤ b) (x : Sea) (hx : seaS a x) : seaS b x := ⟨Nat.le_trans hx.1 h, Nat.le_trans hx.2 h⟩
set_option maxHeartbeats 16000000 in
theorem sm14 {P : Nat → Prop} {cs : List Value} (S : Sta) (w : World) (h : staM.R P w cs S) (ht : BigS S) : Calls Tryz.prog 7 #[.agg cs.toArray] w fun e w' => AnyS (staS S) e ∧ Below w.heap.size w w' := by
  obtain ⟨u3, c3, u4, c4, u5, c5, u6, c6, u7, c7, rfl, p3, p4, p5, p6, p7⟩ := staM_cells h
  clear h
  obtain ⟨x0, x1, x2, L, D, K, E, A⟩ := S
  simp only at p3 p4 p5 p6 p7 ⊢
  obtain ⟨n3, hn3⟩ : ∃ n, n = L.length := ⟨_, rfl⟩
  have HN3 := Lib.hid hn3
  obtain ⟨n4, hn4⟩ : ∃ n, n = D.length := ⟨_, rfl⟩
  have HN4 := Lib.hid hn4
  obtain ⟨n5, hn5⟩ : ∃ n, n = K.length := ⟨_, rfl⟩
  have HN5 := Lib.hid hn5
  obtain ⟨n6, hn6⟩ : ∃ n, n = E.length := ⟨_, rfl⟩
  have HN6 := Lib.hid hn6
  obtain ⟨n7, hn7⟩ : ∃ n, n = A.length := ⟨_, rfl⟩
  have HN7 := Lib.hid hn7
  simp only [← hn3, ← hn4, ← hn5, ← hn6, ← hn7]
  rw [← hn3] at p3
  rw [← hn4] at p4
  rw [← hn5] at p5
  rw [← hn6] at p6
  rw [← hn7] at p7
  have HT : Hid (BigS (x0, x1, x2, L, D, K, E, A)) := ht
  have HG : Hid (∀ b : Bool, AnyS (labsS L ∧ (n4 ≤ 20 ∧ ∀ x ∈ D, docS x) ∧ (n5 ≤ 20 ∧ ∀ x ∈ K, stkS 70000 x) ∧ (n6 ≤ 20 ∧ ∀ x ∈ E, seaS 70000 x) ∧ n7 ≤ 300 ∧ ∀ x ∈ A, entS x) (.returned (.bool b)) → AnyS (staS (x0, x1, x2, L, D, K, E, A)) (.returned (.bool b))) := fun b h => by
    unfold staS
    simp only
    rw [← hn4, ← hn5, ← hn6, ← hn7]
    exact h
  clear ht
  have hm3 : n3 ≤ 9223372036854775807 := by have q := p3.len; simp only [maxLen] at q; omega
  have hm4 : n4 ≤ 9223372036854775807 := by have q := p4.len; simp only [maxLen] at q; omega
  have hm5 : n5 ≤ 9223372036854775807 := by have q := p5.len; simp only [maxLen] at q; omega
  have hm6 : n6 ≤ 9223372036854775807 := by have q := p6.len; simp only [maxLen] at q; omega
  have hm7 : n7 ≤ 9223372036854775807 := by have q := p7.len; simp only [maxLen] at q; omega
  clear hn3 hn4 hn5 hn6 hn7
  show Calls _ _ #[.agg #[.int .i64 x0, .int .i64 x1, .int .i64 x2, .slice u3 n3 c3, .slice u4 n4 c4, .slice u5 n5 c5, .slice u6 n6 c6, .slice u7 n7 c7]] _ _
  obtain ⟨B0, P0, L0⟩ := box1 w #[.int .i64 x0, .int .i64 x1, .int .i64 x2, .slice u3 n3 c3, .slice u4 n4 c4, .slice u5 n5 c5, .slice u6 n6 c6, .slice u7 n7 c7] 28
  obtain ⟨W0, hW0⟩ : ∃ W0, W0 = w.alloc (.cells #[.int .i64 x0, .int .i64 x1, .int .i64 x2, .slice u3 n3 c3, .slice u4 n4 c4, .slice u5 n5 c5, .slice u6 n6 c6, .slice u7 n7 c7] 28) := ⟨_, rfl⟩
  rw [← hW0] at B0 P0 L0
  obtain ⟨R, hR⟩ : ∃ R, R = w.heap.size := ⟨_, rfl⟩
  rw [← hR] at P0 L0
  have HB : Hid (Below w.heap.size w W0) := B0
  have HP := Lib.hid P0
  have HL : Hid (W0.heap.size = R + 1) := L0
  have HW := Lib.hid hW0
  have HR : Hid (w.heap.size = R) := hR.symm
  have HX : Hid (Below W0.heap.size W0 W0) := Below.refl _ _
  have HD3 : Hid (∀ w', Below W0.heap.size W0 w' → RowP labM P w' (.slice u3 n3 c3) L) := fun w' b => p3.keep labM_ok (Keep.below (HB.out.trans (b.mono HB.out.size)))
  have HD4 : Hid (∀ w', Below W0.heap.size W0 w' → RowP docM P w' (.slice u4 n4 c4) D) := fun w' b => p4.keep docM_ok (Keep.below (HB.out.trans (b.mono HB.out.size)))
  have HD5 : Hid (∀ w', Below W0.heap.size W0 w' → RowP stkM P w' (.slice u5 n5 c5) K) := fun w' b => p5.keep stkM_ok (Keep.below (HB.out.trans (b.mono HB.out.size)))
  have HD6 : Hid (∀ w', Below W0.heap.size W0 w' → RowP seaM P w' (.slice u6 n6 c6) E) := fun w' b => p6.keep seaM_ok (Keep.below (HB.out.trans (b.mono HB.out.size)))
  have HD7 : Hid (∀ w', Below W0.heap.size W0 w' → RowP entM P w' (.slice u7 n7 c7) A) := fun w' b => p7.keep entM_ok (Keep.below (HB.out.trans (b.mono HB.out.size)))
  clear hR B0 P0 L0 hW0 p3 p4 p5 p6 p7
  go_enter Tryz.func7, Tryz.ntmps7
  go_upto_region 1 with fail
  rw [← HW.out, HR.out]
  obtain ⟨a0, a1, a2, a3, a4, a5, a6, a7⟩ := eight_cells ((HX.out.block R (by have := HL.out; omega)).trans HP.out)
  have C3 := Lib.hid (sm03 L W0 (HD3.out W0 HX.out))
  go_wp2_with fail
  refine C3.out.mono ?_
  rintro e w1 ⟨⟨b, rfl, hb⟩, b1⟩
  have HX1 : Hid (Below W0.heap.size W0 w1) := b1
  clear b1 C3 HX a0 a1 a2 a3 a4 a5 a6 a7
  have HX := HX1
  clear HX1
  obtain ⟨a0, a1, a2, a3, a4, a5, a6, a7⟩ := eight_cells ((HX.out.block R (by have := HL.out; omega)).trans HP.out)
  cases b with
  | false =>
    have HXF := HX
    have HE : Hid (Below w.heap.size w w1) := HB.out.trans (HXF.out.mono HB.out.size)
    go_wp2_with fail
    go_ret
    exact ⟨any_no, HE.out⟩
  | true =>
    have HLs : Hid (labsS L) := hb rfl
    clear hb
    by_cases k0 : 20 < n4
    · have kw0 : (20 : Int) < (n4 : Nat) := by omega
      have kd0 : decide ((20 : Int) < (n4 : Nat)) = true := decide_eq_true kw0
      have HXF := HX
      have HE : Hid (Below w.heap.size w w1) := HB.out.trans (HXF.out.mono HB.out.size)
      go_wp2_with fail
      go_ret
      exact ⟨any_no, HE.out⟩
    · have kw0 : ¬ (20 : Int) < (n4 : Nat) := by omega
      have kd0 : decide ((20 : Int) < (n4 : Nat)) = false := decide_eq_false kw0
      by_cases k1 : 20 < n5
      · have kw1 : (20 : Int) < (n5 : Nat) := by omega
        have kd1 : decide ((20 : Int) < (n5 : Nat)) = true := decide_eq_true kw1
        have HXF := HX
        have HE : Hid (Below w.heap.size w w1) := HB.out.trans (HXF.out.mono HB.out.size)
        go_wp2_with fail
        go_ret
        exact ⟨any_no, HE.out⟩
      · have kw1 : ¬ (20 : Int) < (n5 : Nat) := by omega
        have kd1 : decide ((20 : Int) < (n5 : Nat)) = false := decide_eq_false kw1
        by_cases k2 : 20 < n6
        · have kw2 : (20 : Int) < (n6 : Nat) := by omega
          have kd2 : decide ((20 : Int) < (n6 : Nat)) = true := decide_eq_true kw2
          have HXF := HX
          have HE : Hid (Below w.heap.size w w1) := HB.out.trans (HXF.out.mono HB.out.size)
          go_wp2_with fail
          go_ret
          exact ⟨any_no, HE.out⟩
        · have kw2 : ¬ (20 : Int) < (n6 : Nat) := by omega
          have kd2 : decide ((20 : Int) < (n6 : Nat)) = false := decide_eq_false kw2
          by_cases k3 : 300 < n7
          · have kw3 : (300 : Int) < (n7 : Nat) := by omega
            have kd3 : decide ((300 : Int) < (n7 : Nat)) = true := decide_eq_true kw3
            have HXF := HX
            have HE : Hid (Below w.heap.size w w1) := HB.out.trans (HXF.out.mono HB.out.size)
            go_wp2_with fail
            go_ret
            exact ⟨any_no, HE.out⟩
          · have kw3 : ¬ (300 : Int) < (n7 : Nat) := by omega
            have kd3 : decide ((300 : Int) < (n7 : Nat)) = false := decide_eq_false kw3
            go_wp2_with fail
            clear a0 a1 a2 a3 a4 a5 a6 a7
            go_loopg [45] n4 (fun g i_ wr => ∃ (i4 : Nat), i4 ≤ n4 ∧ n4 - i4 ≤ g ∧ i_ = .int .i64 (i4 : Nat) ∧ Hid (∀ x ∈ D.take i4, docS x) ∧ Hid (Below W0.heap.size W0 wr))
            case atStart => exact ⟨0, by omega, by omega, rfl, take_zero, HX⟩
            case round =>
              clear HX
              obtain ⟨i4, hi4, hg4, rfl, HV, HX⟩ := hrel
              by_cases hin : i4 < n4
              · have iwi4 : ((i4 : Nat) : Int) < (n4 : Int) := by omega
                have n0i4 : (0 : Int) ≤ ((i4 : Nat) : Int) := by omega
                have hixi4 : i4 < D.length := by rw [← HN4.out]; exact hin
                obtain ⟨b1, f1, s1_, rfl, hlt1, _, hR1, hc1⟩ := (HD4.out wr HX.out).get hixi4
                obtain ⟨x, hx⟩ : ∃ z, z = D[i4] := ⟨_, rfl⟩
                have hmem : x ∈ D := hx ▸ List.getElem_mem hixi4
                rw [← hx] at hR1
                have HXI : Hid (D[i4] = x) := hx.symm
                obtain ⟨r1, d1, rfl, q1⟩ := docM_cells hR1
                obtain ⟨z0, hz0⟩ : ∃ q, q = x.1 := ⟨_, rfl⟩
                obtain ⟨m1, hm1⟩ : ∃ q, q = x.2.length := ⟨_, rfl⟩
                rw [← hz0, ← hm1] at hc1
                rw [← hm1] at q1
                have HMM := Lib.hid hm1
                have e0 : wr.cell? ⟨b1, f1 + i4 * 2, none⟩ = some (.bool z0) := hc1 0 _ rfl
                have e1 : wr.cell? ⟨b1, f1 + i4 * 2 + 1, none⟩ = some (.slice r1 m1 d1) := hc1 1 _ rfl
                obtain ⟨bX, pX, lX⟩ := box1 wr #[.bool z0, .slice r1 m1 d1] 59
                obtain ⟨W5, hW5⟩ : ∃ W5, W5 = wr.alloc (.cells #[.bool z0, .slice r1 m1 d1] 59) := ⟨_, rfl⟩
                rw [← hW5] at bX pX lX
                obtain ⟨X, hX⟩ : ∃ X, X = wr.heap.size := ⟨_, rfl⟩
                rw [← hX] at pX lX
                have HW5 := Lib.hid hW5
                have HXX : Hid (wr.heap.size = X) := hX.symm
                have HX5 : Hid (Below W0.heap.size W0 W5) := below_on HX.out bX
                have HQ1 : Hid (RowP segM P W5 (.slice r1 m1 d1) x.2) := q1.keep segM_ok (Keep.below bX)
                have HML : Hid (x ∈ D) := hmem
                obtain ⟨g0, g1⟩ := two_cells pX
                clear hc1 hR1 hx hlt1 hX hW5 bX pX lX hmem hz0 hm1 q1
                go_upto_region 7 with fail
                rw [← HW5.out, HXX.out]
                clear e0 e1
                have C6 := Lib.hid (sm06 x.2 W5 HQ1.out (HT.out.1 x HML.out))
                clear HQ1 HML
                go_wp2_with fail
                refine C6.out.mono ?_
                rintro e w7 ⟨⟨b, rfl, hb⟩, b7⟩
                have HX7 : Hid (Below W0.heap.size W0 w7) := below_on HX5.out b7
                clear b7 C6 g0 g1
                cases b with
                | false =>
                  have HXF := HX7
                  have HE : Hid (Below w.heap.size w w7) := HB.out.trans (HXF.out.mono HB.out.size)
                  go_wp2_with fail
                  go_ret
                  exact ⟨any_no, HE.out⟩
                | true =>
                  have HV2 : Hid (∀ x ∈ D.take (i4 + 1), docS x) := take_step hixi4 HV.out (by rw [HXI.out]; exact hb rfl)
                  clear HV HXI HMM hb
                  go_wp2_with fail
                  go_roundg (n4 - (i4 + 1))
                  case measure => omega
                  case rel => exact ⟨i4 + 1, by omega, Nat.le_refl _, by go_num, HV2, HX7⟩
              · obtain rfl : n4 = i4 := by omega
                have iwi4 : ¬ ((n4 : Nat) : Int) < ((n4 : Nat) : Int) := by omega
                have HDs : Hid (∀ x ∈ D, docS x) := take_whole HN4.out HV.out
                clear HV hi4 hg4 hin
                obtain ⟨a0, a1, a2, a3, a4, a5, a6, a7⟩ := eight_cells ((HX.out.block R (by have := HL.out; omega)).trans HP.out)
                go_wp2_with fail
                clear a0 a1 a2 a3 a4 a5 a6 a7
                go_loopg [3, 57] n5 (fun g a_ i_ wr => ∃ (i5 : Nat) (acc : Nat), i5 ≤ n5 ∧ n5 - i5 ≤ g ∧ i_ = .int .i64 (i5 : Nat) ∧ a_ = .int .i64 (acc : Nat) ∧ acc ≤ i5 * 8444249301319680 ∧ Hid (∀ x ∈ K.take i5, stkS acc x) ∧ Hid (Below W0.heap.size W0 wr))
                case atStart => exact ⟨0, 0, by omega, by omega, rfl, rfl, by omega, take_zero, HX⟩
                case round =>
                  clear HX
                  obtain ⟨i5, acc, hi5, hg5, rfl, rfl, hacc, HV, HX⟩ := hrel
                  by_cases hin : i5 < n5
                  · have iwi5 : ((i5 : Nat) : Int) < (n5 : Int) := by omega
                    have n0i5 : (0 : Int) ≤ ((i5 : Nat) : Int) := by omega
                    have hixi5 : i5 < K.length := by rw [← HN5.out]; exact hin
                    obtain ⟨b1, f1, s1_, rfl, hlt1, _, hR1, hc1⟩ := (HD5.out wr HX.out).get hixi5
                    obtain ⟨xk, hx⟩ : ∃ z, z = K[i5] := ⟨_, rfl⟩
                    have hmem : xk ∈ K := hx ▸ List.getElem_mem hixi5
                    rw [← hx] at hR1
                    have HXI : Hid (K[i5] = xk) := hx.symm
                    obtain ⟨r1, d1, rfl, q1⟩ := stkM_cells hR1
                    obtain ⟨na, hna⟩ : ∃ q, q = xk.length := ⟨_, rfl⟩
                    rw [← hna] at hc1 q1
                    have hmna : na ≤ 9223372036854775807 := by have q := q1.len; simp only [maxLen] at q; omega
                    have HNA := Lib.hid hna
                    have m1 : wr.cell? ⟨b1, f1 + i5, none⟩ = some (.slice r1 na d1) := by have q := hc1 0 _ rfl; rw [show f1 + i5 * stkM.k + 0 = f1 + i5 from by show f1 + i5 * 1 + 0 = _; omega] at q; exact q
                    have HTX : Hid (∀ y ∈ xk, y.2.2.2.2.length ≤ 140737488355328) := HT.out.2.1 xk hmem
                    have HXIO := HXI
                    have HVO := HV
                    have HXO := HX
                    obtain ⟨WI, hWI⟩ : ∃ WI : World, WI = wr := ⟨_, rfl⟩
                    subst hWI
                    have HQ1 : Hid (∀ w', Below WI.heap.size WI w' → RowP thgM P w' (.slice r1 na d1) xk) := fun w' b => q1.keep thgM_ok (Keep.below b)
                    obtain ⟨a_0, ha_0⟩ : ∃ q : Nat, q = acc := ⟨_, rfl⟩
                    subst ha_0
                    clear hR1 hc1 hna hx hmem q1 hlt1 HXI HV HX
                    by_cases k0 : 60 < na
                    · have kw0 : (60 : Int) < (na : Nat) := by omega
                      have kd0 : decide ((60 : Int) < (na : Nat)) = true := decide_eq_true kw0
                      have HXF := HXO
                      have HE : Hid (Below w.heap.size w WI) := HB.out.trans (HXF.out.mono HB.out.size)
                      go_wp2_with fail
                      go_ret
                      exact ⟨any_no, HE.out⟩
                    · have kw0 : ¬ (60 : Int) < (na : Nat) := by omega
                      have kd0 : decide ((60 : Int) < (na : Nat)) = false := decide_eq_false kw0
                      have HX : Hid (Below WI.heap.size WI WI) := Below.refl _ _
                      go_wp2_with fail
                      clear m1
                      go_loopg [3, 66] na (fun g a_ i_ wr => ∃ (j5 : Nat) (acc : Nat), j5 ≤ na ∧ na - j5 ≤ g ∧ i_ = .int .i64 (j5 : Nat) ∧ a_ = .int .i64 (acc : Nat) ∧ a_0 ≤ acc ∧ acc ≤ a_0 + j5 * 140737488355328 ∧ Hid (∀ x ∈ xk.take j5, thgS acc x) ∧ Hid (Below WI.heap.size WI wr))
                      case atStart => exact ⟨0, _, by omega, by omega, rfl, rfl, by omega, by omega, take_zero, HX⟩
                      case round =>
                        clear HX
                        obtain ⟨j5, acc, hj5, hgj5, rfl, rfl, hac1, hac2, HV, HX⟩ := hrel
                        by_cases hin : j5 < na
                        · have iwj5 : ((j5 : Nat) : Int) < (na : Int) := by omega
                          have n0j5 : (0 : Int) ≤ ((j5 : Nat) : Int) := by omega
                          have hixj5 : j5 < xk.length := by rw [← HNA.out]; exact hin
                          obtain ⟨b1, f1, s1_, rfl, hlt1, _, hR1, hc1⟩ := (HQ1.out wr HX.out).get hixj5
                          obtain ⟨y, hx⟩ : ∃ z, z = xk[j5] := ⟨_, rfl⟩
                          have hmem : y ∈ xk := hx ▸ List.getElem_mem hixj5
                          rw [← hx] at hR1
                          have HXI : Hid (xk[j5] = y) := hx.symm
                          obtain rfl := thgM_cells hR1
                          obtain ⟨z0, hz0⟩ : ∃ q, q = y.1 := ⟨_, rfl⟩
                          obtain ⟨z1, hz1⟩ : ∃ q, q = y.2.1 := ⟨_, rfl⟩
                          obtain ⟨z2, hz2⟩ : ∃ q, q = y.2.2.1 := ⟨_, rfl⟩
                          obtain ⟨z3, hz3⟩ : ∃ q, q = y.2.2.2.1 := ⟨_, rfl⟩
                          obtain ⟨m4, hm4⟩ : ∃ q, q = y.2.2.2.2.length := ⟨_, rfl⟩
                          obtain ⟨t4, ht4⟩ : ∃ q, q = mkB y.2.2.2.2 := ⟨_, rfl⟩
                          have y4 : t4.size = m4 := by rw [ht4, mkB_size, hm4]
                          rw [← hz0, ← hz1, ← hz2, ← hz3, ← ht4] at hc1
                          have hb4 : m4 ≤ 140737488355328 := by rw [hm4]; exact HTX.out y hmem
                          have HMM := Lib.hid hm4
                          have e0 : wr.cell? ⟨b1, f1 + j5 * 5, none⟩ = some (.int .i64 z0) := hc1 0 _ rfl
                          have e1 : wr.cell? ⟨b1, f1 + j5 * 5 + 1, none⟩ = some (.int .i64 z1) := hc1 1 _ rfl
                          have e2 : wr.cell? ⟨b1, f1 + j5 * 5 + 2, none⟩ = some (.int .i64 z2) := hc1 2 _ rfl
                          have e3 : wr.cell? ⟨b1, f1 + j5 * 5 + 3, none⟩ = some (.int .i64 z3) := hc1 3 _ rfl
                          have e4 : wr.cell? ⟨b1, f1 + j5 * 5 + 4, none⟩ = some (.string t4) := hc1 4 _ rfl
                          obtain ⟨bX, pX, lX⟩ := box1 wr #[.int .i64 z0, .int .i64 z1, .int .i64 z2, .int .i64 z3, .string t4] 63
                          obtain ⟨W5, hW5⟩ : ∃ W5, W5 = wr.alloc (.cells #[.int .i64 z0, .int .i64 z1, .int .i64 z2, .int .i64 z3, .string t4] 63) := ⟨_, rfl⟩
                          rw [← hW5] at bX pX lX
                          obtain ⟨X, hX⟩ : ∃ X, X = wr.heap.size := ⟨_, rfl⟩
                          rw [← hX] at pX lX
                          have HW5 := Lib.hid hW5
                          have HXX : Hid (wr.heap.size = X) := hX.symm
                          have HX5 : Hid (Below WI.heap.size WI W5) := below_on HX.out bX
                          obtain ⟨g0, g1, g2, g3, g4⟩ := five_cells' pX
                          clear hc1 hR1 hx hlt1 hX hW5 bX pX lX hmem hz0 hz1 hz2 hz3 ht4 hm4 
                          go_upto_region 18 with fail
                          rw [← HW5.out, HXX.out]
                          clear e0 e1 e2 e3 e4
                          have z_0 : IntKind.i64.wrap (((acc : Nat) : Int) + (m4 : Nat)) = ((acc : Nat) : Int) + (m4 : Nat) := IntWalk.i64_in _ (by omega)
                          have HV2 : Hid (∀ x ∈ xk.take (j5 + 1), thgS (acc + m4) x) := take_step hixj5 (take_mono HV.out (fun _ h => Nat.le_trans h (by omega))) (by rw [HXI.out]; show _ ≤ _; rw [← HMM.out]; omega)
                          clear HV HXI HMM
                          go_wp2_with fail
                          go_roundg (na - (j5 + 1))
                          case measure => omega
                          case rel => exact ⟨j5 + 1, acc + m4, by omega, Nat.le_refl _, by go_num, by simp, by omega, by omega, HV2, HX5⟩
                        · obtain rfl : na = j5 := by omega
                          have iwj5 : ¬ ((na : Nat) : Int) < ((na : Nat) : Int) := by omega
                          have HV2 : Hid (∀ x ∈ K.take (i5 + 1), stkS acc x) := take_step hixi5 (take_mono HVO.out (stkS_mono (by omega))) (by rw [HXIO.out]; exact ⟨by rw [← HNA.out]; omega, take_whole HNA.out HV.out⟩)
                          have HX9 : Hid (Below W0.heap.size W0 wr) := below_on HXO.out HX.out
                          clear HV HVO HXIO HX
                          go_wp2_with fail
                          go_roundg (n5 - (i5 + 1))
                          case measure => omega
                          case rel => exact ⟨i5 + 1, acc, by omega, Nat.le_refl _, by go_num, rfl, by omega, HV2, HX9⟩
                  · obtain rfl : n5 = i5 := by omega
                    have iwi5 : ¬ ((n5 : Nat) : Int) < ((n5 : Nat) : Int) := by omega
                    have HKs : Hid (∀ x ∈ K, stkS acc x) := take_whole HN5.out HV.out
                    clear HV hi5 hg5 hin
                    obtain ⟨a0, a1, a2, a3, a4, a5, a6, a7⟩ := eight_cells ((HX.out.block R (by have := HL.out; omega)).trans HP.out)
                    go_wp2_with fail
                    clear a0 a1 a2 a3 a4 a5 a6 a7
                    go_loopg [3, 80] n6 (fun g a_ i_ wr => ∃ (i6 : Nat) (acc : Nat), i6 ≤ n6 ∧ n6 - i6 ≤ g ∧ i_ = .int .i64 (i6 : Nat) ∧ a_ = .int .i64 (acc : Nat) ∧ acc ≤ 168884986026393600 + i6 * 281474976710656 ∧ Hid (∀ x ∈ K, stkS acc x) ∧ Hid (∀ x ∈ E.take i6, seaS acc x) ∧ Hid (Below W0.heap.size W0 wr))
                    case atStart => exact ⟨0, _, by omega, by omega, rfl, rfl, by omega, HKs, take_zero, HX⟩
                    case round =>
                      clear HX HKs
                      obtain ⟨i6, acc, hi6, hg6, rfl, rfl, hacc, HKs, HV, HX⟩ := hrel
                      by_cases hin : i6 < n6
                      · have iwi6 : ((i6 : Nat) : Int) < (n6 : Int) := by omega
                        have n0i6 : (0 : Int) ≤ ((i6 : Nat) : Int) := by omega
                        have hixi6 : i6 < E.length := by rw [← HN6.out]; exact hin
                        obtain ⟨b1, f1, s1_, rfl, hlt1, _, hR1, hc1⟩ := (HD6.out wr HX.out).get hixi6
                        obtain ⟨x, hx⟩ : ∃ z, z = E[i6] := ⟨_, rfl⟩
                        have hmem : x ∈ E := hx ▸ List.getElem_mem hixi6
                        rw [← hx] at hR1
                        have HXI : Hid (E[i6] = x) := hx.symm
                        obtain rfl := seaM_cells hR1
                        obtain ⟨m0, hm0⟩ : ∃ q, q = x.1.length := ⟨_, rfl⟩
                        obtain ⟨t0, ht0⟩ : ∃ q, q = mkB x.1 := ⟨_, rfl⟩
                        have y0 : t0.size = m0 := by rw [ht0, mkB_size, hm0]
                        obtain ⟨z1, hz1⟩ : ∃ q, q = x.2.1 := ⟨_, rfl⟩
                        obtain ⟨z2, hz2⟩ : ∃ q, q = x.2.2.1 := ⟨_, rfl⟩
                        obtain ⟨z3, hz3⟩ : ∃ q, q = x.2.2.2.1 := ⟨_, rfl⟩
                        obtain ⟨m4, hm4⟩ : ∃ q, q = x.2.2.2.2.length := ⟨_, rfl⟩
                        obtain ⟨t4, ht4⟩ : ∃ q, q = mkB x.2.2.2.2 := ⟨_, rfl⟩
                        have y4 : t4.size = m4 := by rw [ht4, mkB_size, hm4]
                        rw [← ht0, ← hz1, ← hz2, ← hz3, ← ht4] at hc1
                        have hb0 : m0 ≤ 140737488355328 := by rw [hm0]; exact (HT.out.2.2 x hmem).1
                        have hb4 : m4 ≤ 140737488355328 := by rw [hm4]; exact (HT.out.2.2 x hmem).2
                        have HMM := Lib.hid (And.intro hm0 hm4)
                        have e0 : wr.cell? ⟨b1, f1 + i6 * 5, none⟩ = some (.string t0) := hc1 0 _ rfl
                        have e1 : wr.cell? ⟨b1, f1 + i6 * 5 + 1, none⟩ = some (.int .i64 z1) := hc1 1 _ rfl
                        have e2 : wr.cell? ⟨b1, f1 + i6 * 5 + 2, none⟩ = some (.int .i64 z2) := hc1 2 _ rfl
                        have e3 : wr.cell? ⟨b1, f1 + i6 * 5 + 3, none⟩ = some (.int .i64 z3) := hc1 3 _ rfl
                        have e4 : wr.cell? ⟨b1, f1 + i6 * 5 + 4, none⟩ = some (.string t4) := hc1 4 _ rfl
                        obtain ⟨bX, pX, lX⟩ := box1 wr #[.string t0, .int .i64 z1, .int .i64 z2, .int .i64 z3, .string t4] 65
                        obtain ⟨W5, hW5⟩ : ∃ W5, W5 = wr.alloc (.cells #[.string t0, .int .i64 z1, .int .i64 z2, .int .i64 z3, .string t4] 65) := ⟨_, rfl⟩
                        rw [← hW5] at bX pX lX
                        obtain ⟨X, hX⟩ : ∃ X, X = wr.heap.size := ⟨_, rfl⟩
                        rw [← hX] at pX lX
                        have HW5 := Lib.hid hW5
                        have HXX : Hid (wr.heap.size = X) := hX.symm
                        have HX5 : Hid (Below W0.heap.size W0 W5) := below_on HX.out bX
                        obtain ⟨g0, g1, g2, g3, g4⟩ := five_cells' pX
                        clear hc1 hR1 hx hlt1 hX hW5 bX pX lX hmem ht0 hz1 hz2 hz3 ht4 hm0 hm4 
                        go_upto_region 24 with fail
                        rw [← HW5.out, HXX.out]
                        clear e0 e1 e2 e3 e4
                        have z_0 : IntKind.i64.wrap (((m0 : Nat) : Int) + (m4 : Nat)) = ((m0 : Nat) : Int) + (m4 : Nat) := IntWalk.i64_in _ (by omega)
                        have z_1 : IntKind.i64.wrap (((acc : Nat) : Int) + (((m0 : Nat) : Int) + (m4 : Nat))) = ((acc : Nat) : Int) + (((m0 : Nat) : Int) + (m4 : Nat)) := IntWalk.i64_in _ (by omega)
                        have HV2 : Hid (∀ x ∈ E.take (i6 + 1), seaS (acc + (m0 + m4)) x) := take_step hixi6 (take_mono HV.out (seaS_mono (by omega))) (by rw [HXI.out]; exact ⟨by rw [← HMM.out.1]; omega, by rw [← HMM.out.2]; omega⟩)
                        have HK2 : Hid (∀ x ∈ K, stkS (acc + (m0 + m4)) x) := take_mono HKs.out (stkS_mono (by omega))
                        clear HV HXI HMM HKs
                        go_wp2_with fail
                        go_roundg (n6 - (i6 + 1))
                        case measure => omega
                        case rel => exact ⟨i6 + 1, acc + (m0 + m4), by omega, Nat.le_refl _, by go_num, by simp, by omega, HK2, HV2, HX5⟩
                      · obtain rfl : n6 = i6 := by omega
                        have iwi6 : ¬ ((n6 : Nat) : Int) < ((n6 : Nat) : Int) := by omega
                        have HEs : Hid (∀ x ∈ E, seaS acc x) := take_whole HN6.out HV.out
                        clear HV hi6 hg6 hin
                        obtain ⟨a0, a1, a2, a3, a4, a5, a6, a7⟩ := eight_cells ((HX.out.block R (by have := HL.out; omega)).trans HP.out)
                        go_wp2_with fail
                        clear a0 a1 a2 a3 a4 a5 a6 a7
                        go_loopg [97] n7 (fun g i_ wr => ∃ (i7 : Nat), i7 ≤ n7 ∧ n7 - i7 ≤ g ∧ i_ = .int .i64 (i7 : Nat) ∧ Hid (∀ x ∈ A.take i7, entS x) ∧ Hid (Below W0.heap.size W0 wr))
                        case atStart => exact ⟨0, by omega, by omega, rfl, take_zero, HX⟩
                        case round =>
                          clear HX
                          obtain ⟨i7, hi7, hg7, rfl, HV, HX⟩ := hrel
                          by_cases hin : i7 < n7
                          · have iwi7 : ((i7 : Nat) : Int) < (n7 : Int) := by omega
                            have n0i7 : (0 : Int) ≤ ((i7 : Nat) : Int) := by omega
                            have hixi7 : i7 < A.length := by rw [← HN7.out]; exact hin
                            obtain ⟨b1, f1, s1_, rfl, hlt1, _, hR1, hc1⟩ := (HD7.out wr HX.out).get hixi7
                            obtain ⟨x, hx⟩ : ∃ z, z = A[i7] := ⟨_, rfl⟩
                            have hmem : x ∈ A := hx ▸ List.getElem_mem hixi7
                            rw [← hx] at hR1
                            have HXI : Hid (A[i7] = x) := hx.symm
                            obtain ⟨r3, d3, r4, d4, rfl, q3, q4⟩ := entM_cells hR1
                            obtain ⟨z0, hz0⟩ : ∃ q, q = x.1 := ⟨_, rfl⟩
                            obtain ⟨z1, hz1⟩ : ∃ q, q = x.2.1 := ⟨_, rfl⟩
                            obtain ⟨z2, hz2⟩ : ∃ q, q = x.2.2.1 := ⟨_, rfl⟩
                            obtain ⟨m3, hm3⟩ : ∃ q, q = x.2.2.2.1.length := ⟨_, rfl⟩
                            obtain ⟨m4, hm4⟩ : ∃ q, q = x.2.2.2.2.length := ⟨_, rfl⟩
                            rw [← hz0, ← hz1, ← hz2, ← hm3, ← hm4] at hc1
                            rw [← hm3] at q3
                            rw [← hm4] at q4
                            have HMM := Lib.hid (And.intro hm3 hm4)
                            have e0 : wr.cell? ⟨b1, f1 + i7 * 5, none⟩ = some (.int .i64 z0) := hc1 0 _ rfl
                            have e1 : wr.cell? ⟨b1, f1 + i7 * 5 + 1, none⟩ = some (.int .i64 z1) := hc1 1 _ rfl
                            have e2 : wr.cell? ⟨b1, f1 + i7 * 5 + 2, none⟩ = some (.int .i64 z2) := hc1 2 _ rfl
                            have e3 : wr.cell? ⟨b1, f1 + i7 * 5 + 3, none⟩ = some (.slice r3 m3 d3) := hc1 3 _ rfl
                            have e4 : wr.cell? ⟨b1, f1 + i7 * 5 + 4, none⟩ = some (.slice r4 m4 d4) := hc1 4 _ rfl
                            obtain ⟨bX, pX, lX⟩ := box1 wr #[.int .i64 z0, .int .i64 z1, .int .i64 z2, .slice r3 m3 d3, .slice r4 m4 d4] 67
                            obtain ⟨W5, hW5⟩ : ∃ W5, W5 = wr.alloc (.cells #[.int .i64 z0, .int .i64 z1, .int .i64 z2, .slice r3 m3 d3, .slice r4 m4 d4] 67) := ⟨_, rfl⟩
                            rw [← hW5] at bX pX lX
                            obtain ⟨X, hX⟩ : ∃ X, X = wr.heap.size := ⟨_, rfl⟩
                            rw [← hX] at pX lX
                            have HW5 := Lib.hid hW5
                            have HXX : Hid (wr.heap.size = X) := hX.symm
                            have HX5 : Hid (Below W0.heap.size W0 W5) := below_on HX.out bX
                            obtain ⟨g0, g1, g2, g3, g4⟩ := five_cells' pX
                            clear hc1 hR1 hx hlt1 hX hW5 bX pX lX hmem hz0 hz1 hz2 hm3 hm4 q3 q4
                            go_upto_region 29 with fail
                            rw [← HW5.out, HXX.out]
                            clear e0 e1 e2 e3 e4
                            by_cases k0 : 300 < m3
                            · have kw0 : (300 : Int) < (m3 : Nat) := by omega
                              have kd0 : decide ((300 : Int) < (m3 : Nat)) = true := decide_eq_true kw0
                              have HXF := HX5
                              have HE : Hid (Below w.heap.size w W5) := HB.out.trans (HXF.out.mono HB.out.size)
                              go_wp2_with fail
                              go_ret
                              exact ⟨any_no, HE.out⟩
                            · have kw0 : ¬ (300 : Int) < (m3 : Nat) := by omega
                              have kd0 : decide ((300 : Int) < (m3 : Nat)) = false := decide_eq_false kw0
                              by_cases k1 : 300 < m4
                              · have kw1 : (300 : Int) < (m4 : Nat) := by omega
                                have kd1 : decide ((300 : Int) < (m4 : Nat)) = true := decide_eq_true kw1
                                have HXF := HX5
                                have HE : Hid (Below w.heap.size w W5) := HB.out.trans (HXF.out.mono HB.out.size)
                                go_wp2_with fail
                                go_ret
                                exact ⟨any_no, HE.out⟩
                              · have kw1 : ¬ (300 : Int) < (m4 : Nat) := by omega
                                have kd1 : decide ((300 : Int) < (m4 : Nat)) = false := decide_eq_false kw1
                                have HV2 : Hid (∀ x ∈ A.take (i7 + 1), entS x) := take_step hixi7 HV.out (by rw [HXI.out]; exact ⟨by rw [← HMM.out.1]; omega, by rw [← HMM.out.2]; omega⟩)
                                clear HV HXI HMM
                                go_wp2_with fail
                                go_roundg (n7 - (i7 + 1))
                                case measure => omega
                                case rel => exact ⟨i7 + 1, by omega, Nat.le_refl _, by go_num, HV2, HX5⟩
                          · obtain rfl : n7 = i7 := by omega
                            have iwi7 : ¬ ((n7 : Nat) : Int) < ((n7 : Nat) : Int) := by omega
                            have HA : Hid (∀ x ∈ A, entS x) := take_whole HN7.out HV.out
                            clear HV
                            have HE : Hid (Below w.heap.size w wr) := HB.out.trans (HX.out.mono HB.out.size)
                            by_cases k : acc ≤ 70000
                            · have kw : (acc : Int) ≤ 70000 := by omega
                              have kd : decide ((acc : Int) ≤ 70000) = true := decide_eq_true kw
                              have HR1 : Hid (AnyS (staS (x0, x1, x2, L, D, K, E, A)) (.returned (.bool true))) := HG.out true (any_yes ⟨HLs.out, ⟨by omega, HDs.out⟩, ⟨by omega, take_mono HKs.out (stkS_mono k)⟩, ⟨by omega, take_mono HEs.out (seaS_mono k)⟩, by omega, HA.out⟩)
                              go_wp2_with fail
                              go_ret
                              exact ⟨HR1.out, HE.out⟩
                            · have kw : ¬ (acc : Int) ≤ 70000 := by omega
                              have kd : decide ((acc : Int) ≤ 70000) = false := decide_eq_false kw
                              go_wp2_with fail
                              go_ret
                              exact ⟨any_no, HE.out⟩
end Go.Proofs.YtmdgjcikekojdaaGreatDoor.Sta
/- State: the walk of StateWrites. -/
set_option linter.unusedVariables false
set_option linter.unusedSimpArgs false
set_option maxRecDepth 100000
namespace Go.Proofs.YtmdgjcikekojdaaGreatDoor.Sta
open Go.RowKit Go.Lib Go.Proofs.YtmdgjcikekojdaaGreatDoor.Bx Go.Proofs.YtmdgjcikekojdaaGreatDoor.Frm Go.Proofs.YtmdgjcikekojdaaGreatDoor.Wds

theorem flat_le {α : Type} (f : α → List UInt8) (c : Nat) : ∀ (xs : List α), (∀ x ∈ xs, (f x).length ≤ c) → (xs.flatMap f).length ≤ xs.length * c
  | [], _ => by simp
  | x :: xs, h => by
    have h1 := flat_le f c xs (fun y hy => h y (List.mem_cons_of_mem _ hy))
    have h2 := h x List.mem_cons_self
    rw [List.flatMap_cons, List.length_append, List.length_cons, Nat.succ_mul]
    omega
theorem text_len (l : List UInt8) : (textL l).length = l.length + 2 := by rw [textL_is, List.length_append, pair_len]; omega
theorem nums_len (l : List Int) : ((listC numC).enc l).length = 8 * l.length + 2 := by rw [numsL_is, List.length_append, pair_len, flat_num]; omega
theorem lab_len {x : Lab} (h : labS x) : (labC.enc x).length ≤ 1620 := by
  rw [labW_is]
  simp only [List.length_append, num_len, nums_len]
  have h1 := h.1
  have h2 := h.2
  omega
theorem seg_len {x : Seg} (h : segS x) : (segC.enc x).length ≤ 130000 := by
  rw [segC_is]
  unfold segA
  have h1 := h.1
  have h2 := h.2.1
  have h3 := h.2.2
  have f1 := flat_le spnC.enc 24 x.2.2.2.1 (fun y _ => by rw [spnC_is]; simp only [List.length_append, num_len]; omega)
  have f2 := flat_le sitC.enc 16 x.2.2.2.2 (fun y _ => by rw [sitC_is]; simp only [List.length_append, num_len]; omega)
  simp only [List.length_append, num_len, text_len, pair_len]
  omega
theorem doc_len {x : Doc} (h : docS x) : (docC.enc x).length ≤ 5300000 := by
  rw [docC_is]
  have f1 := flat_le segC.enc 130000 x.2 (fun y hy => seg_len (h.2 y hy))
  have h1 := h.1
  have h2 : (flagL x.1).length = 1 := by cases x.1 <;> rfl
  simp only [List.length_append, pair_len]
  omega
theorem stk_len {x : List Thg} (h : stkS 70000 x) : (stkC.enc x).length ≤ 4300000 := by
  rw [stkW_is]
  have f1 := flat_le thgC.enc 70034 x (fun y hy => by
    have h1 : y.2.2.2.2.length ≤ 70000 := h.2 y hy
    rw [thgW_is]
    simp only [List.length_append, num_len, text_len]
    omega)
  have h1 := h.1
  simp only [List.length_append, pair_len]
  omega
theorem sea_len {x : Sea} (h : seaS 70000 x) : (seaC.enc x).length ≤ 140028 := by
  rw [seaW_is]
  have h1 := h.1
  have h2 := h.2
  simp only [List.length_append, num_len, text_len]
  omega
theorem ent_len {x : Ent} (h : entS x) : (entC.enc x).length ≤ 4828 := by
  rw [entW_is]
  have h1 := h.1
  have h2 := h.2
  simp only [List.length_append, num_len, nums_len]
  omega
theorem sta_len {S : Sta} (h : staS S) : (staC.enc S).length ≤ 290000000 := by
  obtain ⟨x0, x1, x2, L, D, K, E, A⟩ := S
  obtain ⟨⟨l1, l2⟩, ⟨d1, d2⟩, ⟨k1, k2⟩, ⟨e1, e2⟩, a1, a2⟩ := h
  simp only at l1 l2 d1 d2 k1 k2 e1 e2 a1 a2
  rw [staW_is]
  have f1 := flat_le labC.enc 1620 L (fun y hy => lab_len (l2 y hy))
  have f2 := flat_le docC.enc 5300000 D (fun y hy => doc_len (d2 y hy))
  have f3 := flat_le stkC.enc 4300000 K (fun y hy => stk_len (k2 y hy))
  have f4 := flat_le seaC.enc 140028 E (fun y hy => sea_len (e2 y hy))
  have f5 := flat_le entC.enc 4828 A (fun y hy => ent_len (a2 y hy))
  simp only [List.length_append, num_len, pair_len]
  omega
theorem big_bigT {S : Sta} (h : BigS S) : BigT S := ⟨fun x hx y hy => Nat.le_trans (h.1 x hx y hy).1 (by decide), fun x hx y hy => Nat.le_trans (h.2.1 x hx y hy) (by decide), fun x hx => ⟨Nat.le_trans (h.2.2 x hx).1 (by decide), Nat.le_trans (h.2.2 x hx).2 (by decide)⟩⟩
theorem listG_rng {α : Type} {g : α → Prop} {c : Cod α} (h : ∀ x, g x → c.rng x) {xs : List α} (hx : listG g xs) : (listC c).rng xs := fun x hm => h x (hx.2 x hm)
theorem rng_lab (x : Lab) (h : labG x) : labC.rng x := ⟨h.1, h.2.1, h.2.2.1.2, h.2.2.2.2⟩
theorem rng_spn (x : Spn) (h : spnG x) : spnC.rng x := h
theorem rng_sit (x : Sit) (h : sitG x) : sitC.rng x := h
theorem rng_seg (x : Seg) (h : segG x) : segC.rng x := ⟨h.1, h.2.1, trivial, listG_rng rng_spn h.2.2.2.1, listG_rng rng_sit h.2.2.2.2⟩
theorem rng_doc (x : Doc) (h : docG x) : docC.rng x := ⟨trivial, listG_rng rng_seg h.2⟩
theorem rng_thg (x : Thg) (h : thgG x) : thgC.rng x := ⟨h.1, h.2.1, h.2.2.1, h.2.2.2.1, trivial⟩
theorem rng_stk (x : List Thg) (h : listG thgG x) : stkC.rng x := listG_rng rng_thg h
theorem rng_sea (x : Sea) (h : seaG x) : seaC.rng x := ⟨trivial, h.2.1, h.2.2.1, h.2.2.2.1, trivial⟩
theorem rng_ent (x : Ent) (h : entG x) : entC.rng x := ⟨h.1, h.2.1, h.2.2.1, h.2.2.2.1.2, h.2.2.2.2.2⟩
theorem rng_sta (x : Sta) (h : staG x) : staC.rng x := ⟨h.1, h.2.1, h.2.2.1, listG_rng rng_lab h.2.2.2.1, listG_rng rng_doc h.2.2.2.2.1, listG_rng rng_stk h.2.2.2.2.2.1, listG_rng rng_sea h.2.2.2.2.2.2.1, listG_rng rng_ent h.2.2.2.2.2.2.2⟩
theorem wfresh_one : (writeE (freshS [(-1, 0, [0], [0])] 1)).2 = true ∧ (writeE (freshS [(-1, 0, [0], [0])] 1)).1.length = 72 ∧ (staC.enc (freshS [(-1, 0, [0], [0])] 1)).length = 72 := by decide +kernel
theorem writeE_yes {S : Sta} (h : staF S) : writeE S = (staC.enc S, true) := write_fit staC_ok ((fit_sta S).2 h)
theorem writeE_no {S : Sta} (h : ¬ staF S) : writeE S = ([], false) := write_bad staC_ok (fun h2 => h ((fit_sta S).1 h2))
theorem readE_yes {S : Sta} (h : staF S) (hr : staC.rng S) : readE (staC.enc S) = (S, true) := read_write (c := staC) (z := zeroS) staC_ok ((fit_sta S).2 h) hr
set_option maxHeartbeats 16000000 in
theorem writes_walk {cs : List Value} (S : Sta) (w : World) (hR : Slt.Roots w) (h : staM.R (fun _ => True) w cs S) (hg : staG S) : Calls Tryz.prog 3 #[.agg cs.toArray] w fun e w' => e = .returned (.bool true) ∧ Below w.heap.size w w' := by
  have hbig := staG_big hg
  have hrng := rng_sta S hg
  have HS := Lib.hid (fun w' (b : Below w.heap.size w w') => sm14 S w' (staM_ok.keep h (Keep.below b)) hbig)
  have HW1 := Lib.hid (fun w' (b : Below w.heap.size w w') (hl : (staC.enc S).length ≤ 290000000) => write_ok S cs w' (staM_ok.keep h (Keep.below b)) hl)
  have HW2 := Lib.hid (fun w' (b : Below w.heap.size w w') (hf : staF S) (hl : (staC.enc S).length ≤ 290000000) => write14_yes S w' (staM_ok.keep h (Keep.below b)) hf hl)
  have HW3 := Lib.hid (fun w' (b : Below w.heap.size w w') (hf : ¬ staF S) => write14_no S w' (staM_ok.keep h (Keep.below b)) (big_bigT hbig) hf)
  have HRG := Lib.hid hrng
  have C1 := Lib.hid (fun w' (b : Below w.heap.size w w') => one_ok w' (hR.below b (World.block_lt_of_cell? _ _ (hR 0 (by decide)))))
  clear hg hbig hrng hR
  have HSM := Lib.hid (fun w' (b : Below w.heap.size w w') => staM_ok.keep h (Keep.below b))
  obtain ⟨u3, c3, u4, c4, u5, c5, u6, c6, u7, c7, rfl, p3, p4, p5, p6, p7⟩ := staM_cells h
  clear h
  obtain ⟨x0, hx0⟩ : ∃ q, q = S.1 := ⟨_, rfl⟩
  obtain ⟨x1, hx1⟩ : ∃ q, q = S.2.1 := ⟨_, rfl⟩
  obtain ⟨x2, hx2⟩ : ∃ q, q = S.2.2.1 := ⟨_, rfl⟩
  rw [← hx0, ← hx1, ← hx2] at HS HW1 HW2 HW3 HSM ⊢
  obtain ⟨n3, hn3⟩ : ∃ n, n = S.2.2.2.1.length := ⟨_, rfl⟩
  have HN3 := Lib.hid hn3
  obtain ⟨n4, hn4⟩ : ∃ n, n = S.2.2.2.2.1.length := ⟨_, rfl⟩
  have HN4 := Lib.hid hn4
  obtain ⟨n5, hn5⟩ : ∃ n, n = S.2.2.2.2.2.1.length := ⟨_, rfl⟩
  have HN5 := Lib.hid hn5
  obtain ⟨n6, hn6⟩ : ∃ n, n = S.2.2.2.2.2.2.1.length := ⟨_, rfl⟩
  have HN6 := Lib.hid hn6
  obtain ⟨n7, hn7⟩ : ∃ n, n = S.2.2.2.2.2.2.2.length := ⟨_, rfl⟩
  have HN7 := Lib.hid hn7
  rw [← hn3, ← hn4, ← hn5, ← hn6, ← hn7] at HS HW1 HW2 HW3 HSM ⊢
  rw [← hn3] at p3
  rw [← hn4] at p4
  rw [← hn5] at p5
  rw [← hn6] at p6
  rw [← hn7] at p7
  have hm3 : n3 ≤ 9223372036854775807 := by have q := p3.len; simp only [maxLen] at q; omega
  have hm4 : n4 ≤ 9223372036854775807 := by have q := p4.len; simp only [maxLen] at q; omega
  have hm5 : n5 ≤ 9223372036854775807 := by have q := p5.len; simp only [maxLen] at q; omega
  have hm6 : n6 ≤ 9223372036854775807 := by have q := p6.len; simp only [maxLen] at q; omega
  have hm7 : n7 ≤ 9223372036854775807 := by have q := p7.len; simp only [maxLen] at q; omega
  clear hn3 hn4 hn5 hn6 hn7 HN3 HN4 HN5 HN6 HN7 hm3 hm4 hm5 hm6 hm7
  show Calls _ _ #[.agg #[.int .i64 x0, .int .i64 x1, .int .i64 x2, .slice u3 n3 c3, .slice u4 n4 c4, .slice u5 n5 c5, .slice u6 n6 c6, .slice u7 n7 c7]] _ _
  obtain ⟨B0, P0, L0⟩ := box1 w #[.int .i64 x0, .int .i64 x1, .int .i64 x2, .slice u3 n3 c3, .slice u4 n4 c4, .slice u5 n5 c5, .slice u6 n6 c6, .slice u7 n7 c7] 28
  obtain ⟨W0, hW0⟩ : ∃ W0, W0 = w.alloc (.cells #[.int .i64 x0, .int .i64 x1, .int .i64 x2, .slice u3 n3 c3, .slice u4 n4 c4, .slice u5 n5 c5, .slice u6 n6 c6, .slice u7 n7 c7] 28) := ⟨_, rfl⟩
  rw [← hW0] at B0 P0 L0
  obtain ⟨R, hR⟩ : ∃ R, R = w.heap.size := ⟨_, rfl⟩
  rw [← hR] at P0 L0
  have HB : Hid (Below w.heap.size w W0) := B0
  have HP := Lib.hid P0
  have HL : Hid (W0.heap.size = R + 1) := L0
  have HW := Lib.hid hW0
  have HR : Hid (w.heap.size = R) := hR.symm
  have HX : Hid (Below W0.heap.size W0 W0) := Below.refl _ _
  clear hR B0 P0 L0 hW0 p3 p4 p5 p6 p7 hx0 hx1 hx2
  go_enter Tryz.func3, Tryz.ntmps3
  obtain ⟨F0, hF0⟩ : ∃ F0, F0 = mkB (writeE (freshS [(-1, 0, [0], [0])] 1)).1 := ⟨_, rfl⟩
  have hF : F0.size = 72 := by rw [hF0, mkB_size]; exact wfresh_one.2.1
  have HF := Lib.hid hF0
  clear hF0
  go_upto_region 1 with fail
  rw [← HW.out, HR.out]
  clear HW HR
  have C1' := Lib.hid (C1.out W0 HB.out)
  clear C1
  go_wp2_with fail
  refine C1'.out.mono ?_
  rintro e w1 ⟨U, t, v1, rfl, b1, _, _, hrow⟩
  have C2 := Lib.hid (fresh_ok w1 (some ⟨U, 0, none⟩) 1 1 v1 [(-1, 0, [0], [0])] 9 2 2 1 1 5 0 hrow (by decide) (by intro x hx; simp only [List.mem_singleton] at hx; subst hx; decide) (by decide))
  have HX2 : Hid (Below W0.heap.size W0 w1) := below_on HX.out b1
  clear b1 HX
  have HX := HX2
  clear HX2
  clear hrow C1'
  go_wp2_with fail
  refine C2.out.mono ?_
  rintro e w2 ⟨v, rfl, ⟨cs2, rfl, hcs⟩, b2⟩
  have C3 : Hid (Calls Tryz.prog 4 #[.agg cs2.toArray] w2 fun e w' => e = .returned (.tuple #[.string F0, .bool true]) ∧ Below w2.heap.size w2 w') := by
    have h := write_ok (freshS [(-1, 0, [0], [0])] 1) cs2 w2 hcs (by rw [wfresh_one.2.2]; decide)
    rw [wfresh_one.1, ← HF.out] at h
    exact h
  have HX2 : Hid (Below W0.heap.size W0 w2) := below_on HX.out b2
  clear b2 HX
  have HX := HX2
  clear HX2
  clear C2 HF hcs
  go_wp2_with fail
  refine C3.out.mono ?_
  rintro e w3 ⟨rfl, b3⟩
  have HX2 : Hid (Below W0.heap.size W0 w3) := below_on HX.out b3
  clear b3 HX
  have HX := HX2
  clear HX2
  clear C3
  obtain ⟨a0, a1, a2, a3, a4, a5, a6, a7⟩ := eight_cells ((HX.out.block R (by have := HL.out; omega)).trans HP.out)
  have C4 : Hid (Calls Tryz.prog 7 #[.agg #[.int .i64 x0, .int .i64 x1, .int .i64 x2, .slice u3 n3 c3, .slice u4 n4 c4, .slice u5 n5 c5, .slice u6 n6 c6, .slice u7 n7 c7]] w3 fun e w'' => AnyS (staS S) e ∧ Below w3.heap.size w3 w'') := HS.out w3 (HB.out.trans (HX.out.mono HB.out.size))
  go_wp2_with fail
  refine C4.out.mono ?_
  rintro e w4 ⟨⟨b, rfl, hb⟩, b4⟩
  have HX2 : Hid (Below W0.heap.size W0 w4) := below_on HX.out b4
  clear b4 HX
  have HX := HX2
  clear HX2
  clear C4 HS a0 a1 a2 a3 a4 a5 a6 a7
  cases b with
  | false =>
    have HE : Hid (Below w.heap.size w w4) := HB.out.trans (HX.out.mono HB.out.size)
    go_wp2_with fail
    go_ret
    exact ⟨rfl, HE.out⟩
  | true =>
    have HSS : Hid (staS S) := hb rfl
    clear hb
    obtain ⟨a0, a1, a2, a3, a4, a5, a6, a7⟩ := eight_cells ((HX.out.block R (by have := HL.out; omega)).trans HP.out)
    obtain ⟨ok, hok⟩ : ∃ q, q = (writeE S).2 := ⟨_, rfl⟩
    obtain ⟨sv, hsv⟩ : ∃ q, q = mkB (writeE S).1 := ⟨_, rfl⟩
    have HOK := Lib.hid (And.intro hok hsv)
    have C5 : Hid (Calls Tryz.prog 4 #[.agg #[.int .i64 x0, .int .i64 x1, .int .i64 x2, .slice u3 n3 c3, .slice u4 n4 c4, .slice u5 n5 c5, .slice u6 n6 c6, .slice u7 n7 c7]] w4 fun e w'' => e = .returned (.tuple #[.string sv, .bool ok]) ∧ Below w4.heap.size w4 w'') := by
      have h := HW1.out w4 (HB.out.trans (HX.out.mono HB.out.size)) (sta_len HSS.out)
      rw [← hok, ← hsv] at h
      exact h
    clear hok hsv HW1
    go_wp2_with fail
    refine C5.out.mono ?_
    rintro e w5 ⟨rfl, b5⟩
    have HX2 : Hid (Below W0.heap.size W0 w5) := below_on HX.out b5
    clear b5 HX
    have HX := HX2
    clear HX2
    clear C5 a0 a1 a2 a3 a4 a5 a6 a7
    obtain ⟨a0, a1, a2, a3, a4, a5, a6, a7⟩ := eight_cells ((HX.out.block R (by have := HL.out; omega)).trans HP.out)
    have C6 : Hid (Calls Tryz.prog 8 #[.agg #[.int .i64 x0, .int .i64 x1, .int .i64 x2, .slice u3 n3 c3, .slice u4 n4 c4, .slice u5 n5 c5, .slice u6 n6 c6, .slice u7 n7 c7]] w5 fun e w'' => e = .returned (.tuple #[.string sv, .bool ok]) ∧ Below w5.heap.size w5 w'') := by
      have hb5 := HB.out.trans (HX.out.mono HB.out.size)
      by_cases hf : staF S
      · have h := HW2.out w5 hb5 hf (sta_len HSS.out)
        have e1 : ok = true := by rw [HOK.out.1, writeE_yes hf]
        have e2 : sv = mkB (staC.enc S) := by rw [HOK.out.2, writeE_yes hf]
        rw [e1, e2]
        exact h
      · have h := HW3.out w5 hb5 hf
        have e1 : ok = false := by rw [HOK.out.1, writeE_no hf]
        have e2 : sv = mkB [] := by rw [HOK.out.2, writeE_no hf]
        rw [e1, e2]
        exact h
    clear HW2 HW3
    go_wp2_with fail
    refine C6.out.mono ?_
    rintro e w6 ⟨rfl, b6⟩
    have HX2 : Hid (Below W0.heap.size W0 w6) := below_on HX.out b6
    clear b6 HX
    have HX := HX2
    clear HX2
    clear C6 a0 a1 a2 a3 a4 a5 a6 a7
    cases ok with
    | false =>
      have HE : Hid (Below w.heap.size w w6) := HB.out.trans (HX.out.mono HB.out.size)
      go_wp2_with fail
      go_ret
      exact ⟨rfl, HE.out⟩
    | true =>
      have hf : staF S := Classical.byContradiction fun hf => by have := HOK.out.1; rw [writeE_no hf] at this; cases this
      have hsv : sv = mkB (staC.enc S) := by rw [HOK.out.2, writeE_yes hf]
      have C7 : Hid (Calls Tryz.prog 9 #[.string sv] w6 fun e w'' => ∃ v, e = .returned (.tuple #[v, .bool true]) ∧ StO w6.heap.size w'' v S ∧ Below w6.heap.size w6 w'') := by
        have h := read_ok (staC.enc S) w6 (Nat.le_trans (sta_len HSS.out) (by decide))
        rw [readE_yes hf HRG.out, ← hsv] at h
        exact h
      clear hf hsv HOK HRG HSS
      go_wp2_with fail
      refine C7.out.mono ?_
      rintro e w7 ⟨_, rfl, ⟨cs7, rfl, hcs⟩, b7⟩
      obtain ⟨q3, k3, q4, k4, q5, k5, q6, k6, q7, k7, rfl, _, _, _, _, _⟩ := staM_cells hcs
      have HC7 := Lib.hid hcs
      clear hcs
      obtain ⟨y0, hy0⟩ : ∃ q, q = S.1 := ⟨_, rfl⟩
      obtain ⟨y1, hy1⟩ : ∃ q, q = S.2.1 := ⟨_, rfl⟩
      obtain ⟨y2, hy2⟩ : ∃ q, q = S.2.2.1 := ⟨_, rfl⟩
      obtain ⟨m3, hm3⟩ : ∃ q, q = S.2.2.2.1.length := ⟨_, rfl⟩
      obtain ⟨m4, hm4⟩ : ∃ q, q = S.2.2.2.2.1.length := ⟨_, rfl⟩
      obtain ⟨m5, hm5⟩ : ∃ q, q = S.2.2.2.2.2.1.length := ⟨_, rfl⟩
      obtain ⟨m6, hm6⟩ : ∃ q, q = S.2.2.2.2.2.2.1.length := ⟨_, rfl⟩
      obtain ⟨m7, hm7⟩ : ∃ q, q = S.2.2.2.2.2.2.2.length := ⟨_, rfl⟩
      rw [← hy0, ← hy1, ← hy2, ← hm3, ← hm4, ← hm5, ← hm6, ← hm7] at HC7 ⊢
      clear hy0 hy1 hy2 hm3 hm4 hm5 hm6 hm7
      have HX2 : Hid (Below W0.heap.size W0 w7) := below_on HX.out b7
      clear b7 HX
      have HX := HX2
      clear HX2
      obtain ⟨bN, zz, lN⟩ := box1 w7 #[.int .i64 y0, .int .i64 y1, .int .i64 y2, .slice q3 m3 k3, .slice q4 m4 k4, .slice q5 m5 k5, .slice q6 m6 k6, .slice q7 m7 k7] 28
      obtain ⟨W8, hW8⟩ : ∃ W8, W8 = w7.alloc (.cells #[.int .i64 y0, .int .i64 y1, .int .i64 y2, .slice q3 m3 k3, .slice q4 m4 k4, .slice q5 m5 k5, .slice q6 m6 k6, .slice q7 m7 k7] 28) := ⟨_, rfl⟩
      rw [← hW8] at bN zz lN
      obtain ⟨X, hX⟩ : ∃ X, X = w7.heap.size := ⟨_, rfl⟩
      rw [← hX] at zz lN
      have HXX : Hid (w7.heap.size = X) := hX.symm
      have HW8 := Lib.hid hW8
      have HX8 : Hid (Below W0.heap.size W0 W8) := below_on HX.out bN
      have C8 : Hid (Calls Tryz.prog 10 #[.agg #[.int .i64 x0, .int .i64 x1, .int .i64 x2, .slice u3 n3 c3, .slice u4 n4 c4, .slice u5 n5 c5, .slice u6 n6 c6, .slice u7 n7 c7], .agg #[.int .i64 y0, .int .i64 y1, .int .i64 y2, .slice q3 m3 k3, .slice q4 m4 k4, .slice q5 m5 k5, .slice q6 m6 k6, .slice q7 m7 k7]] W8 fun e w'' => e = .returned (.bool true) ∧ Below W8.heap.size W8 w'') := same_State S W8 (HSM.out W8 (HB.out.trans (HX8.out.mono HB.out.size))) (staM_ok.keep HC7.out (Keep.below bN))
      have HZZ := Lib.hid zz
      clear hX hW8 bN lN C7 zz
      go_upto_region 13 with fail
      rw [← HW8.out, HXX.out]
      clear HX
      have HX := HX8
      obtain ⟨g0, g1, g2, g3, g4, g5, g6, g7⟩ := eight_cells HZZ.out
      clear HX8 HW8 HXX HC7
      obtain ⟨a0, a1, a2, a3, a4, a5, a6, a7⟩ := eight_cells ((HX.out.block R (by have := HL.out; omega)).trans HP.out)
      go_wp2_with fail
      refine C8.out.mono ?_
      rintro e w9 ⟨rfl, b9⟩
      have HX2 : Hid (Below W0.heap.size W0 w9) := below_on HX.out b9
      clear b9 HX
      have HX := HX2
      clear HX2
      have HE : Hid (Below w.heap.size w w9) := HB.out.trans (HX.out.mono HB.out.size)
      go_wp2_with fail
      go_ret
      exact ⟨rfl, HE.out⟩
end Go.Proofs.YtmdgjcikekojdaaGreatDoor.Sta
