/- State: what the laws' Small bounds. -/
import Derived.Test.YtccaiippoephbaaGreatDoorZp
import Derived.Test.YtccaiippoephbaaGreatDoorOz
import Derived.IntWalk
set_option linter.unusedVariables false
set_option linter.unusedSimpArgs false
set_option maxRecDepth 100000
namespace Go.Proofs.YtccaiippoephbaaGreatDoor.Sta
open Go.RowKit Go.Lib Go.Proofs.YtccaiippoephbaaGreatDoor.Bx Go.Proofs.YtccaiippoephbaaGreatDoor.Frm Go.Proofs.YtccaiippoephbaaGreatDoor.Wds

theorem take_step {α : Type} {F : α → Prop} {xs : List α} {i : Nat} (hi : i < xs.length) (h : ∀ x ∈ xs.take i, F x) (hx : F xs[i]) : ∀ x ∈ xs.take (i + 1), F x := by
  intro x hm
  rw [List.take_succ_eq_append_getElem hi] at hm
  rcases List.mem_append.1 hm with hm | hm
  · exact h x hm
  · simp only [List.mem_singleton] at hm; subst hm; exact hx
theorem take_mono {α : Type} {F G : α → Prop} {xs : List α} (h : ∀ x ∈ xs, F x) (hx : ∀ x, F x → G x) : ∀ x ∈ xs, G x := fun x hm => hx x (h x hm)
theorem take_zero {α : Type} {F : α → Prop} {xs : List α} : ∀ x ∈ xs.take 0, F x := fun x h => by simp at h
theorem take_whole {α : Type} {F : α → Prop} {xs : List α} {n : Nat} (hn : n = xs.length) (h : ∀ x ∈ xs.take n, F x) : ∀ x ∈ xs, F x := fun x hm => h x (by rw [List.take_of_length_le (by omega)]; exact hm)
def AnyS (p : Prop) (e : Ending) : Prop := ∃ b : Bool, e = .returned (.bool b) ∧ (b = true → p)
theorem any_no {p : Prop} : AnyS p (.returned (.bool false)) := ⟨false, rfl, fun h => by cases h⟩
theorem any_yes {p : Prop} (h : p) : AnyS p (.returned (.bool true)) := ⟨true, rfl, fun _ => h⟩
def labS (x : Lab) : Prop := x.2.2.1.length ≤ 100 ∧ x.2.2.2.length ≤ 100
def segS (x : Seg) : Prop := x.2.2.1.length ≤ 3000 ∧ x.2.2.2.1.length ≤ 3000 ∧ x.2.2.2.2.length ≤ 3000
def docS (x : Doc) : Prop := x.2.length ≤ 40 ∧ ∀ y ∈ x.2, segS y
def thgS (a : Nat) (x : Thg) : Prop := x.2.2.2.2.length ≤ a
def stkS (a : Nat) (x : List Thg) : Prop := x.length ≤ 60 ∧ ∀ y ∈ x, thgS a y
def seaS (a : Nat) (x : Sea) : Prop := x.1.length ≤ a ∧ x.2.2.2.2.length ≤ a
def entS (x : Ent) : Prop := x.2.2.2.1.length ≤ 300 ∧ x.2.2.2.2.length ≤ 300
def labsS (L : List Lab) : Prop := L.length ≤ 100 ∧ ∀ x ∈ L, labS x
def segsS (L : List Seg) : Prop := L.length ≤ 40 ∧ ∀ x ∈ L, segS x
def staS (S : Sta) : Prop := labsS S.2.2.2.1 ∧ (S.2.2.2.2.1.length ≤ 20 ∧ ∀ x ∈ S.2.2.2.2.1, docS x) ∧ (S.2.2.2.2.2.1.length ≤ 20 ∧ ∀ x ∈ S.2.2.2.2.2.1, stkS 70000 x) ∧ (S.2.2.2.2.2.2.1.length ≤ 20 ∧ ∀ x ∈ S.2.2.2.2.2.2.1, seaS 70000 x) ∧ S.2.2.2.2.2.2.2.length ≤ 300 ∧ ∀ x ∈ S.2.2.2.2.2.2.2, entS x
set_option maxHeartbeats 8000000 in
theorem sm03 {P : Nat → Prop} {v : Value} (L : List Lab) (w : World) (h : RowP labM P w v L) : Calls Tryz.prog 20 #[v] w fun e w' => AnyS (labsS L) e ∧ Below w.heap.size w w' := by
  obtain ⟨u, c, rfl⟩ := h.is_slice
  obtain ⟨n, hn⟩ : ∃ n, n = L.length := ⟨_, rfl⟩
  have HN := Lib.hid hn
  rw [← hn] at h ⊢
  have hmn : n ≤ 9223372036854775807 := by have q := h.len; simp only [maxLen] at q; omega
  have HD : Hid (∀ w', Below w.heap.size w w' → RowP labM P w' (.slice u n c) L) := fun w' b => h.keep labM_ok (Keep.below b)
  have HX : Hid (Below w.heap.size w w) := Below.refl _ _
  clear h hn
  go_enter Tryz.func20, Tryz.ntmps20
  go_wp2_with fail
  go_loopg [7] n (fun g i_ wr => ∃ (i : Nat), i ≤ n ∧ n - i ≤ g ∧ i_ = .int .i64 (i : Nat) ∧ Hid (∀ x ∈ L.take i, labS x) ∧ Hid (Below w.heap.size w wr))
  case atStart => exact ⟨0, by omega, by omega, rfl, take_zero, HX⟩
  case round =>
    clear HX
    obtain ⟨i, hi, hg, rfl, HV, HX⟩ := hrel
    by_cases hin : i < n
    · have iwi : ((i : Nat) : Int) < (n : Int) := by omega
      have n0i : (0 : Int) ≤ ((i : Nat) : Int) := by omega
      have hixi : i < L.length := by rw [← HN.out]; exact hin
      obtain ⟨b1, f1, s1_, rfl, hlt1, _, hR1, hc1⟩ := (HD.out wr HX.out).get hixi
      obtain ⟨x, hx⟩ : ∃ z, z = L[i] := ⟨_, rfl⟩
      have hmem : x ∈ L := hx ▸ List.getElem_mem hixi
      rw [← hx] at hR1
      have HXI : Hid (L[i] = x) := hx.symm
      obtain ⟨r2, d2, r3, d3, rfl, q2, q3⟩ := labM_cells hR1
      obtain ⟨z0, hz0⟩ : ∃ q, q = x.1 := ⟨_, rfl⟩
      obtain ⟨z1, hz1⟩ : ∃ q, q = x.2.1 := ⟨_, rfl⟩
      obtain ⟨m2, hm2⟩ : ∃ q, q = x.2.2.1.length := ⟨_, rfl⟩
      obtain ⟨m3, hm3⟩ : ∃ q, q = x.2.2.2.length := ⟨_, rfl⟩
      rw [← hz0, ← hz1, ← hm2, ← hm3] at hc1
      rw [← hm2] at q2
      rw [← hm3] at q3
      have HMM := Lib.hid (And.intro hm2 hm3)
      have e0 : wr.cell? ⟨b1, f1 + i * 4, none⟩ = some (.int .i64 z0) := hc1 0 _ rfl
      have e1 : wr.cell? ⟨b1, f1 + i * 4 + 1, none⟩ = some (.int .i64 z1) := hc1 1 _ rfl
      have e2 : wr.cell? ⟨b1, f1 + i * 4 + 2, none⟩ = some (.slice r2 m2 d2) := hc1 2 _ rfl
      have e3 : wr.cell? ⟨b1, f1 + i * 4 + 3, none⟩ = some (.slice r3 m3 d3) := hc1 3 _ rfl
      obtain ⟨bX, pX, lX⟩ := box1 wr #[.int .i64 z0, .int .i64 z1, .slice r2 m2 d2, .slice r3 m3 d3] 45
      obtain ⟨W5, hW5⟩ : ∃ W5, W5 = wr.alloc (.cells #[.int .i64 z0, .int .i64 z1, .slice r2 m2 d2, .slice r3 m3 d3] 45) := ⟨_, rfl⟩
      rw [← hW5] at bX pX lX
      obtain ⟨X, hX⟩ : ∃ X, X = wr.heap.size := ⟨_, rfl⟩
      rw [← hX] at pX lX
      have HW5 := Lib.hid hW5
      have HXX : Hid (wr.heap.size = X) := hX.symm
      have HX5 : Hid (Below w.heap.size w W5) := below_on HX.out bX
      obtain ⟨g0, g1, g2, g3⟩ := four_cells pX
      clear hc1 hR1 hx hlt1 hX hW5 bX pX lX hmem hz0 hz1 hm2 hm3 q2 q3
      go_upto_region 4 with fail
      rw [← HW5.out, HXX.out]
      clear e0 e1 e2 e3
      by_cases k0 : 100 < m2
      · have kw0 : (100 : Int) < (m2 : Nat) := by omega
        have kd0 : decide ((100 : Int) < (m2 : Nat)) = true := decide_eq_true kw0
        go_wp2_with fail
        go_ret
        exact ⟨any_no, HX5.out⟩
      · have kw0 : ¬ (100 : Int) < (m2 : Nat) := by omega
        have kd0 : decide ((100 : Int) < (m2 : Nat)) = false := decide_eq_false kw0
        by_cases k1 : 100 < m3
        · have kw1 : (100 : Int) < (m3 : Nat) := by omega
          have kd1 : decide ((100 : Int) < (m3 : Nat)) = true := decide_eq_true kw1
          go_wp2_with fail
          go_ret
          exact ⟨any_no, HX5.out⟩
        · have kw1 : ¬ (100 : Int) < (m3 : Nat) := by omega
          have kd1 : decide ((100 : Int) < (m3 : Nat)) = false := decide_eq_false kw1
          have HV2 : Hid (∀ x ∈ L.take (i + 1), labS x) := take_step hixi HV.out (by rw [HXI.out]; exact ⟨by rw [← HMM.out.1]; omega, by rw [← HMM.out.2]; omega⟩)
          clear HV HXI HMM
          go_wp2_with fail
          go_roundg (n - (i + 1))
          case measure => omega
          case rel => exact ⟨i + 1, by omega, Nat.le_refl _, by go_num, HV2, HX5⟩
    · obtain rfl : n = i := by omega
      have iwi : ¬ ((n : Nat) : Int) < ((n : Nat) : Int) := by omega
      have HA : Hid (∀ x ∈ L, labS x) := take_whole HN.out HV.out
      clear HV
      by_cases k : n ≤ 100
      · have kw : (n : Int) ≤ 100 := by omega
        have kd : decide ((n : Int) ≤ 100) = true := decide_eq_true kw
        go_wp2_with fail
        go_ret
        exact ⟨any_yes ⟨by rw [← HN.out]; exact k, HA.out⟩, HX.out⟩
      · have kw : ¬ (n : Int) ≤ 100 := by omega
        have kd : decide ((n : Int) ≤ 100) = false := decide_eq_false kw
        go_wp2_with fail
        go_ret
        exact ⟨any_no, HX.out⟩
set_option maxHeartbeats 8000000 in
theorem sm06 {P : Nat → Prop} {v : Value} (L : List Seg) (w : World) (h : RowP segM P w v L) (ht : ∀ x ∈ L, x.2.2.1.length ≤ 140737488355328 ∧ x.2.2.2.1.length ≤ 140737488355328 ∧ x.2.2.2.2.length ≤ 140737488355328) : Calls Tryz.prog 21 #[v] w fun e w' => AnyS (segsS L) e ∧ Below w.heap.size w w' := by
  have HT := Lib.hid ht
  clear ht
  obtain ⟨u, c, rfl⟩ := h.is_slice
  obtain ⟨n, hn⟩ : ∃ n, n = L.length := ⟨_, rfl⟩
  have HN := Lib.hid hn
  rw [← hn] at h ⊢
  have hmn : n ≤ 9223372036854775807 := by have q := h.len; simp only [maxLen] at q; omega
  have HD : Hid (∀ w', Below w.heap.size w w' → RowP segM P w' (.slice u n c) L) := fun w' b => h.keep segM_ok (Keep.below b)
  have HX : Hid (Below w.heap.size w w) := Below.refl _ _
  clear h hn
  go_enter Tryz.func21, Tryz.ntmps21
  go_wp2_with fail
  go_loopg [3, 8] n (fun g a_ i_ wr => ∃ (i : Nat) (acc : Nat), i ≤ n ∧ n - i ≤ g ∧ i_ = .int .i64 (i : Nat) ∧ a_ = .int .i64 (acc : Nat) ∧ acc ≤ 3000 ∧ Hid (∀ x ∈ L.take i, segS x) ∧ Hid (Below w.heap.size w wr))
  case atStart => exact ⟨0, 0, by omega, by omega, rfl, rfl, by omega, take_zero, HX⟩
  case round =>
    clear HX
    obtain ⟨i, acc, hi, hg, rfl, rfl, hacc, HV, HX⟩ := hrel
    by_cases hin : i < n
    · have iwi : ((i : Nat) : Int) < (n : Int) := by omega
      have n0i : (0 : Int) ≤ ((i : Nat) : Int) := by omega
      have hixi : i < L.length := by rw [← HN.out]; exact hin
      obtain ⟨b1, f1, s1_, rfl, hlt1, _, hR1, hc1⟩ := (HD.out wr HX.out).get hixi
      obtain ⟨x, hx⟩ : ∃ z, z = L[i] := ⟨_, rfl⟩
      have hmem : x ∈ L := hx ▸ List.getElem_mem hixi
      rw [← hx] at hR1
      have HXI : Hid (L[i] = x) := hx.symm
      obtain ⟨r3, d3, r4, d4, rfl, q3, q4⟩ := segM_cells hR1
      obtain ⟨z0, hz0⟩ : ∃ q, q = x.1 := ⟨_, rfl⟩
      obtain ⟨z1, hz1⟩ : ∃ q, q = x.2.1 := ⟨_, rfl⟩
      obtain ⟨m2, hm2⟩ : ∃ q, q = x.2.2.1.length := ⟨_, rfl⟩
      obtain ⟨t2, ht2⟩ : ∃ q, q = mkB x.2.2.1 := ⟨_, rfl⟩
      have y2 : t2.size = m2 := by rw [ht2, mkB_size, hm2]
      obtain ⟨m3, hm3⟩ : ∃ q, q = x.2.2.2.1.length := ⟨_, rfl⟩
      obtain ⟨m4, hm4⟩ : ∃ q, q = x.2.2.2.2.length := ⟨_, rfl⟩
      rw [← hz0, ← hz1, ← ht2, ← hm3, ← hm4] at hc1
      rw [← hm3] at q3
      rw [← hm4] at q4
      have hb2 : m2 ≤ 140737488355328 := by rw [hm2]; exact (HT.out x hmem).1
      have hb3 : m3 ≤ 140737488355328 := by rw [hm3]; exact (HT.out x hmem).2.1
      have hb4 : m4 ≤ 140737488355328 := by rw [hm4]; exact (HT.out x hmem).2.2
      have HMM := Lib.hid (And.intro hm2 (And.intro hm3 hm4))
      have e0 : wr.cell? ⟨b1, f1 + i * 5, none⟩ = some (.int .i64 z0) := hc1 0 _ rfl
      have e1 : wr.cell? ⟨b1, f1 + i * 5 + 1, none⟩ = some (.int .i64 z1) := hc1 1 _ rfl
      have e2 : wr.cell? ⟨b1, f1 + i * 5 + 2, none⟩ = some (.string t2) := hc1 2 _ rfl
      have e3 : wr.cell? ⟨b1, f1 + i * 5 + 3, none⟩ = some (.slice r3 m3 d3) := hc1 3 _ rfl
      have e4 : wr.cell? ⟨b1, f1 + i * 5 + 4, none⟩ = some (.slice r4 m4 d4) := hc1 4 _ rfl
      obtain ⟨bX, pX, lX⟩ := box1 wr #[.int .i64 z0, .int .i64 z1, .string t2, .slice r3 m3 d3, .slice r4 m4 d4] 67
      obtain ⟨W5, hW5⟩ : ∃ W5, W5 = wr.alloc (.cells #[.int .i64 z0, .int .i64 z1, .string t2, .slice r3 m3 d3, .slice r4 m4 d4] 67) := ⟨_, rfl⟩
      rw [← hW5] at bX pX lX
      obtain ⟨X, hX⟩ : ∃ X, X = wr.heap.size := ⟨_, rfl⟩
      rw [← hX] at pX lX
      have HW5 := Lib.hid hW5
      have HXX : Hid (wr.heap.size = X) := hX.symm
      have HX5 : Hid (Below w.heap.size w W5) := below_on HX.out bX
      obtain ⟨g0, g1, g2, g3, g4⟩ := five_cells' pX
      clear hc1 hR1 hx hlt1 hX hW5 bX pX lX hmem hz0 hz1 ht2 hm2 hm3 hm4 q3 q4
      go_upto_region 5 with fail
      rw [← HW5.out, HXX.out]
      clear e0 e1 e2 e3 e4
      have z_0 : IntKind.i64.wrap (((m2 : Nat) : Int) + (m3 : Nat)) = ((m2 : Nat) : Int) + (m3 : Nat) := IntWalk.i64_in _ (by omega)
      have z_1 : IntKind.i64.wrap (((m2 : Nat) : Int) + (m3 : Nat) + (m4 : Nat)) = ((m2 : Nat) : Int) + (m3 : Nat) + (m4 : Nat) := IntWalk.i64_in _ (by omega)
      have z_2 : IntKind.i64.wrap (((acc : Nat) : Int) + (((m2 : Nat) : Int) + (m3 : Nat) + (m4 : Nat))) = ((acc : Nat) : Int) + (((m2 : Nat) : Int) + (m3 : Nat) + (m4 : Nat)) := IntWalk.i64_in _ (by omega)
      by_cases k0 : 3000 < acc + (m2 + m3 + m4)
      · have kw0 : (3000 : Int) < ((acc : Nat) : Int) + (((m2 : Nat) : Int) + (m3 : Nat) + (m4 : Nat)) := by omega
        have kd0 : decide ((3000 : Int) < ((acc : Nat) : Int) + (((m2 : Nat) : Int) + (m3 : Nat) + (m4 : Nat))) = true := decide_eq_true kw0
        go_wp2_with fail
        go_ret
        exact ⟨any_no, HX5.out⟩
      · have kw0 : ¬ (3000 : Int) < ((acc : Nat) : Int) + (((m2 : Nat) : Int) + (m3 : Nat) + (m4 : Nat)) := by omega
        have kd0 : decide ((3000 : Int) < ((acc : Nat) : Int) + (((m2 : Nat) : Int) + (m3 : Nat) + (m4 : Nat))) = false := decide_eq_false kw0
        have HV2 : Hid (∀ x ∈ L.take (i + 1), segS x) := take_step hixi HV.out (by rw [HXI.out]; exact ⟨by rw [← HMM.out.1]; omega, by rw [← HMM.out.2.1]; omega, by rw [← HMM.out.2.2]; omega⟩)
        clear HV HXI HMM
        go_wp2_with fail
        go_roundg (n - (i + 1))
        case measure => omega
        case rel => exact ⟨i + 1, acc + (m2 + m3 + m4), by omega, Nat.le_refl _, by go_num, by simp, by omega, HV2, HX5⟩
    · obtain rfl : n = i := by omega
      have iwi : ¬ ((n : Nat) : Int) < ((n : Nat) : Int) := by omega
      have HA : Hid (∀ x ∈ L, segS x) := take_whole HN.out HV.out
      clear HV
      by_cases k : n ≤ 40
      · have kw : (n : Int) ≤ 40 := by omega
        have kd : decide ((n : Int) ≤ 40) = true := decide_eq_true kw
        go_wp2_with fail
        go_ret
        exact ⟨any_yes ⟨by rw [← HN.out]; exact k, HA.out⟩, HX.out⟩
      · have kw : ¬ (n : Int) ≤ 40 := by omega
        have kd : decide ((n : Int) ≤ 40) = false := decide_eq_false kw
        go_wp2_with fail
        go_ret
        exact ⟨any_no, HX.out⟩
end Go.Proofs.YtccaiippoephbaaGreatDoor.Sta
