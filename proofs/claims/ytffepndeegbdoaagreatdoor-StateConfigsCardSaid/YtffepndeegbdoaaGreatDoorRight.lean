/- Contracts: two, Small, Right of both. -/
import Derived.Test.YtffepndeegbdoaaGreatDoorRise
set_option linter.unusedVariables false
namespace Go.Proofs.YtffepndeegbdoaaGreatDoor.Rig
open Go.RowKit Go.Lib Go.Proofs.YtffepndeegbdoaaGreatDoor.Rt

theorem bcell {W w1 : World} (hb : Below W.heap.size W w1) : (∀ b o, b < W.heap.size → w1.cell? ⟨b, o, none⟩ = W.cell? ⟨b, o, none⟩) ∧ (∀ b o, b < W.heap.size → w1.frozen? ⟨b, o, none⟩ = W.frozen? ⟨b, o, none⟩) :=
  ⟨fun b o h => hb.cell (p := ⟨b, o, none⟩) h, fun b o h => hb.frozen (p := ⟨b, o, none⟩) h⟩

theorem rising_b {v : Value} {xs : List Int} (u : Int) (w : World) (h : Ints w v xs) (hu : i64 u) :
    Calls Tryz.prog 45 #[v, .int .i64 u] w fun e w' => e = .returned (.bool (risB xs u)) ∧ Below w.heap.size w w' :=
  (rising_any u w h hu).mono fun _ _ ⟨h1, h2⟩ => ⟨h1, by subst h2; exact Below.refl _ _⟩
theorem rrising_b {v : Value} {xs : List Int} (u : Int) (w : World) (h : Ints w v xs) (hu : i64 u) :
    Calls Tryz.prog 62 #[v, .int .i64 u] w fun e w' => e = .returned (.bool (risB xs u)) ∧ Below w.heap.size w w' :=
  rrising_any u w h hu

/-- It hands labels back. -/
def Gives (w : World) (L : List Lb) (e : Ending) (w' : World) : Prop := ∃ v, e = .returned v ∧ Labs w' v L ∧ Below w.heap.size w w'

theorem ints_new {w : World} {b cap : Nat} {cs : Array Value} {t : TypeId} (xs : List Int) (hb : w.heap[b]? = some (.cells cs t (0, 0))) (hlen : xs.length ≤ cap) (hcap : cap ≤ maxLen) (hx : ∀ x ∈ xs, i64 x)
    (hcs : ∀ j, j < xs.length → cs[j]? = some (.int .i64 (at_ xs j))) : Ints w (.slice (some ⟨b, 0, none⟩) xs.length cap) xs := by
  have hlt : b < w.heap.size := by
    rcases Nat.lt_or_ge b w.heap.size with h | h
    · exact h
    · rw [Array.getElem?_eq_none h] at hb; cases hb
  refine ⟨hx, _, cap, rfl, hlen, hcap, .inr ⟨b, 0, rfl, hlt, fun j hj => ?_⟩⟩
  rw [Nat.zero_add, cell_of_row w b j cs t (0, 0) hb]
  exact hcs j hj

theorem two_labs {W : World} {b0 b1 b2 b3 b4 : Nat} (h0 : W.heap[b0]? = some (.cells #[.int .i64 0] 3 (0, 0))) (h1 : W.heap[b1]? = some (.cells #[.int .i64 0] 3 (0, 0))) (h2 : W.heap[b2]? = some (.cells #[.int .i64 0, .int .i64 2] 3 (0, 0))) (h3 : W.heap[b3]? = some (.cells #[.int .i64 0] 3 (0, 0)))
    (h4 : W.heap[b4]? = some (.cells #[.int .i64 (-1), .int .i64 0, .slice (some ⟨b0, 0, none⟩) 1 1, .slice (some ⟨b1, 0, none⟩) 1 1, .int .i64 0, .int .i64 0, .slice (some ⟨b2, 0, none⟩) 2 2, .slice (some ⟨b3, 0, none⟩) 1 1] 47 (0, 0))) :
    Labs W (.slice (some ⟨b4, 0, none⟩) 2 2) two := by
  have lt4 : b4 < W.heap.size := by
    rcases Nat.lt_or_ge b4 W.heap.size with h | h
    · exact h
    · rw [Array.getElem?_eq_none h] at h4; cases h4
  have m1 : (1 : Nat) ≤ maxLen := by unfold maxLen; omega
  have m2 : (2 : Nat) ≤ maxLen := by unfold maxLen; omega
  have one : ∀ x ∈ [(0 : Int)], i64 x := by intro x hx; simp at hx; subst hx; unfold i64; omega
  have two' : ∀ x ∈ [(0 : Int), 2], i64 x := by intro x hx; simp at hx; rcases hx with rfl | rfl <;> (unfold i64; omega)
  have c : ∀ i v, (#[.int .i64 (-1), .int .i64 0, .slice (some ⟨b0, 0, none⟩) 1 1, .slice (some ⟨b1, 0, none⟩) 1 1, .int .i64 0, .int .i64 0, .slice (some ⟨b2, 0, none⟩) 2 2, .slice (some ⟨b3, 0, none⟩) 1 1] : Array Value)[i]? = some v → W.cell? ⟨b4, i, none⟩ = some v := fun i v h => by
    rw [cell_of_row W b4 i _ _ (0, 0) h4]; exact h
  refine ⟨_, 2, rfl, Nat.le_refl _, m2, .inr ⟨b4, 0, rfl, lt4, fun j hj => ?_⟩⟩
  have hj : j < 2 := hj
  match j, hj with
  | 0, _ => exact ⟨_, _, ⟨by decide, by decide⟩, ⟨by decide, by decide⟩, c 0 _ rfl, c 1 _ rfl, c 2 _ rfl, c 3 _ rfl,
      ints_new [0] h0 (Nat.le_refl _) m1 one (fun j hj => by have : j = 0 := (by simp at hj; omega); subst this; rfl),
      ints_new [0] h1 (Nat.le_refl _) m1 one (fun j hj => by have : j = 0 := (by simp at hj; omega); subst this; rfl)⟩
  | 1, _ => exact ⟨_, _, ⟨by decide, by decide⟩, ⟨by decide, by decide⟩, c 4 _ rfl, c 5 _ rfl, c 6 _ rfl, c 7 _ rfl,
      ints_new [0, 2] h2 (Nat.le_refl _) m2 two' (fun j hj => by
        have hj : j < 2 := hj
        match j, hj with
        | 0, _ => rfl
        | 1, _ => rfl),
      ints_new [0] h3 (Nat.le_refl _) m1 one (fun j hj => by have : j = 0 := (by simp at hj; omega); subst this; rfl)⟩

set_option maxRecDepth 100000 in
set_option maxHeartbeats 1000000 in
theorem small_any {v : Value} {L : List Lb} (w : World) (h : Labs w v L) :
    Calls Tryz.prog 28 #[v] w fun e w' => e = .returned (.bool (smallB L)) ∧ Below w.heap.size w w' := by
  obtain ⟨a, cap, rfl, hlc, hcap, hc⟩ := h.open_
  have H := Lib.hid hc
  clear hc h
  obtain ⟨n, hn⟩ : ∃ n, n = L.length := ⟨_, rfl⟩
  rw [← hn] at hlc ⊢
  replace hn := Lib.hid hn
  go_enter Tryz.func28, Tryz.ntmps28
  go_wp2_with fail
  go_loopw [7] (fun i wr => ∃ k : Nat, k ≤ n ∧ i = .int .i64 k ∧ Hid (∀ j, j < k → smallAt L j) ∧ Below w.heap.size w wr) (fun i _ => n - (intOf i).toNat)
  case atStart => exact ⟨0, Nat.zero_le _, rfl, fun j hj => absurd hj (by omega), Below.refl _ _⟩
  case round =>
    obtain ⟨k, hk, rfl, OK, hbel⟩ := hrel
    by_cases hlt : k < n
    · have hkl : k < L.length := by rw [← hn.out]; exact hlt
      obtain ⟨b, off, rfl, hb, rv, sv, ⟨p1, p2⟩, ⟨o1, o2⟩, c0, c1, c2, c3, hr, hs⟩ := H.out k hkl
      have NO : ¬ smallAt L k → Hid (smallB L = false) := fun hno => smallB_false hkl hno
      have YES : smallAt L k → Hid (∀ j, j < k + 1 → smallAt L j) := fun hy j hj => by
        by_cases e : j = k
        · subst e; exact hy
        · exact OK.out j (by omega)
      unfold smallAt at NO YES
      generalize lb L k = x at *
      obtain ⟨p, o, r, s⟩ := x
      simp only at p1 p2 o1 o2 c0 c1 c2 c3 hr hs NO YES
      have N := Lib.hid NO
      have Y := Lib.hid YES
      replace c0 := below_cell hbel hb c0
      replace c1 := below_cell hbel hb c1
      replace c2 := below_cell hbel hb c2
      replace c3 := below_cell hbel hb c3
      have hl1 := hr.lt
      have hl2 := hs.lt
      obtain ⟨ra, rc, rfl⟩ := hr.is_slice
      obtain ⟨sa, sc, rfl⟩ := hs.is_slice
      clear hr hs
      generalize r.length = l1 at *
      generalize s.length = l2 at *
      have HB := Lib.hid hbel
      have KA : Hid (∀ o, Below wr.heap.size wr (wr.alloc o)) := fun o => (Below.refl _ _).alloc (Nat.le_refl _) _
      clear NO YES H OK hbel
      by_cases q1 : 100 < l1
      · have R := N.out (by omega)
        go_wp2_with fail
        go_ret
        exact ⟨ret_bool R.out.symm, below_more HB.out (KA.out _)⟩
      by_cases q2 : 100 < l2
      · have R := N.out (by omega)
        go_wp2_with fail
        go_ret
        exact ⟨ret_bool R.out.symm, below_more HB.out (KA.out _)⟩
      have R := Y.out ⟨by omega, by omega⟩
      go_wp2_with fail
      go_roundw
      case rel => exact ⟨k + 1, by omega, by go_num, R, below_more HB.out (KA.out _)⟩
      case measure => simp [intOf]; omega
    · have RT : n ≤ 100 → Hid (smallB L = true) := fun h => by
        refine decide_eq_true ⟨by rw [← hn.out]; exact h, fun j hj => OK.out j ?_⟩
        rw [← hn.out] at hj
        omega
      have RF : ¬ n ≤ 100 → Hid (smallB L = false) := fun h => by
        refine decide_eq_false fun hc => h ?_
        rw [hn.out]
        exact hc.1
      have T1 := Lib.hid RT
      have T2 := Lib.hid RF
      clear H OK RT RF
      by_cases q : n ≤ 100
      · have d : decide ((n : Int) ≤ 100) = true := by simp; omega
        have R := T1.out q
        clear q
        go_wp2_with fail
        go_ret
        exact ⟨ret_bool R.out.symm, hbel⟩
      · have d : decide ((n : Int) ≤ 100) = false := by simp; omega
        have R := T2.out q
        clear q
        go_wp2_with fail
        go_ret
        exact ⟨ret_bool R.out.symm, hbel⟩

set_option maxRecDepth 100000 in
set_option maxHeartbeats 1600000 in
theorem right_any {v : Value} {L : List Lb} (u : Int) (w : World) (h : Labs w v L) (hu : i64 u) :
    Calls Tryz.prog 18 #[v, .int .i64 u] w fun e w' => e = .returned (.bool (rightB L u)) ∧ Below w.heap.size w w' := by
  obtain ⟨a, cap, rfl, hlc, hcap, hc⟩ := h.open_
  have H := Lib.hid hc
  have HU := Lib.hid hu
  clear hc h
  obtain ⟨n, hn⟩ : ∃ n, n = L.length := ⟨_, rfl⟩
  rw [← hn] at hlc ⊢
  replace hn := Lib.hid hn
  obtain ⟨hu1, hu2⟩ := hu
  by_cases hn1 : n < 1
  · have R : Hid (rightB L u = false) := rightB_len (by rw [← hn.out]; omega)
    clear H
    go_enter Tryz.func18, Tryz.ntmps18
    go_wp2_with fail
    go_ret
    exact ⟨ret_bool R.out.symm, Below.refl _ _⟩
  by_cases hn12 : 12 < n
  · have R : Hid (rightB L u = false) := rightB_len (by rw [← hn.out]; omega)
    clear H
    go_enter Tryz.func18, Tryz.ntmps18
    go_wp2_with fail
    go_ret
    exact ⟨ret_bool R.out.symm, Below.refl _ _⟩
  go_enter Tryz.func18, Tryz.ntmps18
  go_wp2_with fail
  go_loopw [17] (fun i wr => ∃ k : Nat, k ≤ n ∧ i = .int .i64 k ∧ Hid (∀ j, j < k → lbOk L u j) ∧ Below w.heap.size w wr) (fun i _ => n - (intOf i).toNat)
  case atStart => exact ⟨0, Nat.zero_le _, rfl, fun j hj => absurd hj (by omega), Below.refl _ _⟩
  case round =>
    obtain ⟨k, hk, rfl, OK, hbel⟩ := hrel
    by_cases hlt : k < n
    · have hkl : k < L.length := by rw [← hn.out]; exact hlt
      obtain ⟨b, off, rfl, hb, rv, sv, ⟨p1, p2⟩, ⟨o1, o2⟩, c0, c1, c2, c3, hr, hs⟩ := H.out k hkl
      have NO : ¬ lbOk L u k → Hid (rightB L u = false) := fun hno => rightB_false hkl hno
      have YES : lbOk L u k → Hid (∀ j, j < k + 1 → lbOk L u j) := fun hy j hj => by
        by_cases e : j = k
        · subst e; exact hy
        · exact OK.out j (by omega)
      unfold lbOk at NO YES
      generalize lb L k = x at *
      obtain ⟨p, o, r, s⟩ := x
      simp only at p1 p2 o1 o2 c0 c1 c2 c3 hr hs NO YES
      have N := Lib.hid NO
      have Y := Lib.hid YES
      replace c0 := below_cell hbel hb c0
      replace c1 := below_cell hbel hb c1
      replace c2 := below_cell hbel hb c2
      replace c3 := below_cell hbel hb c3
      have hr1 := hr.below hbel (Nat.le_refl _)
      have hs1 := hs.below hbel (Nat.le_refl _)
      have C1 : Hid (∀ w', Below wr.heap.size wr w' → Calls Tryz.prog 45 #[rv, .int .i64 u] w' fun e w'' => e = .returned (.bool (risB r u)) ∧ Below w'.heap.size w' w'') := fun w' hb => rising_b u w' (hr1.below hb (Nat.le_refl _)) HU.out
      have C2 : Hid (∀ w', Below wr.heap.size wr w' → Calls Tryz.prog 45 #[sv, .int .i64 u] w' fun e w'' => e = .returned (.bool (risB s u)) ∧ Below w'.heap.size w' w'') := fun w' hb => rising_b u w' (hs1.below hb (Nat.le_refl _)) HU.out
      obtain ⟨ra, rc, rfl⟩ := hr1.is_slice
      obtain ⟨sa, sc, rfl⟩ := hs1.is_slice
      generalize r.length = l1 at *
      generalize s.length = l2 at *
      have HB := Lib.hid hbel
      have KA : Hid (∀ o, Below wr.heap.size wr (wr.alloc o)) := fun o => (Below.refl _ _).alloc (Nat.le_refl _) _
      clear NO YES H OK hr hs hr1 hs1 hbel
      by_cases q1 : p < -1
      · have R := N.out (by omega)
        go_wp2_with fail
        go_ret
        exact ⟨ret_bool R.out.symm, below_more HB.out (KA.out _)⟩
      by_cases q2 : (k : Int) ≤ p
      · have R := N.out (by omega)
        go_wp2_with fail
        go_ret
        exact ⟨ret_bool R.out.symm, below_more HB.out (KA.out _)⟩
      by_cases q3 : o < 0
      · have R := N.out (by omega)
        go_wp2_with fail
        go_ret
        exact ⟨ret_bool R.out.symm, below_more HB.out (KA.out _)⟩
      by_cases q4 : u ≤ o
      · have R := N.out (by omega)
        go_wp2_with fail
        go_ret
        exact ⟨ret_bool R.out.symm, below_more HB.out (KA.out _)⟩
      cases h5 : risB r u with
      | false =>
        have R := N.out (by rw [h5]; simp)
        rw [h5] at C1
        clear h5 N Y C2
        go_wp2_with fail
        refine (C1.out _ (KA.out _)).mono ?_
        rintro e w5 ⟨rfl, hb5⟩
        go_wp2_with fail
        go_ret
        exact ⟨ret_bool R.out.symm, below_more (below_more HB.out (KA.out _)) hb5⟩
      | true =>
        cases h6 : risB s u with
        | false =>
          have R := N.out (by rw [h6]; simp)
          rw [h5] at C1
          rw [h6] at C2
          clear h5 h6 N Y
          go_wp2_with fail
          refine (C1.out _ (KA.out _)).mono ?_
          rintro e w5 ⟨rfl, hb5⟩
          have e5 := below_more (KA.out _) hb5
          have E5 := Lib.hid e5
          obtain ⟨hc5, hf5⟩ := bcell hb5
          clear e5
          go_wp2_with fail
          refine (C2.out _ E5.out).mono ?_
          rintro e w6 ⟨rfl, hb6⟩
          clear hc5 hf5
          go_wp2_with fail
          go_ret
          exact ⟨ret_bool R.out.symm, below_more (below_more HB.out E5.out) hb6⟩
        | true =>
          have R := Y.out ⟨by omega, by omega, by omega, by omega, h5, h6⟩
          rw [h5] at C1
          rw [h6] at C2
          clear h5 h6 N Y
          go_wp2_with fail
          refine (C1.out _ (KA.out _)).mono ?_
          rintro e w5 ⟨rfl, hb5⟩
          have e5 := below_more (KA.out _) hb5
          have E5 := Lib.hid e5
          obtain ⟨hc5, hf5⟩ := bcell hb5
          clear e5
          go_wp2_with fail
          refine (C2.out _ E5.out).mono ?_
          rintro e w6 ⟨rfl, hb6⟩
          clear hc5 hf5
          go_wp2_with fail
          go_roundw
          case rel => exact ⟨k + 1, by omega, by go_num, R, below_more (below_more HB.out E5.out) hb6⟩
          case measure => simp [intOf]; omega
    · have R : Hid (rightB L u = true) := rightB_true (by rw [← hn.out]; omega) (by rw [← hn.out]; omega) (fun j hj => OK.out j (by rw [← hn.out] at hj; omega))
      clear H OK
      go_wp2_with fail
      go_ret
      exact ⟨ret_bool R.out.symm, hbel⟩

set_option maxRecDepth 100000 in
set_option maxHeartbeats 1600000 in
theorem rright_any {v : Value} {L : List Lb} (u : Int) (w : World) (h : Labs w v L) (hu : i64 u) :
    Calls Tryz.prog 30 #[v, .int .i64 u] w fun e w' => e = .returned (.bool (rightB L u)) ∧ Below w.heap.size w w' := by
  obtain ⟨a, cap, rfl, hlc, hcap, hc⟩ := h.open_
  have H := Lib.hid hc
  have HU := Lib.hid hu
  clear hc h
  obtain ⟨n, hn⟩ : ∃ n, n = L.length := ⟨_, rfl⟩
  rw [← hn] at hlc ⊢
  replace hn := Lib.hid hn
  obtain ⟨hu1, hu2⟩ := hu
  by_cases hn1 : n < 1
  · have R : Hid (rightB L u = false) := rightB_len (by rw [← hn.out]; omega)
    clear H
    go_enter Tryz.func30, Tryz.ntmps30
    go_wp2_with fail
    go_ret
    exact ⟨ret_bool R.out.symm, Below.refl _ _⟩
  by_cases hn12 : 12 < n
  · have R : Hid (rightB L u = false) := rightB_len (by rw [← hn.out]; omega)
    clear H
    go_enter Tryz.func30, Tryz.ntmps30
    go_wp2_with fail
    go_ret
    exact ⟨ret_bool R.out.symm, Below.refl _ _⟩
  go_enter Tryz.func30, Tryz.ntmps30
  go_wp2_with fail
  go_loopw [5] (fun i wr => ∃ k : Nat, k ≤ n ∧ i = .int .i64 k ∧ Hid (∀ j, j < k → lbOk L u j) ∧ Below w.heap.size w wr) (fun i _ => n - (intOf i).toNat)
  case atStart => exact ⟨0, Nat.zero_le _, rfl, fun j hj => absurd hj (by omega), Below.refl _ _⟩
  case round =>
    obtain ⟨k, hk, rfl, OK, hbel⟩ := hrel
    by_cases hlt : k < n
    · have hkl : k < L.length := by rw [← hn.out]; exact hlt
      obtain ⟨b, off, rfl, hb, rv, sv, ⟨p1, p2⟩, ⟨o1, o2⟩, c0, c1, c2, c3, hr, hs⟩ := H.out k hkl
      have NO : ¬ lbOk L u k → Hid (rightB L u = false) := fun hno => rightB_false hkl hno
      have YES : lbOk L u k → Hid (∀ j, j < k + 1 → lbOk L u j) := fun hy j hj => by
        by_cases e : j = k
        · subst e; exact hy
        · exact OK.out j (by omega)
      unfold lbOk at NO YES
      generalize lb L k = x at *
      obtain ⟨p, o, r, s⟩ := x
      simp only at p1 p2 o1 o2 c0 c1 c2 c3 hr hs NO YES
      have N := Lib.hid NO
      have Y := Lib.hid YES
      replace c0 := below_cell hbel hb c0
      replace c1 := below_cell hbel hb c1
      replace c2 := below_cell hbel hb c2
      replace c3 := below_cell hbel hb c3
      have hr1 := hr.below hbel (Nat.le_refl _)
      have hs1 := hs.below hbel (Nat.le_refl _)
      have C1 : Hid (∀ w', Below wr.heap.size wr w' → Calls Tryz.prog 62 #[rv, .int .i64 u] w' fun e w'' => e = .returned (.bool (risB r u)) ∧ Below w'.heap.size w' w'') := fun w' hb => rrising_b u w' (hr1.below hb (Nat.le_refl _)) HU.out
      have C2 : Hid (∀ w', Below wr.heap.size wr w' → Calls Tryz.prog 62 #[sv, .int .i64 u] w' fun e w'' => e = .returned (.bool (risB s u)) ∧ Below w'.heap.size w' w'') := fun w' hb => rrising_b u w' (hs1.below hb (Nat.le_refl _)) HU.out
      obtain ⟨ra, rc, rfl⟩ := hr1.is_slice
      obtain ⟨sa, sc, rfl⟩ := hs1.is_slice
      generalize r.length = l1 at *
      generalize s.length = l2 at *
      have HB := Lib.hid hbel
      have KA : Hid (∀ o, Below wr.heap.size wr (wr.alloc o)) := fun o => (Below.refl _ _).alloc (Nat.le_refl _) _
      clear NO YES H OK hr hs hr1 hs1 hbel
      by_cases q1 : p < -1
      · have R := N.out (by omega)
        go_wp2_with fail
        go_ret
        exact ⟨ret_bool R.out.symm, below_more HB.out (KA.out _)⟩
      by_cases q2 : (k : Int) ≤ p
      · have R := N.out (by omega)
        go_wp2_with fail
        go_ret
        exact ⟨ret_bool R.out.symm, below_more HB.out (KA.out _)⟩
      by_cases q3 : o < 0
      · have R := N.out (by omega)
        go_wp2_with fail
        go_ret
        exact ⟨ret_bool R.out.symm, below_more HB.out (KA.out _)⟩
      by_cases q4 : u ≤ o
      · have R := N.out (by omega)
        go_wp2_with fail
        go_ret
        exact ⟨ret_bool R.out.symm, below_more HB.out (KA.out _)⟩
      cases h5 : risB r u with
      | false =>
        have R := N.out (by rw [h5]; simp)
        rw [h5] at C1
        clear h5 N Y C2
        go_wp2_with fail
        refine (C1.out _ (KA.out _)).mono ?_
        rintro e w5 ⟨rfl, hb5⟩
        go_wp2_with fail
        go_ret
        exact ⟨ret_bool R.out.symm, below_more (below_more HB.out (KA.out _)) hb5⟩
      | true =>
        cases h6 : risB s u with
        | false =>
          have R := N.out (by rw [h6]; simp)
          rw [h5] at C1
          rw [h6] at C2
          clear h5 h6 N Y
          go_wp2_with fail
          refine (C1.out _ (KA.out _)).mono ?_
          rintro e w5 ⟨rfl, hb5⟩
          have e5 := below_more (KA.out _) hb5
          have E5 := Lib.hid e5
          obtain ⟨hc5, hf5⟩ := bcell hb5
          clear e5
          go_wp2_with fail
          refine (C2.out _ E5.out).mono ?_
          rintro e w6 ⟨rfl, hb6⟩
          clear hc5 hf5
          go_wp2_with fail
          go_ret
          exact ⟨ret_bool R.out.symm, below_more (below_more HB.out E5.out) hb6⟩
        | true =>
          have R := Y.out ⟨by omega, by omega, by omega, by omega, h5, h6⟩
          rw [h5] at C1
          rw [h6] at C2
          clear h5 h6 N Y
          go_wp2_with fail
          refine (C1.out _ (KA.out _)).mono ?_
          rintro e w5 ⟨rfl, hb5⟩
          have e5 := below_more (KA.out _) hb5
          have E5 := Lib.hid e5
          obtain ⟨hc5, hf5⟩ := bcell hb5
          clear e5
          go_wp2_with fail
          refine (C2.out _ E5.out).mono ?_
          rintro e w6 ⟨rfl, hb6⟩
          clear hc5 hf5
          go_wp2_with fail
          go_roundw
          case rel => exact ⟨k + 1, by omega, by go_num, R, below_more (below_more HB.out E5.out) hb6⟩
          case measure => simp [intOf]; omega
    · have R : Hid (rightB L u = true) := rightB_true (by rw [← hn.out]; omega) (by rw [← hn.out]; omega) (fun j hj => OK.out j (by rw [← hn.out] at hj; omega))
      clear H OK
      go_wp2_with fail
      go_ret
      exact ⟨ret_bool R.out.symm, hbel⟩
end Go.Proofs.YtffepndeegbdoaaGreatDoor.Rig
