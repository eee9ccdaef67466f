/- Contracts: May of both, Edits. -/
import Derived.Test.YtfahfjhibffdkaaRight
set_option linter.unusedVariables false
namespace Go.Proofs.Ytfahfjhibffdkaa.Rig
open Go.RowKit Go.Lib Go.Proofs.Ytfahfjhibffdkaa.Rt

set_option maxRecDepth 100000 in
set_option maxHeartbeats 1600000 in
theorem may_any {v : Value} {L : List Lb} (u i : Int) (b : Bool) (w : World) (h : Labs w v L) (hu : i64 u) (hi : i64 i) :
    Calls Try.prog 21 #[v, .int .i64 u, .int .i64 i, .bool b] w fun e w' => e = .returned (.bool (mayB L u i b)) ∧ Below w.heap.size w w' := by
  obtain ⟨a, cap, rfl, hlc, hcap, hc⟩ := h.open_
  have H := Lib.hid hc
  have HU := Lib.hid hu
  clear hc h
  obtain ⟨n, hn⟩ : ∃ n, n = L.length := ⟨_, rfl⟩
  rw [← hn] at hlc ⊢
  replace hn := Lib.hid hn
  obtain ⟨hu1, hu2⟩ := hu
  obtain ⟨hi1, hi2⟩ := hi
  by_cases h1 : i < 0
  · have R : Hid (mayB L u i b = false) := mayB_out (by omega)
    clear H
    go_enter Try.func21, Try.ntmps21
    go_wp2_with fail
    go_ret
    exact ⟨ret_bool R.out.symm, Below.refl _ _⟩
  by_cases h2 : (n : Int) ≤ i
  · have R : Hid (mayB L u i b = false) := mayB_out (by rw [← hn.out]; omega)
    clear H
    go_enter Try.func21, Try.ntmps21
    go_wp2_with fail
    go_ret
    exact ⟨ret_bool R.out.symm, Below.refl _ _⟩
  obtain ⟨k0, rfl⟩ : ∃ k : Nat, i = (k : Int) := ⟨i.toNat, by omega⟩
  have R0 : Hid (mayB L u k0 b = mayK L u b k0) := mayB_in (by rw [← hn.out]; omega)
  go_enter Try.func21, Try.ntmps21
  go_wp2_with fail
  go_loopw [2] (fun t wr => ∃ k : Nat, k < n ∧ t = .int .i64 k ∧ Hid (mayK L u b k0 = mayK L u b k) ∧ Below w.heap.size w wr) (fun t _ => (intOf t).toNat)
  case atStart => exact ⟨k0, by omega, rfl, rfl, Below.refl _ _⟩
  case round =>
    obtain ⟨k, hk, rfl, OK, hbel⟩ := hrel
    have hkl : k < L.length := by rw [← hn.out]; exact hk
    obtain ⟨bk, off, rfl, hb, rv, sv, ⟨p1, p2⟩, ⟨o1, o2⟩, c0, c1, c2, c3, hr, hs⟩ := H.out k hkl
    have NO : hasB ((lb L k).own b) u = false → Hid (mayB L u k0 b = false) := fun hf => by
      show _ = _
      rw [R0.out, OK.out]
      exact mayK_no hf
    have TOP : hasB ((lb L k).own b) u = true → ((lb L k).p < 0 ∨ (k : Int) ≤ (lb L k).p) → Hid (mayB L u k0 b = true) := fun hf hp => by
      show _ = _
      rw [R0.out, OK.out]
      exact mayK_top hf hp
    have UP : hasB ((lb L k).own b) u = true → 0 ≤ (lb L k).p → (lb L k).p < (k : Int) → Hid (mayK L u b k0 = mayK L u b (lb L k).p.toNat) := fun hf h1 h2 => by
      show _ = _
      rw [OK.out]
      exact mayK_up hf h1 h2
    generalize lb L k = x at *
    have hr1 := hr.below hbel (Nat.le_refl _)
    have hs1 := hs.below hbel (Nat.le_refl _)
    have C1 : Hid (∀ w', Below wr.heap.size wr w' → Calls Try.prog 23 #[.agg #[.int .i64 x.p, .int .i64 x.o, rv, sv], .int .i64 u, .bool b] w' fun e w'' => e = .returned (.bool (hasB (x.own b) u)) ∧ Below w'.heap.size w' w'') := fun w' hb => among_any u b w' (hr1.below hb (Nat.le_refl _)) (hs1.below hb (Nat.le_refl _)) HU.out
    generalize x.own b = ow at *
    obtain ⟨p, o, r, s⟩ := x
    simp only at p1 p2 o1 o2 c0 c1 c2 c3 hr hs NO TOP UP hr1 hs1 C1
    have N := Lib.hid NO
    have T := Lib.hid TOP
    have U := Lib.hid UP
    replace c0 := below_cell hbel hb c0
    replace c1 := below_cell hbel hb c1
    replace c2 := below_cell hbel hb c2
    replace c3 := below_cell hbel hb c3
    obtain ⟨ra, rc, rfl⟩ := hr1.is_slice
    obtain ⟨sa, sc, rfl⟩ := hs1.is_slice
    generalize r.length = l1 at *
    generalize s.length = l2 at *
    have HB := Lib.hid hbel
    have hbw : bk < wr.heap.size := Nat.lt_of_lt_of_le hb hbel.size
    clear NO TOP UP H OK hr hs hr1 hs1 hbel R0
    cases hh : hasB ow u with
    | false =>
      have R := N.out hh
      rw [hh] at C1
      clear hh N T U
      go_wp2_with fail
      refine (C1.out _ (Below.refl _ _)).mono ?_
      rintro e w5 ⟨rfl, hb5⟩
      go_wp2_with fail
      go_ret
      exact ⟨ret_bool R.out.symm, below_more HB.out hb5⟩
    | true =>
      rw [hh] at C1
      by_cases q1 : p < 0
      · have R := T.out hh (.inl q1)
        clear hh N T U
        go_wp2_with fail
        refine (C1.out _ (Below.refl _ _)).mono ?_
        rintro e w5 ⟨rfl, hb5⟩
        have c0' := below_cell hb5 hbw c0
        have HB5 := Lib.hid hb5
        go_wp2_with fail
        go_ret
        exact ⟨ret_bool R.out.symm, below_more HB.out hb5⟩
      · by_cases q2 : (k : Int) ≤ p
        · have R := T.out hh (.inr q2)
          clear hh N T U
          go_wp2_with fail
          refine (C1.out _ (Below.refl _ _)).mono ?_
          rintro e w5 ⟨rfl, hb5⟩
          have c0' := below_cell hb5 hbw c0
          have HB5 := Lib.hid hb5
          go_wp2_with fail
          go_ret
          exact ⟨ret_bool R.out.symm, below_more HB.out hb5⟩
        · have R := U.out hh (by omega) (by omega)
          obtain ⟨q, rfl⟩ : ∃ q : Nat, p = (q : Int) := ⟨p.toNat, by omega⟩
          clear hh N T U
          go_wp2_with fail
          refine (C1.out _ (Below.refl _ _)).mono ?_
          rintro e w5 ⟨rfl, hb5⟩
          have c0' := below_cell hb5 hbw c0
          have HB5 := Lib.hid hb5
          go_wp2_with fail
          go_roundw
          case rel => exact ⟨q, by omega, rfl, R, below_more HB.out HB5.out⟩
          case measure => simp [intOf]; omega

set_option maxRecDepth 100000 in
set_option maxHeartbeats 1600000 in
theorem rmayK : ∀ (m : Nat) {v : Value} {L : List Lb} (u : Int) (k : Nat) (b : Bool) (w : World), k < m → k < L.length → Labs w v L → i64 u →
    Calls Try.prog 17 #[v, .int .i64 u, .int .i64 k, .bool b] w fun e w' => e = .returned (.bool (mayK L u b k)) ∧ Below w.heap.size w w' := by
  intro m
  induction m with
  | zero => intro v L u k b w hk; omega
  | succ m ih =>
    intro v L u k b w hkm hkl hL hu
    have IH : Hid (∀ q : Nat, q < k → ∀ w', Below w.heap.size w w' → Calls Try.prog 17 #[v, .int .i64 u, .int .i64 q, .bool b] w' fun e w'' => e = .returned (.bool (mayK L u b q)) ∧ Below w'.heap.size w' w'') :=
      fun q hq w' hb => ih u q b w' (by omega) (by omega) (hL.below hb (Nat.le_refl _)) hu
    obtain ⟨a, cap, rfl, hlc, hcap, hc⟩ := hL.open_
    have HU := Lib.hid hu
    obtain ⟨hu1, hu2⟩ := hu
    obtain ⟨bk, off, rfl, hb, rv, sv, ⟨p1, p2⟩, ⟨o1, o2⟩, c0, c1, c2, c3, hr, hs⟩ := hc k hkl
    have NO := Lib.hid (mayK_no (L := L) (u := u) (w := b) (k := k))
    have TOP := Lib.hid (mayK_top (L := L) (u := u) (w := b) (k := k))
    have UP := Lib.hid (mayK_up (L := L) (u := u) (w := b) (k := k))
    generalize lb L k = x at *
    have C1 : Hid (∀ w', Below w.heap.size w w' → Calls Try.prog 18 #[if b then sv else rv, .int .i64 u] w' fun e w'' => e = .returned (.bool (hasB (x.own b) u)) ∧ w' = w'') := fun w' hb => by
      cases b with
      | true => exact has_any u w' (hs.below hb (Nat.le_refl _)) HU.out
      | false => exact has_any u w' (hr.below hb (Nat.le_refl _)) HU.out
    generalize hmk : mayK L u b k = res at *
    generalize x.own b = ow at *
    obtain ⟨p, o, r, s⟩ := x
    simp only at p1 p2 o1 o2 c0 c1 c2 c3 hr hs NO TOP UP C1
    obtain ⟨ra, rc, rfl⟩ := hr.is_slice
    obtain ⟨sa, sc, rfl⟩ := hs.is_slice
    generalize r.length = l1 at *
    generalize s.length = l2 at *
    generalize L.length = n at *
    have KA : Hid (∀ o, Below w.heap.size w (w.alloc o)) := fun o => (Below.refl _ _).alloc (Nat.le_refl _) _
    have lm : (n : Int) ≤ 9223372036854775807 := by omega
    clear hc hr hs ih hL
    cases hh : hasB ow u with
    | false =>
      obtain rfl := NO.out hh
      rw [hh] at C1
      clear hh TOP UP IH NO
      cases b <;>
      · go_enter Try.func17, Try.ntmps17
        go_wp2_with fail
        refine (C1.out _ (KA.out _)).mono ?_
        rintro e w5 ⟨rfl, rfl⟩
        go_wp2_with fail
        go_ret
        exact ⟨rfl, KA.out _⟩
    | true =>
      rw [hh] at C1
      by_cases q1 : p < 0
      · obtain rfl := TOP.out hh (.inl q1)
        clear hh TOP UP IH NO
        cases b <;>
        · go_enter Try.func17, Try.ntmps17
          go_wp2_with fail
          refine (C1.out _ (KA.out _)).mono ?_
          rintro e w5 ⟨rfl, rfl⟩
          go_wp2_with fail
          go_ret
          exact ⟨rfl, KA.out _⟩
      · by_cases q2 : (k : Int) ≤ p
        · obtain rfl := TOP.out hh (.inr q2)
          clear hh TOP UP IH NO
          cases b <;>
          · go_enter Try.func17, Try.ntmps17
            go_wp2_with fail
            refine (C1.out _ (KA.out _)).mono ?_
            rintro e w5 ⟨rfl, rfl⟩
            go_wp2_with fail
            go_ret
            exact ⟨rfl, KA.out _⟩
        · have R := UP.out hh (by omega) (by omega)
          obtain ⟨q, rfl⟩ : ∃ q : Nat, p = (q : Int) := ⟨p.toNat, by omega⟩
          rw [Int.toNat_natCast] at R
          subst R
          have IQ : Hid (∀ w', Below w.heap.size w w' → Calls Try.prog 17 #[.slice (some ⟨bk, off, none⟩) n cap, .int .i64 u, .int .i64 q, .bool b] w' fun e w'' => e = .returned (.bool (mayK L u b q)) ∧ Below w'.heap.size w' w'') := fun w' hb' => IH.out q (by omega) w' hb'
          clear hh TOP UP IH NO hmk
          generalize mayK L u b q = res at *
          cases b <;>
          · go_enter Try.func17, Try.ntmps17
            go_wp2_with fail
            refine (C1.out _ (KA.out _)).mono ?_
            rintro e w5 ⟨rfl, rfl⟩
            go_wp2_with fail
            refine (IQ.out _ (KA.out _)).mono ?_
            rintro e w6 ⟨rfl, hb6⟩
            go_wp2_with fail
            go_ret
            refine ⟨ret_bool (a := decide ((q : Int) < 0) || decide (k ≤ q) || res) ?_, below_more (KA.out _) hb6⟩
            rw [decide_eq_false (show ¬ (q : Int) < 0 by omega), decide_eq_false (show ¬ k ≤ q by omega)]
            rfl

set_option maxRecDepth 100000 in
set_option maxHeartbeats 1600000 in
theorem rmay_any {v : Value} {L : List Lb} (u i : Int) (b : Bool) (w : World) (h : Labs w v L) (hu : i64 u) (hi : i64 i) :
    Calls Try.prog 17 #[v, .int .i64 u, .int .i64 i, .bool b] w fun e w' => e = .returned (.bool (mayB L u i b)) ∧ Below w.heap.size w w' := by
  by_cases hin : 0 ≤ i ∧ i < (L.length : Int)
  · obtain ⟨k, rfl⟩ : ∃ k : Nat, i = (k : Int) := ⟨i.toNat, by omega⟩
    rw [mayB_in (by omega)]
    exact rmayK (k + 1) u k b w (by omega) (by omega) h hu
  have R : Hid (mayB L u i b = false) := mayB_out hin
  obtain ⟨a, cap, rfl, hlc, hcap, hc⟩ := h.open_
  clear hc h
  generalize L.length = n at *
  obtain ⟨hi1, hi2⟩ := hi
  by_cases h1 : i < 0
  · clear hin
    go_enter Try.func17, Try.ntmps17
    go_wp2_with fail
    go_ret
    exact ⟨ret_bool R.out.symm, Below.refl _ _⟩
  · have h2 : (n : Int) ≤ i := by omega
    clear hin
    go_enter Try.func17, Try.ntmps17
    go_wp2_with fail
    go_ret
    exact ⟨ret_bool R.out.symm, Below.refl _ _⟩

end Go.Proofs.Ytfahfjhibffdkaa.Rig
