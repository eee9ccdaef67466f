/- State: clones of rows; rows of the call's own, changed in place. -/
import Derived.Test.YtmdgjcikekojdaaGreatDoorZa
import Derived.Test.YtmdgjcikekojdaaGreatDoorZg
import Derived.Lib.SliceRun
import Derived.Shelf.Abstract
set_option linter.unusedVariables false
set_option linter.unusedSimpArgs false
set_option maxRecDepth 100000
namespace Go.Proofs.YtmdgjcikekojdaaGreatDoor.Sta
open Go.RowKit Go.Lib Go.Proofs.YtmdgjcikekojdaaGreatDoor.Bx Go.Proofs.YtmdgjcikekojdaaGreatDoor.Frm Go.Proofs.YtmdgjcikekojdaaGreatDoor.Wds

theorem flat_set {k : Nat} : ∀ (xs : List (List Value)), (∀ x ∈ xs, x.length = k) → ∀ (i o : Nat) (u : Value) (hi : i < xs.length), o < k → xs.flatten.set (i * k + o) u = (xs.set i ((xs[i]).set o u)).flatten
  | [], _, i, _, _, hi, _ => absurd hi (Nat.not_lt_zero _)
  | x :: xs, hk, i, o, u, hi, ho => by
    have hx : x.length = k := hk x List.mem_cons_self
    rw [List.flatten_cons]
    cases i with
    | zero =>
      rw [Nat.zero_mul, Nat.zero_add, List.set_append_left _ _ (by omega)]
      rfl
    | succ i =>
      rw [Nat.succ_mul, show i * k + k + o = k + (i * k + o) by omega, List.set_append_right _ _ (by omega), hx, show k + (i * k + o) - k = i * k + o by omega, flat_set xs (fun z hz => hk z (List.mem_cons_of_mem _ hz)) i o u (by simpa using hi) ho]
      rfl
theorem own_set {e : TypeId} {k base : Nat} {w : World} {g n cap : Nat} {xs : List (List Value)} (h : Rk.OwnK e k base w (.slice (some ⟨g, 0, none⟩) n cap) xs) {i o : Nat} {u : Value} (hi : i < xs.length) (ho : o < k) (hu : u.oneCell' = true) :
    Rk.OwnK e k base (w.setCell ⟨g, i * k + o, none⟩ u) (.slice (some ⟨g, 0, none⟩) n cap) (xs.set i ((xs[i]).set o u)) := by
  obtain ⟨h0, h1⟩ := h
  have hlen : (xs.set i ((xs[i]).set o u)).length = xs.length := List.length_set ..
  refine ⟨fun x hx => ?_, ?_⟩
  · rcases List.mem_or_eq_of_mem_set hx with hx | rfl
    · exact h0 x hx
    · obtain ⟨a, b⟩ := h0 xs[i] (List.getElem_mem hi)
      refine ⟨by rw [List.length_set]; exact a, fun q hq => ?_⟩
      rcases List.mem_or_eq_of_mem_set hq with hq | rfl
      · exact b q hq
      · exact hu
  · rw [hlen]
    obtain ⟨h2, h3⟩ := h1
    rcases h3 with ⟨e1, _⟩ | ⟨g', cap', cur, e1, hb, hg, hle, hm, hsz, htake⟩
    · cases e1
    · injection e1 with e1 e2 e3
      injection e1 with e1
      injection e1 with e1 _ _
      subst e1 e2 e3
      refine ⟨by rw [← flat_set xs (fun x hx => (h0 x hx).1) i o u hi ho, List.length_set]; exact h2, .inr ⟨g, cap, _, rfl, hb, set_block hg, hle, hm, by rw [Array.size_setIfInBounds]; exact hsz, ?_⟩⟩
      rw [Array.toList_setIfInBounds, ← flat_set xs (fun x hx => (h0 x hx).1) i o u hi ho, ← htake, List.take_set]
theorem own_empty {e : TypeId} {k base nb : Nat} {w : World} (hb : base ≤ nb) (h : w.heap[nb]? = some (.cells #[] e (0, 0))) : Rk.OwnK e k base w (.slice (some ⟨nb, 0, none⟩) 0 0) [] :=
  ⟨fun _ h => by simp at h, by simp, .inr ⟨nb, 0, #[], rfl, hb, h, Nat.le_refl _, by unfold maxLen; omega, by simp, by simp⟩⟩
set_option maxHeartbeats 4000000 in
theorem clone_i0 {v : Value} {ys : List (List Value)} (w : World) (h : Rk.RowK 1 w v ys) (ho : ∀ y ∈ ys, ∀ q ∈ y, q.oneCell' = true) (hl : ys.length ≤ 90000) : Calls Tryz.prog 14 #[v] w fun e w' => ∃ v', e = .returned v' ∧ Rk.OwnK 3 1 w.heap.size w' v' ys ∧ Below w.heap.size w w' := by
  have QN : ∀ (w : World) (a : Option Addr) (n c n' c' : Nat), (binOp .eql 49 (.slice a n c) (.slice none n' c')).run Tryz.prog w = .ok (.bool a.isNone) w := fun w a n c n' c' => Lib.run_eql_slice_nil w _ _ a n c n' c' Tryz.underlying49
  have hB := h
  obtain ⟨_, a, cap, rfl, hn, hm, h3⟩ := h
  cases a with
  | none =>
    have h0 : ys = [] := by
      rcases h3 with h3 | ⟨_, _, e, _⟩
      · exact h3
      · cases e
    subst h0
    clear hB h3 ho
    go_enter Tryz.func14, Tryz.ntmps14
    go_wp2_with fail
    go_ret
    exact ⟨_, rfl, Rk.OwnK.nil_ _ _ _ _, Below.refl _ _⟩
  | some a =>
    have A1 : Hid (Rk.OwnK 3 1 w.heap.size (w.alloc (.cells #[] 3)) (.slice (some ⟨w.heap.size, 0, none⟩) 0 0) []) := own_empty (Nat.le_refl _) (heap_alloc_new _ _)
    have A2 : Hid (Rk.RowK 1 (w.alloc (.cells #[] 3)) (.slice (some a) ys.length cap) ys) := hB.below (below_al (Below.refl _ _) _) (Nat.le_refl _)
    have A3 : Hid (∀ y ∈ ys, ∀ q ∈ y, q.oneCell' = true) := ho
    have A4 : Hid (([] : List (List Value)).length + ys.length ≤ 100000) := by show _ ≤ _; show 0 + ys.length ≤ _; omega
    have A5 : Hid (w.heap.size ≤ (w.alloc (.cells #[] 3)).heap.size) := by show _ ≤ _; simp
    obtain ⟨n, hnn⟩ : ∃ n, n = ys.length := ⟨_, rfl⟩
    rw [← hnn] at A2 ⊢
    clear hB hnn hn hm hl h3 ho
    go_enter Tryz.func14, Tryz.ntmps14
    go_wp2_with (at_builtin; refine Rk.wpList_append_rowk rfl _ _ 49 3 1 8 _ Tryz.underlying49 infoint rfl (by decide) (by decide) rfl w.heap.size _ _ [] ys rfl rfl A1.out A2.out A3.out A4.out A5.out ?_)
    intro v6 w9 h5 g5 k5
    have K9 : Hid (Rk.OwnK 3 1 w.heap.size w9 v6 ys) := h5
    have HB9 := Lib.hid (A1.out.belowOf (below_al (Below.refl _ _) _) (Nat.le_refl _) A5.out g5)
    clear h5 g5 k5 A1 A2 A3 A4 A5
    go_wp2_with fail
    go_ret
    exact ⟨_, rfl, K9.out, HB9.out⟩
set_option maxHeartbeats 4000000 in
theorem clone_l0 {v : Value} {ys : List (List Value)} (w : World) (h : Rk.RowK 4 w v ys) (ho : ∀ y ∈ ys, ∀ q ∈ y, q.oneCell' = true) (hl : ys.length ≤ 90000) : Calls Tryz.prog 13 #[v] w fun e w' => ∃ v', e = .returned v' ∧ Rk.OwnK 51 4 w.heap.size w' v' ys ∧ Below w.heap.size w w' := by
  have QN : ∀ (w : World) (a : Option Addr) (n c n' c' : Nat), (binOp .eql 22 (.slice a n c) (.slice none n' c')).run Tryz.prog w = .ok (.bool a.isNone) w := fun w a n c n' c' => Lib.run_eql_slice_nil w _ _ a n c n' c' Tryz.underlying22
  have hB := h
  obtain ⟨_, a, cap, rfl, hn, hm, h3⟩ := h
  cases a with
  | none =>
    have h0 : ys = [] := by
      rcases h3 with h3 | ⟨_, _, e, _⟩
      · exact h3
      · cases e
    subst h0
    clear hB h3 ho
    go_enter Tryz.func13, Tryz.ntmps13
    go_wp2_with fail
    go_ret
    exact ⟨_, rfl, Rk.OwnK.nil_ _ _ _ _, Below.refl _ _⟩
  | some a =>
    have A1 : Hid (Rk.OwnK 51 4 w.heap.size (w.alloc (.cells #[] 51)) (.slice (some ⟨w.heap.size, 0, none⟩) 0 0) []) := own_empty (Nat.le_refl _) (heap_alloc_new _ _)
    have A2 : Hid (Rk.RowK 4 (w.alloc (.cells #[] 51)) (.slice (some a) ys.length cap) ys) := hB.below (below_al (Below.refl _ _) _) (Nat.le_refl _)
    have A3 : Hid (∀ y ∈ ys, ∀ q ∈ y, q.oneCell' = true) := ho
    have A4 : Hid (([] : List (List Value)).length + ys.length ≤ 100000) := by show _ ≤ _; show 0 + ys.length ≤ _; omega
    have A5 : Hid (w.heap.size ≤ (w.alloc (.cells #[] 51)).heap.size) := by show _ ≤ _; simp
    obtain ⟨n, hnn⟩ : ∃ n, n = ys.length := ⟨_, rfl⟩
    rw [← hnn] at A2 ⊢
    clear hB hnn hn hm hl h3 ho
    go_enter Tryz.func13, Tryz.ntmps13
    go_wp2_with (at_builtin; refine Rk.wpList_append_rowk rfl _ _ 22 51 4 64 _ Tryz.underlying22 infoLabel rfl (by decide) (by decide) rfl w.heap.size _ _ [] ys rfl rfl A1.out A2.out A3.out A4.out A5.out ?_)
    intro v6 w9 h5 g5 k5
    have K9 : Hid (Rk.OwnK 51 4 w.heap.size w9 v6 ys) := h5
    have HB9 := Lib.hid (A1.out.belowOf (below_al (Below.refl _ _) _) (Nat.le_refl _) A5.out g5)
    clear h5 g5 k5 A1 A2 A3 A4 A5
    go_wp2_with fail
    go_ret
    exact ⟨_, rfl, K9.out, HB9.out⟩
theorem clone_i {P : Nat → Prop} {v : Value} {xs : List Int} (w : World) (h : RowP numM P w v xs) (hl : xs.length ≤ 90000) : Calls Tryz.prog 14 #[v] w fun e w' => ∃ v', e = .returned v' ∧ OwnP 3 numM w.heap.size w' v' xs ∧ Below w.heap.size w w' := by
  obtain ⟨p, h1, h2, _, h4⟩ := h
  refine (clone_i0 w h2 (fun y hy q hq => ?_) (by rw [List.length_map, ← List.length_map (f := Prod.snd), h1]; exact hl)).mono ?_
  · obtain ⟨z, hz, rfl⟩ := List.mem_map.1 hy
    exact numM_ok.one (h4 z hz) q hq
  · rintro e w' ⟨v', rfl, ho, hb⟩
    exact ⟨v', rfl, ⟨p, h1, ho, fun x hx => h4 x hx⟩, hb⟩
/-- An element of a row of the call's own: its cells. -/
theorem own_at {e : TypeId} {k base : Nat} {w : World} {g n cap : Nat} {ys : List (List Value)} (h : Rk.OwnK e k base w (.slice (some ⟨g, 0, none⟩) n cap) ys) {i : Nat} (hi : i < ys.length) : (∀ o u, ys[i][o]? = some u → w.cell? ⟨g, i * k + o, none⟩ = some u) ∧ (∀ o, w.frozen? ⟨g, o, none⟩ = false) ∧ base ≤ g ∧ g < w.heap.size ∧ n = ys.length := by
  have hr := h.row
  have hb := h.block g rfl
  obtain ⟨_, a', cap', e1, _, _, h3⟩ := hr
  injection e1 with e1 e2 e3
  rcases h3 with h3 | ⟨b, off, e4, _, hc⟩
  · rw [h3] at hi; exact absurd hi (Nat.not_lt_zero _)
  · rw [← e1] at e4
    injection e4 with e4
    simp only [Addr.mk.injEq] at e4
    obtain ⟨rfl, rfl, _⟩ := e4
    refine ⟨fun o u hu => by have := hc i hi o u hu; rwa [Nat.zero_add] at this, fun o => ?_, hb.1, hb.2, e2⟩
    rcases h.2.2 with ⟨e5, _⟩ | ⟨g', cap5, cur, e5, _, hg, _⟩
    · cases e5
    · injection e5 with e5
      injection e5 with e5
      injection e5 with e5 _ _
      subst e5
      exact free_at hg
theorem own_form {e : TypeId} {k base : Nat} {w : World} {v : Value} {ys : List (List Value)} (h : Rk.OwnK e k base w v ys) (hn : 0 < ys.length) : ∃ g cap, v = .slice (some ⟨g, 0, none⟩) ys.length cap := by
  rcases h.2.2 with ⟨_, h0⟩ | ⟨g, cap, cur, e1, _⟩
  · omega
  · exact ⟨g, cap, e1⟩
end Go.Proofs.YtmdgjcikekojdaaGreatDoor.Sta
