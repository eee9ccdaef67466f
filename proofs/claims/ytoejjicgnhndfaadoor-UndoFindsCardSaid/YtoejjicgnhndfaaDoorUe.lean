/- Undo: things (insertions, deletions with their ropes): what they mean; thing, load, plain, the law's plain. -/
import Derived.Test.YtoejjicgnhndfaaDoorUd
import Derived.Test.YtoejjicgnhndfaaDoorQc
import Derived.Deep.RegionHeld3
set_option linter.unusedVariables false
set_option maxRecDepth 100000
namespace Go.Proofs.YtoejjicgnhndfaaDoor.Und
open Go.RowKit Go.Lib Go.Proofs.YtoejjicgnhndfaaDoor.Rk Go.Proofs.YtoejjicgnhndfaaDoor.Rig

theorem urow_lt {w : World} {b : Nat} {o : Obj} (h : w.heap[b]? = some o) : b < w.heap.size := (Array.getElem?_eq_some_iff.1 h).1
abbrev IsRope := Con.IsRope
abbrev Tabs (w : World) : Prop := Con.Tabs w
theorem urope_ptr {w : World} {L : List UInt8} {v : Value} (h : IsRope w L v) : ∃ q, v = .pointer q := by
  obtain ⟨t, h, _, _⟩ := h
  cases t with
  | nil => exact ⟨none, h⟩
  | leaf s => obtain ⟨b, rfl, _⟩ := h; exact ⟨_, rfl⟩
  | node l r => obtain ⟨b, vl, vr, rfl, _⟩ := h; exact ⟨_, rfl⟩
theorem unew_is (L : List UInt8) (w : World) (hl : L.length ≤ 1073741824) (hr : Let.right L = true) (hT : Tabs w) : Calls Tryd.prog 69 #[.string (Let.mk L)] w fun e w' => ∃ q, e = .returned (.tuple #[.pointer q, .bool true]) ∧ IsRope w' L (.pointer q) ∧ Below w.heap.size w w' := by
  have := Con.new_yes (Let.mk L) w (by rw [Let.mk_size]; exact hl) (by rw [Let.mk_data]; exact hr) hT
  rw [Let.mk_data] at this
  refine this.mono ?_
  rintro e w' ⟨v, rfl, h1, h2⟩
  obtain ⟨q, rfl⟩ := urope_ptr h1
  exact ⟨q, rfl, h1, h2⟩
theorem unew_isnt (L : List UInt8) (w : World) (hl : L.length ≤ 1073741824) (hr : Let.right L = false) (hT : Tabs w) : Calls Tryd.prog 69 #[.string (Let.mk L)] w fun e w' => e = .returned (.tuple #[.pointer none, .bool false]) ∧ Below w.heap.size w w' :=
  Con.new_no (Let.mk L) w (by rw [Let.mk_size]; exact hl) (by rw [Let.mk_data]; exact hr) hT

/-- The thing that y tells. -/
def ThV (w : World) (v : Value) (y : U) : Prop := (y.k = 1 ∧ y.t = [] ∧ v = putV y.d y.m y.l) ∨ (y.k = 2 ∧ Let.right y.t = true ∧ ∃ q, v = tookV y.d y.m y.l q ∧ IsRope w y.t (.pointer q))
theorem ThV.nums {w : World} {v : Value} {y : U} (h : ThV w v y) : Nums v y.d y.m y.l true := by
  rcases h with ⟨_, _, rfl⟩ | ⟨_, _, q, rfl, _⟩
  · exact .put _ _ _
  · exact .took _ _ _ _
theorem ThV.below {w w' : World} {v : Value} {y : U} (h : ThV w v y) {B : Nat} (hb : Below B w w') (hB : w.heap.size ≤ B) : ThV w' v y := by
  rcases h with h | ⟨h1, h2, q, h3, h4⟩
  · exact .inl h
  · exact .inr ⟨h1, h2, q, h3, h4.below hb hB⟩
theorem IsRope.grown {w w' : World} {L : List UInt8} {v : Value} {row : Option Nat} (h : IsRope w L v) (hg : w.grownBy w' row) (hr : ∀ b, Con.Ty w b → row ≠ some b) : IsRope w' L v := by
  obtain ⟨t, r1, r2, r3⟩ := h
  exact ⟨t, Con.Rp.same (fun b hb => hg.block b (by obtain ⟨cs, hc⟩ := hb; exact (Array.getElem?_eq_some_iff.1 hc).1) (fun e => hr b hb e.symm)) hg.size r1, r2, r3⟩
theorem ThV.grown {w w' : World} {v : Value} {y : U} {row : Option Nat} (h : ThV w v y) (hg : w.grownBy w' row) (hr : ∀ b, Con.Ty w b → row ≠ some b) : ThV w' v y := by
  rcases h with h | ⟨h1, h2, q, h3, h4⟩
  · exact .inl h
  · exact .inr ⟨h1, h2, q, h3, IsRope.grown h4 hg hr⟩
theorem own_noty {w : World} {base k n : Nat} {e : TypeId} {u : Value} {xs : List Value} (hown : w.ownsRow base e k u n xs) (he : e ≠ 142) {b : Nat} (hb : Con.Ty w b) : u.ownBlock ≠ some b := by
  obtain ⟨cs, hc⟩ := hb
  intro h
  rcases hown.2 with ⟨rfl, _⟩ | ⟨g, cap, cur, rfl, hbg, hg, _⟩
  · cases h
  · have : g = b := by simpa [Value.ownBlock] using h
    subst this
    rw [hg] at hc
    simp at hc
    exact he hc.2
theorem ThV.form {w : World} {v : Value} {y : U} (h : ThV w v y) : v = putV y.d y.m y.l ∨ ∃ q, v = tookV y.d y.m y.l q := by
  rcases h with ⟨_, _, rfl⟩ | ⟨_, _, q, rfl, _⟩
  · exact .inl rfl
  · exact .inr ⟨q, rfl⟩
theorem ThV.ok {w : World} {v : Value} {y : U} (h : ThV w v y) : ok1 y = true := by
  unfold ok1
  rcases h with ⟨h1, h2, _⟩ | ⟨h1, h2, _⟩
  · rw [h1, h2]; decide +kernel
  · rw [h1, h2]; rfl

set_option maxHeartbeats 2000000 in
/-- The law's thing. -/
theorem thing_any (y : U) (w : World) (h : ok1 y = true) (hl : y.t.length ≤ 1073741824) (hT : Tabs w) : Calls Tryd.prog 56 #[y.val] w fun e w' => ∃ v, e = .returned v ∧ ThV w' v y ∧ Below w.heap.size w w' := by
  obtain ⟨k, d, m, l, t⟩ := y
  unfold U.val
  unfold ok1 at h
  simp only at h hl ⊢
  have HT : Hid (∀ o, Tabs (w.alloc o)) := fun o => hT.below ((Below.refl _ _).alloc (Nat.le_refl _) o)
  have FB : Hid (∀ o, Below w.heap.size w (w.alloc o)) := fun o => (Below.refl _ _).alloc (Nat.le_refl _) o
  by_cases q1 : k = 1
  · subst q1
    have ht : t = [] := by
      cases t with
      | nil => rfl
      | cons a b => simp at h
    subst ht
    clear h hT
    go_enter Tryd.func56, Tryd.ntmps56
    go_wp2_with fail
    go_ret
    exact ⟨_, rfl, .inl ⟨rfl, rfl, rfl⟩, FB.out _⟩
  · have n1 : (k == 1) = false := by rw [beq_eq_false_iff_ne]; exact q1
    have q2 : k = 2 := by
      rw [n1] at h
      simp at h
      exact h.1
    subst q2
    have hr : Let.right t = true := by simp at h; exact h
    have CN : Hid (∀ w', Tabs w' → Calls Tryd.prog 69 #[.string (Let.mk t)] w' fun e w'' => ∃ q, e = .returned (.tuple #[.pointer q, .bool true]) ∧ IsRope w'' t (.pointer q) ∧ Below w'.heap.size w' w'') := fun w' ht => unew_is t w' hl hr ht
    have HR := Lib.hid hr
    have KC : Hid (∀ o w', Below (w.alloc o).heap.size (w.alloc o) w' → ∀ (j : Nat) (v : Value), (w.alloc o).cell? ⟨w.heap.size, j, none⟩ = some v → w'.cell? ⟨w.heap.size, j, none⟩ = some v) := fun o w' hb j v hc => below_cell hb (by simp) hc
    obtain ⟨W0, hW0⟩ : ∃ W0, W0 = w.alloc (.cells #[.int .i64 2, .int .i64 d, .int .i64 m, .int .i64 l, .string (Let.mk t)] 88) := ⟨_, rfl⟩
    have r0 : W0.heap[w.heap.size]? = some (.cells #[.int .i64 2, .int .i64 d, .int .i64 m, .int .i64 l, .string (Let.mk t)] 88 (0, 0)) := by rw [hW0]; exact heap_alloc_new _ _
    have BX : Hid (∀ w', Below W0.heap.size W0 w' → w'.cell? ⟨w.heap.size, 0, none⟩ = some (.int .i64 2) ∧ w'.cell? ⟨w.heap.size, 1, none⟩ = some (.int .i64 d) ∧ w'.cell? ⟨w.heap.size, 2, none⟩ = some (.int .i64 m) ∧ w'.cell? ⟨w.heap.size, 3, none⟩ = some (.int .i64 l) ∧ w'.cell? ⟨w.heap.size, 4, none⟩ = some (.string (Let.mk t))) := fun w' hb => by
      have r1 := (hb.block _ (urow_lt r0)).trans r0
      refine ⟨?_, ?_, ?_, ?_, ?_⟩ <;> (rw [cell_of_row _ _ _ _ _ _ r1]; rfl)
    have T0 : Hid (Tabs W0) := by show Tabs _; rw [hW0]; exact HT.out _
    have B0 : Hid (Below w.heap.size w W0) := by show Below _ _ _; rw [hW0]; exact FB.out _
    have HW0 := Lib.hid hW0
    obtain ⟨c0, c1, c2, c3, c4⟩ := BX.out _ (Below.refl _ _)
    clear hW0 r0 hr h hT HT FB KC
    go_enter Tryd.func56, Tryd.ntmps56
    go_upto_region 1 with fail
    rw [← HW0.out]
    go_wp2_with fail
    refine (CN.out _ T0.out).mono ?_
    rintro e w1 ⟨q, rfl, hq, b1⟩
    clear c0 c1 c2 c3 c4
    obtain ⟨c0, c1, c2, c3, c4⟩ := BX.out _ b1
    have HQ := Lib.hid hq
    have B1 := Lib.hid (below_more B0.out b1)
    clear hq b1
    go_wp2_with fail
    go_ret
    exact ⟨_, rfl, .inr ⟨rfl, HR.out, q, rfl, HQ.out⟩, B1.out⟩

set_option maxHeartbeats 2000000 in
/-- load of the program: a thing. -/
theorem load_thing (y : U) (w : World) (h : ok1 y = true) (hl : y.t.length ≤ 1073741824) (hT : Tabs w) : Calls Tryd.prog 94 #[y.val] w fun e w' => ∃ v, e = .returned (.tuple #[v, .bool true]) ∧ ThV w' v y ∧ Below w.heap.size w w' := by
  obtain ⟨k, d, m, l, t⟩ := y
  unfold U.val
  unfold ok1 at h
  simp only at h hl ⊢
  have HT : Hid (∀ o, Tabs (w.alloc o)) := fun o => hT.below ((Below.refl _ _).alloc (Nat.le_refl _) o)
  have FB : Hid (∀ o, Below w.heap.size w (w.alloc o)) := fun o => (Below.refl _ _).alloc (Nat.le_refl _) o
  by_cases q1 : k = 1
  · subst q1
    have ht : t = [] := by
      cases t with
      | nil => rfl
      | cons a b => simp at h
    subst ht
    have BE := bstr_empty []
    clear h hT
    go_enter Tryd.func94, Tryd.ntmps94
    go_wp2_with fail
    go_ret2
    exact ⟨_, rfl, .inl ⟨rfl, rfl, rfl⟩, FB.out _⟩
  · have n1 : (k == 1) = false := by rw [beq_eq_false_iff_ne]; exact q1
    have q2 : k = 2 := by
      rw [n1] at h
      simp at h
      exact h.1
    subst q2
    have hr : Let.right t = true := by simp at h; exact h
    have CN : Hid (∀ w', Tabs w' → Calls Tryd.prog 69 #[.string (Let.mk t)] w' fun e w'' => ∃ q, e = .returned (.tuple #[.pointer q, .bool true]) ∧ IsRope w'' t (.pointer q) ∧ Below w'.heap.size w' w'') := fun w' ht => unew_is t w' hl hr ht
    have HR := Lib.hid hr
    obtain ⟨W0, hW0⟩ : ∃ W0, W0 = w.alloc (.cells #[.int .i64 2, .int .i64 d, .int .i64 m, .int .i64 l, .string (Let.mk t)] 88) := ⟨_, rfl⟩
    have r0 : W0.heap[w.heap.size]? = some (.cells #[.int .i64 2, .int .i64 d, .int .i64 m, .int .i64 l, .string (Let.mk t)] 88 (0, 0)) := by rw [hW0]; exact heap_alloc_new _ _
    have BX : Hid (∀ w', Below W0.heap.size W0 w' → w'.cell? ⟨w.heap.size, 0, none⟩ = some (.int .i64 2) ∧ w'.cell? ⟨w.heap.size, 1, none⟩ = some (.int .i64 d) ∧ w'.cell? ⟨w.heap.size, 2, none⟩ = some (.int .i64 m) ∧ w'.cell? ⟨w.heap.size, 3, none⟩ = some (.int .i64 l) ∧ w'.cell? ⟨w.heap.size, 4, none⟩ = some (.string (Let.mk t))) := fun w' hb => by
      have r1 := (hb.block _ (urow_lt r0)).trans r0
      refine ⟨?_, ?_, ?_, ?_, ?_⟩ <;> (rw [cell_of_row _ _ _ _ _ _ r1]; rfl)
    have T0 : Hid (Tabs W0) := by show Tabs _; rw [hW0]; exact HT.out _
    have B0 : Hid (Below w.heap.size w W0) := by show Below _ _ _; rw [hW0]; exact FB.out _
    have HW0 := Lib.hid hW0
    obtain ⟨c0, c1, c2, c3, c4⟩ := BX.out _ (Below.refl _ _)
    clear hW0 r0 hr h hT HT FB
    go_enter Tryd.func94, Tryd.ntmps94
    go_upto_region 1 with fail
    rw [← HW0.out]
    go_wp2_with fail
    refine (CN.out _ T0.out).mono ?_
    rintro e w1 ⟨q, rfl, hq, b1⟩
    clear c0 c1 c2 c3 c4
    obtain ⟨c0, c1, c2, c3, c4⟩ := BX.out _ b1
    have HQ := Lib.hid hq
    have B1 := Lib.hid (below_more B0.out b1)
    clear hq b1
    go_wp2_with fail
    go_ret2
    exact ⟨_, rfl, .inr ⟨rfl, HR.out, q, rfl, HQ.out⟩, B1.out⟩
set_option maxHeartbeats 2000000 in
/-- .. or none. -/
theorem load_none (y : U) (w : World) (h : ok1 y = false) (hl : y.t.length ≤ 1073741824) (hT : Tabs w) : Calls Tryd.prog 94 #[y.val] w fun e w' => ∃ v, e = .returned (.tuple #[v, .bool false]) ∧ (v = .nilIface ∨ ∃ u, v = .iface 161 (.agg u)) ∧ Below w.heap.size w w' := by
  obtain ⟨k, d, m, l, t⟩ := y
  unfold U.val
  unfold ok1 at h
  simp only at h hl ⊢
  have HT : Hid (∀ o, Tabs (w.alloc o)) := fun o => hT.below ((Below.refl _ _).alloc (Nat.le_refl _) o)
  have FB : Hid (∀ o, Below w.heap.size w (w.alloc o)) := fun o => (Below.refl _ _).alloc (Nat.le_refl _) o
  by_cases q1 : k = 1
  · subst q1
    have ht : t ≠ [] := by
      rintro rfl
      have : Let.right [] = true := by decide +kernel
      simp [this] at h
    have BE : (Let.mk t).toList.isEmpty = false := by
      rw [bstr_empty]
      cases t with
      | nil => exact absurd rfl ht
      | cons a b => rfl
    clear h hT
    go_enter Tryd.func94, Tryd.ntmps94
    go_wp2_with fail
    go_ret2
    exact ⟨_, rfl, .inl rfl, FB.out _⟩
  · have n1 : (k == 1) = false := by rw [beq_eq_false_iff_ne]; exact q1
    by_cases q2 : k = 2
    · subst q2
      have hr : Let.right t = false := by simp at h; exact h
      have CN : Hid (∀ w', Tabs w' → Calls Tryd.prog 69 #[.string (Let.mk t)] w' fun e w'' => e = .returned (.tuple #[.pointer none, .bool false]) ∧ Below w'.heap.size w' w'') := fun w' ht => unew_isnt t w' hl hr ht
      obtain ⟨W0, hW0⟩ : ∃ W0, W0 = w.alloc (.cells #[.int .i64 2, .int .i64 d, .int .i64 m, .int .i64 l, .string (Let.mk t)] 88) := ⟨_, rfl⟩
      have r0 : W0.heap[w.heap.size]? = some (.cells #[.int .i64 2, .int .i64 d, .int .i64 m, .int .i64 l, .string (Let.mk t)] 88 (0, 0)) := by rw [hW0]; exact heap_alloc_new _ _
      have BX : Hid (∀ w', Below W0.heap.size W0 w' → w'.cell? ⟨w.heap.size, 0, none⟩ = some (.int .i64 2) ∧ w'.cell? ⟨w.heap.size, 1, none⟩ = some (.int .i64 d) ∧ w'.cell? ⟨w.heap.size, 2, none⟩ = some (.int .i64 m) ∧ w'.cell? ⟨w.heap.size, 3, none⟩ = some (.int .i64 l) ∧ w'.cell? ⟨w.heap.size, 4, none⟩ = some (.string (Let.mk t))) := fun w' hb => by
        have r1 := (hb.block _ (urow_lt r0)).trans r0
        refine ⟨?_, ?_, ?_, ?_, ?_⟩ <;> (rw [cell_of_row _ _ _ _ _ _ r1]; rfl)
      have T0 : Hid (Tabs W0) := by show Tabs _; rw [hW0]; exact HT.out _
      have B0 : Hid (Below w.heap.size w W0) := by show Below _ _ _; rw [hW0]; exact FB.out _
      have HW0 := Lib.hid hW0
      obtain ⟨c0, c1, c2, c3, c4⟩ := BX.out _ (Below.refl _ _)
      clear hW0 r0 hr h hT HT FB
      go_enter Tryd.func94, Tryd.ntmps94
      go_upto_region 1 with fail
      rw [← HW0.out]
      go_wp2_with fail
      refine (CN.out _ T0.out).mono ?_
      rintro e w1 ⟨rfl, b1⟩
      clear c0 c1 c2 c3 c4
      obtain ⟨c0, c1, c2, c3, c4⟩ := BX.out _ b1
      have B1 := Lib.hid (below_more B0.out b1)
      clear b1
      go_wp2_with fail
      go_ret2
      exact ⟨_, rfl, .inr ⟨_, rfl⟩, B1.out⟩
    · have n2 : (k == 2) = false := by rw [beq_eq_false_iff_ne]; exact q2
      clear h hT
      go_enter Tryd.func94, Tryd.ntmps94
      go_wp2_with fail
      go_ret2
      exact ⟨_, rfl, .inl rfl, FB.out _⟩
end Go.Proofs.YtoejjicgnhndfaaDoor.Und
