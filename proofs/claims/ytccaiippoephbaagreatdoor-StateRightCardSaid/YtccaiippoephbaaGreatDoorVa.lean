/- A part of the proof. -/
import Derived.Test.YtccaiippoephbaaGreatDoorWa
import Derived.WalkKit
import Derived.Test.YtccaiippoephbaaGreatDoorWh
import Derived.Test.YtccaiippoephbaaGreatDoorWu
import Derived.Laws.StructEq
import Derived.Deep.LoopGhost
import Derived.BigQuiet
import Derived.Test.YtccaiippoephbaaGreatDoorWx
import Derived.Deep.RegionHeld3
import Derived.Deep.RegionWith
set_option linter.unusedVariables false
set_option maxRecDepth 100000
namespace Go.Proofs.YtccaiippoephbaaGreatDoor.Und
open Go.RowKit Go.Proofs.YtccaiippoephbaaGreatDoor.Rk
def putV (d m l : Int) : Value := .iface 150 (.agg #[.int .i64 d, .int .i64 m, .int .i64 l])
def tookV (d m l : Int) (q : Option Addr) : Value := .iface 152 (.agg #[.int .i64 d, .int .i64 m, .int .i64 l, .pointer q])
end Go.Proofs.YtccaiippoephbaaGreatDoor.Und
namespace Go.Proofs.YtccaiippoephbaaGreatDoor.Und
open Go.RowKit Go.Lib Go.Proofs.YtccaiippoephbaaGreatDoor.Rk Go.Proofs.YtccaiippoephbaaGreatDoor.Rig
structure U where
  k : Int
  d : Int
  m : Int
  l : Int
  t : List UInt8
def U.good (y : U) : Prop := i64 y.k ∧ i64 y.d ∧ i64 y.m ∧ i64 y.l ∧ y.t.length ≤ 140737488355328
def U.cells (y : U) : List Value := [.int .i64 y.k, .int .i64 y.d, .int .i64 y.m, .int .i64 y.l, .string (Let.mk y.t)]
def U.val (y : U) : Value := .agg #[.int .i64 y.k, .int .i64 y.d, .int .i64 y.m, .int .i64 y.l, .string (Let.mk y.t)]
def Us (w : World) (v : Value) (A : List U) : Prop := RowK 5 w v (A.map U.cells) ∧ ∀ y ∈ A, y.good
theorem Us.below {w w' : World} {v : Value} {A : List U} (h : Us w v A) {B : Nat} (hb : Below B w w') (hB : w.heap.size ≤ B) : Us w' v A := ⟨h.1.below hb hB, h.2⟩
theorem Us.open_ {w : World} {v : Value} {A : List U} (h : Us w v A) : ∃ a cap, v = .slice a A.length cap ∧ A.length ≤ cap ∧ cap ≤ maxLen ∧ ∀ j (hj : j < A.length), ∃ b off, a = some ⟨b, off, none⟩ ∧ b < w.heap.size ∧ A[j].good ∧
    w.cell? ⟨b, off + j * 5, none⟩ = some (.int .i64 A[j].k) ∧ w.cell? ⟨b, off + j * 5 + 1, none⟩ = some (.int .i64 A[j].d) ∧ w.cell? ⟨b, off + j * 5 + 2, none⟩ = some (.int .i64 A[j].m) ∧ w.cell? ⟨b, off + j * 5 + 3, none⟩ = some (.int .i64 A[j].l) ∧ w.cell? ⟨b, off + j * 5 + 4, none⟩ = some (.string (Let.mk A[j].t)) := by
  obtain ⟨⟨_, a, cap, e, h1, h2, h3⟩, hg⟩ := h
  rw [List.length_map] at e h1
  refine ⟨a, cap, e, h1, h2, fun j hj => ?_⟩
  rcases h3 with h3 | ⟨b, off, rfl, hb, hc⟩
  · have : A.length = 0 := by rw [← List.length_map (f := U.cells), h3]; rfl
    omega
  · have hc' := hc j (by rw [List.length_map]; exact hj)
    simp only [List.getElem_map] at hc'
    exact ⟨b, off, rfl, hb, hg _ (List.getElem_mem hj), hc' 0 _ rfl, hc' 1 _ rfl, hc' 2 _ rfl, hc' 3 _ rfl, hc' 4 _ rfl⟩
theorem bstr_empty (t : List UInt8) : (Let.mk t).toList.isEmpty = t.isEmpty := by
  rw [Lib.toList_data, Let.mk_data]
def ok1 (y : U) : Bool := (y.k == 1 || y.k == 2) && Let.right y.t && (!(y.k == 1) || y.t.isEmpty)
def rightU (A : List U) : Bool := A.all ok1
set_option maxHeartbeats 4000000 in
theorem uright_any {v : Value} {A : List U} (w : World) (h : Us w v A) : Calls Tryz.prog 49 #[v] w fun e w' => e = .returned (.bool (rightU A)) ∧ Below w.heap.size w w' := by
  obtain ⟨a, cap, rfl, hl, hm, hel⟩ := h.open_
  obtain ⟨n, hn⟩ : ∃ n, n = A.length := ⟨_, rfl⟩
  rw [← hn] at hl ⊢
  have HN := Lib.hid hn
  have HE := Lib.hid hel
  unfold maxLen at hm
  clear h hel hn
  go_enter Tryz.func49, Tryz.ntmps49
  go_wp2_with fail
  go_loopg [3] n (fun g i wr => ∃ k : Nat, k ≤ n ∧ n - k ≤ g ∧ i = .int .i64 k ∧ Hid (∀ j (hj : j < A.length), j < k → ok1 A[j] = true) ∧ Below w.heap.size w wr)
  case atStart => exact ⟨0, Nat.zero_le _, by omega, rfl, fun j _ h => by omega, Below.refl _ _⟩
  case round =>
    obtain ⟨k, hk, hg, rfl, HP, hbel⟩ := hrel
    by_cases hlt : k < n
    · have hkl : k < A.length := by rw [← HN.out]; exact hlt
      obtain ⟨b, off, rfl, hb, ⟨_, _, _, _, g5⟩, c0, c1, c2, c3, c4⟩ := HE.out k hkl
      have NO : Hid (ok1 A[k] = false → rightU A = false) := fun e => by
        unfold rightU
        rw [List.all_eq_false]
        exact ⟨_, List.getElem_mem hkl, by rw [e]; simp⟩
      have YES : Hid (ok1 A[k] = true → ∀ j (hj : j < A.length), j < k + 1 → ok1 A[j] = true) := fun e j hj hjk => by
        by_cases q : j = k
        · subst q; exact e
        · exact HP.out j hj (by omega)
      generalize A[k] = y at *
      obtain ⟨yk, yd, ym, yl, yt⟩ := y
      simp only at g5 c0 c1 c2 c3 c4
      replace c0 := below_cell hbel hb c0
      replace c1 := below_cell hbel hb c1
      replace c2 := below_cell hbel hb c2
      replace c3 := below_cell hbel hb c3
      replace c4 := below_cell hbel hb c4
      have HB := Lib.hid hbel
      have i0 : (0 : Int) ≤ (k : Int) := by omega
      have i1 : (k : Int) < (n : Int) := by omega
      have CR : Hid (∀ w', Calls Tryz.prog 70 #[.string (Let.mk yt)] w' fun e w'' => e = .returned (.bool (Let.right yt)) ∧ w' = w'') := fun w' => by
        have := Con.rright_any (Let.mk yt) w' (by rw [Let.mk_size]; unfold maxLen; omega)
        rwa [Let.mk_data] at this
      have BE := bstr_empty yt
      have FB : Hid (∀ o, Below w.heap.size w (wr.alloc o)) := fun o => HB.out.alloc HB.out.size _
      clear hbel HE HP
      by_cases q1 : yk = 1
      · subst q1
        cases hr : Let.right yt with
        | true =>
          rw [hr] at CR
          cases he : yt.isEmpty with
          | true =>
            rw [he] at BE
            have OK := Lib.hid (YES.out (by unfold ok1; simp [hr, he]))
            clear YES NO
            go_wp2_with fail
            refine (CR.out _).mono ?_
            rintro e w1 ⟨rfl, rfl⟩
            go_wp2_with fail
            go_roundg (n - (k + 1))
            case measure => omega
            case rel => exact ⟨k + 1, by omega, Nat.le_refl _, by go_num, OK.out, FB.out _⟩
          | false =>
            rw [he] at BE
            have OK := Lib.hid (NO.out (by unfold ok1; simp [hr, he]))
            clear YES NO
            go_wp2_with fail
            refine (CR.out _).mono ?_
            rintro e w1 ⟨rfl, rfl⟩
            go_wp2_with fail
            go_ret
            exact ⟨by rw [OK.out]; rfl, FB.out _⟩
        | false =>
          rw [hr] at CR
          have OK := Lib.hid (NO.out (by unfold ok1; simp [hr]))
          clear YES NO
          go_wp2_with fail
          refine (CR.out _).mono ?_
          rintro e w1 ⟨rfl, rfl⟩
          go_wp2_with fail
          go_ret
          exact ⟨by rw [OK.out]; rfl, FB.out _⟩
      · have n1 : (yk == 1) = false := by rw [beq_eq_false_iff_ne]; exact q1
        by_cases q2 : yk = 2
        · subst q2
          cases hr : Let.right yt with
          | true =>
            rw [hr] at CR
            have OK := Lib.hid (YES.out (by unfold ok1; simp [hr]))
            clear YES NO
            go_wp2_with fail
            refine (CR.out _).mono ?_
            rintro e w1 ⟨rfl, rfl⟩
            go_wp2_with fail
            go_roundg (n - (k + 1))
            case measure => omega
            case rel => exact ⟨k + 1, by omega, Nat.le_refl _, by go_num, OK.out, FB.out _⟩
          | false =>
            rw [hr] at CR
            have OK := Lib.hid (NO.out (by unfold ok1; simp [hr]))
            clear YES NO
            go_wp2_with fail
            refine (CR.out _).mono ?_
            rintro e w1 ⟨rfl, rfl⟩
            go_wp2_with fail
            go_ret
            exact ⟨by rw [OK.out]; rfl, FB.out _⟩
        · have n2 : (yk == 2) = false := by rw [beq_eq_false_iff_ne]; exact q2
          have OK := Lib.hid (NO.out (by unfold ok1; simp [n1, n2]))
          clear YES NO
          go_wp2_with fail
          go_ret
          exact ⟨by rw [OK.out]; rfl, FB.out _⟩
    · obtain rfl : k = n := by omega
      have i1 : ¬ ((k : Int) < (k : Int)) := by omega
      have HB := Lib.hid hbel
      have OK : Hid (rightU A = true) := by
        show _ = _
        unfold rightU
        rw [List.all_eq_true]
        intro y hy
        obtain ⟨j, hj, rfl⟩ := List.getElem_of_mem hy
        exact HP.out j hj (by rw [HN.out]; exact hj)
      clear hbel HE HP
      go_wp2_with fail
      go_ret
      exact ⟨by rw [OK.out]; rfl, HB.out⟩
end Go.Proofs.YtccaiippoephbaaGreatDoor.Und
namespace Go.Proofs.YtccaiippoephbaaGreatDoor.Und
open Go.RowKit Go.Lib Go.Proofs.YtccaiippoephbaaGreatDoor.Rk Go.Proofs.YtccaiippoephbaaGreatDoor.Rig
theorem urow_lt {w : World} {b : Nat} {o : Obj} (h : w.heap[b]? = some o) : b < w.heap.size := (Array.getElem?_eq_some_iff.1 h).1
abbrev IsRope := Con.IsRope
abbrev Tabs (w : World) : Prop := Con.Tabs w
theorem urope_ptr {w : World} {L : List UInt8} {v : Value} (h : IsRope w L v) : ∃ q, v = .pointer q := by
  obtain ⟨t, h, _, _⟩ := h
  cases t with
  | nil => exact ⟨none, h⟩
  | leaf s => obtain ⟨b, rfl, _⟩ := h; exact ⟨_, rfl⟩
  | node l r => obtain ⟨b, vl, vr, rfl, _⟩ := h; exact ⟨_, rfl⟩
theorem unew_is (L : List UInt8) (w : World) (hl : L.length ≤ 1073741824) (hr : Let.right L = true) (hT : Tabs w) : Calls Tryz.prog 83 #[.string (Let.mk L)] w fun e w' => ∃ q, e = .returned (.tuple #[.pointer q, .bool true]) ∧ IsRope w' L (.pointer q) ∧ Below w.heap.size w w' := by
  have := Con.new_yes (Let.mk L) w (by rw [Let.mk_size]; exact hl) (by rw [Let.mk_data]; exact hr) hT
  rw [Let.mk_data] at this
  refine this.mono ?_
  rintro e w' ⟨v, rfl, h1, h2⟩
  obtain ⟨q, rfl⟩ := urope_ptr h1
  exact ⟨q, rfl, h1, h2⟩
theorem unew_isnt (L : List UInt8) (w : World) (hl : L.length ≤ 1073741824) (hr : Let.right L = false) (hT : Tabs w) : Calls Tryz.prog 83 #[.string (Let.mk L)] w fun e w' => e = .returned (.tuple #[.pointer none, .bool false]) ∧ Below w.heap.size w w' :=
  Con.new_no (Let.mk L) w (by rw [Let.mk_size]; exact hl) (by rw [Let.mk_data]; exact hr) hT
def ThV (w : World) (v : Value) (y : U) : Prop := (y.k = 1 ∧ y.t = [] ∧ v = putV y.d y.m y.l) ∨ (y.k = 2 ∧ Let.right y.t = true ∧ ∃ q, v = tookV y.d y.m y.l q ∧ IsRope w y.t (.pointer q))
theorem ThV.below {w w' : World} {v : Value} {y : U} (h : ThV w v y) {B : Nat} (hb : Below B w w') (hB : w.heap.size ≤ B) : ThV w' v y := by
  rcases h with h | ⟨h1, h2, q, h3, h4⟩
  · exact .inl h
  · exact .inr ⟨h1, h2, q, h3, h4.below hb hB⟩
theorem IsRope.grown {w w' : World} {L : List UInt8} {v : Value} {row : Option Nat} (h : IsRope w L v) (hg : w.grownBy w' row) (hr : ∀ b, Con.Ty w b → row ≠ some b) : IsRope w' L v := by
  obtain ⟨t, r1, r2, r3⟩ := h
  exact ⟨t, Con.Rp.same (fun b hb => hg.block b (by obtain ⟨cs, hc⟩ := hb; exact (Array.getElem?_eq_some_iff.1 hc).1) (fun e => hr b hb e.symm)) hg.size r1, r2, r3⟩
theorem ThV.grown {w w' : World} {v : Value} {y : U} {row : Option Nat} (h : ThV w v y) (hg : w.grownBy w' row) (hr : ∀ b, Con.Ty w b → row ≠ some b) : ThV w' v y := by
  rcases h with h | ⟨h1, h2, q, h3, h4⟩
  · exact .inl h
  · exact .inr ⟨h1, h2, q, h3, IsRope.grown h4 hg hr⟩
theorem own_noty {w : World} {base k n : Nat} {e : TypeId} {u : Value} {xs : List Value} (hown : w.ownsRow base e k u n xs) (he : e ≠ 169) {b : Nat} (hb : Con.Ty w b) : u.ownBlock ≠ some b := by
  obtain ⟨cs, hc⟩ := hb
  intro h
  rcases hown.2 with ⟨rfl, _⟩ | ⟨g, cap, cur, rfl, hbg, hg, _⟩
  · cases h
  · have : g = b := by simpa [Value.ownBlock] using h
    subst this
    rw [hg] at hc
    simp at hc
    exact he hc.2
theorem ThV.form {w : World} {v : Value} {y : U} (h : ThV w v y) : v = putV y.d y.m y.l ∨ ∃ q, v = tookV y.d y.m y.l q := by
  rcases h with ⟨_, _, rfl⟩ | ⟨_, _, q, rfl, _⟩
  · exact .inl rfl
  · exact .inr ⟨q, rfl⟩
theorem ThV.ok {w : World} {v : Value} {y : U} (h : ThV w v y) : ok1 y = true := by
  unfold ok1
  rcases h with ⟨h1, h2, _⟩ | ⟨h1, h2, _⟩
  · rw [h1, h2]; decide +kernel
  · rw [h1, h2]; rfl
set_option maxHeartbeats 2000000 in
theorem load_thing (y : U) (w : World) (h : ok1 y = true) (hl : y.t.length ≤ 1073741824) (hT : Tabs w) : Calls Tryz.prog 63 #[y.val] w fun e w' => ∃ v, e = .returned (.tuple #[v, .bool true]) ∧ ThV w' v y ∧ Below w.heap.size w w' := by
  obtain ⟨k, d, m, l, t⟩ := y
  unfold U.val
  unfold ok1 at h
  simp only at h hl ⊢
  have HT : Hid (∀ o, Tabs (w.alloc o)) := fun o => hT.below ((Below.refl _ _).alloc (Nat.le_refl _) o)
  have FB : Hid (∀ o, Below w.heap.size w (w.alloc o)) := fun o => (Below.refl _ _).alloc (Nat.le_refl _) o
  by_cases q1 : k = 1
  · subst q1
    have ht : t = [] := by
      cases t with
      | nil => rfl
      | cons a b => simp at h
    subst ht
    have BE := bstr_empty []
    clear h hT
    go_enter Tryz.func63, Tryz.ntmps63
    go_wp2_with fail
    go_ret2
    exact ⟨_, rfl, .inl ⟨rfl, rfl, rfl⟩, FB.out _⟩
  · have n1 : (k == 1) = false := by rw [beq_eq_false_iff_ne]; exact q1
    have q2 : k = 2 := by
      rw [n1] at h
      simp at h
      exact h.1
    subst q2
    have hr : Let.right t = true := by simp at h; exact h
    have CN : Hid (∀ w', Tabs w' → Calls Tryz.prog 83 #[.string (Let.mk t)] w' fun e w'' => ∃ q, e = .returned (.tuple #[.pointer q, .bool true]) ∧ IsRope w'' t (.pointer q) ∧ Below w'.heap.size w' w'') := fun w' ht => unew_is t w' hl hr ht
    have HR := Lib.hid hr
    obtain ⟨W0, hW0⟩ : ∃ W0, W0 = w.alloc (.cells #[.int .i64 2, .int .i64 d, .int .i64 m, .int .i64 l, .string (Let.mk t)] 55) := ⟨_, rfl⟩
    have r0 : W0.heap[w.heap.size]? = some (.cells #[.int .i64 2, .int .i64 d, .int .i64 m, .int .i64 l, .string (Let.mk t)] 55 (0, 0)) := by rw [hW0]; exact heap_alloc_new _ _
    have BX : Hid (∀ w', Below W0.heap.size W0 w' → w'.cell? ⟨w.heap.size, 0, none⟩ = some (.int .i64 2) ∧ w'.cell? ⟨w.heap.size, 1, none⟩ = some (.int .i64 d) ∧ w'.cell? ⟨w.heap.size, 2, none⟩ = some (.int .i64 m) ∧ w'.cell? ⟨w.heap.size, 3, none⟩ = some (.int .i64 l) ∧ w'.cell? ⟨w.heap.size, 4, none⟩ = some (.string (Let.mk t))) := fun w' hb => by
      have r1 := (hb.block _ (urow_lt r0)).trans r0
      refine ⟨?_, ?_, ?_, ?_, ?_⟩ <;> (rw [cell_of_row _ _ _ _ _ _ r1]; rfl)
    have T0 : Hid (Tabs W0) := by show Tabs _; rw [hW0]; exact HT.out _
    have B0 : Hid (Below w.heap.size w W0) := by show Below _ _ _; rw [hW0]; exact FB.out _
    have HW0 := Lib.hid hW0
    obtain ⟨c0, c1, c2, c3, c4⟩ := BX.out _ (Below.refl _ _)
    clear hW0 r0 hr h hT HT FB
    go_enter Tryz.func63, Tryz.ntmps63
    go_upto_region 1 with fail
    rw [← HW0.out]
    go_wp2_with fail
    refine (CN.out _ T0.out).mono ?_
    rintro e w1 ⟨q, rfl, hq, b1⟩
    clear c0 c1 c2 c3 c4
    obtain ⟨c0, c1, c2, c3, c4⟩ := BX.out _ b1
    have HQ := Lib.hid hq
    have B1 := Lib.hid (below_more B0.out b1)
    clear hq b1
    go_wp2_with fail
    go_ret2
    exact ⟨_, rfl, .inr ⟨rfl, HR.out, q, rfl, HQ.out⟩, B1.out⟩
set_option maxHeartbeats 2000000 in
theorem load_none (y : U) (w : World) (h : ok1 y = false) (hl : y.t.length ≤ 1073741824) (hT : Tabs w) : Calls Tryz.prog 63 #[y.val] w fun e w' => ∃ v, e = .returned (.tuple #[v, .bool false]) ∧ (v = .nilIface ∨ ∃ u, v = .iface 152 (.agg u)) ∧ Below w.heap.size w w' := by
  obtain ⟨k, d, m, l, t⟩ := y
  unfold U.val
  unfold ok1 at h
  simp only at h hl ⊢
  have HT : Hid (∀ o, Tabs (w.alloc o)) := fun o => hT.below ((Below.refl _ _).alloc (Nat.le_refl _) o)
  have FB : Hid (∀ o, Below w.heap.size w (w.alloc o)) := fun o => (Below.refl _ _).alloc (Nat.le_refl _) o
  by_cases q1 : k = 1
  · subst q1
    have ht : t ≠ [] := by
      rintro rfl
      have : Let.right [] = true := by decide +kernel
      simp [this] at h
    have BE : (Let.mk t).toList.isEmpty = false := by
      rw [bstr_empty]
      cases t with
      | nil => exact absurd rfl ht
      | cons a b => rfl
    clear h hT
    go_enter Tryz.func63, Tryz.ntmps63
    go_wp2_with fail
    go_ret2
    exact ⟨_, rfl, .inl rfl, FB.out _⟩
  · have n1 : (k == 1) = false := by rw [beq_eq_false_iff_ne]; exact q1
    by_cases q2 : k = 2
    · subst q2
      have hr : Let.right t = false := by simp at h; exact h
      have CN : Hid (∀ w', Tabs w' → Calls Tryz.prog 83 #[.string (Let.mk t)] w' fun e w'' => e = .returned (.tuple #[.pointer none, .bool false]) ∧ Below w'.heap.size w' w'') := fun w' ht => unew_isnt t w' hl hr ht
      obtain ⟨W0, hW0⟩ : ∃ W0, W0 = w.alloc (.cells #[.int .i64 2, .int .i64 d, .int .i64 m, .int .i64 l, .string (Let.mk t)] 55) := ⟨_, rfl⟩
      have r0 : W0.heap[w.heap.size]? = some (.cells #[.int .i64 2, .int .i64 d, .int .i64 m, .int .i64 l, .string (Let.mk t)] 55 (0, 0)) := by rw [hW0]; exact heap_alloc_new _ _
      have BX : Hid (∀ w', Below W0.heap.size W0 w' → w'.cell? ⟨w.heap.size, 0, none⟩ = some (.int .i64 2) ∧ w'.cell? ⟨w.heap.size, 1, none⟩ = some (.int .i64 d) ∧ w'.cell? ⟨w.heap.size, 2, none⟩ = some (.int .i64 m) ∧ w'.cell? ⟨w.heap.size, 3, none⟩ = some (.int .i64 l) ∧ w'.cell? ⟨w.heap.size, 4, none⟩ = some (.string (Let.mk t))) := fun w' hb => by
        have r1 := (hb.block _ (urow_lt r0)).trans r0
        refine ⟨?_, ?_, ?_, ?_, ?_⟩ <;> (rw [cell_of_row _ _ _ _ _ _ r1]; rfl)
      have T0 : Hid (Tabs W0) := by show Tabs _; rw [hW0]; exact HT.out _
      have B0 : Hid (Below w.heap.size w W0) := by show Below _ _ _; rw [hW0]; exact FB.out _
      have HW0 := Lib.hid hW0
      obtain ⟨c0, c1, c2, c3, c4⟩ := BX.out _ (Below.refl _ _)
      clear hW0 r0 hr h hT HT FB
      go_enter Tryz.func63, Tryz.ntmps63
      go_upto_region 1 with fail
      rw [← HW0.out]
      go_wp2_with fail
      refine (CN.out _ T0.out).mono ?_
      rintro e w1 ⟨rfl, b1⟩
      clear c0 c1 c2 c3 c4
      obtain ⟨c0, c1, c2, c3, c4⟩ := BX.out _ b1
      have B1 := Lib.hid (below_more B0.out b1)
      clear b1
      go_wp2_with fail
      go_ret2
      exact ⟨_, rfl, .inr ⟨_, rfl⟩, B1.out⟩
    · have n2 : (k == 2) = false := by rw [beq_eq_false_iff_ne]; exact q2
      clear h hT
      go_enter Tryz.func63, Tryz.ntmps63
      go_wp2_with fail
      go_ret2
      exact ⟨_, rfl, .inl rfl, FB.out _⟩
end Go.Proofs.YtccaiippoephbaaGreatDoor.Und
namespace Go.Proofs.YtccaiippoephbaaGreatDoor.Und
open Go.RowKit Go.Lib Go.Proofs.YtccaiippoephbaaGreatDoor.Rk Go.Proofs.YtccaiippoephbaaGreatDoor.Rig
theorem uset_block {B i : Nat} {w : World} {u : Value} {cs : Array Value} {ty : TypeId} (hB : w.heap[B]? = some (.cells cs ty (0, 0))) : (w.setCell ⟨B, i, none⟩ u).heap[B]? = some (.cells (cs.setIfInBounds i u) ty (0, 0)) := by
  rw [heap_setCell_same _ _ _ _ _ _ hB]
def put5 (w : World) (B : Nat) (a0 a1 a2 a3 a4 : Value) : World := ((((w.setCell ⟨B, 0, none⟩ a0).setCell ⟨B, 1, none⟩ a1).setCell ⟨B, 2, none⟩ a2).setCell ⟨B, 3, none⟩ a3).setCell ⟨B, 4, none⟩ a4
theorem u5cells {w : World} {B : Nat} {x0 x1 x2 x3 x4 : Value} {ty : TypeId} (z : w.heap[B]? = some (.cells #[x0, x1, x2, x3, x4] ty (0, 0))) : w.cell? ⟨B, 0, none⟩ = some x0 ∧ w.cell? ⟨B, 1, none⟩ = some x1 ∧ w.cell? ⟨B, 2, none⟩ = some x2 ∧ w.cell? ⟨B, 3, none⟩ = some x3 ∧ w.cell? ⟨B, 4, none⟩ = some x4 := by
  refine ⟨?_, ?_, ?_, ?_, ?_⟩ <;> (rw [cell_of_row _ _ _ _ _ _ z]; rfl)
theorem ublock_frozen {w : World} {b j : Nat} {cs : Array Value} {ty : TypeId} (h : w.heap[b]? = some (.cells cs ty (0, 0))) : w.frozen? ⟨b, j, none⟩ = false := by simp [World.frozen?, h]
theorem ubox (w : World) (cs : Array Value) (ty : TypeId) : Below w.heap.size w (w.alloc (.cells cs ty)) ∧ (w.alloc (.cells cs ty)).heap[w.heap.size]? = some (.cells cs ty (0, 0)) ∧ (w.alloc (.cells cs ty)).heap.size = w.heap.size + 1 :=
  ⟨(Below.refl _ _).alloc (Nat.le_refl _) _, heap_alloc_new _ _, by simp⟩
theorem ukeep {w w' : World} {B b : Nat} {o : Obj} (hb : Below B w w') (hB : b < B) (h : w.heap[b]? = some o) : w'.heap[b]? = some o := (hb.block b hB).trans h
end Go.Proofs.YtccaiippoephbaaGreatDoor.Und
namespace Go.Proofs.YtccaiippoephbaaGreatDoor.Und
open Go.RowKit Go.Lib Go.Proofs.YtccaiippoephbaaGreatDoor.Rk Go.Proofs.YtccaiippoephbaaGreatDoor.Rig
def Th (w : World) (x : List Value) (y : U) : Prop := ∃ v, x = [v] ∧ ThV w v y
theorem Th.below {w w' : World} {x : List Value} {y : U} (h : Th w x y) (hb : Below w.heap.size w w') : Th w' x y := by
  obtain ⟨v, h1, h2⟩ := h
  exact ⟨v, h1, h2.below hb (Nat.le_refl _)⟩
def Stk (w : World) (s : Value) (A : List U) : Prop := Rk.Rows 1 Th w s A
theorem Stk.below {w w' : World} {s : Value} {A : List U} (h : Stk w s A) (hb : Below w.heap.size w w') : Stk w' s A := Rk.Rows.below (R := Th) (fun h hb => Th.below h hb) h hb
theorem Stk.get {w : World} {a : Option Addr} {n cap : Nat} {A : List U} (h : Stk w (.slice a n cap) A) {j : Nat} (hj : j < A.length) : ∃ b off v, a = some ⟨b, off, none⟩ ∧ b < w.heap.size ∧ ThV w v A[j] ∧ w.cell? ⟨b, off + j, none⟩ = some v := by
  obtain ⟨b, off, x, h1, h2, _, ⟨v, rfl, hv⟩, hc⟩ := Rk.Rows.get h hj
  have := hc 0 v rfl
  rw [Nat.mul_one, Nat.add_zero] at this
  exact ⟨b, off, v, h1, h2, hv, this⟩
theorem Stk.all {w : World} {s : Value} {A : List U} (h : Stk w s A) : ∀ y ∈ A, ok1 y = true := fun y hy => by
  obtain ⟨p, h1, _, h3⟩ := h
  rw [← h1] at hy
  obtain ⟨x, hx, rfl⟩ := List.mem_map.1 hy
  obtain ⟨v, _, hv⟩ := h3 x hx
  exact hv.ok
theorem infoAny : (Tryz.prog.info? 20).map (fun i => (i.zero, i.size, i.bytes)) = some (some .nilIface, 1, 16) := by kernel_rfl
end Go.Proofs.YtccaiippoephbaaGreatDoor.Und
namespace Go.Proofs.YtccaiippoephbaaGreatDoor.Und
open Go.RowKit Go.Lib Go.Proofs.YtccaiippoephbaaGreatDoor.Rk Go.Proofs.YtccaiippoephbaaGreatDoor.Rig
theorem Th.grown {w w' : World} {x : List Value} {y : U} {row : Option Nat} (h : Th w x y) (hg : w.grownBy w' row) (hr : ∀ b, Con.Ty w b → row ≠ some b) : Th w' x y := by
  obtain ⟨v, h1, h2⟩ := h
  exact ⟨v, h1, h2.grown hg hr⟩
def OStk (base : Nat) (w : World) (s : Value) (A : List U) : Prop := OwnR 20 1 Th base w s A
theorem OStk.stk {base : Nat} {w : World} {s : Value} {A : List U} (h : OStk base w s A) : Stk w s A := OwnR.rows h
theorem OStk.nil_ (base : Nat) (w : World) : OStk base w (.slice none 0 0) [] := OwnR.nil_ _ _ _ _ _
theorem OStk.below {base : Nat} {w w' : World} {s : Value} {A : List U} (h : OStk base w s A) (hb : Below w.heap.size w w') : OStk base w' s A := OwnR.below (R := Th) (fun h hb => Th.below h hb) h hb
theorem OStk.is_slice {base : Nat} {w : World} {s : Value} {A : List U} (h : OStk base w s A) : ∃ a cap, s = .slice a A.length cap := OwnR.is_slice h
theorem ugrown_set (w : World) (B j : Nat) (u : Value) : w.grownBy (w.setCell ⟨B, j, none⟩ u) (some B) :=
  ⟨rfl, rfl, rfl, by simp, fun k _ hk => Below.heap_setCell _ _ _ _ (fun e => hk (by rw [e]))⟩
theorem OStk.put {base : Nat} {w : World} {s u : Value} {A : List U} {B j : Nat} {cs : Array Value} {ty : TypeId} (h : OStk base w s A) (hB : B < base) (r : w.heap[B]? = some (.cells cs ty (0, 0))) (hty : ty ≠ 169) : OStk base (w.setCell ⟨B, j, none⟩ u) s A := by
  obtain ⟨p, h1, h2, h3⟩ := h
  refine ⟨p, h1, h2.kept (ugrown_set w B j u) (.inr (h2.low hB)), fun x hx => (h3 x hx).grown (ugrown_set w B j u) (fun b hb e => ?_)⟩
  injection e with e
  subst e
  obtain ⟨cs', hc⟩ := hb
  rw [r] at hc
  injection hc with hc
  injection hc with _ q
  exact hty q
theorem OStk.row {base : Nat} {w : World} {s : Value} {A : List U} (h : OStk base w s A) : ∃ xs : List (List Value), xs.length = A.length ∧ OwnK 20 1 base w s xs ∧ ∀ (v s' : Value) (w' : World) (y : U), OwnK 20 1 base w' s' (xs ++ [[v]]) → w.grownBy w' s.ownBlock → ThV w v y → OStk base w' s' (A ++ [y]) := by
  obtain ⟨p, h1, h2, h3⟩ := h
  refine ⟨p.map Prod.fst, by rw [← h1, List.length_map, List.length_map], h2, fun v s' w' y h5 hg hv => ⟨p ++ [([v], y)], by rw [List.map_append, h1]; rfl, by rw [List.map_append]; exact h5, fun x hx => ?_⟩⟩
  have hr : ∀ b, Con.Ty w b → s.ownBlock ≠ some b := fun b hb => own_noty h2.2 (by decide) hb
  rcases List.mem_append.1 hx with hx | hx
  · exact (h3 x hx).grown hg hr
  · simp at hx
    subst hx
    exact ⟨v, rfl, hv.grown hg hr⟩
theorem thing_one {w : World} {v : Value} {y : U} (h : ThV w v y) : ∀ x ∈ [[v]], ∀ q ∈ x, q.oneCell' = true := fun x hx q hq => by
  simp at hx
  subst hx
  simp at hq
  subst hq
  rcases h.form with rfl | ⟨q, rfl⟩ <;> rfl
theorem rightU_at {A : List U} (h : rightU A = true) {k : Nat} (hk : k < A.length) : ok1 A[k] = true := List.all_eq_true.1 h _ (List.getElem_mem hk)
set_option maxHeartbeats 4000000 in
theorem uload_yes {v : Value} {A : List U} (w : World) (h : Us w v A) (hr : rightU A = true) (hl : ∀ y ∈ A, y.t.length ≤ 1073741824) (hn : A.length ≤ 10000) (hT : Tabs w) : Calls Tryz.prog 36 #[v] w fun e w' => ∃ s, e = .returned (.tuple #[.agg #[s], .bool true]) ∧ Stk w' s A ∧ Below w.heap.size w w' := by
  obtain ⟨a, cap, rfl, hcap, hmax, hel⟩ := h.open_
  obtain ⟨n, hnA⟩ : ∃ n, n = A.length := ⟨_, rfl⟩
  rw [← hnA] at hcap hn ⊢
  unfold maxLen at hmax
  have HN := Lib.hid hnA
  have HL := Lib.hid hl
  have HE := Lib.hid hel
  have HRU := Lib.hid hr
  have HT : Hid (∀ w', Below w.heap.size w w' → Tabs w') := fun w' hb => hT.below hb
  obtain ⟨W0, hW0⟩ : ∃ W0, W0 = w.alloc (.cells #[.slice none 0 0] 78) := ⟨_, rfl⟩
  obtain ⟨B0, R0, L0⟩ := ubox w #[.slice none 0 0] 78
  rw [← hW0] at B0 R0 L0
  have HB0 := Lib.hid B0
  have HW0 := Lib.hid hW0
  have HR0 := Lib.hid R0
  have HL0 := Lib.hid L0
  clear h hl hnA hW0 B0 R0 L0 hel hr hT
  go_enter Tryz.func36, Tryz.ntmps36
  go_upto_region 1 with fail
  rw [← HW0.out]
  go_wp2_with fail
  go_loopg [4, 11] n (fun g t i wr => ∃ k : Nat, k ≤ n ∧ n - k ≤ g ∧ i = .int .i64 k ∧ Hid (OStk W0.heap.size wr t (A.take k)) ∧ Below W0.heap.size W0 wr)
  case atStart => exact ⟨0, Nat.zero_le _, by omega, rfl, OStk.nil_ _ _, Below.refl _ _⟩
  case round =>
    obtain ⟨k, hk, hg, rfl, HO, hbel⟩ := hrel
    have HB := Lib.hid hbel
    have HBw := Lib.hid (below_more HB0.out hbel)
    obtain ⟨ao, co, rfl⟩ := HO.out.is_slice
    have hlk : (A.take k).length = k := by rw [List.length_take, ← HN.out]; omega
    rw [hlk] at HO ⊢
    clear hlk
    by_cases hlt : k < n
    · have hkl : k < A.length := by rw [← HN.out]; exact hlt
      obtain ⟨b, off, rfl, hb, ⟨g1, g2, g3, g4, g5⟩, c0, c1, c2, c3, c4⟩ := HE.out k hkl
      have EQ : Hid (A.take (k + 1) = A.take k ++ [A[k]]) := List.take_succ_eq_append_getElem hkl
      have hyl := HL.out _ (List.getElem_mem hkl)
      have hok := rightU_at HRU.out hkl
      generalize A[k] = y at *
      generalize A.take k = R at *
      have CP : Hid (∀ w', Below w.heap.size w w' → Calls Tryz.prog 63 #[y.val] w' fun e w'' => ∃ v, e = .returned (.tuple #[v, .bool true]) ∧ ThV w'' v y ∧ Below w'.heap.size w' w'') := fun w' hb => load_thing y w' hok hyl (HT.out w' hb)
      obtain ⟨yk, yd, ym, yl, yt⟩ := y
      unfold U.val at CP
      simp only at CP c0 c1 c2 c3 c4
      replace c0 := below_cell HBw.out hb c0
      replace c1 := below_cell HBw.out hb c1
      replace c2 := below_cell HBw.out hb c2
      replace c3 := below_cell HBw.out hb c3
      replace c4 := below_cell HBw.out hb c4
      have i1 : (k : Int) < (n : Int) := by omega
      obtain ⟨B1, R1, L1⟩ := ubox wr #[.int .i64 yk, .int .i64 yd, .int .i64 ym, .int .i64 yl, .string (Let.mk yt)] 55
      obtain ⟨W1, hW1⟩ : ∃ W1, W1 = wr.alloc (.cells #[.int .i64 yk, .int .i64 yd, .int .i64 ym, .int .i64 yl, .string (Let.mk yt)] 55) := ⟨_, rfl⟩
      rw [← hW1] at B1 R1 L1
      have HW1 := Lib.hid hW1
      have HB1 := Lib.hid (below_more HBw.out B1)
      have HC1 := Lib.hid (below_more HB.out B1)
      have HO1 := Lib.hid (HO.out.below B1)
      obtain ⟨d0, d1, d2, d3, d4⟩ := u5cells R1
      clear hbel HL HE hW1 B1 R1 L1 HO hyl hok g1 g2 g3 g4 g5 HRU
      go_upto_region 5 with fail
      rw [← HW1.out]
      go_wp2_with fail
      refine (CP.out _ HB1.out).mono ?_
      rintro e w1 ⟨v, rfl, hv, b1⟩
      clear c0 c1 c2 c3 c4 d0 d1 d2 d3 d4
      have HV := Lib.hid (hv.below ((Below.refl _ _).alloc (Nat.le_refl _) (.cells #[v] 20)) (Nat.le_refl _))
      have HBY : Hid (Below W0.heap.size W0 (w1.alloc (.cells #[v] 20))) := (below_more HC1.out b1).alloc (Nat.le_trans HC1.out.size b1.size) _
      have A4 : Hid (W0.heap.size ≤ (w1.alloc (.cells #[v] 20)).heap.size) := HBY.out.size
      have A2 : Hid (RowK 1 (w1.alloc (.cells #[v] 20)) (.slice (some ⟨w1.heap.size, 0, none⟩) 1 1) [[v]]) := row_one (e := 20) (heap_alloc_new _ _) rfl
      have HYO : Hid (∀ x ∈ [[v]], ∀ q ∈ x, q.oneCell' = true) := thing_one hv
      obtain ⟨xs, hxl, A1, K0⟩ := ((HO1.out.below b1).below ((Below.refl _ _).alloc (Nat.le_refl _) (.cells #[v] 20))).row
      replace A1 := Lib.hid A1
      have K := Lib.hid K0
      clear K0
      have hxk : xs.length = k := by
        have e1 := HO1.out.is_slice
        obtain ⟨a', c', e1⟩ := e1
        injection e1 with _ e1 _
        rw [hxl, ← e1]
      have A3 : Hid (xs.length + 1 ≤ 100000) := by show _ ≤ _; rw [hxk]; omega
      have hfm := hv.form
      clear hv b1 HO1 hxl hxk
      rcases hfm with rfl | ⟨q, rfl⟩
      all_goals (
        unfold putV at *
        first | unfold tookV at * | skip
        go_wp2_with (at_builtin; refine wpList_append_rowk rfl _ _ 76 20 1 16 _ Tryz.underlying76 infoAny rfl (by decide) (by decide) rfl W0.heap.size _ _ xs _ rfl rfl A1.out A2.out HYO.out A3.out A4.out ?_)
        intro v6 w6 h5 g5 _
        have K6 : Hid (OStk W0.heap.size w6 v6 (A.take (k + 1))) := by show OStk _ _ _ _; rw [EQ.out]; exact K.out _ _ _ _ h5 g5 HV.out
        obtain ⟨a6, c6, rfl⟩ := K6.out.is_slice
        have HB6 := Lib.hid (A1.out.belowOf HBY.out (Nat.le_refl _) A4.out g5)
        clear h5 g5 A1 A2 A3 A4 HBY EQ K HV
        go_wp2_with fail
        go_roundg (n - (k + 1))
        case measure => omega
        case rel => exact ⟨k + 1, by omega, Nat.le_refl _, by go_num, K6.out, HB6.out⟩)
    · obtain rfl : k = n := by omega
      have i1 : ¬ ((k : Int) < (k : Int)) := by omega
      have Z := ukeep HB.out (by have := HL0.out; omega) HR0.out
      have HU : Hid (Stk (wr.setCell ⟨w.heap.size, 0, none⟩ (.slice ao k co)) (.slice ao k co) A) := by
        have := (HO.out.put (u := .slice ao k co) (j := 0) (by have := HL0.out; omega) Z (by decide)).stk
        rwa [show A.take k = A by rw [HN.out, List.take_length]] at this
      have c0 : wr.cell? ⟨w.heap.size, 0, none⟩ = some (.slice none 0 0) := by rw [cell_of_row _ _ _ _ _ _ Z]; rfl
      have f0 : wr.frozen? ⟨w.heap.size, 0, none⟩ = false := ublock_frozen Z
      have y0 : (wr.setCell ⟨w.heap.size, 0, none⟩ (.slice ao k co)).cell? ⟨w.heap.size, 0, none⟩ = some (.slice ao k co) := by rw [cell_of_row _ _ _ _ _ _ (uset_block (i := 0) (u := .slice ao k co) Z)]; rfl
      have FIN : Hid (Below w.heap.size w (wr.setCell ⟨w.heap.size, 0, none⟩ (.slice ao k co))) := HBw.out.setCell (p := ⟨w.heap.size, 0, none⟩) (Nat.le_refl _) _
      clear hbel HO Z
      go_wp2_with fail
      exact bodyPost_ret (v := .tuple #[.agg #[.slice ao k co], .bool true]) (by simp [results, Tryz.results36, go_sem, y0]) rfl ⟨_, rfl, HU.out, FIN.out⟩
set_option maxHeartbeats 4000000 in
theorem uload_no {v : Value} {A : List U} (w : World) (h : Us w v A) (hr : rightU A = false) (hl : ∀ y ∈ A, y.t.length ≤ 1073741824) (hn : A.length ≤ 10000) (hT : Tabs w) : Calls Tryz.prog 36 #[v] w fun e w' => e = .returned (.tuple #[.agg #[.slice none 0 0], .bool false]) ∧ Below w.heap.size w w' := by
  obtain ⟨a, cap, rfl, hcap, hmax, hel⟩ := h.open_
  obtain ⟨n, hnA⟩ : ∃ n, n = A.length := ⟨_, rfl⟩
  rw [← hnA] at hcap hn ⊢
  unfold maxLen at hmax
  have HN := Lib.hid hnA
  have HL := Lib.hid hl
  have HE := Lib.hid hel
  have HRU := Lib.hid hr
  have HT : Hid (∀ w', Below w.heap.size w w' → Tabs w') := fun w' hb => hT.below hb
  obtain ⟨W0, hW0⟩ : ∃ W0, W0 = w.alloc (.cells #[.slice none 0 0] 78) := ⟨_, rfl⟩
  obtain ⟨B0, R0, L0⟩ := ubox w #[.slice none 0 0] 78
  rw [← hW0] at B0 R0 L0
  have HB0 := Lib.hid B0
  have HW0 := Lib.hid hW0
  have HR0 := Lib.hid R0
  have HL0 := Lib.hid L0
  clear h hl hnA hW0 B0 R0 L0 hel hr hT
  go_enter Tryz.func36, Tryz.ntmps36
  go_upto_region 1 with fail
  rw [← HW0.out]
  go_wp2_with fail
  go_loopg [4, 11] n (fun g t i wr => ∃ k : Nat, k ≤ n ∧ n - k ≤ g ∧ i = .int .i64 k ∧ Hid (OStk W0.heap.size wr t (A.take k)) ∧ Below W0.heap.size W0 wr)
  case atStart => exact ⟨0, Nat.zero_le _, by omega, rfl, OStk.nil_ _ _, Below.refl _ _⟩
  case round =>
    obtain ⟨k, hk, hg, rfl, HO, hbel⟩ := hrel
    have HB := Lib.hid hbel
    have HBw := Lib.hid (below_more HB0.out hbel)
    obtain ⟨ao, co, rfl⟩ := HO.out.is_slice
    have hlk : (A.take k).length = k := by rw [List.length_take, ← HN.out]; omega
    rw [hlk] at HO ⊢
    clear hlk
    by_cases hlt : k < n
    · have hkl : k < A.length := by rw [← HN.out]; exact hlt
      obtain ⟨b, off, rfl, hb, ⟨g1, g2, g3, g4, g5⟩, c0, c1, c2, c3, c4⟩ := HE.out k hkl
      have EQ : Hid (A.take (k + 1) = A.take k ++ [A[k]]) := List.take_succ_eq_append_getElem hkl
      have hyl := HL.out _ (List.getElem_mem hkl)
      generalize A[k] = y at *
      generalize A.take k = R at *
      have CP : Hid (ok1 y = true → ∀ w', Below w.heap.size w w' → Calls Tryz.prog 63 #[y.val] w' fun e w'' => ∃ v, e = .returned (.tuple #[v, .bool true]) ∧ ThV w'' v y ∧ Below w'.heap.size w' w'') := fun hok w' hb => load_thing y w' hok hyl (HT.out w' hb)
      have CQ : Hid (ok1 y = false → ∀ w', Below w.heap.size w w' → Calls Tryz.prog 63 #[y.val] w' fun e w'' => ∃ v, e = .returned (.tuple #[v, .bool false]) ∧ (v = .nilIface ∨ ∃ u, v = .iface 152 (.agg u)) ∧ Below w'.heap.size w' w'') := fun hok w' hb => load_none y w' hok hyl (HT.out w' hb)
      have HOK : Hid (∃ b, ok1 y = b) := ⟨_, rfl⟩
      obtain ⟨yk, yd, ym, yl, yt⟩ := y
      unfold U.val at CP CQ
      simp only at CP CQ c0 c1 c2 c3 c4
      replace c0 := below_cell HBw.out hb c0
      replace c1 := below_cell HBw.out hb c1
      replace c2 := below_cell HBw.out hb c2
      replace c3 := below_cell HBw.out hb c3
      replace c4 := below_cell HBw.out hb c4
      have i1 : (k : Int) < (n : Int) := by omega
      obtain ⟨B1, R1, L1⟩ := ubox wr #[.int .i64 yk, .int .i64 yd, .int .i64 ym, .int .i64 yl, .string (Let.mk yt)] 55
      obtain ⟨W1, hW1⟩ : ∃ W1, W1 = wr.alloc (.cells #[.int .i64 yk, .int .i64 yd, .int .i64 ym, .int .i64 yl, .string (Let.mk yt)] 55) := ⟨_, rfl⟩
      rw [← hW1] at B1 R1 L1
      have HW1 := Lib.hid hW1
      have HB1 := Lib.hid (below_more HBw.out B1)
      have HC1 := Lib.hid (below_more HB.out B1)
      have HO1 := Lib.hid (HO.out.below B1)
      obtain ⟨d0, d1, d2, d3, d4⟩ := u5cells R1
      clear hbel HL HE hW1 B1 R1 L1 HO hyl g1 g2 g3 g4 g5 HRU
      go_upto_region 5 with fail
      rw [← HW1.out]
      obtain ⟨ob, hob⟩ := HOK.out
      cases ob with
      | false =>
        go_wp2_with fail
        refine (CQ.out hob _ HB1.out).mono ?_
        rintro e w1 ⟨v, rfl, hv, b1⟩
        clear c0 c1 c2 c3 c4 d0 d1 d2 d3 d4
        have Z := ukeep (below_more HC1.out b1) (by have := HL0.out; omega) HR0.out
        have k0 : w1.cell? ⟨w.heap.size, 0, none⟩ = some (.slice none 0 0) := by rw [cell_of_row _ _ _ _ _ _ Z]; rfl
        have f0 : w1.frozen? ⟨w.heap.size, 0, none⟩ = false := ublock_frozen Z
        have y0 : (w1.setCell ⟨w.heap.size, 0, none⟩ (.slice none 0 0)).cell? ⟨w.heap.size, 0, none⟩ = some (.slice none 0 0) := by rw [cell_of_row _ _ _ _ _ _ (uset_block (i := 0) (u := .slice none 0 0) Z)]; rfl
        have FIN : Hid (Below w.heap.size w (w1.setCell ⟨w.heap.size, 0, none⟩ (.slice none 0 0))) := (below_more HB1.out b1).setCell (p := ⟨w.heap.size, 0, none⟩) (Nat.le_refl _) _
        clear b1 Z
        rcases hv with rfl | ⟨u, rfl⟩
        all_goals (
          go_wp2_with fail
          exact bodyPost_ret (v := .tuple #[.agg #[.slice none 0 0], .bool false]) (by simp [results, Tryz.results36, go_sem, y0]) rfl ⟨rfl, FIN.out⟩)
      | true =>
      go_wp2_with fail
      refine (CP.out hob _ HB1.out).mono ?_
      rintro e w1 ⟨v, rfl, hv, b1⟩
      clear c0 c1 c2 c3 c4 d0 d1 d2 d3 d4
      have HV := Lib.hid (hv.below ((Below.refl _ _).alloc (Nat.le_refl _) (.cells #[v] 20)) (Nat.le_refl _))
      have HBY : Hid (Below W0.heap.size W0 (w1.alloc (.cells #[v] 20))) := (below_more HC1.out b1).alloc (Nat.le_trans HC1.out.size b1.size) _
      have A4 : Hid (W0.heap.size ≤ (w1.alloc (.cells #[v] 20)).heap.size) := HBY.out.size
      have A2 : Hid (RowK 1 (w1.alloc (.cells #[v] 20)) (.slice (some ⟨w1.heap.size, 0, none⟩) 1 1) [[v]]) := row_one (e := 20) (heap_alloc_new _ _) rfl
      have HYO : Hid (∀ x ∈ [[v]], ∀ q ∈ x, q.oneCell' = true) := thing_one hv
      obtain ⟨xs, hxl, A1, K0⟩ := ((HO1.out.below b1).below ((Below.refl _ _).alloc (Nat.le_refl _) (.cells #[v] 20))).row
      replace A1 := Lib.hid A1
      have K := Lib.hid K0
      clear K0
      have hxk : xs.length = k := by
        have e1 := HO1.out.is_slice
        obtain ⟨a', c', e1⟩ := e1
        injection e1 with _ e1 _
        rw [hxl, ← e1]
      have A3 : Hid (xs.length + 1 ≤ 100000) := by show _ ≤ _; rw [hxk]; omega
      have hfm := hv.form
      clear hv b1 HO1 hxl hxk
      rcases hfm with rfl | ⟨q, rfl⟩
      all_goals (
        unfold putV at *
        first | unfold tookV at * | skip
        go_wp2_with (at_builtin; refine wpList_append_rowk rfl _ _ 76 20 1 16 _ Tryz.underlying76 infoAny rfl (by decide) (by decide) rfl W0.heap.size _ _ xs _ rfl rfl A1.out A2.out HYO.out A3.out A4.out ?_)
        intro v6 w6 h5 g5 _
        have K6 : Hid (OStk W0.heap.size w6 v6 (A.take (k + 1))) := by show OStk _ _ _ _; rw [EQ.out]; exact K.out _ _ _ _ h5 g5 HV.out
        obtain ⟨a6, c6, rfl⟩ := K6.out.is_slice
        have HB6 := Lib.hid (A1.out.belowOf HBY.out (Nat.le_refl _) A4.out g5)
        clear h5 g5 A1 A2 A3 A4 HBY EQ K HV
        go_wp2_with fail
        go_roundg (n - (k + 1))
        case measure => omega
        case rel => exact ⟨k + 1, by omega, Nat.le_refl _, by go_num, K6.out, HB6.out⟩)
    · exfalso
      have hall := HO.out.stk.all
      rw [show A.take k = A by rw [List.take_of_length_le (by rw [← HN.out]; omega)]] at hall
      have := HRU.out
      unfold rightU at this
      rw [List.all_eq_true.2 hall] at this
      cases this
end Go.Proofs.YtccaiippoephbaaGreatDoor.Und
