/- Undo, plain values: a slice of them that is read; small, Right, Same. -/
import Derived.Test.YtoejjicgnhndfaaDoorUa
import Derived.Test.YtoejjicgnhndfaaDoorQA2
import Derived.Test.YtoejjicgnhndfaaDoorQL2
import Derived.Laws.StructEq
import Derived.Deep.LoopGhost
import Derived.BigQuiet
set_option linter.unusedVariables false
set_option maxRecDepth 100000
namespace Go.Proofs.YtoejjicgnhndfaaDoor.Und
open Go.RowKit Go.Lib Go.Proofs.YtoejjicgnhndfaaDoor.Rk Go.Proofs.YtoejjicgnhndfaaDoor.Rig

/-- A thing as plain values. -/
structure U where
  k : Int
  d : Int
  m : Int
  l : Int
  t : List UInt8
def U.good (y : U) : Prop := i64 y.k ∧ i64 y.d ∧ i64 y.m ∧ i64 y.l ∧ y.t.length ≤ 140737488355328
def U.cells (y : U) : List Value := [.int .i64 y.k, .int .i64 y.d, .int .i64 y.m, .int .i64 y.l, .string (Let.mk y.t)]
def U.val (y : U) : Value := .agg #[.int .i64 y.k, .int .i64 y.d, .int .i64 y.m, .int .i64 y.l, .string (Let.mk y.t)]
/-- A slice of them. -/
def Us (w : World) (v : Value) (A : List U) : Prop := RowK 5 w v (A.map U.cells) ∧ ∀ y ∈ A, y.good
theorem Us.below {w w' : World} {v : Value} {A : List U} (h : Us w v A) {B : Nat} (hb : Below B w w') (hB : w.heap.size ≤ B) : Us w' v A := ⟨h.1.below hb hB, h.2⟩
theorem Us.open_ {w : World} {v : Value} {A : List U} (h : Us w v A) : ∃ a cap, v = .slice a A.length cap ∧ A.length ≤ cap ∧ cap ≤ maxLen ∧ ∀ j (hj : j < A.length), ∃ b off, a = some ⟨b, off, none⟩ ∧ b < w.heap.size ∧ A[j].good ∧
    w.cell? ⟨b, off + j * 5, none⟩ = some (.int .i64 A[j].k) ∧ w.cell? ⟨b, off + j * 5 + 1, none⟩ = some (.int .i64 A[j].d) ∧ w.cell? ⟨b, off + j * 5 + 2, none⟩ = some (.int .i64 A[j].m) ∧ w.cell? ⟨b, off + j * 5 + 3, none⟩ = some (.int .i64 A[j].l) ∧ w.cell? ⟨b, off + j * 5 + 4, none⟩ = some (.string (Let.mk A[j].t)) := by
  obtain ⟨⟨_, a, cap, e, h1, h2, h3⟩, hg⟩ := h
  rw [List.length_map] at e h1
  refine ⟨a, cap, e, h1, h2, fun j hj => ?_⟩
  rcases h3 with h3 | ⟨b, off, rfl, hb, hc⟩
  · have : A.length = 0 := by rw [← List.length_map (f := U.cells), h3]; rfl
    omega
  · have hc' := hc j (by rw [List.length_map]; exact hj)
    simp only [List.getElem_map] at hc'
    exact ⟨b, off, rfl, hb, hg _ (List.getElem_mem hj), hc' 0 _ rfl, hc' 1 _ rfl, hc' 2 _ rfl, hc' 3 _ rfl, hc' 4 _ rfl⟩

/-- How many bytes their texts have. -/
def sumT (A : List U) : Nat := (A.map fun y => y.t.length).sum
theorem sumT_take (A : List U) {k : Nat} (hk : k < A.length) : sumT (A.take (k + 1)) = sumT (A.take k) + A[k].t.length := by
  unfold sumT
  rw [List.take_succ_eq_append_getElem hk, List.map_append, List.sum_append]
  simp
theorem sumT_le (A : List U) (k : Nat) : sumT (A.take k) ≤ sumT A := by
  conv => rhs; rw [← List.take_append_drop k A]
  unfold sumT
  rw [List.map_append, List.sum_append]
  omega
def smallU (A : List U) : Bool := decide (sumT A ≤ 2000 ∧ A.length ≤ 60)
set_option maxHeartbeats 2000000 in
theorem usmall_any {v : Value} {A : List U} (w : World) (h : Us w v A) : Calls Tryd.prog 52 #[v] w fun e w' => e = .returned (.bool (smallU A)) ∧ Below w.heap.size w w' := by
  obtain ⟨a, cap, rfl, hl, hm, hel⟩ := h.open_
  obtain ⟨n, hn⟩ : ∃ n, n = A.length := ⟨_, rfl⟩
  rw [← hn] at hl ⊢
  have HN := Lib.hid hn
  have HE := Lib.hid hel
  unfold maxLen at hm
  have ES : Hid (sumT (A.take n) = sumT A) := by show _ = _; rw [hn, List.take_length]
  clear h hel hn
  go_enter Tryd.func52, Tryd.ntmps52
  go_wp2_with fail
  go_loopg [3, 8] n (fun g s i wr => ∃ k : Nat, k ≤ n ∧ n - k ≤ g ∧ i = .int .i64 k ∧ s = .int .i64 (sumT (A.take k)) ∧ sumT (A.take k) ≤ 2000 ∧ Below w.heap.size w wr)
  case atStart => exact ⟨0, Nat.zero_le _, by omega, rfl, by simp [sumT], by simp [sumT], Below.refl _ _⟩
  case round =>
    obtain ⟨k, hk, hg, rfl, rfl, hs, hbel⟩ := hrel
    by_cases hlt : k < n
    · have hkl : k < A.length := by rw [← HN.out]; exact hlt
      obtain ⟨b, off, rfl, hb, ⟨_, _, _, _, g5⟩, c0, c1, c2, c3, c4⟩ := HE.out k hkl
      have et := sumT_take A hkl
      have ele := sumT_le A (k + 1)
      generalize A[k] = y at *
      obtain ⟨yk, yd, ym, yl, yt⟩ := y
      simp only at g5 c0 c1 c2 c3 c4 et
      replace c0 := below_cell hbel hb c0
      replace c1 := below_cell hbel hb c1
      replace c2 := below_cell hbel hb c2
      replace c3 := below_cell hbel hb c3
      replace c4 := below_cell hbel hb c4
      have HB := Lib.hid hbel
      have ET := Lib.hid et
      have ms : (Let.mk yt).size = yt.length := Let.mk_size yt
      obtain ⟨sk, hsk⟩ : ∃ sk, sk = sumT (A.take k) := ⟨_, rfl⟩
      rw [← hsk] at ET hs ⊢
      have z1 : IntKind.i64.wrap ((sk : Int) + (yt.length : Int)) = (sk : Int) + (yt.length : Int) := IntWalk.i64_in _ (by omega)
      have i1 : (k : Int) < (n : Int) := by omega
      rw [← hsk] at et
      have EL := Lib.hid ele
      clear hbel HE hsk et ele
      by_cases q : sk + yt.length ≤ 2000
      · have d1 : ¬ (2000 < (sk : Int) + (yt.length : Int)) := by omega
        have d2 : decide (2000 < (sk : Int) + (yt.length : Int)) = false := decide_eq_false d1
        go_wp2_with fail
        go_roundg (n - (k + 1))
        case measure => omega
        case rel => exact ⟨k + 1, by omega, Nat.le_refl _, by go_num, by rw [ET.out]; simp, by rw [ET.out]; exact q, HB.out.alloc HB.out.size _⟩
      · have d1 : (2000 < (sk : Int) + (yt.length : Int)) := by omega
        have d2 : decide (2000 < (sk : Int) + (yt.length : Int)) = true := decide_eq_true d1
        go_wp2_with fail
        go_ret
        refine ⟨?_, HB.out.alloc HB.out.size _⟩
        unfold smallU
        rw [decide_eq_false (fun c => by have := EL.out; rw [ET.out] at this; omega)]
        rfl
    · obtain rfl : k = n := by omega
      have HB := Lib.hid hbel
      have i1 : ¬ ((k : Int) < (k : Int)) := by omega
      by_cases q : k ≤ 60
      · have d2 : decide ((k : Int) ≤ 60) = true := decide_eq_true (by omega)
        clear hbel HE
        go_wp2_with fail
        go_ret
        refine ⟨?_, HB.out⟩
        unfold smallU
        rw [decide_eq_true (by rw [← ES.out, ← HN.out]; exact ⟨hs, q⟩)]
        simp
      · have d2 : decide ((k : Int) ≤ 60) = false := decide_eq_false (by omega)
        clear hbel HE
        go_wp2_with fail
        go_ret
        refine ⟨?_, HB.out⟩
        unfold smallU
        rw [decide_eq_false (fun c => by rw [← HN.out] at c; exact q c.2)]
        simp

theorem bstr_empty (t : List UInt8) : (Let.mk t).toList.isEmpty = t.isEmpty := by
  rw [Lib.toList_data, Let.mk_data]
def ok1 (y : U) : Bool := (y.k == 1 || y.k == 2) && Let.right y.t && (!(y.k == 1) || y.t.isEmpty)
def rightU (A : List U) : Bool := A.all ok1
set_option maxHeartbeats 4000000 in
theorem uright_any {v : Value} {A : List U} (w : World) (h : Us w v A) : Calls Tryd.prog 53 #[v] w fun e w' => e = .returned (.bool (rightU A)) ∧ Below w.heap.size w w' := by
  obtain ⟨a, cap, rfl, hl, hm, hel⟩ := h.open_
  obtain ⟨n, hn⟩ : ∃ n, n = A.length := ⟨_, rfl⟩
  rw [← hn] at hl ⊢
  have HN := Lib.hid hn
  have HE := Lib.hid hel
  unfold maxLen at hm
  clear h hel hn
  go_enter Tryd.func53, Tryd.ntmps53
  go_wp2_with fail
  go_loopg [3] n (fun g i wr => ∃ k : Nat, k ≤ n ∧ n - k ≤ g ∧ i = .int .i64 k ∧ Hid (∀ j (hj : j < A.length), j < k → ok1 A[j] = true) ∧ Below w.heap.size w wr)
  case atStart => exact ⟨0, Nat.zero_le _, by omega, rfl, fun j _ h => by omega, Below.refl _ _⟩
  case round =>
    obtain ⟨k, hk, hg, rfl, HP, hbel⟩ := hrel
    by_cases hlt : k < n
    · have hkl : k < A.length := by rw [← HN.out]; exact hlt
      obtain ⟨b, off, rfl, hb, ⟨_, _, _, _, g5⟩, c0, c1, c2, c3, c4⟩ := HE.out k hkl
      have NO : Hid (ok1 A[k] = false → rightU A = false) := fun e => by
        unfold rightU
        rw [List.all_eq_false]
        exact ⟨_, List.getElem_mem hkl, by rw [e]; simp⟩
      have YES : Hid (ok1 A[k] = true → ∀ j (hj : j < A.length), j < k + 1 → ok1 A[j] = true) := fun e j hj hjk => by
        by_cases q : j = k
        · subst q; exact e
        · exact HP.out j hj (by omega)
      generalize A[k] = y at *
      obtain ⟨yk, yd, ym, yl, yt⟩ := y
      simp only at g5 c0 c1 c2 c3 c4
      replace c0 := below_cell hbel hb c0
      replace c1 := below_cell hbel hb c1
      replace c2 := below_cell hbel hb c2
      replace c3 := below_cell hbel hb c3
      replace c4 := below_cell hbel hb c4
      have HB := Lib.hid hbel
      have i0 : (0 : Int) ≤ (k : Int) := by omega
      have i1 : (k : Int) < (n : Int) := by omega
      have CR : Hid (∀ w', Calls Tryd.prog 21 #[.string (Let.mk yt)] w' fun e w'' => e = .returned (.bool (Let.right yt)) ∧ w' = w'') := fun w' => by
        have := Con.rright_any (Let.mk yt) w' (by rw [Let.mk_size]; unfold maxLen; omega)
        rwa [Let.mk_data] at this
      have BE := bstr_empty yt
      have FB : Hid (∀ o, Below w.heap.size w (wr.alloc o)) := fun o => HB.out.alloc HB.out.size _
      clear hbel HE HP
      by_cases q1 : yk = 1
      · subst q1
        cases hr : Let.right yt with
        | true =>
          rw [hr] at CR
          cases he : yt.isEmpty with
          | true =>
            rw [he] at BE
            have OK := Lib.hid (YES.out (by unfold ok1; simp [hr, he]))
            clear YES NO
            go_wp2_with fail
            refine (CR.out _).mono ?_
            rintro e w1 ⟨rfl, rfl⟩
            go_wp2_with fail
            go_roundg (n - (k + 1))
            case measure => omega
            case rel => exact ⟨k + 1, by omega, Nat.le_refl _, by go_num, OK.out, FB.out _⟩
          | false =>
            rw [he] at BE
            have OK := Lib.hid (NO.out (by unfold ok1; simp [hr, he]))
            clear YES NO
            go_wp2_with fail
            refine (CR.out _).mono ?_
            rintro e w1 ⟨rfl, rfl⟩
            go_wp2_with fail
            go_ret
            exact ⟨by rw [OK.out]; rfl, FB.out _⟩
        | false =>
          rw [hr] at CR
          have OK := Lib.hid (NO.out (by unfold ok1; simp [hr]))
          clear YES NO
          go_wp2_with fail
          refine (CR.out _).mono ?_
          rintro e w1 ⟨rfl, rfl⟩
          go_wp2_with fail
          go_ret
          exact ⟨by rw [OK.out]; rfl, FB.out _⟩
      · have n1 : (yk == 1) = false := by rw [beq_eq_false_iff_ne]; exact q1
        by_cases q2 : yk = 2
        · subst q2
          cases hr : Let.right yt with
          | true =>
            rw [hr] at CR
            have OK := Lib.hid (YES.out (by unfold ok1; simp [hr]))
            clear YES NO
            go_wp2_with fail
            refine (CR.out _).mono ?_
            rintro e w1 ⟨rfl, rfl⟩
            go_wp2_with fail
            go_roundg (n - (k + 1))
            case measure => omega
            case rel => exact ⟨k + 1, by omega, Nat.le_refl _, by go_num, OK.out, FB.out _⟩
          | false =>
            rw [hr] at CR
            have OK := Lib.hid (NO.out (by unfold ok1; simp [hr]))
            clear YES NO
            go_wp2_with fail
            refine (CR.out _).mono ?_
            rintro e w1 ⟨rfl, rfl⟩
            go_wp2_with fail
            go_ret
            exact ⟨by rw [OK.out]; rfl, FB.out _⟩
        · have n2 : (yk == 2) = false := by rw [beq_eq_false_iff_ne]; exact q2
          have OK := Lib.hid (NO.out (by unfold ok1; simp [n1, n2]))
          clear YES NO
          go_wp2_with fail
          go_ret
          exact ⟨by rw [OK.out]; rfl, FB.out _⟩
    · obtain rfl : k = n := by omega
      have i1 : ¬ ((k : Int) < (k : Int)) := by omega
      have HB := Lib.hid hbel
      have OK : Hid (rightU A = true) := by
        show _ = _
        unfold rightU
        rw [List.all_eq_true]
        intro y hy
        obtain ⟨j, hj, rfl⟩ := List.getElem_of_mem hy
        exact HP.out j hj (by rw [HN.out]; exact hj)
      clear hbel HE HP
      go_wp2_with fail
      go_ret
      exact ⟨by rw [OK.out]; rfl, HB.out⟩
end Go.Proofs.YtoejjicgnhndfaaDoor.Und
