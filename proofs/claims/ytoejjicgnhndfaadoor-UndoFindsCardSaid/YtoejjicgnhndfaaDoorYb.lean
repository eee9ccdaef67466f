/- Undo, the plain text: Last. -/
import Derived.Test.YtoejjicgnhndfaaDoorUz
import Derived.Test.YtoejjicgnhndfaaDoorUg
set_option linter.unusedVariables false
set_option linter.unusedSimpArgs false
set_option maxRecDepth 100000
namespace Go.Proofs.YtoejjicgnhndfaaDoor.Und
open Go.RowKit Go.Lib Go.Proofs.YtoejjicgnhndfaaDoor.Rk Go.Proofs.YtoejjicgnhndfaaDoor.Rig

/-- As a plain value; the zero value where there is none. -/
def valO : Option U → Value
  | some y => y.val
  | none => .agg #[.int .i64 0, .int .i64 0, .int .i64 0, .int .i64 0, .string (ByteArray.mk #[])]
theorem last_find {A : List U} {doc : Int} {k : Nat} (hk : k < A.length) (h : ∀ y ∈ A.reverse.take k, y.d ≠ doc) (hx : A[A.length - 1 - k].d = doc) : lastA A doc = some A[A.length - 1 - k] := by
  unfold lastA
  rw [← List.take_append_drop (k + 1) A.reverse, zrev A hk, List.append_assoc, List.find?_append]
  have e1 : (A.reverse.take k).find? (fun y => y.d == doc) = none := by
    rw [List.find?_eq_none]
    intro y hy
    simpa using h y hy
  rw [e1]
  simp [hx]
theorem last_none {A : List U} {doc : Int} (h : ∀ y ∈ A.reverse.take A.length, y.d ≠ doc) : lastA A doc = none := by
  unfold lastA
  rw [List.take_of_length_le (by simp)] at h
  rw [List.find?_eq_none]
  intro y hy
  simpa using h y hy

set_option maxHeartbeats 4000000 in
theorem rlast_any {v : Value} {A : List U} (doc : Int) (w : World) (h : Us w v A) : Calls Tryd.prog 60 #[v, .int .i64 doc] w fun e w' => e = .returned (.tuple #[valO (lastA A doc), .bool (lastA A doc).isSome]) ∧ Below w.heap.size w w' := by
  obtain ⟨a, cap, rfl, hcap, hmax, hel⟩ := h.open_
  obtain ⟨n, hnA⟩ : ∃ n, n = A.length := ⟨_, rfl⟩
  rw [← hnA] at hcap ⊢
  unfold maxLen at hmax
  have HN := Lib.hid hnA
  have HE := Lib.hid hel
  obtain ⟨W0, hW0⟩ : ∃ W0, W0 = w.alloc (.cells #[.int .i64 0, .int .i64 0, .int .i64 0, .int .i64 0, .string (ByteArray.mk #[])] 88) := ⟨_, rfl⟩
  obtain ⟨B0, R0, L0⟩ := ubox w #[.int .i64 0, .int .i64 0, .int .i64 0, .int .i64 0, .string (ByteArray.mk #[])] 88
  rw [← hW0] at B0 R0 L0
  have HB0 := Lib.hid B0
  have HW0 := Lib.hid hW0
  have HR0 := Lib.hid R0
  clear h hel hnA hW0 B0 R0 L0
  go_enter Tryd.func60, Tryd.ntmps60
  go_upto_region 1 with fail
  rw [← HW0.out]
  go_wp2_with fail
  go_loopw [6] (fun i wr => ∃ k : Nat, k ≤ n ∧ i = .int .i64 ((n : Int) - 1 - k) ∧ Hid (∀ y ∈ A.reverse.take k, y.d ≠ doc) ∧ wr = W0) (fun i _ => (RowKit.intOf i + 1).toNat)
  case atStart => exact ⟨0, Nat.zero_le _, by go_num, fun y hy => by simp at hy, rfl⟩
  case round =>
    obtain ⟨k, hk, rfl, HF, rfl⟩ := hrel
    obtain ⟨q0, q1, q2, q3, q4⟩ := u5cells HR0.out
    obtain ⟨f0, f1, f2, f3, f4⟩ := u5free HR0.out
    by_cases hlt : k < n
    · have hkl : k < A.length := by rw [← HN.out]; exact hlt
      have hki : A.length - 1 - k < A.length := by omega
      obtain ⟨b, off, rfl, hb, _, c0, c1, c2, c3, c4⟩ := HE.out (A.length - 1 - k) hki
      have EZ := Lib.hid (zrev A hkl)
      obtain ⟨i, hi⟩ : ∃ i : Nat, i = A.length - 1 - k := ⟨_, rfl⟩
      have hii : ((n : Int) - 1 - k) = (i : Int) := by rw [HN.out]; omega
      have HI := Lib.hid hi
      have HYE : Hid (A[A.length - 1 - k].d = doc → lastA A doc = some A[A.length - 1 - k]) := fun e => last_find hkl HF.out e
      have hil : (i : Int) < n := by rw [HN.out]; omega
      have hin : i < n := by rw [HN.out]; omega
      have hi0 : (0 : Int) ≤ (i : Int) := by omega
      have hi1 : Hid (((i : Int) - 1) = (n : Int) - 1 - ((k + 1 : Nat) : Int)) := by show _ = _; omega
      generalize A[A.length - 1 - k] = y at *
      rw [← hi] at c0 c1 c2 c3 c4
      rw [hii]
      replace c0 := below_cell HB0.out hb c0
      replace c1 := below_cell HB0.out hb c1
      replace c2 := below_cell HB0.out hb c2
      replace c3 := below_cell HB0.out hb c3
      replace c4 := below_cell HB0.out hb c4
      obtain ⟨yk, yd, ym, yl, yt⟩ := y
      simp only at c0 c1 c2 c3 c4 HYE
      clear hi hki
      by_cases hd : yd = doc
      · have e1 : (yd == doc) = true := by simp [hd]
        have EL := Lib.hid (HYE.out hd)
        obtain ⟨y0, y1, y2, y3, y4⟩ := u5cells (put5_block (a0 := .int .i64 yk) (a1 := .int .i64 yd) (a2 := .int .i64 ym) (a3 := .int .i64 yl) (a4 := .string (Let.mk yt)) HR0.out)
        have FIN : Hid (Below w.heap.size w (put5 wr w.heap.size (.int .i64 yk) (.int .i64 yd) (.int .i64 ym) (.int .i64 yl) (.string (Let.mk yt)))) := put5_below _ _ _ _ _ HB0.out (Nat.le_refl _)
        clear HYE hd hi1
        go_wp2_with fail
        exact bodyPost_ret (v := .tuple #[.agg #[.int .i64 yk, .int .i64 yd, .int .i64 ym, .int .i64 yl, .string (Let.mk yt)], .bool true]) (by simp only [put5] at y0 y1 y2 y3 y4; simp [results, Tryd.results60, go_sem, y0, y1, y2, y3, y4]) rfl (And.intro (by rw [EL.out]; rfl) FIN.out)
      · have e1 : (yd == doc) = false := by simp [hd]
        have HF2 : Hid (∀ y ∈ A.reverse.take (k + 1), y.d ≠ doc) := fun y hy => by
          rw [EZ.out] at hy
          rcases List.mem_append.1 hy with hy | hy
          · exact HF.out y hy
          · simp at hy
            subst hy
            exact hd
        clear HYE hd EZ HF
        go_wp2_with fail
        go_roundw
        case rel => exact ⟨k + 1, by omega, by rw [← hi1.out], HF2, trivial⟩
        case measure => simp [RowKit.intOf]
    · obtain rfl : k = n := by omega
      have hneg : ((k : Int) - 1 - k) = -1 := by omega
      rw [hneg]
      have EL : Hid (lastA A doc = none) := last_none (by rw [← HN.out]; exact HF.out)
      obtain ⟨y0, y1, y2, y3, y4⟩ := u5cells (put5_block (a0 := .int .i64 0) (a1 := .int .i64 0) (a2 := .int .i64 0) (a3 := .int .i64 0) (a4 := .string (ByteArray.mk #[])) HR0.out)
      have FIN : Hid (Below w.heap.size w (put5 wr w.heap.size (.int .i64 0) (.int .i64 0) (.int .i64 0) (.int .i64 0) (.string (ByteArray.mk #[])))) := put5_below _ _ _ _ _ HB0.out (Nat.le_refl _)
      clear hneg HF
      go_wp2_with fail
      exact bodyPost_ret (v := .tuple #[.agg #[.int .i64 0, .int .i64 0, .int .i64 0, .int .i64 0, .string (ByteArray.mk #[])], .bool false]) (by simp only [put5] at y0 y1 y2 y3 y4; simp [results, Tryd.results60, go_sem, y0, y1, y2, y3, y4]) rfl (And.intro (by rw [EL.out]; rfl) FIN.out)
end Go.Proofs.YtoejjicgnhndfaaDoor.Und
