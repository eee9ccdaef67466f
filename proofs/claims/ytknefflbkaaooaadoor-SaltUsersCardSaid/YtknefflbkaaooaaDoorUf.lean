/- Salt: Find of the plain text. -/
import Derived.Test.YtknefflbkaaooaaDoorUr
set_option linter.unusedVariables false
set_option linter.unusedSimpArgs false
set_option maxRecDepth 100000
namespace Go.Proofs.YtknefflbkaaooaaDoor.Slt
open Go.RowKit Go.Lib Go.Proofs.YtknefflbkaaooaaDoor.Bx

def firstU (A : List Us) (nm : ByteArray) : Option Nat := A.findIdx? fun y => decide (y.n = nm)
def findU (A : List Us) (nm pw : ByteArray) : Nat × Bool :=
  match firstU A nm with
  | none => (0, false)
  | some i => if bytesN (us A i).l = sealL (bytesN (us A i).s) (bytesN pw) then (i, true) else (0, false)
theorem us_at {A : List Us} {i : Nat} (hi : i < A.length) : us A i = A[i] := by unfold us; rw [List.getD_eq_getElem?_getD, List.getElem?_eq_getElem hi]; rfl
theorem find_some {A : List Us} {nm pw : ByteArray} {i : Nat} (hi : i < A.length) (h : (us A i).n = nm) (h' : ∀ j, j < i → (us A j).n ≠ nm) : findU A nm pw = if bytesN (us A i).l = sealL (bytesN (us A i).s) (bytesN pw) then (i, true) else (0, false) := by
  have e : firstU A nm = some i := by
    unfold firstU
    rw [List.findIdx?_eq_some_iff_getElem]
    refine ⟨hi, decide_eq_true (by rw [← us_at hi]; exact h), fun j hj => ?_⟩
    rw [decide_eq_true_iff, ← us_at (by omega)]
    exact h' j hj
  unfold findU
  rw [e]
theorem find_none {A : List Us} {nm pw : ByteArray} (h' : ∀ j, j < A.length → (us A j).n ≠ nm) : findU A nm pw = (0, false) := by
  have e : firstU A nm = none := by
    unfold firstU
    rw [List.findIdx?_eq_none_iff]
    intro y hy
    obtain ⟨j, hj, rfl⟩ := List.getElem_of_mem hy
    have := h' j hj
    rw [us_at hj] at this
    exact decide_eq_false this
  unfold findU
  rw [e]
set_option maxHeartbeats 8000000 in
theorem rfind_any (SOK : SumOk) {v : Value} {A : List Us} (nm pw : ByteArray) (w : World) (h : Users w v A) (hl : ∀ i, i < A.length → (us A i).s.size ≤ 1000) (hp : pw.size ≤ 1000) : Calls Tryd.prog 12 #[v, .string nm, .string pw] w fun e w' => e = .returned (.tuple #[.int .i64 ((findU A nm pw).1 : Nat), .bool (findU A nm pw).2]) ∧ Below w.heap.size w w' := by
  obtain ⟨a, cap, rfl, hl', hm⟩ := h.is_slice
  obtain ⟨n, hn⟩ : ∃ n, n = A.length := ⟨_, rfl⟩
  have HE : Hid (∀ w', Below w.heap.size w w' → ∀ j, j < n → ∃ b off, a = some ⟨b, off, none⟩ ∧ b < w.heap.size ∧ w'.cell? ⟨b, off + j * 3, none⟩ = some (.string (us A j).n) ∧ w'.cell? ⟨b, off + j * 3 + 1, none⟩ = some (.string (us A j).s) ∧ w'.cell? ⟨b, off + j * 3 + 2, none⟩ = some (.string (us A j).l)) := fun w' hb j hj => by
    obtain ⟨b, off, e, hlt, c0, c1, c2, _⟩ := h.get (by rw [← hn]; exact hj)
    exact ⟨b, off, e, hlt, vcell hb hlt c0, vcell hb hlt c1, vcell hb hlt c2⟩
  have CSB : Hid (∀ j, j < n → ∀ w', Calls Tryd.prog 7 #[.string (us A j).s, .string pw] w' fun e w'' => ∃ t, e = .returned (.string t) ∧ bytesN t = sealL (bytesN (us A j).s) (bytesN pw) ∧ Below w'.heap.size w' w'') := fun j hj w' => rseal_any SOK _ _ w' (by have := hl j (by rw [← hn]; exact hj); omega)
  have HSO : Hid (∀ i, i < n → (us A i).n = nm → (∀ j, j < i → (us A j).n ≠ nm) → findU A nm pw = if bytesN (us A i).l = sealL (bytesN (us A i).s) (bytesN pw) then (i, true) else (0, false)) := fun i hi h h' => find_some (by rw [← hn]; exact hi) h h'
  have HNN : Hid ((∀ j, j < n → (us A j).n ≠ nm) → findU A nm pw = (0, false)) := fun h => find_none (fun j hj => h j (by rw [hn]; exact hj))
  rw [← hn] at hl' ⊢
  unfold maxLen at hm
  clear h hl
  obtain ⟨r, hr⟩ : ∃ r, r = findU A nm pw := ⟨_, rfl⟩
  rw [← hr] at HSO HNN ⊢
  clear hr hn
  obtain ⟨ri, rb⟩ := r
  simp only at ⊢
  go_enter Tryd.func12, Tryd.ntmps12
  go_wp2_with fail
  go_loopg [8] n (fun g i_ wr => ∃ (i : Nat), i ≤ n ∧ n - i ≤ g ∧ i_ = .int .i64 i ∧ Hid (∀ j, j < i → (us A j).n ≠ nm) ∧ Below w.heap.size w wr)
  case atStart => exact ⟨0, by omega, by omega, rfl, fun j hj => absurd hj (by omega), Below.refl _ _⟩
  case round =>
    obtain ⟨i, hi, hg, rfl, HH, hbel⟩ := hrel
    have HB := Lib.hid hbel
    by_cases hin : i < n
    · have iw : ((i : Nat) : Int) < (n : Int) := by omega
      have n0 : (0 : Int) ≤ (i : Int) := by omega
      obtain ⟨b, off, rfl, hlt, c0, c1, c2⟩ := HE.out wr hbel i hin
      have HC : Hid (∀ w', Below wr.heap.size wr w' → w'.cell? ⟨b, off + i * 3 + 1, none⟩ = some (.string (us A i).s) ∧ w'.cell? ⟨b, off + i * 3 + 2, none⟩ = some (.string (us A i).l)) := fun w' hb => by
        have h1 := Nat.lt_of_lt_of_le hlt HB.out.size
        exact ⟨vcell hb h1 c1, vcell hb h1 c2⟩
      have SE := str_eq (us A i).n nm
      have CS := Lib.hid (CSB.out i hin)
      have HS1 := Lib.hid (fun h => HSO.out i hin h HH.out)
      have HH2 : Hid ((us A i).n ≠ nm → ∀ j, j < i + 1 → (us A j).n ≠ nm) := fun h j hj => by
        by_cases e : j = i
        · subst e; exact h
        · exact HH.out j (by omega)
      generalize us A i = y at *
      obtain ⟨yn, ys, yl⟩ := y
      simp only at c0 c1 c2 SE CS HS1 HH2 HC
      clear hbel
      by_cases hz : yn = nm
      · rw [decide_eq_true hz] at SE
        replace HS1 := Lib.hid (HS1.out hz)
        have KV : Hid (Below wr.heap.size wr wr) := Below.refl _ _
        clear HH2
        go_upto_region 5 with fail
        go_region_held3 (fun w' => w'.cell? ⟨b, off + i * 3 + 1, none⟩ = some (.string ys) ∧ w'.cell? ⟨b, off + i * 3 + 2, none⟩ = some (.string yl))
          (((with_reducible refine HC.out _ ?_); focus ((repeat first | with_reducible assumption | with_reducible exact KV.out | with_reducible apply Below.drew | with_reducible apply below_drews); done)))
          (first
            | (go_at_call 7; (with_reducible refine (CS.out _).mono ?_); rintro e wr1 ⟨t, rfl, ht, br1⟩; have kr1 := fun h => below_on (B := wr.heap.size) (w := wr) h br1 (Nat.le_refl _); replace kr1 := kr1 (by (repeat first | with_reducible assumption | with_reducible exact KV.out | with_reducible apply Below.drew | with_reducible apply below_drews)); have SE2 := str_eq t yl; have HT := Lib.hid ht; clear br1 ht))
        by_cases hty : t = yl
        · have hr := HS1.out
          rw [if_pos (by rw [← hty]; exact HT.out)] at hr
          injection hr with hr1 hr2
          subst hr1 hr2
          have hq : decide (t = yl) = true := decide_eq_true hty
          have HBF := Lib.hid (below_on HB.out kr1)
          subst hty
          clear HS1 kr1 SE2 HT hq
          go_wp2_with fail
          exact bodyPost_ret (v := .tuple #[.int .i64 (ri : Nat), .bool true]) (by simp [results, Tryd.results12, go_sem]) rfl ⟨rfl, HBF.out⟩
        · have hr := HS1.out
          rw [if_neg (fun e => hty (bytesN_inj (HT.out.trans e.symm)))] at hr
          injection hr with hr1 hr2
          subst hr1 hr2
          have hq : decide (t = yl) = false := decide_eq_false hty
          have HBF := Lib.hid (below_on HB.out kr1)
          clear HS1 kr1 SE2 HT
          go_wp2_with fail
          exact bodyPost_ret (v := .tuple #[.int .i64 0, .bool false]) (by simp [results, Tryd.results12, go_sem]) rfl ⟨rfl, HBF.out⟩
      · rw [decide_eq_false hz] at SE
        have HH3 := Lib.hid (HH2.out hz)
        clear HS1 HH2 CS
        go_wp2_with fail
        go_roundg (n - (i + 1))
        case measure => omega
        case rel => exact ⟨i + 1, by omega, Nat.le_refl _, by go_num, HH3, HB.out⟩
    · obtain rfl : i = n := by omega
      have iw : ¬ ((i : Int) < (i : Int)) := by omega
      have hr := HNN.out HH.out
      injection hr with hr1 hr2
      subst hr1 hr2
      clear hbel
      go_wp2_with fail
      exact bodyPost_ret (v := .tuple #[.int .i64 0, .bool false]) (by simp [results, Tryd.results12, go_sem]) rfl ⟨rfl, HB.out⟩
end Go.Proofs.YtknefflbkaaooaaDoor.Slt
