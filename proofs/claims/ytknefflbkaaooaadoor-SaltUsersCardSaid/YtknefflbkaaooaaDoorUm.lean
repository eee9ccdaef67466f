/- Salt: the law's small. -/
import Derived.Test.YtknefflbkaaooaaDoorUs
set_option linter.unusedVariables false
set_option linter.unusedSimpArgs false
set_option maxRecDepth 100000
namespace Go.Proofs.YtknefflbkaaooaaDoor.Slt
open Go.RowKit Go.Lib Go.Proofs.YtknefflbkaaooaaDoor.Bx

def smallU (A : List Us) : Bool := decide ((∀ j, j < A.length → (us A j).n.size + (us A j).s.size + (us A j).l.size ≤ 1000) ∧ A.length ≤ 100)
set_option maxHeartbeats 8000000 in
theorem usmall_any {v : Value} {A : List Us} (w : World) (h : Users w v A) : Calls Tryd.prog 9 #[v] w fun e w' => e = .returned (.bool (smallU A)) ∧ Below w.heap.size w w' := by
  obtain ⟨a, cap, rfl, hl', hm⟩ := h.is_slice
  obtain ⟨n, hn⟩ : ∃ n, n = A.length := ⟨_, rfl⟩
  have HE : Hid (∀ w', Below w.heap.size w w' → ∀ j, j < n → ∃ b off, a = some ⟨b, off, none⟩ ∧ b < w.heap.size ∧ w'.cell? ⟨b, off + j * 3, none⟩ = some (.string (us A j).n) ∧ w'.cell? ⟨b, off + j * 3 + 1, none⟩ = some (.string (us A j).s) ∧ w'.cell? ⟨b, off + j * 3 + 2, none⟩ = some (.string (us A j).l)) := fun w' hb j hj => by
    obtain ⟨b, off, e, hlt, c0, c1, c2, _⟩ := h.get (by rw [← hn]; exact hj)
    exact ⟨b, off, e, hlt, vcell hb hlt c0, vcell hb hlt c1, vcell hb hlt c2⟩
  have HNO : Hid (∀ k, k < n → 1000 < (us A k).n.size + (us A k).s.size + (us A k).l.size → smallU A = false) := fun k hk h => decide_eq_false fun hc => by
    have := hc.1 k (by omega)
    omega
  have HYE : Hid ((∀ k, k < n → (us A k).n.size + (us A k).s.size + (us A k).l.size ≤ 1000) → smallU A = decide ((n : Int) ≤ 100)) := fun h => by
    unfold smallU
    exact decide_eq_decide.2 ⟨fun h' => by have := h'.2; omega, fun h' => ⟨fun j hj => h j (by omega), by omega⟩⟩
  have HSZ : Hid (∀ j, j < n → (us A j).n.size ≤ 140737488355328 ∧ (us A j).s.size ≤ 140737488355328 ∧ (us A j).l.size ≤ 140737488355328) := fun j hj => by
    obtain ⟨b, off, e, hlt, c0, c1, c2, h1, h2, h3⟩ := h.get (show j < A.length by rw [← hn]; exact hj)
    exact ⟨h1, h2, h3⟩
  rw [← hn] at hl' ⊢
  unfold maxLen at hm
  obtain ⟨r, hr⟩ : ∃ r, r = smallU A := ⟨_, rfl⟩
  rw [← hr] at HNO HYE ⊢
  clear h hr hn
  go_enter Tryd.func9, Tryd.ntmps9
  go_wp2_with fail
  go_loopg [7] n (fun g i_ wr => ∃ (i : Nat), i ≤ n ∧ n - i ≤ g ∧ i_ = .int .i64 i ∧ Hid (∀ j, j < i → (us A j).n.size + (us A j).s.size + (us A j).l.size ≤ 1000) ∧ Below w.heap.size w wr)
  case atStart => exact ⟨0, by omega, by omega, rfl, fun j hj => absurd hj (by omega), Below.refl _ _⟩
  case round =>
    obtain ⟨i, hi, hg, rfl, HH, hbel⟩ := hrel
    have HB := Lib.hid hbel
    by_cases hin : i < n
    · have iw : ((i : Nat) : Int) < (n : Int) := by omega
      have n0 : (0 : Int) ≤ (i : Int) := by omega
      obtain ⟨b, off, rfl, hlt, c0, c1, c2⟩ := HE.out wr hbel i hin
      obtain ⟨m1, m2, m3⟩ := HSZ.out i hin
      have HN := Lib.hid (HNO.out i hin)
      have HH2 : Hid ((us A i).n.size + (us A i).s.size + (us A i).l.size ≤ 1000 → ∀ j, j < i + 1 → (us A j).n.size + (us A j).s.size + (us A j).l.size ≤ 1000) := fun h j hj => by
        by_cases e : j = i
        · subst e; exact h
        · exact HH.out j (by omega)
      generalize us A i = y at *
      obtain ⟨yn, ys, yl⟩ := y
      simp only at c0 c1 c2 m1 m2 m3 HN HH2
      obtain ⟨a1, ha1⟩ : ∃ a1, a1 = yn.size := ⟨_, rfl⟩
      obtain ⟨a2, ha2⟩ : ∃ a2, a2 = ys.size := ⟨_, rfl⟩
      obtain ⟨a3, ha3⟩ : ∃ a3, a3 = yl.size := ⟨_, rfl⟩
      rw [← ha1, ← ha2, ← ha3] at HN HH2
      rw [← ha1] at m1
      rw [← ha2] at m2
      rw [← ha3] at m3
      have HBA := Lib.hid (below_on HB.out (below_al (Below.refl wr.heap.size wr) (.cells #[.string yn, .string ys, .string yl] 27)))
      have z1 := ha1.symm
      have z2 := ha2.symm
      have z3 := ha3.symm
      clear hbel ha1 ha2 ha3
      by_cases hbig : 1000 < a1 + a2 + a3
      · have d1 : decide ((1000 : Int) < (a1 : Int) + (a2 : Int) + (a3 : Int)) = true := decide_eq_true (by omega)
        have q1 : (1000 : Int) < (a1 : Int) + (a2 : Int) + (a3 : Int) := by omega
        have hr := HN.out hbig
        clear HH2 HN
        go_wp2_with fail
        go_ret
        exact ⟨by first | rfl | (rw [hr]; rfl) | (rw [hr]; done), HBA.out⟩
      · have d1 : decide ((1000 : Int) < (a1 : Int) + (a2 : Int) + (a3 : Int)) = false := decide_eq_false (by omega)
        have q1 : ¬ (1000 : Int) < (a1 : Int) + (a2 : Int) + (a3 : Int) := by omega
        have HH3 := Lib.hid (HH2.out (by omega))
        clear HH2 HN
        go_wp2_with fail
        go_roundg (n - (i + 1))
        case measure => omega
        case rel => exact ⟨i + 1, by omega, Nat.le_refl _, by go_num, HH3, HBA.out⟩
    · obtain rfl : i = n := by omega
      have iw : ¬ ((i : Int) < (i : Int)) := by omega
      have hr := HYE.out HH.out
      have HR := Lib.hid hr
      clear hbel hr
      go_wp2_with fail
      go_ret
      exact ⟨by rw [HR.out]; first | rfl | (simp; done), HB.out⟩
end Go.Proofs.YtknefflbkaaooaaDoor.Slt
