/- Contracts: two, Small, Right of both. -/
import Derived.Test.YtfahfjhibffdkaaRise
set_option linter.unusedVariables false
namespace Go.Proofs.Ytfahfjhibffdkaa.Rig
open Go.RowKit Go.Lib Go.Proofs.Ytfahfjhibffdkaa.Rt

theorem bcell {W w1 : World} (hb : Below W.heap.size W w1) : (∀ b o, b < W.heap.size → w1.cell? ⟨b, o, none⟩ = W.cell? ⟨b, o, none⟩) ∧ (∀ b o, b < W.heap.size → w1.frozen? ⟨b, o, none⟩ = W.frozen? ⟨b, o, none⟩) :=
  ⟨fun b o h => hb.cell (p := ⟨b, o, none⟩) h, fun b o h => hb.frozen (p := ⟨b, o, none⟩) h⟩

/-- It hands labels back. -/
def Gives (w : World) (L : List Lb) (e : Ending) (w' : World) : Prop := ∃ v, e = .returned v ∧ Labs w' v L ∧ Below w.heap.size w w'

theorem ints_new {w : World} {b cap : Nat} {cs : Array Value} {t : TypeId} (xs : List Int) (hb : w.heap[b]? = some (.cells cs t (0, 0))) (hlen : xs.length ≤ cap) (hcap : cap ≤ maxLen) (hx : ∀ x ∈ xs, i64 x)
    (hcs : ∀ j, j < xs.length → cs[j]? = some (.int .i64 (at_ xs j))) : Ints w (.slice (some ⟨b, 0, none⟩) xs.length cap) xs := by
  have hlt : b < w.heap.size := by
    rcases Nat.lt_or_ge b w.heap.size with h | h
    · exact h
    · rw [Array.getElem?_eq_none h] at hb; cases hb
  refine ⟨hx, _, cap, rfl, hlen, hcap, .inr ⟨b, 0, rfl, hlt, fun j hj => ?_⟩⟩
  rw [Nat.zero_add, cell_of_row w b j cs t (0, 0) hb]
  exact hcs j hj

theorem two_labs {W : World} {b0 b1 b2 b3 b4 : Nat} (h0 : W.heap[b0]? = some (.cells #[.int .i64 0] 3 (0, 0))) (h1 : W.heap[b1]? = some (.cells #[.int .i64 0] 3 (0, 0))) (h2 : W.heap[b2]? = some (.cells #[.int .i64 0, .int .i64 2] 3 (0, 0))) (h3 : W.heap[b3]? = some (.cells #[.int .i64 0] 3 (0, 0)))
    (h4 : W.heap[b4]? = some (.cells #[.int .i64 (-1), .int .i64 0, .slice (some ⟨b0, 0, none⟩) 1 1, .slice (some ⟨b1, 0, none⟩) 1 1, .int .i64 0, .int .i64 0, .slice (some ⟨b2, 0, none⟩) 2 2, .slice (some ⟨b3, 0, none⟩) 1 1] 46 (0, 0))) :
    Labs W (.slice (some ⟨b4, 0, none⟩) 2 2) two := by
  have lt4 : b4 < W.heap.size := by
    rcases Nat.lt_or_ge b4 W.heap.size with h | h
    · exact h
    · rw [Array.getElem?_eq_none h] at h4; cases h4
  have m1 : (1 : Nat) ≤ maxLen := by unfold maxLen; omega
  have m2 : (2 : Nat) ≤ maxLen := by unfold maxLen; omega
  have one : ∀ x ∈ [(0 : Int)], i64 x := by intro x hx; simp at hx; subst hx; unfold i64; omega
  have two' : ∀ x ∈ [(0 : Int), 2], i64 x := by intro x hx; simp at hx; rcases hx with rfl | rfl <;> (unfold i64; omega)
  have c : ∀ i v, (#[.int .i64 (-1), .int .i64 0, .slice (some ⟨b0, 0, none⟩) 1 1, .slice (some ⟨b1, 0, none⟩) 1 1, .int .i64 0, .int .i64 0, .slice (some ⟨b2, 0, none⟩) 2 2, .slice (some ⟨b3, 0, none⟩) 1 1] : Array Value)[i]? = some v → W.cell? ⟨b4, i, none⟩ = some v := fun i v h => by
    rw [cell_of_row W b4 i _ _ (0, 0) h4]; exact h
  refine ⟨_, 2, rfl, Nat.le_refl _, m2, .inr ⟨b4, 0, rfl, lt4, fun j hj => ?_⟩⟩
  have hj : j < 2 := hj
  match j, hj with
  | 0, _ => exact ⟨_, _, ⟨by decide, by decide⟩, ⟨by decide, by decide⟩, c 0 _ rfl, c 1 _ rfl, c 2 _ rfl, c 3 _ rfl,
      ints_new [0] h0 (Nat.le_refl _) m1 one (fun j hj => by have : j = 0 := (by simp at hj; omega); subst this; rfl),
      ints_new [0] h1 (Nat.le_refl _) m1 one (fun j hj => by have : j = 0 := (by simp at hj; omega); subst this; rfl)⟩
  | 1, _ => exact ⟨_, _, ⟨by decide, by decide⟩, ⟨by decide, by decide⟩, c 4 _ rfl, c 5 _ rfl, c 6 _ rfl, c 7 _ rfl,
      ints_new [0, 2] h2 (Nat.le_refl _) m2 two' (fun j hj => by
        have hj : j < 2 := hj
        match j, hj with
        | 0, _ => rfl
        | 1, _ => rfl),
      ints_new [0] h3 (Nat.le_refl _) m1 one (fun j hj => by have : j = 0 := (by simp at hj; omega); subst this; rfl)⟩

set_option maxRecDepth 100000 in
set_option maxHeartbeats 1000000 in
theorem small_any {v : Value} {L : List Lb} (w : World) (h : Labs w v L) :
    Calls Try.prog 13 #[v] w fun e w' => e = .returned (.bool (smallB L)) ∧ Below w.heap.size w w' := by
  obtain ⟨a, cap, rfl, hlc, hcap, hc⟩ := h.open_
  have H := Lib.hid hc
  clear hc h
  obtain ⟨n, hn⟩ : ∃ n, n = L.length := ⟨_, rfl⟩
  rw [← hn] at hlc ⊢
  replace hn := Lib.hid hn
  go_enter Try.func13, Try.ntmps13
  go_wp2_with fail
  go_loopw [7] (fun i wr => ∃ k : Nat, k ≤ n ∧ i = .int .i64 k ∧ Hid (∀ j, j < k → smallAt L j) ∧ Below w.heap.size w wr) (fun i _ => n - (intOf i).toNat)
  case atStart => exact ⟨0, Nat.zero_le _, rfl, fun j hj => absurd hj (by omega), Below.refl _ _⟩
  case round =>
    obtain ⟨k, hk, rfl, OK, hbel⟩ := hrel
    by_cases hlt : k < n
    · have hkl : k < L.length := by rw [← hn.out]; exact hlt
      obtain ⟨b, off, rfl, hb, rv, sv, ⟨p1, p2⟩, ⟨o1, o2⟩, c0, c1, c2, c3, hr, hs⟩ := H.out k hkl
      have NO : ¬ smallAt L k → Hid (smallB L = false) := fun hno => smallB_false hkl hno
      have YES : smallAt L k → Hid (∀ j, j < k + 1 → smallAt L j) := fun hy j hj => by
        by_cases e : j = k
        · subst e; exact hy
        · exact OK.out j (by omega)
      unfold smallAt at NO YES
      generalize lb L k = x at *
      obtain ⟨p, o, r, s⟩ := x
      simp only at p1 p2 o1 o2 c0 c1 c2 c3 hr hs NO YES
      have N := Lib.hid NO
      have Y := Lib.hid YES
      replace c0 := below_cell hbel hb c0
      replace c1 := below_cell hbel hb c1
      replace c2 := below_cell hbel hb c2
      replace c3 := below_cell hbel hb c3
      have hl1 := hr.lt
      have hl2 := hs.lt
      obtain ⟨ra, rc, rfl⟩ := hr.is_slice
      obtain ⟨sa, sc, rfl⟩ := hs.is_slice
      clear hr hs
      generalize r.length = l1 at *
      generalize s.length = l2 at *
      have HB := Lib.hid hbel
      have KA : Hid (∀ o, Below wr.heap.size wr (wr.alloc o)) := fun o => (Below.refl _ _).alloc (Nat.le_refl _) _
      clear NO YES H OK hbel
      by_cases q1 : 100 < l1
      · have R := N.out (by omega)
        go_wp2_with fail
        go_ret
        exact ⟨ret_bool R.out.symm, below_more HB.out (KA.out _)⟩
      by_cases q2 : 100 < l2
      · have R := N.out (by omega)
        go_wp2_with fail
        go_ret
        exact ⟨ret_bool R.out.symm, below_more HB.out (KA.out _)⟩
      have R := Y.out ⟨by omega, by omega⟩
      go_wp2_with fail
      go_roundw
      case rel => exact ⟨k + 1, by omega, by go_num, R, below_more HB.out (KA.out _)⟩
      case measure => simp [intOf]; omega
    · have RT : n ≤ 100 → Hid (smallB L = true) := fun h => by
        refine decide_eq_true ⟨by rw [← hn.out]; exact h, fun j hj => OK.out j ?_⟩
        rw [← hn.out] at hj
        omega
      have RF : ¬ n ≤ 100 → Hid (smallB L = false) := fun h => by
        refine decide_eq_false fun hc => h ?_
        rw [hn.out]
        exact hc.1
      have T1 := Lib.hid RT
      have T2 := Lib.hid RF
      clear H OK RT RF
      by_cases q : n ≤ 100
      · have d : decide ((n : Int) ≤ 100) = true := by simp; omega
        have R := T1.out q
        clear q
        go_wp2_with fail
        go_ret
        exact ⟨ret_bool R.out.symm, hbel⟩
      · have d : decide ((n : Int) ≤ 100) = false := by simp; omega
        have R := T2.out q
        clear q
        go_wp2_with fail
        go_ret
        exact ⟨ret_bool R.out.symm, hbel⟩

end Go.Proofs.Ytfahfjhibffdkaa.Rig
