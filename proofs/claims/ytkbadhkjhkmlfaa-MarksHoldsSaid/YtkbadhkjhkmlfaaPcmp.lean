/- Contract: slices.Compact over sites, for a row of the call's own. -/
import Derived.Test.YtkbadhkjhkmlfaaPsort
import Derived.Lib.SlicesCompact
import Derived.Deep.LoopGhost
set_option linter.unusedVariables false
namespace Go.Proofs.Ytkbadhkjhkmlfaa.Rig
open Go.RowKit Go.Lib Go.Proofs.Ytkbadhkjhkmlfaa.Rt

theorem fl2_set : ∀ (S : List St) (j : Nat) (x : St), j < S.length → ((fl2 S).set (j * 2) x.m).set (j * 2 + 1) x.a = fl2 (S.set j x)
  | [], j, x, h => by simp at h
  | s :: S, 0, x, h => rfl
  | s :: S, j + 1, x, h => by
    have ih := fl2_set S j x (by simpa using h)
    have e : fl2 (s :: S) = s.m :: s.a :: fl2 S := rfl
    rw [e, show (j + 1) * 2 = j * 2 + 1 + 1 by omega, List.set_cons_succ, List.set_cons_succ, List.set_cons_succ, List.set_cons_succ, ih]
    rfl
theorem OwnSt.set_ {base g cap n : Nat} {w : World} {S : List St} (hn : n = S.length) (h : OwnSt base w (.slice (some ⟨g, 0, none⟩) n cap) S) {j : Nat} (hj : j < S.length) {x : St} (hx : St.good x) :
    OwnSt base ((w.setCell ⟨g, j * 2, none⟩ (.int .i64 x.m)).setCell ⟨g, j * 2 + 1, none⟩ (.int .i64 x.a)) (.slice (some ⟨g, 0, none⟩) n cap) (S.set j x) := by
  subst hn
  obtain ⟨h1, h2⟩ := h
  have q := (World.ownsRow.stored (World.ownsRow.stored h1 (j * 2) (.int .i64 x.m)).1 (j * 2 + 1) (.int .i64 x.a)).1
  rw [ints_set, ints_set, fl2_set S j x hj] at q
  refine ⟨by rw [List.length_set]; exact q, fun y hy => ?_⟩
  rw [← fl2_set S j x hj] at hy
  rcases List.mem_or_eq_of_mem_set hy with hy | rfl
  · rcases List.mem_or_eq_of_mem_set hy with hy | rfl
    · exact h2 y hy
    · exact hx.1
  · exact hx.2
def cmpL (L : List St) : List St := compactUpTo L.toArray L.length
theorem cmpL_ok {L : List St} (hs : ∀ i j, i < j → j < L.length → ¬ ltS (st L j) (st L i)) : Up (cmpL L) ∧ ∀ x, x ∈ cmpL L ↔ x ∈ L := by
  have hk : ∀ j, j < L.length → keeps L.toArray j = true → 0 < j → ltS (st L (j - 1)) (st L j) := fun j hj h h0 => by
    unfold keeps at h
    rw [decide_eq_true_iff, arr_get L hj, arr_get L (show j - 1 < L.length by omega)] at h
    rcases h with h | h
    · omega
    · by_cases q : ltS (st L (j - 1)) (st L j)
      · exact q
      · exact absurd (ltS_or (hs (j - 1) j (by omega) hj) q) h
  constructor
  · unfold cmpL compactUpTo Up
    rw [List.pairwise_map, List.pairwise_filter]
    have hr : (List.range L.length).Pairwise fun a b => a < b ∧ b < L.length := by
      rw [List.pairwise_iff_getElem]
      intro i j hi hj hij
      rw [List.getElem_range, List.getElem_range]
      exact ⟨hij, by simpa using hj⟩
    refine hr.imp ?_
    rintro i j ⟨hij, hj⟩ _ hkj
    rw [arr_get L hj, arr_get L (by omega)]
    have h1 := hk j hj hkj (by omega)
    by_cases e : i = j - 1
    · rw [e]; exact h1
    · have h2 := hs i (j - 1) (by omega) (by omega)
      unfold ltS gtS at *
      omega
  · intro x
    have key : ∀ j, j < L.length → st L j ∈ cmpL L := by
      intro j
      induction j with
      | zero =>
        intro h
        unfold cmpL compactUpTo
        refine List.mem_map.2 ⟨0, List.mem_filter.2 ⟨List.mem_range.2 h, rfl⟩, arr_get L h⟩
      | succ j ih =>
        intro h
        by_cases q : keeps L.toArray (j + 1) = true
        · unfold cmpL compactUpTo
          exact List.mem_map.2 ⟨j + 1, List.mem_filter.2 ⟨List.mem_range.2 h, q⟩, arr_get L h⟩
        · unfold keeps at q
          rw [decide_eq_true_iff, arr_get L h, show j + 1 - 1 = j by omega, arr_get L (show j < L.length by omega)] at q
          have e : st L (j + 1) = st L j := by
            by_cases e : st L (j + 1) = st L j
            · exact e
            · exact absurd (.inr e) q
          rw [e]
          exact ih (by omega)
    constructor
    · intro h
      unfold cmpL compactUpTo at h
      obtain ⟨j, hj, rfl⟩ := List.mem_map.1 h
      have hj' := List.mem_range.1 (List.mem_filter.1 hj).1
      rw [arr_get L hj', st_get hj']
      exact List.getElem_mem hj'
    · intro h
      obtain ⟨j, hj, rfl⟩ := mem_st.1 h
      exact key j hj
end Go.Proofs.Ytkbadhkjhkmlfaa.Rig
