/- slices.Clone at []int. -/
import Derived.Test.YtfahfjhibffdkaaQA2
import Derived.Test.YtfahfjhibffdkaaShelf
set_option linter.unusedVariables false
namespace Go.Proofs.Ytfahfjhibffdkaa.Rig
open Go.RowKit Go.Lib Go.Proofs.Ytfahfjhibffdkaa.Rt

theorem cints_any {v : Value} {xs : List Int} (w : World) (h : Ints w v xs) (hn : xs.length ≤ 1000) : Calls Try.prog 22 #[v] w (NewI w xs) := by
  obtain ⟨h0, a, cap, rfl, h1, h2, h3⟩ := h
  rcases h3 with rfl | ⟨b, off, rfl, hlt, hc⟩
  · cases a with
    | none =>
      refine (Try.slices_Clone_int_nil 0 cap w).mono ?_
      rintro e w' ⟨rfl, rfl⟩
      exact ⟨_, rfl, OwnI.nil_ _ _, Below.refl _ _⟩
    | some ad =>
      refine (Try.slices_Clone_int_zero ad cap w).mono ?_
      rintro e w' ⟨v', rfl, ho, _, hb⟩
      exact ⟨v', rfl, ⟨ho, h0⟩, hb⟩
  · refine (Try.slices_Clone_int b off xs.length cap xs w (Nat.le_refl _) (by omega) hc).mono ?_
    rintro e w' ⟨v', rfl, ho, _, hb⟩
    rw [List.take_length] at ho
    exact ⟨v', rfl, ⟨ho, h0⟩, hb⟩
end Go.Proofs.Ytfahfjhibffdkaa.Rig
