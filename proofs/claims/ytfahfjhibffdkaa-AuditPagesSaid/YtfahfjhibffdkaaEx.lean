/- Audit: the law's two entries. -/
import Derived.Test.YtfahfjhibffdkaaEv
import Derived.Test.YtfahfjhibffdkaaEt
import Derived.Test.YtfahfjhibffdkaaEw
import Derived.Test.YtfahfjhibffdkaaRight
set_option linter.unusedVariables false
set_option linter.unusedSimpArgs false
set_option maxRecDepth 100000
namespace Go.Proofs.Ytfahfjhibffdkaa.Aud
open Go.RowKit Go.Lib Go.Proofs.Ytfahfjhibffdkaa.Rig Go.Proofs.Ytfahfjhibffdkaa.Rt Go.Proofs.Ytfahfjhibffdkaa.Bx

def someL : List Lb := [⟨-1, 0, [0], []⟩]
def someE : List En := [⟨0, 0, 0, [], [0]⟩, ⟨1, 0, 0, [], [0]⟩]
theorem i64_0 : i64 0 := ⟨by decide, by decide⟩
theorem i64_1 : i64 1 := ⟨by decide, by decide⟩
theorem zero_ints {w : World} {b : Nat} (h : w.heap[b]? = some (.cells #[.int .i64 0] 3 (0, 0))) : Ints w (.slice (some ⟨b, 0, none⟩) 1 1) [0] := by
  refine ⟨fun x hx => ?_, some ⟨b, 0, none⟩, 1, rfl, Nat.le_refl _, by unfold maxLen; omega, .inr ⟨b, 0, rfl, (Array.getElem?_eq_some_iff.1 h).1, fun j hj => ?_⟩⟩
  · simp at hx
    subst hx
    unfold i64
    omega
  · have : j = 0 := by simp at hj; omega
    subst this
    rw [cell_of_row _ _ _ _ _ _ h]
    rfl
theorem some_labs {w : World} {b0 b1 : Nat} (h0 : w.heap[b0]? = some (.cells #[.int .i64 0] 3 (0, 0))) (h1 : w.heap[b1]? = some (.cells #[.int .i64 (-1), .int .i64 0, .slice (some ⟨b0, 0, none⟩) 1 1, .slice none 0 0] 46 (0, 0))) : Labs w (.slice (some ⟨b1, 0, none⟩) 1 1) someL := by
  obtain ⟨c0, c1, c2, c3⟩ := four_cells h1
  refine ⟨_, 1, rfl, Nat.le_refl _, by unfold maxLen; omega, .inr ⟨b1, 0, rfl, (Array.getElem?_eq_some_iff.1 h1).1, fun j hj => ?_⟩⟩
  have hj : j < 1 := hj
  match j, hj with
  | 0, _ => exact ⟨_, _, ⟨by decide, by decide⟩, ⟨by decide, by decide⟩, c0, c1, c2, c3, zero_ints h0, Ints.nil_ _⟩
theorem some_ens {w : World} {b2 b3 b4 : Nat} (h2 : w.heap[b2]? = some (.cells #[.int .i64 0] 3 (0, 0))) (h3 : w.heap[b3]? = some (.cells #[.int .i64 0] 3 (0, 0)))
    (h4 : w.heap[b4]? = some (.cells #[.int .i64 0, .int .i64 0, .int .i64 0, .slice none 0 0, .slice (some ⟨b2, 0, none⟩) 1 1, .int .i64 1, .int .i64 0, .int .i64 0, .slice none 0 0, .slice (some ⟨b3, 0, none⟩) 1 1] 25 (0, 0))) : EnsP (· < w.heap.size) w (.slice (some ⟨b4, 0, none⟩) 2 2) someE := by
  refine ⟨[([.int .i64 0, .int .i64 0, .int .i64 0, .slice none 0 0, .slice (some ⟨b2, 0, none⟩) 1 1], ⟨0, 0, 0, [], [0]⟩), ([.int .i64 1, .int .i64 0, .int .i64 0, .slice none 0 0, .slice (some ⟨b3, 0, none⟩) 1 1], ⟨1, 0, 0, [], [0]⟩)], rfl, ⟨fun x hx => ?_, some ⟨b4, 0, none⟩, 2, rfl, Nat.le_refl _, by unfold maxLen; omega, .inr ⟨b4, 0, rfl, (Array.getElem?_eq_some_iff.1 h4).1, fun j hj i u hu => ?_⟩⟩, fun x hx => ?_⟩
  · simp at hx
    rcases hx with rfl | rfl <;> rfl
  · rw [cell_of_row _ _ _ _ _ _ h4]
    have hj : j < 2 := hj
    match j, hj with
    | 0, _ =>
      match i, hu with
      | 0, hu => exact hu
      | 1, hu => exact hu
      | 2, hu => exact hu
      | 3, hu => exact hu
      | 4, hu => exact hu
      | i + 5, hu => simp at hu
    | 1, _ =>
      match i, hu with
      | 0, hu => exact hu
      | 1, hu => exact hu
      | 2, hu => exact hu
      | 3, hu => exact hu
      | 4, hu => exact hu
      | i + 5, hu => simp at hu
  · simp only [List.mem_cons, List.not_mem_nil, or_false] at hx
    rcases hx with rfl | rfl
    · exact ⟨_, _, rfl, ⟨i64_0, i64_0, i64_0⟩, IntsP.nil_ _ _, .of (zero_ints h2)⟩
    · exact ⟨_, _, rfl, ⟨i64_1, i64_0, i64_0⟩, IntsP.nil_ _ _, .of (zero_ints h3)⟩
def GiveSome (w : World) (e : Ending) (w' : World) : Prop := ∃ la ea, e = .returned (.tuple #[.slice la 1 1, .slice ea 2 2]) ∧ Labs w' (.slice la 1 1) someL ∧ EnsP (· < w'.heap.size) w' (.slice ea 2 2) someE ∧ Below w.heap.size w w'
set_option maxHeartbeats 4000000 in
theorem some_any (w : World) : Calls Try.prog 11 #[] w (GiveSome w) := by
  go_enter Try.func11, Try.ntmps11
  go_wp2_with fail
  refine bodyPost_ret (v := .tuple #[.slice (some ⟨w.heap.size + 1, 0, none⟩) 1 1, .slice (some ⟨w.heap.size + 1 + 1 + 1 + 1, 0, none⟩) 2 2]) (by simp [results, Try.results11, go_sem]) rfl ?_
  refine ⟨_, _, rfl, ?_, ?_, ?_⟩
  rotate_left
  rotate_left
  · (repeat first | exact Below.refl _ _ | apply Below.alloc | focus (simp; done) | focus (simp; omega)); done
  · refine some_labs (b0 := w.heap.size) ?_ ?_
    all_goals (simp only [World.alloc, Array.getElem?_push, Array.size_push])
    all_goals (repeat (first | rw [if_pos (by omega)] | rw [if_neg (by omega)]))
    all_goals (try rw [if_pos trivial])
  · refine some_ens (b2 := w.heap.size + 1 + 1) (b3 := w.heap.size + 1 + 1 + 1) ?_ ?_ ?_
    all_goals (simp only [World.alloc, Array.getElem?_push, Array.size_push])
    all_goals (repeat (first | rw [if_pos (by omega)] | rw [if_neg (by omega)]))
    all_goals (try rw [if_pos trivial])
/-- A page of the program's: its entries' ints lie where the arguments' do, or are new. -/
def GivePg (P : Nat → Prop) (A : List En) (w : World) (e : Ending) (w' : World) : Prop := ∃ s, e = .returned s ∧ EnsP (fun b => P b ∨ w.heap.size ≤ b) w' s A ∧ Below w.heap.size w w'
def GiveAd (A : List En) (y : En) (most : Int) (w : World) (e : Ending) (w' : World) : Prop := ∃ s, e = .returned (.tuple #[s, .bool (decide ((A.length : Int) < most))]) ∧ EnsP (fun _ => True) w' s (addE A y most) ∧ Below w.heap.size w w'
end Go.Proofs.Ytfahfjhibffdkaa.Aud
