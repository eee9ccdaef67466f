/- Undo: the law's text, with its recover. -/
import Derived.Test.YtoejjicgnhndfaaDoorUj
import Derived.Test.YtoejjicgnhndfaaDoorUf
set_option linter.unusedVariables false
set_option linter.unusedSimpArgs false
set_option maxRecDepth 100000
namespace Go.Proofs.YtoejjicgnhndfaaDoor.Und
open Go.RowKit Go.Lib Go.Proofs.YtoejjicgnhndfaaDoor.Rk Go.Proofs.YtoejjicgnhndfaaDoor.Rig

set_option maxHeartbeats 4000000 in
theorem ltext_put (d m l : Int) (w : World) : Calls Tryd.prog 65 #[putV d m l] w fun e w' => e = .returned (.tuple #[.string (ByteArray.mk #[]), .bool true]) ∧ Below w.heap.size w w' := by
  have hmf : ∀ (fn : Fn) (first cap : Array Value) (w : World), (Instr.makeFunc fn first cap).run Tryd.prog w = .ok (.func fn first cap) w := fun _ _ _ _ => rfl
  have C := utext_put d m l
  obtain ⟨B0, R0, L0⟩ := ubox w #[.bool false] 4
  obtain ⟨W0, hW0⟩ : ∃ W0, W0 = w.alloc (.cells #[.bool false] 4) := ⟨_, rfl⟩
  rw [← hW0] at B0 R0 L0
  have HW0 := Lib.hid hW0
  have HR := Lib.hid R0
  have HB := Lib.hid B0
  have HL := Lib.hid L0
  unfold putV at *
  clear hW0 R0 B0 L0
  go_enter_defers Tryd.func65, Tryd.ntmps65
  go_wp2_with fail
  rw [← HW0.out]
  refine (C _).mono ?_
  rintro e w1 ⟨⟨pv, rfl⟩, b1⟩
  have Z := ukeep b1 (by have := HL.out; omega) HR.out
  have c0 : w1.cell? ⟨w.heap.size, 0, none⟩ = some (.bool false) := by rw [cell_of_row _ _ _ _ _ _ Z]; rfl
  have f0 : w1.frozen? ⟨w.heap.size, 0, none⟩ = false := ublock_frozen Z
  have y0 : (w1.setCell ⟨w.heap.size, 0, none⟩ (.bool true)).cell? ⟨w.heap.size, 0, none⟩ = some (.bool true) := by rw [cell_of_row _ _ _ _ _ _ (uset_block (i := 0) (u := .bool true) Z)]; rfl
  have FIN : Below w.heap.size w (w1.setCell ⟨w.heap.size, 0, none⟩ (.bool true)) := (below_more HB.out b1).setCell (p := ⟨w.heap.size, 0, none⟩) (Nat.le_refl _) _
  go_wp2_with fail
  refine leaves_cons (f := 99) (args := #[.pointer (some ⟨w.heap.size, 0, none⟩)]) (by simp) (by simp [go_sem]) ?_
  refine (catch_pan ⟨w.heap.size, 0, none⟩ false _ pv [] _ c0 f0).mono ?_
  rintro e u' w'' ⟨rfl, rfl, rfl⟩
  simp [Leaves, settle, results, Tryd.results65, go_sem, y0]
  exact FIN
set_option maxHeartbeats 4000000 in
theorem ltext_took (d m l : Int) (q : Option Addr) (t : List UInt8) (w : World) (hq : IsRope w t (.pointer q)) (hl : t.length ≤ 1073741824) : Calls Tryd.prog 65 #[tookV d m l q] w fun e w' => e = .returned (.tuple #[.string (Let.mk t), .bool false]) ∧ Below w.heap.size w w' := by
  have hmf : ∀ (fn : Fn) (first cap : Array Value) (w : World), (Instr.makeFunc fn first cap).run Tryd.prog w = .ok (.func fn first cap) w := fun _ _ _ _ => rfl
  have C := utext_took d m l q
  have CT : Hid (∀ w', Below w.heap.size w w' → Calls Tryd.prog 18 #[.pointer q] w' fun e w'' => e = .returned (.string (Let.mk t)) ∧ Below w'.heap.size w' w'') := fun w' hb => Con.text_is w' (hq.below hb (Nat.le_refl _)) hl
  obtain ⟨B0, R0, L0⟩ := ubox w #[.bool false] 4
  obtain ⟨W0, hW0⟩ : ∃ W0, W0 = w.alloc (.cells #[.bool false] 4) := ⟨_, rfl⟩
  rw [← hW0] at B0 R0 L0
  have HW0 := Lib.hid hW0
  have HR := Lib.hid R0
  have HB := Lib.hid B0
  have HL := Lib.hid L0
  unfold tookV at *
  clear hW0 R0 B0 L0 hq
  go_enter_defers Tryd.func65, Tryd.ntmps65
  go_wp2_with fail
  rw [← HW0.out]
  refine (C _).mono ?_
  rintro e w1 ⟨rfl, b1⟩
  go_wp2_with fail
  refine (CT.out _ (below_more HB.out b1)).mono ?_
  rintro e w2 ⟨rfl, b2⟩
  have b12 := below_more b1 b2
  have Z := ukeep b12 (by have := HL.out; omega) HR.out
  have c0 : w2.cell? ⟨w.heap.size, 0, none⟩ = some (.bool false) := by rw [cell_of_row _ _ _ _ _ _ Z]; rfl
  have f0 : w2.frozen? ⟨w.heap.size, 0, none⟩ = false := ublock_frozen Z
  have y0 : (w2.setCell ⟨w.heap.size, 0, none⟩ (.bool false)).cell? ⟨w.heap.size, 0, none⟩ = some (.bool false) := by rw [cell_of_row _ _ _ _ _ _ (uset_block (i := 0) (u := .bool false) Z)]; rfl
  have FIN : Below w.heap.size w (w2.setCell ⟨w.heap.size, 0, none⟩ (.bool false)) := (below_more HB.out b12).setCell (p := ⟨w.heap.size, 0, none⟩) (Nat.le_refl _) _
  go_wp2_with fail
  refine leaves_cons (f := 99) (args := #[.pointer (some ⟨w.heap.size, 0, none⟩)]) (by simp) (by simp [go_sem]) ?_
  refine (catch_idle ⟨w.heap.size, 0, none⟩ _).mono ?_
  rintro e u' w'' ⟨rfl, rfl, rfl⟩
  simp [Leaves, settle, results, Tryd.results65, go_sem, y0]
  exact FIN
theorem ltext_any {v : Value} (y : U) (w : World) (h : ThV w v y) (hl : y.t.length ≤ 1073741824) : Calls Tryd.prog 65 #[v] w fun e w' => e = .returned (.tuple #[.string (Let.mk y.t), .bool (y.k == 1)]) ∧ Below w.heap.size w w' := by
  rcases h with ⟨h1, h2, rfl⟩ | ⟨h1, _, q, rfl, hq⟩
  · rw [h1, h2]
    exact ltext_put _ _ _ w
  · rw [h1]
    exact ltext_took _ _ _ q y.t w hq hl
end Go.Proofs.YtoejjicgnhndfaaDoor.Und
