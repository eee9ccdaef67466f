/- Undo: plain of the program (a thing as plain values); the law's plain; Same of equal lists. -/
import Derived.Test.YtoejjicgnhndfaaDoorUe
import Derived.Deep.RegionWith
set_option linter.unusedVariables false
set_option maxRecDepth 100000
namespace Go.Proofs.YtoejjicgnhndfaaDoor.Und
open Go.RowKit Go.Lib Go.Proofs.YtoejjicgnhndfaaDoor.Rk Go.Proofs.YtoejjicgnhndfaaDoor.Rig

theorem uset_block {B i : Nat} {w : World} {u : Value} {cs : Array Value} {ty : TypeId} (hB : w.heap[B]? = some (.cells cs ty (0, 0))) : (w.setCell ⟨B, i, none⟩ u).heap[B]? = some (.cells (cs.setIfInBounds i u) ty (0, 0)) := by
  rw [heap_setCell_same _ _ _ _ _ _ hB]
/-- A store of five cells. -/
def put5 (w : World) (B : Nat) (a0 a1 a2 a3 a4 : Value) : World := ((((w.setCell ⟨B, 0, none⟩ a0).setCell ⟨B, 1, none⟩ a1).setCell ⟨B, 2, none⟩ a2).setCell ⟨B, 3, none⟩ a3).setCell ⟨B, 4, none⟩ a4
theorem put5_block {w : World} {B : Nat} {x0 x1 x2 x3 x4 a0 a1 a2 a3 a4 : Value} {ty : TypeId} (r : w.heap[B]? = some (.cells #[x0, x1, x2, x3, x4] ty (0, 0))) : (put5 w B a0 a1 a2 a3 a4).heap[B]? = some (.cells #[a0, a1, a2, a3, a4] ty (0, 0)) := by
  have h0 := uset_block (i := 0) (u := a0) r
  have h1 := uset_block (i := 1) (u := a1) h0
  have h2 := uset_block (i := 2) (u := a2) h1
  have h3 := uset_block (i := 3) (u := a3) h2
  exact uset_block (i := 4) (u := a4) h3
theorem put5_below {w W : World} {base B : Nat} (a0 a1 a2 a3 a4 : Value) (hb : Below base w W) (hB : base ≤ B) : Below base w (put5 W B a0 a1 a2 a3 a4) :=
  ((((hb.setCell (p := ⟨B, 0, none⟩) hB _).setCell (p := ⟨B, 1, none⟩) hB _).setCell (p := ⟨B, 2, none⟩) hB _).setCell (p := ⟨B, 3, none⟩) hB _).setCell (p := ⟨B, 4, none⟩) hB _
theorem u5cells {w : World} {B : Nat} {x0 x1 x2 x3 x4 : Value} {ty : TypeId} (z : w.heap[B]? = some (.cells #[x0, x1, x2, x3, x4] ty (0, 0))) : w.cell? ⟨B, 0, none⟩ = some x0 ∧ w.cell? ⟨B, 1, none⟩ = some x1 ∧ w.cell? ⟨B, 2, none⟩ = some x2 ∧ w.cell? ⟨B, 3, none⟩ = some x3 ∧ w.cell? ⟨B, 4, none⟩ = some x4 := by
  refine ⟨?_, ?_, ?_, ?_, ?_⟩ <;> (rw [cell_of_row _ _ _ _ _ _ z]; rfl)
theorem ublock_frozen {w : World} {b j : Nat} {cs : Array Value} {ty : TypeId} (h : w.heap[b]? = some (.cells cs ty (0, 0))) : w.frozen? ⟨b, j, none⟩ = false := by simp [World.frozen?, h]
theorem u5free {w : World} {B : Nat} {cs : Array Value} {ty : TypeId} (z : w.heap[B]? = some (.cells cs ty (0, 0))) : w.frozen? ⟨B, 0, none⟩ = false ∧ w.frozen? ⟨B, 1, none⟩ = false ∧ w.frozen? ⟨B, 2, none⟩ = false ∧ w.frozen? ⟨B, 3, none⟩ = false ∧ w.frozen? ⟨B, 4, none⟩ = false :=
  ⟨ublock_frozen z, ublock_frozen z, ublock_frozen z, ublock_frozen z, ublock_frozen z⟩
theorem ubox (w : World) (cs : Array Value) (ty : TypeId) : Below w.heap.size w (w.alloc (.cells cs ty)) ∧ (w.alloc (.cells cs ty)).heap[w.heap.size]? = some (.cells cs ty (0, 0)) ∧ (w.alloc (.cells cs ty)).heap.size = w.heap.size + 1 :=
  ⟨(Below.refl _ _).alloc (Nat.le_refl _) _, heap_alloc_new _ _, by simp⟩
theorem ukeep {w w' : World} {B b : Nat} {o : Obj} (hb : Below B w w') (hB : b < B) (h : w.heap[b]? = some o) : w'.heap[b]? = some o := (hb.block b hB).trans h

set_option maxHeartbeats 4000000 in
theorem plain_any {v : Value} (y : U) (w : World) (h : ThV w v y) (hl : y.t.length ≤ 1073741824) : Calls Tryd.prog 95 #[v] w fun e w' => e = .returned y.val ∧ Below w.heap.size w w' := by
  have hn := h.nums
  obtain ⟨k, d, m, l, t⟩ := y
  unfold U.val
  unfold ThV at h
  simp only at h hl hn ⊢
  obtain ⟨B1, R1, L1⟩ := ubox w #[.int .i64 0, .int .i64 0, .int .i64 0, .int .i64 0, .string (ByteArray.mk #[])] 88
  obtain ⟨W1, hW1⟩ : ∃ W1, W1 = w.alloc (.cells #[.int .i64 0, .int .i64 0, .int .i64 0, .int .i64 0, .string (ByteArray.mk #[])] 88) := ⟨_, rfl⟩
  rw [← hW1] at B1 R1 L1
  have HW1 := Lib.hid hW1
  have HB1 := Lib.hid B1
  have HR1 := Lib.hid R1
  have HL1 := Lib.hid L1
  have CN : Hid (∀ w', Calls Tryd.prog 96 #[v] w' fun e w'' => e = .returned (.tuple #[.agg #[.int .i64 d, .int .i64 m, .int .i64 l], .bool true]) ∧ Below w'.heap.size w' w'') := hn.c
  clear hn hW1 B1 R1 L1
  rcases h with ⟨rfl, rfl, rfl⟩ | ⟨rfl, hr, q, rfl, hq⟩
  · have NT := fun w => no_took 95 (.agg #[.int .i64 d, .int .i64 m, .int .i64 l]) w (by decide)
    unfold putV at CN ⊢
    go_enter Tryd.func95, Tryd.ntmps95
    go_upto_region 1 with fail
    rw [← HW1.out]
    go_wp2_with fail
    refine (CN.out _).mono ?_
    rintro e w1 ⟨rfl, b1⟩
    obtain ⟨W4, hW4⟩ : ∃ W4, W4 = ((w1.alloc (.cells #[.int .i64 d, .int .i64 m, .int .i64 l] 95)).alloc (.cells #[.int .i64 1, .int .i64 d, .int .i64 m, .int .i64 l, .string (ByteArray.mk #[])] 88)).alloc (.cells #[.int .i64 0, .int .i64 0, .int .i64 0, .pointer none] 161) := ⟨_, rfl⟩
    have b4 : Below w1.heap.size w1 W4 := by rw [hW4]; exact (((Below.refl _ _).alloc (Nat.le_refl _) _).alloc (by simp) _).alloc (by simp; omega) _
    have R4 : W4.heap[w1.heap.size + 1]? = some (.cells #[.int .i64 1, .int .i64 d, .int .i64 m, .int .i64 l, .string (ByteArray.mk #[])] 88 (0, 0)) := by
      have e := heap_alloc_new (w1.alloc (.cells #[.int .i64 d, .int .i64 m, .int .i64 l] 95)) (.cells #[.int .i64 1, .int .i64 d, .int .i64 m, .int .i64 l, .string (ByteArray.mk #[])] 88)
      rw [World.size_alloc] at e
      rw [hW4, Below.heap_alloc _ _ _ (by simp)]
      exact e
    have Z4 := ukeep b4 (by have := b1.size; have := HL1.out; omega) (ukeep b1 (by have := HL1.out; omega) HR1.out)
    have FIN : Hid (Below w.heap.size w (put5 W4 w.heap.size (.int .i64 1) (.int .i64 d) (.int .i64 m) (.int .i64 l) (.string (ByteArray.mk #[])))) := put5_below _ _ _ _ _ (below_more (below_more HB1.out b1) b4) (Nat.le_refl _)
    have HZ := Lib.hid Z4
    have HR4 := Lib.hid R4
    have HW4 := Lib.hid hW4
    clear hW4 b4 R4 Z4 CN b1
    go_upto_region 6 with fail
    rw [← HW4.out]
    obtain ⟨c0, c1, c2, c3, c4⟩ := u5cells HR4.out
    obtain ⟨k0, k1, k2, k3, k4⟩ := u5cells HZ.out
    obtain ⟨f0, f1, f2, f3, f4⟩ := u5free HZ.out
    obtain ⟨y0, y1, y2, y3, y4⟩ := u5cells (put5_block (a0 := .int .i64 1) (a1 := .int .i64 d) (a2 := .int .i64 m) (a3 := .int .i64 l) (a4 := .string (ByteArray.mk #[])) HZ.out)
    clear HW4 HW1
    go_wp2_with fail
    exact bodyPost_ret (v := .agg #[.int .i64 1, .int .i64 d, .int .i64 m, .int .i64 l, .string (ByteArray.mk #[])]) (by simp only [put5] at y0 y1 y2 y3 y4; simp [results, Tryd.results95, go_sem, y0, y1, y2, y3, y4]) rfl ⟨rfl, FIN.out⟩
  · have NT := as_took (.agg #[.int .i64 d, .int .i64 m, .int .i64 l, .pointer q])
    have CT : Hid (∀ w', Below w.heap.size w w' → Calls Tryd.prog 18 #[.pointer q] w' fun e w'' => e = .returned (.string (Let.mk t)) ∧ Below w'.heap.size w' w'') := fun w' hb => Con.text_is w' (hq.below hb (Nat.le_refl _)) hl
    unfold tookV at CN ⊢
    clear hq hr
    go_enter Tryd.func95, Tryd.ntmps95
    go_upto_region 1 with fail
    rw [← HW1.out]
    go_wp2_with fail
    refine (CN.out _).mono ?_
    rintro e w1 ⟨rfl, b1⟩
    obtain ⟨W4, hW4⟩ : ∃ W4, W4 = ((w1.alloc (.cells #[.int .i64 d, .int .i64 m, .int .i64 l] 95)).alloc (.cells #[.int .i64 1, .int .i64 d, .int .i64 m, .int .i64 l, .string (ByteArray.mk #[])] 88)).alloc (.cells #[.int .i64 d, .int .i64 m, .int .i64 l, .pointer q] 161) := ⟨_, rfl⟩
    have b4 : Below w1.heap.size w1 W4 := by rw [hW4]; exact (((Below.refl _ _).alloc (Nat.le_refl _) _).alloc (by simp) _).alloc (by simp; omega) _
    have R4 : W4.heap[w1.heap.size + 1]? = some (.cells #[.int .i64 1, .int .i64 d, .int .i64 m, .int .i64 l, .string (ByteArray.mk #[])] 88 (0, 0)) := by
      have e := heap_alloc_new (w1.alloc (.cells #[.int .i64 d, .int .i64 m, .int .i64 l] 95)) (.cells #[.int .i64 1, .int .i64 d, .int .i64 m, .int .i64 l, .string (ByteArray.mk #[])] 88)
      rw [World.size_alloc] at e
      rw [hW4, Below.heap_alloc _ _ _ (by simp)]
      exact e
    have Q4 : W4.cell? ⟨w1.heap.size + 1 + 1, 3, none⟩ = some (.pointer q) := by
      have e := heap_alloc_new ((w1.alloc (.cells #[.int .i64 d, .int .i64 m, .int .i64 l] 95)).alloc (.cells #[.int .i64 1, .int .i64 d, .int .i64 m, .int .i64 l, .string (ByteArray.mk #[])] 88)) (.cells #[.int .i64 d, .int .i64 m, .int .i64 l, .pointer q] 161)
      rw [World.size_alloc, World.size_alloc, ← hW4] at e
      rw [cell_of_row _ _ _ _ _ _ e]; rfl
    have l4 : W4.heap.size = w1.heap.size + 1 + 1 + 1 := by rw [hW4]; simp
    have b14 := below_more (below_more HB1.out b1) b4
    have Z4 := ukeep b4 (by have := b1.size; have := HL1.out; omega) (ukeep b1 (by have := HL1.out; omega) HR1.out)
    have HZ := Lib.hid Z4
    have HR4 := Lib.hid R4
    have HW4 := Lib.hid hW4
    have B14 := Lib.hid b14
    have hs1 : w.heap.size < w1.heap.size := by have := b1.size; have := HL1.out; omega
    have L4 := Lib.hid (And.intro l4 hs1)
    clear hW4 b4 R4 Z4 CN b1 b14 l4 hs1
    go_upto_region 5 with fail
    rw [← HW4.out]
    go_wp2_with fail
    refine (CT.out _ B14.out).mono ?_
    rintro e w5 ⟨rfl, b5⟩
    have Z5 := Lib.hid (ukeep b5 (by have := L4.out; omega) HZ.out)
    have R5 := Lib.hid (ukeep b5 (by have := L4.out; omega) HR4.out)
    have B5 := Lib.hid (below_more B14.out b5)
    clear Q4 b5 HZ HR4
    obtain ⟨c0, c1, c2, c3, c4⟩ := u5cells R5.out
    obtain ⟨g0, g1, g2, g3, g4⟩ := u5free R5.out
    obtain ⟨W6, hW6⟩ : ∃ W6, W6 = (w5.setCell ⟨w1.heap.size + 1, 0, none⟩ (.int .i64 2)).setCell ⟨w1.heap.size + 1, 4, none⟩ (.string (Let.mk t)) := ⟨_, rfl⟩
    have R6 : Hid (W6.heap[w1.heap.size + 1]? = some (.cells #[.int .i64 2, .int .i64 d, .int .i64 m, .int .i64 l, .string (Let.mk t)] 88 (0, 0))) := by show _ = _; rw [hW6]; exact uset_block (i := 4) (uset_block (i := 0) R5.out)
    have Z6 : Hid (W6.heap[w.heap.size]? = some (.cells #[.int .i64 0, .int .i64 0, .int .i64 0, .int .i64 0, .string (ByteArray.mk #[])] 88 (0, 0))) := by
      show _ = _
      rw [hW6, Below.heap_setCell _ _ _ _ (by have := L4.out; show w.heap.size ≠ w1.heap.size + 1; omega), Below.heap_setCell _ _ _ _ (by have := L4.out; show w.heap.size ≠ w1.heap.size + 1; omega)]
      exact Z5.out
    have B6 : Hid (Below w.heap.size w W6) := by
      show Below _ _ _
      rw [hW6]
      have hx : w.heap.size ≤ w1.heap.size + 1 := by have := L4.out; omega
      exact (B5.out.setCell (p := ⟨w1.heap.size + 1, 0, none⟩) hx _).setCell (p := ⟨w1.heap.size + 1, 4, none⟩) hx _
    have FIN : Hid (Below w.heap.size w (put5 W6 w.heap.size (.int .i64 2) (.int .i64 d) (.int .i64 m) (.int .i64 l) (.string (Let.mk t)))) := put5_below _ _ _ _ _ B6.out (Nat.le_refl _)
    have HW6 := Lib.hid hW6
    clear hW6 Z5 R5 B5 B6 HW4 HW1
    go_upto_region 6 with fail
    rw [← HW6.out]
    clear c0 c1 c2 c3 c4 g0 g1 g2 g3 g4 HW6
    obtain ⟨c0, c1, c2, c3, c4⟩ := u5cells R6.out
    obtain ⟨k0, k1, k2, k3, k4⟩ := u5cells Z6.out
    obtain ⟨f0, f1, f2, f3, f4⟩ := u5free Z6.out
    obtain ⟨y0, y1, y2, y3, y4⟩ := u5cells (put5_block (a0 := .int .i64 2) (a1 := .int .i64 d) (a2 := .int .i64 m) (a3 := .int .i64 l) (a4 := .string (Let.mk t)) Z6.out)
    go_wp2_with fail
    exact bodyPost_ret (v := .agg #[.int .i64 2, .int .i64 d, .int .i64 m, .int .i64 l, .string (Let.mk t)]) (by simp only [put5] at y0 y1 y2 y3 y4; simp [results, Tryd.results95, go_sem, y0, y1, y2, y3, y4]) rfl ⟨rfl, FIN.out⟩
end Go.Proofs.YtoejjicgnhndfaaDoor.Und
