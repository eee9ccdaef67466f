/- Undo: the law's plain (a thing as plain values, or none). -/
import Derived.Test.YtoejjicgnhndfaaDoorUf
import Derived.Deep.RegionHeld3
set_option linter.unusedVariables false
set_option linter.unusedSimpArgs false
set_option maxRecDepth 100000
namespace Go.Proofs.YtoejjicgnhndfaaDoor.Und
open Go.RowKit Go.Lib Go.Proofs.YtoejjicgnhndfaaDoor.Rk Go.Proofs.YtoejjicgnhndfaaDoor.Rig

/-- All blocks but B as they were. -/
structure KpU (B : Nat) (W w' : World) : Prop where
  sz : W.heap.size ≤ w'.heap.size
  blk : ∀ b, b < W.heap.size → b ≠ B → w'.heap[b]? = W.heap[b]?
theorem KpU.refl (B : Nat) (W : World) : KpU B W W := ⟨Nat.le_refl _, fun _ _ _ => rfl⟩
theorem KpU.call {B : Nat} {W w1 w2 : World} (h : KpU B W w1) (h2 : Below w1.heap.size w1 w2) : KpU B W w2 := ⟨Nat.le_trans h.sz h2.size, fun b hb hne => (h2.block b (Nat.lt_of_lt_of_le hb h.sz)).trans (h.blk b hb hne)⟩
theorem KpU.put {B j : Nat} {W w1 : World} {u : Value} (h : KpU B W w1) : KpU B W (w1.setCell ⟨B, j, none⟩ u) := ⟨by rw [World.size_setCell]; exact h.sz, fun b hb hne => (Below.heap_setCell _ _ _ _ hne).trans (h.blk b hb hne)⟩
theorem KpU.drew {B : Nat} {W w1 : World} (h : KpU B W w1) : KpU B W w1.drew := ⟨h.sz, h.blk⟩
theorem KpU.drewN {B : Nat} {W w1 : World} (h : KpU B W w1) (n : Nat) : KpU B W (w1.drewN n) := ⟨h.sz, h.blk⟩
theorem KpU.row {B b : Nat} {W w' : World} {o : Obj} (h : KpU B W w') (r : W.heap[b]? = some o) (hne : b ≠ B) : w'.heap[b]? = some o := (h.blk b (urow_lt r) hne).trans r

set_option maxHeartbeats 2000000 in
theorem lplain_nil (w : World) : Calls Tryd.prog 58 #[.nilIface] w fun e w' => e = .returned (.tuple #[.agg #[.int .i64 0, .int .i64 0, .int .i64 0, .int .i64 0, .string (ByteArray.mk #[])], .bool false]) ∧ Below w.heap.size w w' := by
  have h1 := nil_put
  have h2 := nil_took
  have F3 : ∀ o1 o2 o3, Below w.heap.size w (((w.alloc o1).alloc o2).alloc o3) := fun o1 o2 o3 => (((Below.refl _ _).alloc (Nat.le_refl _) _).alloc (by simp) _).alloc (by simp; omega) _
  go_enter Tryd.func58, Tryd.ntmps58
  go_wp2_with fail
  exact bodyPost_ret (v := .tuple #[.agg #[.int .i64 0, .int .i64 0, .int .i64 0, .int .i64 0, .string (ByteArray.mk #[])], .bool false]) (by simp [results, Tryd.results58, go_sem]) rfl (And.intro rfl (F3 _ _ _))
set_option maxHeartbeats 2000000 in
theorem lplain_put (d m l : Int) (w : World) : Calls Tryd.prog 58 #[putV d m l] w fun e w' => e = .returned (.tuple #[.agg #[.int .i64 1, .int .i64 d, .int .i64 m, .int .i64 l, .string (ByteArray.mk #[])], .bool true]) ∧ Below w.heap.size w w' := by
  have h1 := as_put (.agg #[.int .i64 d, .int .i64 m, .int .i64 l])
  have F3 : ∀ o1 o2, Below w.heap.size w ((w.alloc o1).alloc o2) := fun o1 o2 => ((Below.refl _ _).alloc (Nat.le_refl _) _).alloc (by simp) _
  unfold putV
  go_enter Tryd.func58, Tryd.ntmps58
  go_wp2_with fail
  exact bodyPost_ret (v := .tuple #[.agg #[.int .i64 1, .int .i64 d, .int .i64 m, .int .i64 l, .string (ByteArray.mk #[])], .bool true]) (by simp [results, Tryd.results58, go_sem]) rfl (And.intro rfl (F3 _ _))
set_option maxHeartbeats 4000000 in
theorem lplain_took (d m l : Int) (q : Option Addr) (t : List UInt8) (w : World) (hq : IsRope w t (.pointer q)) (hl : t.length ≤ 1073741824) : Calls Tryd.prog 58 #[tookV d m l q] w fun e w' => e = .returned (.tuple #[.agg #[.int .i64 2, .int .i64 d, .int .i64 m, .int .i64 l, .string (Let.mk t)], .bool true]) ∧ Below w.heap.size w w' := by
  have h1 := fun w => no_put 161 (.agg #[.int .i64 d, .int .i64 m, .int .i64 l, .pointer q]) w (by decide)
  have h2 := as_took (.agg #[.int .i64 d, .int .i64 m, .int .i64 l, .pointer q])
  have CT : Hid (∀ w', Below w.heap.size w w' → Calls Tryd.prog 18 #[.pointer q] w' fun e w'' => e = .returned (.string (Let.mk t)) ∧ Below w'.heap.size w' w'') := fun w' hb => Con.text_is w' (hq.below hb (Nat.le_refl _)) hl
  obtain ⟨W4, hW4⟩ : ∃ W4, W4 = ((w.alloc (.cells #[.int .i64 0, .int .i64 0, .int .i64 0, .int .i64 0, .string (ByteArray.mk #[])] 88)).alloc (.cells #[.int .i64 0, .int .i64 0, .int .i64 0] 95)).alloc (.cells #[.int .i64 d, .int .i64 m, .int .i64 l, .pointer q] 161) := ⟨_, rfl⟩
  have b4 : Below w.heap.size w W4 := by rw [hW4]; exact (((Below.refl _ _).alloc (Nat.le_refl _) _).alloc (by simp) _).alloc (by simp; omega) _
  have R4 : W4.heap[w.heap.size + 1 + 1]? = some (.cells #[.int .i64 d, .int .i64 m, .int .i64 l, .pointer q] 161 (0, 0)) := by
    have e := heap_alloc_new ((w.alloc (.cells #[.int .i64 0, .int .i64 0, .int .i64 0, .int .i64 0, .string (ByteArray.mk #[])] 88)).alloc (.cells #[.int .i64 0, .int .i64 0, .int .i64 0] 95)) (.cells #[.int .i64 d, .int .i64 m, .int .i64 l, .pointer q] 161)
    rw [World.size_alloc, World.size_alloc, ← hW4] at e
    exact e
  have Z4 : W4.heap[w.heap.size]? = some (.cells #[.int .i64 0, .int .i64 0, .int .i64 0, .int .i64 0, .string (ByteArray.mk #[])] 88 (0, 0)) := by
    rw [hW4, Below.heap_alloc _ _ _ (by simp; omega), Below.heap_alloc _ _ _ (by simp)]
    exact heap_alloc_new _ _
  have HW4 := Lib.hid hW4
  have HB4 := Lib.hid b4
  have HZ := Lib.hid Z4
  have BX : Hid (∀ w', KpU w.heap.size W4 w' → KpU w.heap.size W4 w' ∧ w'.cell? ⟨w.heap.size + 1 + 1, 0, none⟩ = some (.int .i64 d) ∧ w'.cell? ⟨w.heap.size + 1 + 1, 1, none⟩ = some (.int .i64 m) ∧ w'.cell? ⟨w.heap.size + 1 + 1, 2, none⟩ = some (.int .i64 l) ∧ w'.cell? ⟨w.heap.size + 1 + 1, 3, none⟩ = some (.pointer q)) := fun w' hk => by
    have r := hk.row R4 (by omega)
    refine ⟨hk, ?_, ?_, ?_, ?_⟩ <;> (rw [cell_of_row _ _ _ _ _ _ r]; rfl)
  have KR := Lib.hid (KpU.refl w.heap.size W4)
  have KS := Lib.hid (Below.refl W4.heap.size W4)
  obtain ⟨_, c0, c1, c2, c3⟩ := BX.out _ KR.out
  unfold tookV
  clear hW4 b4 R4 Z4 hq
  go_enter Tryd.func58, Tryd.ntmps58
  go_upto_region 6 with fail
  rw [← HW4.out]
  go_region_held3 (fun w' => KpU w.heap.size W4 w' ∧ w'.cell? ⟨w.heap.size + 1 + 1, 0, none⟩ = some (.int .i64 d) ∧ w'.cell? ⟨w.heap.size + 1 + 1, 1, none⟩ = some (.int .i64 m) ∧ w'.cell? ⟨w.heap.size + 1 + 1, 2, none⟩ = some (.int .i64 l) ∧ w'.cell? ⟨w.heap.size + 1 + 1, 3, none⟩ = some (.pointer q))
    ((refine BX.out _ ?_; focus ((repeat first | with_reducible assumption | with_reducible exact KR.out | with_reducible apply KpU.put | with_reducible apply KpU.drew | with_reducible apply KpU.drewN); done)))
    (first
      | (go_at_call 18; (with_reducible refine (CT.out _ (below_more HB4.out ?_)).mono ?_); (focus ((repeat first | with_reducible assumption | with_reducible exact KS.out | with_reducible apply Below.drew | with_reducible apply below_drews); done)); rintro e w5 ⟨rfl, b5⟩; have jj5 := fun h => below_more (B := W4.heap.size) (w := W4) h b5; replace jj5 := jj5 (by (repeat first | with_reducible assumption | with_reducible exact KS.out | with_reducible apply Below.drew | with_reducible apply below_drews)); have kk5 : KpU w.heap.size W4 w5 := (KpU.refl _ _).call jj5; have Z5 := ukeep jj5 (urow_lt HZ.out) HZ.out; obtain ⟨k0, k1, k2, k3, k4⟩ := u5cells Z5; obtain ⟨f0, f1, f2, f3, f4⟩ := u5free Z5; obtain ⟨y0, y1, y2, y3, y4⟩ := u5cells (put5_block (a0 := .int .i64 2) (a1 := .int .i64 d) (a2 := .int .i64 m) (a3 := .int .i64 l) (a4 := .string (Let.mk t)) Z5); have FIN : Hid (Below w.heap.size w (put5 w5 w.heap.size (.int .i64 2) (.int .i64 d) (.int .i64 m) (.int .i64 l) (.string (Let.mk t)))) := put5_below _ _ _ _ _ (below_more HB4.out jj5) (Nat.le_refl _)))
  all_goals go_wp2_with fail
  all_goals exact bodyPost_ret (v := .tuple #[.agg #[.int .i64 2, .int .i64 d, .int .i64 m, .int .i64 l, .string (Let.mk t)], .bool true]) (by simp only [put5] at y0 y1 y2 y3 y4; simp [results, Tryd.results58, go_sem, y0, y1, y2, y3, y4]) rfl (And.intro rfl (by first | exact FIN.out | exact FIN.out.drew))
theorem lplain_any {v : Value} (y : U) (w : World) (h : ThV w v y) (hl : y.t.length ≤ 1073741824) : Calls Tryd.prog 58 #[v] w fun e w' => e = .returned (.tuple #[y.val, .bool true]) ∧ Below w.heap.size w w' := by
  obtain ⟨k, d, m, l, t⟩ := y
  rcases h with ⟨h1, h2, rfl⟩ | ⟨h1, _, q, rfl, hq⟩
  · simp only at h1 h2
    subst h1 h2
    exact lplain_put _ _ _ w
  · simp only at h1 hl hq
    subst h1
    exact lplain_took _ _ _ q t w hq hl
end Go.Proofs.YtoejjicgnhndfaaDoor.Und
