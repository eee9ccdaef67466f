/- Contracts: order of the program, and what it calls. -/
import Derived.Test.YtkbadhkjhkmlfaaMs
import Derived.Test.YtkbadhkjhkmlfaaPk
import Derived.Test.YtkbadhkjhkmlfaaShelf
import Derived.StillTailTactics
set_option linter.unusedVariables false
namespace Go.Proofs.Ytkbadhkjhkmlfaa.Rig
open Go.RowKit Go.Lib Go.Proofs.Ytkbadhkjhkmlfaa.Rt Go.Sort

theorem cmp_any (x y : Int) (W : World) : Calls Try.prog 39 #[.int .i64 x, .int .i64 y] W fun e w' => e = .returned (.int .i64 (Lib.compareInt x y)) ∧ w' = W :=
  AnyG.cmp_Compare_int Try.cmpInt x y W
def orI (x y : Int) : Int := if x = 0 then y else x
theorem orI_zero (y : Int) : orI 0 y = y := rfl
theorem orI_some {x y : Int} (h : x ≠ 0) : orI x y = x := if_neg h
set_option maxHeartbeats 1000000 in
theorem or_any (b : Nat) (x y : Int) (W : World) (h0 : W.cell? ⟨b, 0, none⟩ = some (.int .i64 x)) (h1 : W.cell? ⟨b, 1, none⟩ = some (.int .i64 y)) :
    Calls Try.prog 38 #[.slice (some ⟨b, 0, none⟩) 2 2] W fun e w' => e = .returned (.int .i64 (orI x y)) ∧ W = w' := by
  go_enter Try.func38, Try.ntmps38
  go_wp2
  go_loop [5, 8] (fun v i => ∃ k : Nat, k ≤ 2 ∧ i = .int .i64 k ∧ Hid (0 < k → x = 0) ∧ Hid (1 < k → y = 0)) (fun _ i => 2 - (RowKit.intOf i).toNat)
  case atStart => exact ⟨0, by omega, rfl, fun h => absurd h (by omega), fun h => absurd h (by omega)⟩
  case round =>
    obtain ⟨k, hk, rfl, X0, Y0⟩ := hrel
    by_cases e0 : k = 0
    · subst e0
      by_cases q : x = 0
      · subst q
        have d : ((0 : Int) != 0) = false := rfl
        clear X0 Y0
        go_wp2
        go_round
        case rel => exact ⟨1, by omega, rfl, fun _ => by trivial, fun h => absurd h (by omega)⟩
        case measure => simp [RowKit.intOf]
      · have d : (x != 0) = true := by simpa using q
        have EN : Hid (orI x y = x) := orI_some q
        clear X0 Y0
        go_wp2
        go_ret
        exact ⟨congrArg Ending.returned (congrArg (Value.int .i64) EN.out.symm), rfl⟩
    · by_cases e1 : k = 1
      · subst e1
        have hx := X0.out (by omega)
        have EN : Hid (orI x y = y) := by show _ = _; rw [hx]; rfl
        clear hx e0
        by_cases q : y = 0
        · subst q
          have HX := Lib.hid (X0.out (by omega))
          clear X0 Y0
          go_wp2
          go_round
          case rel => exact ⟨2, by omega, rfl, fun _ => HX.out, fun _ => by trivial⟩
          case measure => simp [RowKit.intOf]
        · have d : (y != 0) = true := by simpa using q
          clear X0 Y0
          go_wp2
          go_ret
          exact ⟨congrArg Ending.returned (congrArg (Value.int .i64) EN.out.symm), rfl⟩
      · have e2 : k = 2 := by omega
        subst e2
        have EN : Hid (orI x y = 0) := by show _ = _; rw [X0.out (by omega), Y0.out (by omega)]; rfl
        clear X0 Y0 e0 e1
        go_wp2
        go_ret
        exact ⟨congrArg Ending.returned (congrArg (Value.int .i64) EN.out.symm), rfl⟩

theorem still_tail {P : Program} {id : Nat} {Q : Exit → Act → World → Prop} {a : Act} {w : World} {l : List Oper} (n : Nat) (hm : P.follows .mixedOrders = true) (hB : Region.lexTailB .any l.toArray n = true)
    (h : wpStill P l.toArray w.drew (fun a' => wpList P l.toArray Q (l.drop n) a' w.drew) (l.take n) a) : (Code.region id l.toArray true).wp P Q a w := wp_region_still_tail n hm hB h

theorem three_grow (W : World) (o1 o2 o3 : Obj) : (((W.alloc o1).alloc o2).drew).alloc o3 = grow (W.drewN 1) #[o1, o2, o3] := by
  rw [alloc_eq_grow (((W.alloc o1).alloc o2).drew), alloc_eq_grow (W.alloc o1), alloc_eq_grow W, drew_grow, drew_grow, grow_grow, grow_grow]
  rfl

def ordI (x y : St) : Int := orI (Lib.compareInt x.a y.a) (Lib.compareInt x.m y.m)
theorem ordI_neg (x y : St) : ordI x y < 0 ↔ ltS x y := by
  unfold ordI orI Lib.compareInt ltS gtS
  repeat' split
  all_goals (simp at * <;> omega)
theorem ordI_range (x y : St) : -1 ≤ ordI x y ∧ ordI x y ≤ 1 := by
  unfold ordI orI Lib.compareInt
  repeat' split
  all_goals omega
set_option maxRecDepth 100000 in
set_option maxHeartbeats 2000000 in
theorem order_any (x y : St) (W : World) :
    Calls Try.prog 35 #[.agg #[.int .i64 x.m, .int .i64 x.a], .agg #[.int .i64 y.m, .int .i64 y.a]] W fun e w' => e = .returned (.int .i64 (ordI x y)) ∧ ∃ q os', w' = grow (W.drewN q) os' := by
  have hc := fun a b W' => cmp_any a b W'
  have ho := Lib.hid or_any
  have E : Hid (ordI x y = orI (Lib.compareInt x.a y.a) (Lib.compareInt x.m y.m)) := rfl
  have C1 := Lib.hid (fun W' => cmp_any x.a y.a W')
  have C2 := Lib.hid (fun W' => cmp_any x.m y.m W')
  clear hc
  generalize Lib.compareInt x.a y.a = r at *
  generalize Lib.compareInt x.m y.m = s at *
  obtain ⟨xm, xa⟩ := x
  obtain ⟨ym, ya⟩ := y
  simp only at C1 C2 ⊢
  go_enter Try.func35, Try.ntmps35
  go_wp2_with fail
  refine still_tail 10 (by kernel_rfl) (by kernel_rfl) ?_
  simp only [List.take_succ_cons, List.take_zero, List.drop_succ_cons, List.drop_zero]
  obtain ⟨W2, hW2⟩ : ∃ W2, W2 = ((W.alloc (.cells #[.int .i64 xm, .int .i64 xa] 41)).alloc (.cells #[.int .i64 ym, .int .i64 ya] 41)).drew := ⟨_, rfl⟩
  rw [← hW2]
  have b0 : W2.heap[W.heap.size]? = some (.cells #[.int .i64 xm, .int .i64 xa] 41 (0, 0)) := by
    rw [hW2]
    show ((W.alloc _).alloc _).heap[W.heap.size]? = _
    rw [Below.heap_alloc _ _ _ (by simp)]
    exact heap_alloc_new _ _
  have b1 : W2.heap[W.heap.size + 1]? = some (.cells #[.int .i64 ym, .int .i64 ya] 41 (0, 0)) := by
    rw [hW2]
    have := heap_alloc_new (W.alloc (.cells #[.int .i64 xm, .int .i64 xa] 41)) (.cells #[.int .i64 ym, .int .i64 ya] 41)
    rw [World.size_alloc] at this
    exact this
  have c0 : W2.cell? ⟨W.heap.size, 0, none⟩ = some (.int .i64 xm) := by rw [cell_of_row _ _ _ _ _ _ b0]; rfl
  have c1 : W2.cell? ⟨W.heap.size, 1, none⟩ = some (.int .i64 xa) := by rw [cell_of_row _ _ _ _ _ _ b0]; rfl
  have c2 : W2.cell? ⟨W.heap.size + 1, 0, none⟩ = some (.int .i64 ym) := by rw [cell_of_row _ _ _ _ _ _ b1]; rfl
  have c3 : W2.cell? ⟨W.heap.size + 1, 1, none⟩ = some (.int .i64 ya) := by rw [cell_of_row _ _ _ _ _ _ b1]; rfl
  clear b0 b1
  repeat still_step
  still_call (C1.out _)
  repeat still_step
  still_call (C2.out _)
  refine wpStill_nil ?_
  have HW2 := Lib.hid hW2
  clear hW2 C1 C2
  have D0 : (W2.alloc (.cells #[.int .i64 r, .int .i64 s] 3)).cell? ⟨W2.heap.size, 0, none⟩ = some (.int .i64 r) := by rw [cell_of_row _ _ _ _ _ _ (heap_alloc_new _ _)]; rfl
  have D1 : (W2.alloc (.cells #[.int .i64 r, .int .i64 s] 3)).cell? ⟨W2.heap.size, 1, none⟩ = some (.int .i64 s) := by rw [cell_of_row _ _ _ _ _ _ (heap_alloc_new _ _)]; rfl
  have CO := Lib.hid (ho.out W2.heap.size r s _ D0 D1)
  clear D0 D1 ho
  go_wp2_with fail
  refine CO.out.mono ?_
  rintro e w' ⟨rfl, rfl⟩
  go_wp2_with fail
  go_ret
  exact ⟨congrArg Ending.returned (congrArg (Value.int .i64) E.out.symm), 1, _, by rw [HW2.out]; exact three_grow W _ _ _⟩
end Go.Proofs.Ytkbadhkjhkmlfaa.Rig
