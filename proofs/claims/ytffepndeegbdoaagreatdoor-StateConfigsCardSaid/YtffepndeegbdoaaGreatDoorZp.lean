/- State: the plain text's Same of rows of plain things. -/
import Derived.Test.YtffepndeegbdoaaGreatDoorZa
import Derived.Test.YtffepndeegbdoaaGreatDoorZg
import Derived.StillTailTactics
import Derived.BigQuiet
import Derived.Deep.Draws
import Derived.Laws.StructEq
set_option linter.unusedVariables false
set_option linter.unusedSimpArgs false
set_option maxRecDepth 100000
namespace Go.Proofs.YtffepndeegbdoaaGreatDoor.Sta
open Go.RowKit Go.Lib Go.Proofs.YtffepndeegbdoaaGreatDoor.Bx Go.Proofs.YtffepndeegbdoaaGreatDoor.Frm Go.Proofs.YtffepndeegbdoaaGreatDoor.Wds

theorem drew_cell {w : World} {p : Addr} {x : Value} (h : w.cell? p = some x) : w.drew.cell? p = some x := h
theorem still_tailW {P : Program} {id : Nat} {Q : Exit → Act → World → Prop} {a : Act} {w : World} {l : List Oper} (n : Nat) (hm : P.follows .mixedOrders = true) (hB : Region.lexTailB .any l.toArray n = true)
    (h : wpStill P l.toArray w.drew (fun a' => wpList P l.toArray Q (l.drop n) a' w.drew) (l.take n) a) : (Code.region id l.toArray true).wp P Q a w := wp_region_still_tail n hm hB h
theorem listSpan {α : Type} {l : List α} (h : l.length = 3) : ∃ f0 f1 f2, l = [f0, f1, f2] := by
  match l, h with
  | [f0, f1, f2], _ => exact ⟨f0, f1, f2, rfl⟩
theorem eq_Span (x0 : Int) (x1 : Int) (x2 : Int) (w : World) : (Op.equalIn 10000 121 (.agg #[.int .i64 x0, .int .i64 x1, .int .i64 x2]) (.agg #[.int .i64 x0, .int .i64 x1, .int .i64 x2])).run Tryz.prog w = .ok true w := by
  rw [run_equalIn_agg w 9999 121 _ _ (by kernel_rfl) (by kernel_rfl)]
  have hf : (Tryz.prog.fieldsOf 121).toList.map (fun f => (decide (f.name = "_"), f.type, f.offset)) = [(false, 3, 0), (false, 3, 1), (false, 3, 2)] := by kernel_rfl
  generalize (Tryz.prog.fieldsOf 121).toList = fs at hf ⊢
  obtain ⟨f0, f1, f2, rfl⟩ := listSpan (by have h := congrArg List.length hf; rwa [List.length_map] at h)
  simp only [List.map_cons, List.map_nil, List.cons.injEq, Prod.mk.injEq, decide_eq_false_iff_not, and_true] at hf
  obtain ⟨⟨n0, t0, o0⟩, ⟨n1, t1, o1⟩, n2, t2, o2⟩ := hf
  simp [Op.eqFields, n0, t0, o0, n1, t1, o1, n2, t2, o2, go_sem]
theorem guard_Span : Tryz.prog.eqGuardType Tryz.prog.depth 121 = false := by kernel_rfl
theorem listSite {α : Type} {l : List α} (h : l.length = 2) : ∃ f0 f1, l = [f0, f1] := by
  match l, h with
  | [f0, f1], _ => exact ⟨f0, f1, rfl⟩
theorem eq_Site (x0 : Int) (x1 : Int) (w : World) : (Op.equalIn 10000 125 (.agg #[.int .i64 x0, .int .i64 x1]) (.agg #[.int .i64 x0, .int .i64 x1])).run Tryz.prog w = .ok true w := by
  rw [run_equalIn_agg w 9999 125 _ _ (by kernel_rfl) (by kernel_rfl)]
  have hf : (Tryz.prog.fieldsOf 125).toList.map (fun f => (decide (f.name = "_"), f.type, f.offset)) = [(false, 3, 0), (false, 3, 1)] := by kernel_rfl
  generalize (Tryz.prog.fieldsOf 125).toList = fs at hf ⊢
  obtain ⟨f0, f1, rfl⟩ := listSite (by have h := congrArg List.length hf; rwa [List.length_map] at h)
  simp only [List.map_cons, List.map_nil, List.cons.injEq, Prod.mk.injEq, decide_eq_false_iff_not, and_true] at hf
  obtain ⟨⟨n0, t0, o0⟩, n1, t1, o1⟩ := hf
  simp [Op.eqFields, n0, t0, o0, n1, t1, o1, go_sem]
theorem guard_Site : Tryz.prog.eqGuardType Tryz.prog.depth 125 = false := by kernel_rfl
theorem listUndo {α : Type} {l : List α} (h : l.length = 5) : ∃ f0 f1 f2 f3 f4, l = [f0, f1, f2, f3, f4] := by
  match l, h with
  | [f0, f1, f2, f3, f4], _ => exact ⟨f0, f1, f2, f3, f4, rfl⟩
theorem eq_Undo (x0 : Int) (x1 : Int) (x2 : Int) (x3 : Int) (x4 : ByteArray) (w : World) : (Op.equalIn 10000 64 (.agg #[.int .i64 x0, .int .i64 x1, .int .i64 x2, .int .i64 x3, .string x4]) (.agg #[.int .i64 x0, .int .i64 x1, .int .i64 x2, .int .i64 x3, .string x4])).run Tryz.prog w = .ok true w := by
  rw [run_equalIn_agg w 9999 64 _ _ (by kernel_rfl) (by kernel_rfl)]
  have hf : (Tryz.prog.fieldsOf 64).toList.map (fun f => (decide (f.name = "_"), f.type, f.offset)) = [(false, 3, 0), (false, 3, 1), (false, 3, 2), (false, 3, 3), (false, 9, 4)] := by kernel_rfl
  generalize (Tryz.prog.fieldsOf 64).toList = fs at hf ⊢
  obtain ⟨f0, f1, f2, f3, f4, rfl⟩ := listUndo (by have h := congrArg List.length hf; rwa [List.length_map] at h)
  simp only [List.map_cons, List.map_nil, List.cons.injEq, Prod.mk.injEq, decide_eq_false_iff_not, and_true] at hf
  obtain ⟨⟨n0, t0, o0⟩, ⟨n1, t1, o1⟩, ⟨n2, t2, o2⟩, ⟨n3, t3, o3⟩, n4, t4, o4⟩ := hf
  simp [Op.eqFields, n0, t0, o0, n1, t1, o1, n2, t2, o2, n3, t3, o3, n4, t4, o4, go_sem]
theorem guard_Undo : Tryz.prog.eqGuardType Tryz.prog.depth 64 = false := by kernel_rfl
theorem listSeat {α : Type} {l : List α} (h : l.length = 5) : ∃ f0 f1 f2 f3 f4, l = [f0, f1, f2, f3, f4] := by
  match l, h with
  | [f0, f1, f2, f3, f4], _ => exact ⟨f0, f1, f2, f3, f4, rfl⟩
theorem eq_Seat (x0 : ByteArray) (x1 : Int) (x2 : Int) (x3 : Int) (x4 : ByteArray) (w : World) : (Op.equalIn 10000 66 (.agg #[.string x0, .int .i64 x1, .int .i64 x2, .int .i64 x3, .string x4]) (.agg #[.string x0, .int .i64 x1, .int .i64 x2, .int .i64 x3, .string x4])).run Tryz.prog w = .ok true w := by
  rw [run_equalIn_agg w 9999 66 _ _ (by kernel_rfl) (by kernel_rfl)]
  have hf : (Tryz.prog.fieldsOf 66).toList.map (fun f => (decide (f.name = "_"), f.type, f.offset)) = [(false, 9, 0), (false, 3, 1), (false, 3, 2), (false, 3, 3), (false, 9, 4)] := by kernel_rfl
  generalize (Tryz.prog.fieldsOf 66).toList = fs at hf ⊢
  obtain ⟨f0, f1, f2, f3, f4, rfl⟩ := listSeat (by have h := congrArg List.length hf; rwa [List.length_map] at h)
  simp only [List.map_cons, List.map_nil, List.cons.injEq, Prod.mk.injEq, decide_eq_false_iff_not, and_true] at hf
  obtain ⟨⟨n0, t0, o0⟩, ⟨n1, t1, o1⟩, ⟨n2, t2, o2⟩, ⟨n3, t3, o3⟩, n4, t4, o4⟩ := hf
  simp [Op.eqFields, n0, t0, o0, n1, t1, o1, n2, t2, o2, n3, t3, o3, n4, t4, o4, go_sem]
theorem guard_Seat : Tryz.prog.eqGuardType Tryz.prog.depth 66 = false := by kernel_rfl
set_option maxHeartbeats 8000000 in
theorem same_int {P P' : Nat → Prop} {v1 v2 : Value} (xs : List (Int)) (w : World) (h1 : RowP numM P w v1 xs) (h2 : RowP numM P' w v2 xs) : Calls Tryz.prog 63 #[v1, v2] w fun e w' => e = .returned (.bool true) ∧ ∃ q, w' = w.drewN q := by
  obtain ⟨a1, c1, rfl⟩ := h1.is_slice
  obtain ⟨a2, c2, rfl⟩ := h2.is_slice
  have H1 := Lib.hid h1
  have H2 := Lib.hid h2
  have hn9 : xs.length ≤ 9223372036854775807 := by have := h1.len; unfold maxLen at this; omega
  obtain ⟨n, hn⟩ : ∃ n, n = xs.length := ⟨_, rfl⟩
  rw [← hn] at H1 H2 hn9 ⊢
  have HN := Lib.hid hn
  clear h1 h2 hn
  go_enter Tryz.func63, Tryz.ntmps63
  go_wp2_with fail
  go_loopg [5] n (fun g i_ wr => ∃ (i : Nat), i ≤ n ∧ n - i ≤ g ∧ i_ = .int .i64 (i : Nat) ∧ ∃ k, wr = w.drewN k)
  case atStart => exact ⟨0, by omega, by omega, rfl, 0, rfl⟩
  case round =>
    obtain ⟨i, hi, hg, rfl, k, rfl⟩ := hrel
    by_cases hin : i < n
    · have iw : ((i : Nat) : Int) < (n : Int) := by omega
      have n0 : (0 : Int) ≤ ((i : Nat) : Int) := by omega
      have hix : i < xs.length := by rw [← HN.out]; exact hin
      have bk : Below w.heap.size w (w.drewN k) := d_drews (Below.refl _ _) k
      obtain ⟨b1, f1, q1, rfl, hlt1, _, hR1, hc1⟩ := (H1.out.keep numM_ok (Keep.below bk)).get hix
      obtain ⟨b2, f2, q2, rfl, hlt2, _, hR2, hc2⟩ := (H2.out.keep numM_ok (Keep.below bk)).get hix
      obtain ⟨x, hx⟩ : ∃ x, x = xs[i] := ⟨_, rfl⟩
      rw [← hx] at hR1 hR2
      obtain ⟨wo, hwo⟩ : ∃ wo, wo = w.drewN k := ⟨_, rfl⟩
      rw [← hwo] at hc1 hc2 hlt1 hlt2 ⊢
      have HWO := Lib.hid hwo
      have e1 : q1 = [.int .i64 x] := hR1
      have e2 : q2 = [.int .i64 x] := hR2
      subst e1 e2
      have d1 : wo.cell? ⟨b1, f1 + i, none⟩ = some (.int .i64 x) := by have q := hc1 0 _ rfl; rw [show f1 + i * numM.k + 0 = f1 + i from by show f1 + i * 1 + 0 = _; omega] at q; exact q
      have d2 : wo.cell? ⟨b2, f2 + i, none⟩ = some (.int .i64 x) := by have q := hc2 0 _ rfl; rw [show f2 + i * numM.k + 0 = f2 + i from by show f2 + i * 1 + 0 = _; omega] at q; exact q
      have e0 : (x != x) = false := by simp
      clear hwo hR1 hR2 hc1 hc2 hx hix bk
      go_upto_region 6 with fail
      go_quiet (fail)
      have HD : Hid (wo.drewN nq = w.drewN (k + nq)) := by show _ = _; rw [HWO.out, World.drewN_drewN]
      go_wp2_with fail
      go_roundg (n - (i + 1))
      case measure => omega
      case rel => exact ⟨i + 1, by omega, Nat.le_refl _, by go_num, _, HD.out⟩
    · obtain rfl : i = n := by omega
      have iw : ¬ ((i : Nat) : Int) < ((i : Nat) : Int) := by omega
      have bk : Hid (Below w.heap.size w (w.drewN k)) := d_drews (Below.refl _ _) k
      go_wp2_with fail
      go_ret
      exact ⟨rfl, _, rfl⟩
set_option maxHeartbeats 8000000 in
theorem same_Undo {P P' : Nat → Prop} {v1 v2 : Value} (xs : List (Thg)) (w : World) (h1 : RowP thgM P w v1 xs) (h2 : RowP thgM P' w v2 xs) : Calls Tryz.prog 34 #[v1, v2] w fun e w' => e = .returned (.bool true) ∧ ∃ q, w' = w.drewN q := by
  obtain ⟨a1, c1, rfl⟩ := h1.is_slice
  obtain ⟨a2, c2, rfl⟩ := h2.is_slice
  have H1 := Lib.hid h1
  have H2 := Lib.hid h2
  have hn9 : xs.length ≤ 9223372036854775807 := by have := h1.len; unfold maxLen at this; omega
  obtain ⟨n, hn⟩ : ∃ n, n = xs.length := ⟨_, rfl⟩
  rw [← hn] at H1 H2 hn9 ⊢
  have HN := Lib.hid hn
  clear h1 h2 hn
  go_enter Tryz.func34, Tryz.ntmps34
  go_wp2_with fail
  go_loopg [5] n (fun g i_ wr => ∃ (i : Nat), i ≤ n ∧ n - i ≤ g ∧ i_ = .int .i64 (i : Nat) ∧ ∃ k, wr = w.drewN k)
  case atStart => exact ⟨0, by omega, by omega, rfl, 0, rfl⟩
  case round =>
    obtain ⟨i, hi, hg, rfl, k, rfl⟩ := hrel
    by_cases hin : i < n
    · have iw : ((i : Nat) : Int) < (n : Int) := by omega
      have n0 : (0 : Int) ≤ ((i : Nat) : Int) := by omega
      have hix : i < xs.length := by rw [← HN.out]; exact hin
      have bk : Below w.heap.size w (w.drewN k) := d_drews (Below.refl _ _) k
      obtain ⟨b1, f1, q1, rfl, hlt1, _, hR1, hc1⟩ := (H1.out.keep thgM_ok (Keep.below bk)).get hix
      obtain ⟨b2, f2, q2, rfl, hlt2, _, hR2, hc2⟩ := (H2.out.keep thgM_ok (Keep.below bk)).get hix
      obtain ⟨x, hx⟩ : ∃ x, x = xs[i] := ⟨_, rfl⟩
      rw [← hx] at hR1 hR2
      obtain ⟨wo, hwo⟩ : ∃ wo, wo = w.drewN k := ⟨_, rfl⟩
      rw [← hwo] at hc1 hc2 hlt1 hlt2 ⊢
      have HWO := Lib.hid hwo
      obtain rfl := thgM_cells hR1
      obtain rfl := thgM_cells hR2
      obtain ⟨z0, hz0⟩ : ∃ z : Int, z = x.1 := ⟨_, rfl⟩
      obtain ⟨z1, hz1⟩ : ∃ z : Int, z = x.2.1 := ⟨_, rfl⟩
      obtain ⟨z2, hz2⟩ : ∃ z : Int, z = x.2.2.1 := ⟨_, rfl⟩
      obtain ⟨z3, hz3⟩ : ∃ z : Int, z = x.2.2.2.1 := ⟨_, rfl⟩
      obtain ⟨z4, hz4⟩ : ∃ z : ByteArray, z = mkB x.2.2.2.2 := ⟨_, rfl⟩
      have d10 : wo.cell? ⟨b1, f1 + i * 5, none⟩ = some (.int .i64 z0) := by rw [hz0]; exact hc1 0 _ rfl
      have d11 : wo.cell? ⟨b1, f1 + i * 5 + 1, none⟩ = some (.int .i64 z1) := by rw [hz1]; exact hc1 1 _ rfl
      have d12 : wo.cell? ⟨b1, f1 + i * 5 + 2, none⟩ = some (.int .i64 z2) := by rw [hz2]; exact hc1 2 _ rfl
      have d13 : wo.cell? ⟨b1, f1 + i * 5 + 3, none⟩ = some (.int .i64 z3) := by rw [hz3]; exact hc1 3 _ rfl
      have d14 : wo.cell? ⟨b1, f1 + i * 5 + 4, none⟩ = some (.string z4) := by rw [hz4]; exact hc1 4 _ rfl
      have d20 : wo.cell? ⟨b2, f2 + i * 5, none⟩ = some (.int .i64 z0) := by rw [hz0]; exact hc2 0 _ rfl
      have d21 : wo.cell? ⟨b2, f2 + i * 5 + 1, none⟩ = some (.int .i64 z1) := by rw [hz1]; exact hc2 1 _ rfl
      have d22 : wo.cell? ⟨b2, f2 + i * 5 + 2, none⟩ = some (.int .i64 z2) := by rw [hz2]; exact hc2 2 _ rfl
      have d23 : wo.cell? ⟨b2, f2 + i * 5 + 3, none⟩ = some (.int .i64 z3) := by rw [hz3]; exact hc2 3 _ rfl
      have d24 : wo.cell? ⟨b2, f2 + i * 5 + 4, none⟩ = some (.string z4) := by rw [hz4]; exact hc2 4 _ rfl
      clear hz0 hz1 hz2 hz3 hz4
      have EQ := fun w => eq_Undo z0 z1 z2 z3 z4 w
      have EG := guard_Undo
      clear hwo hR1 hR2 hc1 hc2 hx hix bk
      go_upto_region 6 with fail
      go_quiet (fail)
      have HD : Hid (wo.drewN nq = w.drewN (k + nq)) := by show _ = _; rw [HWO.out, World.drewN_drewN]
      go_wp2_with fail
      go_roundg (n - (i + 1))
      case measure => omega
      case rel => exact ⟨i + 1, by omega, Nat.le_refl _, by go_num, _, HD.out⟩
    · obtain rfl : i = n := by omega
      have iw : ¬ ((i : Nat) : Int) < ((i : Nat) : Int) := by omega
      have bk : Hid (Below w.heap.size w (w.drewN k)) := d_drews (Below.refl _ _) k
      go_wp2_with fail
      go_ret
      exact ⟨rfl, _, rfl⟩
set_option maxHeartbeats 8000000 in
theorem same_Seat {P P' : Nat → Prop} {v1 v2 : Value} (xs : List (Sea)) (w : World) (h1 : RowP seaM P w v1 xs) (h2 : RowP seaM P' w v2 xs) : Calls Tryz.prog 35 #[v1, v2] w fun e w' => e = .returned (.bool true) ∧ Below w.heap.size w w' := by
  obtain ⟨a1, c1, rfl⟩ := h1.is_slice
  obtain ⟨a2, c2, rfl⟩ := h2.is_slice
  have H1 := Lib.hid h1
  have H2 := Lib.hid h2
  have hn9 : xs.length ≤ 9223372036854775807 := by have := h1.len; unfold maxLen at this; omega
  obtain ⟨n, hn⟩ : ∃ n, n = xs.length := ⟨_, rfl⟩
  rw [← hn] at H1 H2 hn9 ⊢
  have HN := Lib.hid hn
  clear h1 h2 hn
  go_enter Tryz.func35, Tryz.ntmps35
  go_wp2_with fail
  go_loopg [5] n (fun g i_ wr => ∃ (i : Nat), i ≤ n ∧ n - i ≤ g ∧ i_ = .int .i64 (i : Nat) ∧ ∃ k, wr = w.drewN k)
  case atStart => exact ⟨0, by omega, by omega, rfl, 0, rfl⟩
  case round =>
    obtain ⟨i, hi, hg, rfl, k, rfl⟩ := hrel
    by_cases hin : i < n
    · have iw : ((i : Nat) : Int) < (n : Int) := by omega
      have n0 : (0 : Int) ≤ ((i : Nat) : Int) := by omega
      have hix : i < xs.length := by rw [← HN.out]; exact hin
      have bk : Below w.heap.size w (w.drewN k) := d_drews (Below.refl _ _) k
      obtain ⟨b1, f1, q1, rfl, hlt1, _, hR1, hc1⟩ := (H1.out.keep seaM_ok (Keep.below bk)).get hix
      obtain ⟨b2, f2, q2, rfl, hlt2, _, hR2, hc2⟩ := (H2.out.keep seaM_ok (Keep.below bk)).get hix
      obtain ⟨x, hx⟩ : ∃ x, x = xs[i] := ⟨_, rfl⟩
      rw [← hx] at hR1 hR2
      obtain ⟨wo, hwo⟩ : ∃ wo, wo = w.drewN k := ⟨_, rfl⟩
      rw [← hwo] at hc1 hc2 hlt1 hlt2 ⊢
      have HWO := Lib.hid hwo
      obtain rfl := seaM_cells hR1
      obtain rfl := seaM_cells hR2
      obtain ⟨z0, hz0⟩ : ∃ z : ByteArray, z = mkB x.1 := ⟨_, rfl⟩
      obtain ⟨z1, hz1⟩ : ∃ z : Int, z = x.2.1 := ⟨_, rfl⟩
      obtain ⟨z2, hz2⟩ : ∃ z : Int, z = x.2.2.1 := ⟨_, rfl⟩
      obtain ⟨z3, hz3⟩ : ∃ z : Int, z = x.2.2.2.1 := ⟨_, rfl⟩
      obtain ⟨z4, hz4⟩ : ∃ z : ByteArray, z = mkB x.2.2.2.2 := ⟨_, rfl⟩
      have d10 : wo.cell? ⟨b1, f1 + i * 5, none⟩ = some (.string z0) := by rw [hz0]; exact hc1 0 _ rfl
      have d11 : wo.cell? ⟨b1, f1 + i * 5 + 1, none⟩ = some (.int .i64 z1) := by rw [hz1]; exact hc1 1 _ rfl
      have d12 : wo.cell? ⟨b1, f1 + i * 5 + 2, none⟩ = some (.int .i64 z2) := by rw [hz2]; exact hc1 2 _ rfl
      have d13 : wo.cell? ⟨b1, f1 + i * 5 + 3, none⟩ = some (.int .i64 z3) := by rw [hz3]; exact hc1 3 _ rfl
      have d14 : wo.cell? ⟨b1, f1 + i * 5 + 4, none⟩ = some (.string z4) := by rw [hz4]; exact hc1 4 _ rfl
      have d20 : wo.cell? ⟨b2, f2 + i * 5, none⟩ = some (.string z0) := by rw [hz0]; exact hc2 0 _ rfl
      have d21 : wo.cell? ⟨b2, f2 + i * 5 + 1, none⟩ = some (.int .i64 z1) := by rw [hz1]; exact hc2 1 _ rfl
      have d22 : wo.cell? ⟨b2, f2 + i * 5 + 2, none⟩ = some (.int .i64 z2) := by rw [hz2]; exact hc2 2 _ rfl
      have d23 : wo.cell? ⟨b2, f2 + i * 5 + 3, none⟩ = some (.int .i64 z3) := by rw [hz3]; exact hc2 3 _ rfl
      have d24 : wo.cell? ⟨b2, f2 + i * 5 + 4, none⟩ = some (.string z4) := by rw [hz4]; exact hc2 4 _ rfl
      clear hz0 hz1 hz2 hz3 hz4
      have EQ := fun w => eq_Seat z0 z1 z2 z3 z4 w
      have EG := guard_Seat
      clear hwo hR1 hR2 hc1 hc2 hx hix bk
      go_upto_region 6 with fail
      go_quiet (fail)
      have HD : Hid (wo.drewN nq = w.drewN (k + nq)) := by show _ = _; rw [HWO.out, World.drewN_drewN]
      go_wp2_with fail
      go_roundg (n - (i + 1))
      case measure => omega
      case rel => exact ⟨i + 1, by omega, Nat.le_refl _, by go_num, _, HD.out⟩
    · obtain rfl : i = n := by omega
      have iw : ¬ ((i : Nat) : Int) < ((i : Nat) : Int) := by omega
      have bk : Hid (Below w.heap.size w (w.drewN k)) := d_drews (Below.refl _ _) k
      go_wp2_with fail
      go_ret
      exact ⟨rfl, bk.out⟩
set_option maxHeartbeats 8000000 in
theorem same_marks {P1 P2 P3 P4 : Nat → Prop} {v1 v2 v3 v4 : Value} (xs : List Spn) (ys : List Sit) (w : World) (h1 : RowP spnM P1 w v1 xs) (h2 : RowP spnM P2 w v2 xs) (h3 : RowP sitM P3 w v3 ys) (h4 : RowP sitM P4 w v4 ys) : Calls Tryz.prog 85 #[v1, v2, v3, v4] w fun e w' => e = .returned (.bool true) ∧ Below w.heap.size w w' := by
  obtain ⟨a1, c1, rfl⟩ := h1.is_slice
  obtain ⟨a2, c2, rfl⟩ := h2.is_slice
  obtain ⟨a3, c3, rfl⟩ := h3.is_slice
  obtain ⟨a4, c4, rfl⟩ := h4.is_slice
  have H1 := Lib.hid h1
  have H2 := Lib.hid h2
  have H3 := Lib.hid h3
  have H4 := Lib.hid h4
  have hn8 : xs.length ≤ 9223372036854775807 := by have := h1.len; unfold maxLen at this; omega
  have hn9 : ys.length ≤ 9223372036854775807 := by have := h3.len; unfold maxLen at this; omega
  obtain ⟨n1, hn1⟩ : ∃ n, n = xs.length := ⟨_, rfl⟩
  obtain ⟨n2, hn2⟩ : ∃ n, n = ys.length := ⟨_, rfl⟩
  rw [← hn1] at H1 H2 hn8 ⊢
  rw [← hn2] at H3 H4 hn9 ⊢
  have HN := Lib.hid (And.intro hn1 hn2)
  clear h1 h2 h3 h4 hn1 hn2
  go_enter Tryz.func85, Tryz.ntmps85
  go_wp2_with fail
  go_loopg [9] n1 (fun g i_ wr => ∃ (i : Nat), i ≤ n1 ∧ n1 - i ≤ g ∧ i_ = .int .i64 (i : Nat) ∧ ∃ k, wr = w.drewN k)
  case atStart => exact ⟨0, by omega, by omega, rfl, 0, rfl⟩
  case round =>
    obtain ⟨i, hi, hg, rfl, k, rfl⟩ := hrel
    by_cases hin : i < n1
    · have iw : ((i : Nat) : Int) < (n1 : Int) := by omega
      have n0 : (0 : Int) ≤ ((i : Nat) : Int) := by omega
      have hix : i < xs.length := by rw [← HN.out.1]; exact hin
      have bk : Below w.heap.size w (w.drewN k) := d_drews (Below.refl _ _) k
      obtain ⟨b1, f1, q1, rfl, hlt1, _, hR1, hc1⟩ := (H1.out.keep spnM_ok (Keep.below bk)).get hix
      obtain ⟨b2, f2, q2, rfl, hlt2, _, hR2, hc2⟩ := (H2.out.keep spnM_ok (Keep.below bk)).get hix
      obtain ⟨x, hx⟩ : ∃ x, x = xs[i] := ⟨_, rfl⟩
      rw [← hx] at hR1 hR2
      obtain ⟨wo, hwo⟩ : ∃ wo, wo = w.drewN k := ⟨_, rfl⟩
      rw [← hwo] at hc1 hc2 hlt1 hlt2 ⊢
      have HWO := Lib.hid hwo
      obtain rfl := spnM_cells hR1
      obtain rfl := spnM_cells hR2
      obtain ⟨z0, hz0⟩ : ∃ z : Int, z = x.1 := ⟨_, rfl⟩
      obtain ⟨z1, hz1⟩ : ∃ z : Int, z = x.2.1 := ⟨_, rfl⟩
      obtain ⟨z2, hz2⟩ : ∃ z : Int, z = x.2.2 := ⟨_, rfl⟩
      have d10 : wo.cell? ⟨b1, f1 + i * 3, none⟩ = some (.int .i64 z0) := by rw [hz0]; exact hc1 0 _ rfl
      have d11 : wo.cell? ⟨b1, f1 + i * 3 + 1, none⟩ = some (.int .i64 z1) := by rw [hz1]; exact hc1 1 _ rfl
      have d12 : wo.cell? ⟨b1, f1 + i * 3 + 2, none⟩ = some (.int .i64 z2) := by rw [hz2]; exact hc1 2 _ rfl
      have d20 : wo.cell? ⟨b2, f2 + i * 3, none⟩ = some (.int .i64 z0) := by rw [hz0]; exact hc2 0 _ rfl
      have d21 : wo.cell? ⟨b2, f2 + i * 3 + 1, none⟩ = some (.int .i64 z1) := by rw [hz1]; exact hc2 1 _ rfl
      have d22 : wo.cell? ⟨b2, f2 + i * 3 + 2, none⟩ = some (.int .i64 z2) := by rw [hz2]; exact hc2 2 _ rfl
      clear hz0 hz1 hz2
      have EQ := fun w => eq_Span z0 z1 z2 w
      have EG := guard_Span
      clear hwo hR1 hR2 hc1 hc2 hx hix bk
      go_upto_region 6 with fail
      go_quiet (fail)
      have HD : Hid (wo.drewN nq = w.drewN (k + nq)) := by show _ = _; rw [HWO.out, World.drewN_drewN]
      go_wp2_with fail
      go_roundg (n1 - (i + 1))
      case measure => omega
      case rel => exact ⟨i + 1, by omega, Nat.le_refl _, by go_num, _, HD.out⟩
    · obtain rfl : i = n1 := by omega
      have iw : ¬ ((i : Nat) : Int) < ((i : Nat) : Int) := by omega
      clear H1 H2
      go_wp2_with fail
      go_loopg [10] n2 (fun g i_ wr => ∃ (i : Nat), i ≤ n2 ∧ n2 - i ≤ g ∧ i_ = .int .i64 (i : Nat) ∧ ∃ k, wr = w.drewN k)
      case atStart => exact ⟨0, by omega, by omega, rfl, _, rfl⟩
      case round =>
        clear hi hg iw
        obtain ⟨i, hi, hg, rfl, k, rfl⟩ := hrel
        by_cases hin : i < n2
        · have iw : ((i : Nat) : Int) < (n2 : Int) := by omega
          have n0 : (0 : Int) ≤ ((i : Nat) : Int) := by omega
          have hix : i < ys.length := by rw [← HN.out.2]; exact hin
          have bk : Below w.heap.size w (w.drewN k) := d_drews (Below.refl _ _) k
          obtain ⟨b1, f1, q1, rfl, hlt1, _, hR1, hc1⟩ := (H3.out.keep sitM_ok (Keep.below bk)).get hix
          obtain ⟨b2, f2, q2, rfl, hlt2, _, hR2, hc2⟩ := (H4.out.keep sitM_ok (Keep.below bk)).get hix
          obtain ⟨x, hx⟩ : ∃ x, x = ys[i] := ⟨_, rfl⟩
          rw [← hx] at hR1 hR2
          obtain ⟨wo, hwo⟩ : ∃ wo, wo = w.drewN k := ⟨_, rfl⟩
          rw [← hwo] at hc1 hc2 hlt1 hlt2 ⊢
          have HWO := Lib.hid hwo
          obtain rfl := sitM_cells hR1
          obtain rfl := sitM_cells hR2
          obtain ⟨z0, hz0⟩ : ∃ z : Int, z = x.1 := ⟨_, rfl⟩
          obtain ⟨z1, hz1⟩ : ∃ z : Int, z = x.2 := ⟨_, rfl⟩
          have d10 : wo.cell? ⟨b1, f1 + i * 2, none⟩ = some (.int .i64 z0) := by rw [hz0]; exact hc1 0 _ rfl
          have d11 : wo.cell? ⟨b1, f1 + i * 2 + 1, none⟩ = some (.int .i64 z1) := by rw [hz1]; exact hc1 1 _ rfl
          have d20 : wo.cell? ⟨b2, f2 + i * 2, none⟩ = some (.int .i64 z0) := by rw [hz0]; exact hc2 0 _ rfl
          have d21 : wo.cell? ⟨b2, f2 + i * 2 + 1, none⟩ = some (.int .i64 z1) := by rw [hz1]; exact hc2 1 _ rfl
          clear hz0 hz1
          have EQ := fun w => eq_Site z0 z1 w
          have EG := guard_Site
          clear hwo hR1 hR2 hc1 hc2 hx hix bk
          go_upto_region 11 with fail
          go_quiet (fail)
          have HD : Hid (wo.drewN nq = w.drewN (k + nq)) := by show _ = _; rw [HWO.out, World.drewN_drewN]
          go_wp2_with fail
          go_roundg (n2 - (i + 1))
          case measure => omega
          case rel => exact ⟨i + 1, by omega, Nat.le_refl _, by go_num, _, HD.out⟩
        · obtain rfl : i = n2 := by omega
          have iw : ¬ ((i : Nat) : Int) < ((i : Nat) : Int) := by omega
          have bk : Hid (Below w.heap.size w (w.drewN k)) := d_drews (Below.refl _ _) k
          go_wp2_with fail
          go_ret
          exact ⟨rfl, bk.out⟩
theorem five_cells' {w : World} {B : Nat} {x0 x1 x2 x3 x4 : Value} {ty : TypeId} (z : w.heap[B]? = some (.cells #[x0, x1, x2, x3, x4] ty (0, 0))) : w.cell? ⟨B, 0, none⟩ = some x0 ∧ w.cell? ⟨B, 1, none⟩ = some x1 ∧ w.cell? ⟨B, 2, none⟩ = some x2 ∧ w.cell? ⟨B, 3, none⟩ = some x3 ∧ w.cell? ⟨B, 4, none⟩ = some x4 := by
  refine ⟨?_, ?_, ?_, ?_, ?_⟩ <;> (rw [cell_of_row _ _ _ _ _ _ z]; rfl)
set_option maxHeartbeats 8000000 in
theorem same_Seg {P P' : Nat → Prop} {k1 k2 : List Value} (x : Seg) (w : World) (h1 : segM.R P w k1 x) (h2 : segM.R P' w k2 x) : Calls Tryz.prog 64 #[.agg k1.toArray, .agg k2.toArray] w fun e w' => e = .returned (.bool true) ∧ Below w.heap.size w w' := by
  obtain ⟨u3, c3, u4, c4, rfl, p3, p4⟩ := segM_cells h1
  obtain ⟨v3, d3, v4, d4, rfl, q3, q4⟩ := segM_cells h2
  have CM := fun (w' : World) (b : Below w.heap.size w w') => same_marks x.2.2.2.1 x.2.2.2.2 w' (p3.keep spnM_ok (Keep.below b)) (q3.keep spnM_ok (Keep.below b)) (p4.keep sitM_ok (Keep.below b)) (q4.keep sitM_ok (Keep.below b))
  generalize x.2.2.2.1.length = n3 at *
  generalize x.2.2.2.2.length = n4 at *
  generalize x.1 = x0 at *
  generalize x.2.1 = x1 at *
  generalize mkB x.2.2.1 = x2 at *
  clear h1 h2 p3 p4 q3 q4
  show Calls _ _ #[.agg #[.int .i64 x0, .int .i64 x1, .string x2, .slice u3 n3 c3, .slice u4 n4 c4], .agg #[.int .i64 x0, .int .i64 x1, .string x2, .slice v3 n3 d3, .slice v4 n4 d4]] _ _
  obtain ⟨B0, P0, L0⟩ := box1 w #[.int .i64 x0, .int .i64 x1, .string x2, .slice u3 n3 c3, .slice u4 n4 c4] 88
  obtain ⟨W0, hW0⟩ : ∃ W0, W0 = w.alloc (.cells #[.int .i64 x0, .int .i64 x1, .string x2, .slice u3 n3 c3, .slice u4 n4 c4] 88) := ⟨_, rfl⟩
  rw [← hW0] at B0 P0 L0
  obtain ⟨B1, P1, L1⟩ := box1 W0 #[.int .i64 x0, .int .i64 x1, .string x2, .slice v3 n3 d3, .slice v4 n4 d4] 88
  obtain ⟨W1, hW1⟩ : ∃ W1, W1 = W0.alloc (.cells #[.int .i64 x0, .int .i64 x1, .string x2, .slice v3 n3 d3, .slice v4 n4 d4] 88) := ⟨_, rfl⟩
  rw [← hW1] at B1 P1 L1
  have q0 : W1.heap[w.heap.size]? = some (.cells #[.int .i64 x0, .int .i64 x1, .string x2, .slice u3 n3 c3, .slice u4 n4 c4] 88 (0, 0)) := (B1.block _ (by omega)).trans P0
  rw [L0] at P1
  have HB : Hid (Below w.heap.size w W1) := below_on B0 B1
  have C := Lib.hid (CM W1 HB.out)
  obtain ⟨R, hR⟩ : ∃ R, R = w.heap.size := ⟨_, rfl⟩
  rw [← hR] at q0 P1
  obtain ⟨a0, a1, a2, a3, a4⟩ := five_cells' q0
  obtain ⟨b0, b1, b2, b3, b4⟩ := five_cells' P1
  have HW : Hid (W1 = (w.alloc (.cells #[.int .i64 x0, .int .i64 x1, .string x2, .slice u3 n3 c3, .slice u4 n4 c4] 88)).alloc (.cells #[.int .i64 x0, .int .i64 x1, .string x2, .slice v3 n3 d3, .slice v4 n4 d4] 88)) := by show _ = _; rw [hW1, hW0]
  have HR : Hid (w.heap.size = R) := hR.symm
  clear hR B0 P0 L0 B1 P1 L1 hW0 hW1 q0 CM
  go_enter Tryz.func64, Tryz.ntmps64
  go_upto_region 1 with fail
  rw [← HW.out, HR.out]
  go_wp2_with fail
  refine C.out.mono ?_
  rintro e w6 ⟨rfl, b6⟩
  have HB6 := Lib.hid (below_on HB.out b6)
  clear b6 C HB
  go_wp2_with fail
  go_ret
  exact ⟨rfl, HB6.out⟩
set_option maxHeartbeats 8000000 in
theorem same_Labels {P P' : Nat → Prop} {v1 v2 : Value} (xs : List (Lab)) (w : World) (h1 : RowP labM P w v1 xs) (h2 : RowP labM P' w v2 xs) : Calls Tryz.prog 32 #[v1, v2] w fun e w' => e = .returned (.bool true) ∧ Below w.heap.size w w' := by
  obtain ⟨a1, c1, rfl⟩ := h1.is_slice
  obtain ⟨a2, c2, rfl⟩ := h2.is_slice
  have H1 := Lib.hid h1
  have H2 := Lib.hid h2
  have hn9 : xs.length ≤ 9223372036854775807 := by have := h1.len; unfold maxLen at this; omega
  obtain ⟨n, hn⟩ : ∃ n, n = xs.length := ⟨_, rfl⟩
  rw [← hn] at H1 H2 hn9 ⊢
  have HN := Lib.hid hn
  clear h1 h2 hn
  go_enter Tryz.func32, Tryz.ntmps32
  go_wp2_with fail
  go_loopg [5] n (fun g i_ wr => ∃ (i : Nat), i ≤ n ∧ n - i ≤ g ∧ i_ = .int .i64 (i : Nat) ∧ Hid (Below w.heap.size w wr))
  case atStart => exact ⟨0, by omega, by omega, rfl, Below.refl _ _⟩
  case round =>
    obtain ⟨i, hi, hg, rfl, HW⟩ := hrel
    by_cases hin : i < n
    · have iw : ((i : Nat) : Int) < (n : Int) := by omega
      have n0 : (0 : Int) ≤ ((i : Nat) : Int) := by omega
      have hix : i < xs.length := by rw [← HN.out]; exact hin
      obtain ⟨b1, f1, q1, rfl, hlt1, _, hR1, hc1⟩ := (H1.out.keep labM_ok (Keep.below HW.out)).get hix
      obtain ⟨b2, f2, q2, rfl, hlt2, _, hR2, hc2⟩ := (H2.out.keep labM_ok (Keep.below HW.out)).get hix
      obtain ⟨x, hx⟩ : ∃ x, x = xs[i] := ⟨_, rfl⟩
      rw [← hx] at hR1 hR2
      clear hx hix
      obtain ⟨r1, s1, t1, y1, rfl, p1, z1⟩ := labM_cells hR1
      obtain ⟨r2, s2, t2, y2, rfl, p2, z2⟩ := labM_cells hR2
      have d10 : wr.cell? ⟨b1, f1 + i * 4, none⟩ = some (.int .i64 x.1) := hc1 0 _ rfl
      have d11 : wr.cell? ⟨b1, f1 + i * 4 + 1, none⟩ = some (.int .i64 x.2.1) := hc1 1 _ rfl
      have d12 : wr.cell? ⟨b1, f1 + i * 4 + 2, none⟩ = some (.slice r1 x.2.2.1.length s1) := hc1 2 _ rfl
      have d13 : wr.cell? ⟨b1, f1 + i * 4 + 3, none⟩ = some (.slice t1 x.2.2.2.length y1) := hc1 3 _ rfl
      have d20 : wr.cell? ⟨b2, f2 + i * 4, none⟩ = some (.int .i64 x.1) := hc2 0 _ rfl
      have d21 : wr.cell? ⟨b2, f2 + i * 4 + 1, none⟩ = some (.int .i64 x.2.1) := hc2 1 _ rfl
      have d22 : wr.cell? ⟨b2, f2 + i * 4 + 2, none⟩ = some (.slice r2 x.2.2.1.length s2) := hc2 2 _ rfl
      have d23 : wr.cell? ⟨b2, f2 + i * 4 + 3, none⟩ = some (.slice t2 x.2.2.2.length y2) := hc2 3 _ rfl
      have CR : Hid (∀ m, Calls Tryz.prog 63 #[.slice r1 x.2.2.1.length s1, .slice r2 x.2.2.1.length s2] (wr.drewN m) fun e w' => e = .returned (.bool true) ∧ ∃ q, w' = (wr.drewN m).drewN q) := fun m => same_int x.2.2.1 _ (p1.keep numM_ok (Keep.below (d_drews (Below.refl _ _) m))) (p2.keep numM_ok (Keep.below (d_drews (Below.refl _ _) m)))
      have CS : Hid (∀ m, Calls Tryz.prog 63 #[.slice t1 x.2.2.2.length y1, .slice t2 x.2.2.2.length y2] (wr.drewN m) fun e w' => e = .returned (.bool true) ∧ ∃ q, w' = (wr.drewN m).drewN q) := fun m => same_int x.2.2.2 _ (z1.keep numM_ok (Keep.below (d_drews (Below.refl _ _) m))) (z2.keep numM_ok (Keep.below (d_drews (Below.refl _ _) m)))
      clear p1 p2 z1 z2 hR1 hR2 hc1 hc2
      generalize x.2.2.1.length = l1 at *
      generalize x.2.2.2.length = l2 at *
      generalize x.1 = x0 at *
      generalize x.2.1 = x1 at *
      have e0 : (x0 != x0) = false := by simp
      have e1 : (x1 != x1) = false := by simp
      clear H1 H2
      go_wp2_with fail
      go_quiet ((first | (go_at_call 63; with_reducible exact Calls.quiet_of (CR.out _)) | (go_at_call 63; with_reducible exact Calls.quiet_of (CS.out _))))
      go_wp2
      go_roundg (n - (i + 1))
      case measure => omega
      case rel => exact ⟨i + 1, by omega, Nat.le_refl _, by go_num, d_drews HW.out _⟩
    · obtain rfl : i = n := by omega
      have iw : ¬ ((i : Nat) : Int) < ((i : Nat) : Int) := by omega
      go_wp2_with fail
      go_ret
      exact ⟨rfl, HW.out⟩
set_option maxHeartbeats 8000000 in
theorem same_Segs {P P' : Nat → Prop} {v1 v2 : Value} (xs : List (Seg)) (w : World) (h1 : RowP segM P w v1 xs) (h2 : RowP segM P' w v2 xs) : Calls Tryz.prog 33 #[v1, v2] w fun e w' => e = .returned (.bool true) ∧ Below w.heap.size w w' := by
  obtain ⟨a1, c1, rfl⟩ := h1.is_slice
  obtain ⟨a2, c2, rfl⟩ := h2.is_slice
  have H1 := Lib.hid h1
  have H2 := Lib.hid h2
  have hn9 : xs.length ≤ 9223372036854775807 := by have := h1.len; unfold maxLen at this; omega
  obtain ⟨n, hn⟩ : ∃ n, n = xs.length := ⟨_, rfl⟩
  rw [← hn] at H1 H2 hn9 ⊢
  have HN := Lib.hid hn
  clear h1 h2 hn
  go_enter Tryz.func33, Tryz.ntmps33
  go_wp2_with fail
  go_loopg [5] n (fun g i_ wr => ∃ (i : Nat), i ≤ n ∧ n - i ≤ g ∧ i_ = .int .i64 (i : Nat) ∧ Hid (Below w.heap.size w wr))
  case atStart => exact ⟨0, by omega, by omega, rfl, Below.refl _ _⟩
  case round =>
    obtain ⟨i, hi, hg, rfl, HW⟩ := hrel
    by_cases hin : i < n
    · have iw : ((i : Nat) : Int) < (n : Int) := by omega
      have n0 : (0 : Int) ≤ ((i : Nat) : Int) := by omega
      have hix : i < xs.length := by rw [← HN.out]; exact hin
      obtain ⟨b1, f1, q1, rfl, hlt1, _, hR1, hc1⟩ := (H1.out.keep segM_ok (Keep.below HW.out)).get hix
      obtain ⟨b2, f2, q2, rfl, hlt2, _, hR2, hc2⟩ := (H2.out.keep segM_ok (Keep.below HW.out)).get hix
      obtain ⟨x, hx⟩ : ∃ x, x = xs[i] := ⟨_, rfl⟩
      rw [← hx] at hR1 hR2
      clear hx hix
      have hE1 := hR1
      have hE2 := hR2
      obtain ⟨u3, k3, u4, k4, rfl, _, _⟩ := segM_cells hE1
      obtain ⟨v3, m3, v4, m4, rfl, _, _⟩ := segM_cells hE2
      have d10 : wr.cell? ⟨b1, f1 + i * 5, none⟩ = some (.int .i64 x.1) := hc1 0 _ rfl
      have d11 : wr.cell? ⟨b1, f1 + i * 5 + 1, none⟩ = some (.int .i64 x.2.1) := hc1 1 _ rfl
      have d12 : wr.cell? ⟨b1, f1 + i * 5 + 2, none⟩ = some (.string (mkB x.2.2.1)) := hc1 2 _ rfl
      have d13 : wr.cell? ⟨b1, f1 + i * 5 + 3, none⟩ = some (.slice u3 x.2.2.2.1.length k3) := hc1 3 _ rfl
      have d14 : wr.cell? ⟨b1, f1 + i * 5 + 4, none⟩ = some (.slice u4 x.2.2.2.2.length k4) := hc1 4 _ rfl
      have d20 : wr.cell? ⟨b2, f2 + i * 5, none⟩ = some (.int .i64 x.1) := hc2 0 _ rfl
      have d21 : wr.cell? ⟨b2, f2 + i * 5 + 1, none⟩ = some (.int .i64 x.2.1) := hc2 1 _ rfl
      have d22 : wr.cell? ⟨b2, f2 + i * 5 + 2, none⟩ = some (.string (mkB x.2.2.1)) := hc2 2 _ rfl
      have d23 : wr.cell? ⟨b2, f2 + i * 5 + 3, none⟩ = some (.slice v3 x.2.2.2.1.length m3) := hc2 3 _ rfl
      have d24 : wr.cell? ⟨b2, f2 + i * 5 + 4, none⟩ = some (.slice v4 x.2.2.2.2.length m4) := hc2 4 _ rfl
      have C : Hid (Calls Tryz.prog 64 #[.agg #[.int .i64 x.1, .int .i64 x.2.1, .string (mkB x.2.2.1), .slice u3 x.2.2.2.1.length k3, .slice u4 x.2.2.2.2.length k4], .agg #[.int .i64 x.1, .int .i64 x.2.1, .string (mkB x.2.2.1), .slice v3 x.2.2.2.1.length m3, .slice v4 x.2.2.2.2.length m4]] wr.drew fun e w' => e = .returned (.bool true) ∧ Below wr.drew.heap.size wr.drew w') := same_Seg x wr.drew (segM_ok.keep hR1 (Keep.below (Below.drew (Below.refl _ _)))) (segM_ok.keep hR2 (Keep.below (Below.drew (Below.refl _ _))))
      have HWD : Hid (Below w.heap.size w wr.drew) := Below.drew HW.out
      clear hE1 hE2 hR1 hR2 hc1 hc2
      generalize x.2.2.2.1.length = l3 at *
      generalize x.2.2.2.2.length = l4 at *
      generalize x.1 = x0 at *
      generalize x.2.1 = x1 at *
      generalize mkB x.2.2.1 = x2 at *
      go_upto_region 6 with fail
      refine still_tailW 8 (by kernel_rfl) (by kernel_rfl) ?_
      simp only [List.take_succ_cons, List.take_zero, List.drop_succ_cons, List.drop_zero]
      have g10 := drew_cell d10
      have g11 := drew_cell d11
      have g12 := drew_cell d12
      have g13 := drew_cell d13
      have g14 := drew_cell d14
      have g20 := drew_cell d20
      have g21 := drew_cell d21
      have g22 := drew_cell d22
      have g23 := drew_cell d23
      have g24 := drew_cell d24
      have hlt1' : b1 < wr.drew.heap.size := hlt1
      have hlt2' : b2 < wr.drew.heap.size := hlt2
      generalize wr.drew = wo at *
      repeat still_step
      refine wpStill_nil ?_
      clear g10 g11 g12 g13 g14 g20 g21 g22 g23 g24
      go_wp2_with fail
      refine C.out.mono ?_
      rintro e w5 ⟨rfl, b5⟩
      have HW5 : Hid (Below w.heap.size w w5) := below_on HWD.out b5
      clear b5 C
      go_wp2_with fail
      go_roundg (n - (i + 1))
      case measure => omega
      case rel => exact ⟨i + 1, by omega, Nat.le_refl _, by go_num, HW5⟩
    · obtain rfl : i = n := by omega
      have iw : ¬ ((i : Nat) : Int) < ((i : Nat) : Int) := by omega
      go_wp2_with fail
      go_ret
      exact ⟨rfl, HW.out⟩
set_option maxHeartbeats 8000000 in
theorem same_Entrys {P P' : Nat → Prop} {v1 v2 : Value} (xs : List (Ent)) (w : World) (h1 : RowP entM P w v1 xs) (h2 : RowP entM P' w v2 xs) : Calls Tryz.prog 36 #[v1, v2] w fun e w' => e = .returned (.bool true) ∧ Below w.heap.size w w' := by
  obtain ⟨a1, c1, rfl⟩ := h1.is_slice
  obtain ⟨a2, c2, rfl⟩ := h2.is_slice
  have H1 := Lib.hid h1
  have H2 := Lib.hid h2
  have hn9 : xs.length ≤ 9223372036854775807 := by have := h1.len; unfold maxLen at this; omega
  obtain ⟨n, hn⟩ : ∃ n, n = xs.length := ⟨_, rfl⟩
  rw [← hn] at H1 H2 hn9 ⊢
  have HN := Lib.hid hn
  clear h1 h2 hn
  go_enter Tryz.func36, Tryz.ntmps36
  go_wp2_with fail
  go_loopg [5] n (fun g i_ wr => ∃ (i : Nat), i ≤ n ∧ n - i ≤ g ∧ i_ = .int .i64 (i : Nat) ∧ Hid (Below w.heap.size w wr))
  case atStart => exact ⟨0, by omega, by omega, rfl, Below.refl _ _⟩
  case round =>
    obtain ⟨i, hi, hg, rfl, HW⟩ := hrel
    by_cases hin : i < n
    · have iw : ((i : Nat) : Int) < (n : Int) := by omega
      have n0 : (0 : Int) ≤ ((i : Nat) : Int) := by omega
      have hix : i < xs.length := by rw [← HN.out]; exact hin
      obtain ⟨b1, f1, q1, rfl, hlt1, _, hR1, hc1⟩ := (H1.out.keep entM_ok (Keep.below HW.out)).get hix
      obtain ⟨b2, f2, q2, rfl, hlt2, _, hR2, hc2⟩ := (H2.out.keep entM_ok (Keep.below HW.out)).get hix
      obtain ⟨x, hx⟩ : ∃ x, x = xs[i] := ⟨_, rfl⟩
      rw [← hx] at hR1 hR2
      clear hx hix
      obtain ⟨u3, k3, u4, k4, rfl, p3, p4⟩ := entM_cells hR1
      obtain ⟨v3, m3, v4, m4, rfl, q3, q4⟩ := entM_cells hR2
      have d10 : wr.cell? ⟨b1, f1 + i * 5, none⟩ = some (.int .i64 x.1) := hc1 0 _ rfl
      have d11 : wr.cell? ⟨b1, f1 + i * 5 + 1, none⟩ = some (.int .i64 x.2.1) := hc1 1 _ rfl
      have d12 : wr.cell? ⟨b1, f1 + i * 5 + 2, none⟩ = some (.int .i64 x.2.2.1) := hc1 2 _ rfl
      have d13 : wr.cell? ⟨b1, f1 + i * 5 + 3, none⟩ = some (.slice u3 x.2.2.2.1.length k3) := hc1 3 _ rfl
      have d14 : wr.cell? ⟨b1, f1 + i * 5 + 4, none⟩ = some (.slice u4 x.2.2.2.2.length k4) := hc1 4 _ rfl
      have d20 : wr.cell? ⟨b2, f2 + i * 5, none⟩ = some (.int .i64 x.1) := hc2 0 _ rfl
      have d21 : wr.cell? ⟨b2, f2 + i * 5 + 1, none⟩ = some (.int .i64 x.2.1) := hc2 1 _ rfl
      have d22 : wr.cell? ⟨b2, f2 + i * 5 + 2, none⟩ = some (.int .i64 x.2.2.1) := hc2 2 _ rfl
      have d23 : wr.cell? ⟨b2, f2 + i * 5 + 3, none⟩ = some (.slice v3 x.2.2.2.1.length m3) := hc2 3 _ rfl
      have d24 : wr.cell? ⟨b2, f2 + i * 5 + 4, none⟩ = some (.slice v4 x.2.2.2.2.length m4) := hc2 4 _ rfl
      have CR := fun (w' : World) (b : Below wr.heap.size wr w') => same_int x.2.2.2.1 w' (p3.keep numM_ok (Keep.below b)) (q3.keep numM_ok (Keep.below b))
      have CS := fun (w' : World) (b : Below wr.heap.size wr w') => same_int x.2.2.2.2 w' (p4.keep numM_ok (Keep.below b)) (q4.keep numM_ok (Keep.below b))
      clear p3 p4 q3 q4 hR1 hR2 hc1 hc2
      generalize x.2.2.2.1.length = l3 at *
      generalize x.2.2.2.2.length = l4 at *
      generalize x.1 = x0 at *
      generalize x.2.1 = x1 at *
      generalize x.2.2.1 = x2 at *
      obtain ⟨B0, P0, L0⟩ := box1 wr #[.int .i64 x0, .int .i64 x1, .int .i64 x2, .slice u3 l3 k3, .slice u4 l4 k4] 68
      obtain ⟨W0, hW0⟩ : ∃ W0, W0 = wr.alloc (.cells #[.int .i64 x0, .int .i64 x1, .int .i64 x2, .slice u3 l3 k3, .slice u4 l4 k4] 68) := ⟨_, rfl⟩
      rw [← hW0] at B0 P0 L0
      obtain ⟨B1, P1, L1⟩ := box1 W0 #[.int .i64 x0, .int .i64 x1, .int .i64 x2, .slice v3 l3 m3, .slice v4 l4 m4] 68
      obtain ⟨W1, hW1⟩ : ∃ W1, W1 = W0.alloc (.cells #[.int .i64 x0, .int .i64 x1, .int .i64 x2, .slice v3 l3 m3, .slice v4 l4 m4] 68) := ⟨_, rfl⟩
      rw [← hW1] at B1 P1 L1
      have q0 : W1.heap[wr.heap.size]? = some (.cells #[.int .i64 x0, .int .i64 x1, .int .i64 x2, .slice u3 l3 k3, .slice u4 l4 k4] 68 (0, 0)) := (B1.block _ (by omega)).trans P0
      rw [L0] at P1
      have bW : Below wr.heap.size wr W1 := below_on B0 B1
      have HB : Hid (Below w.heap.size w W1) := below_on HW.out bW
      have C3 := Lib.hid (CR W1 bW)
      have C4 : Hid (∀ q, Calls Tryz.prog 63 #[.slice u4 l4 k4, .slice v4 l4 m4] (W1.drewN q) fun e w' => e = .returned (.bool true) ∧ ∃ r, w' = (W1.drewN q).drewN r) := fun q => CS _ (d_drews bW q)
      have g20 := vcell (o := f2 + i * 5) B0 hlt2 d20
      have g21 := vcell (o := f2 + i * 5 + 1) B0 hlt2 d21
      have g22 := vcell (o := f2 + i * 5 + 2) B0 hlt2 d22
      have g23 := vcell (o := f2 + i * 5 + 3) B0 hlt2 d23
      have g24 := vcell (o := f2 + i * 5 + 4) B0 hlt2 d24
      obtain ⟨R, hR⟩ : ∃ R, R = wr.heap.size := ⟨_, rfl⟩
      rw [← hR] at q0 P1
      obtain ⟨a0, a1, a2, a3, a4⟩ := five_cells' q0
      obtain ⟨b_0, b_1, b_2, b_3, b_4⟩ := five_cells' P1
      have HW1 : Hid (W1 = W0.alloc (.cells #[.int .i64 x0, .int .i64 x1, .int .i64 x2, .slice v3 l3 m3, .slice v4 l4 m4] 68)) := hW1
      have HW0 : Hid (W0 = wr.alloc (.cells #[.int .i64 x0, .int .i64 x1, .int .i64 x2, .slice u3 l3 k3, .slice u4 l4 k4] 68)) := hW0
      have HR : Hid (wr.heap.size = R) := hR.symm
      have HL0 : Hid (W0.heap.size = R + 1) := by show _ = _; rw [L0, hR]
      have hlt2' : b2 < W0.heap.size := by omega
      have e0 : (x0 != x0) = false := by simp
      have e1 : (x1 != x1) = false := by simp
      have e2 : (x2 != x2) = false := by simp
      clear hR B0 P0 L0 B1 P1 L1 hW0 hW1 q0 CR CS bW
      go_upto_region 7 with fail
      rw [← HW0.out, HR.out]
      go_upto_region 8 with fail
      rw [← HW1.out, HL0.out]
      clear d10 d20 g20 d11 d21 g21 d12 d22 g22 d13 d23 g23 d14 d24 g24
      go_wp2_with fail
      refine C3.out.mono ?_
      rintro e w6 ⟨rfl, r6, rfl⟩
      have h4 : (W1.drewN r6).cell? ⟨R, 4, none⟩ = some _ := a4
      have j4 : (W1.drewN r6).cell? ⟨R + 1, 4, none⟩ = some _ := b_4
      have C5 := Lib.hid (C4.out r6)
      have HB2 : Hid (Below w.heap.size w (W1.drewN r6)) := d_drews HB.out _
      clear C3 C4 a0 b_0 a1 b_1 a2 b_2 a3 b_3 a4 b_4
      generalize W1.drewN r6 = W2 at *
      go_wp2_with fail
      refine C5.out.mono ?_
      rintro e w7 ⟨rfl, r7, rfl⟩
      have HB3 : Hid (Below w.heap.size w (W2.drewN r7)) := d_drews HB2.out _
      generalize W2.drewN r7 = W3 at *
      clear C5
      go_wp2_with fail
      go_roundg (n - (i + 1))
      case measure => omega
      case rel => exact ⟨i + 1, by omega, Nat.le_refl _, by go_num, HB3⟩
    · obtain rfl : i = n := by omega
      have iw : ¬ ((i : Nat) : Int) < ((i : Nat) : Int) := by omega
      go_wp2_with fail
      go_ret
      exact ⟨rfl, HW.out⟩
end Go.Proofs.YtffepndeegbdoaaGreatDoor.Sta
/- State: the plain text's Same of two states that are the same. -/
set_option linter.unusedVariables false
set_option linter.unusedSimpArgs false
set_option maxRecDepth 100000
namespace Go.Proofs.YtffepndeegbdoaaGreatDoor.Sta
open Go.RowKit Go.Lib Go.Proofs.YtffepndeegbdoaaGreatDoor.Bx Go.Proofs.YtffepndeegbdoaaGreatDoor.Frm Go.Proofs.YtffepndeegbdoaaGreatDoor.Wds

set_option maxHeartbeats 16000000 in
theorem same_State {P P' : Nat → Prop} {k1 k2 : List Value} (S : Sta) (w : World) (h1 : staM.R P w k1 S) (h2 : staM.R P' w k2 S) : Calls Tryz.prog 11 #[.agg k1.toArray, .agg k2.toArray] w fun e w' => e = .returned (.bool true) ∧ Below w.heap.size w w' := by
  obtain ⟨u3, c3, u4, c4, u5, c5, u6, c6, u7, c7, rfl, p3, p4, p5, p6, p7⟩ := staM_cells h1
  obtain ⟨v3, d3, v4, d4, v5, d5, v6, d6, v7, d7, rfl, q3, q4, q5, q6, q7⟩ := staM_cells h2
  clear h1 h2
  obtain ⟨x0, x1, x2, L, D, T, E, A⟩ := S
  simp only at p3 p4 p5 p6 p7 q3 q4 q5 q6 q7 ⊢
  have K3 := fun (w' : World) (b : Below w.heap.size w w') => same_Labels L w' (p3.keep labM_ok (Keep.below b)) (q3.keep labM_ok (Keep.below b))
  have K6 := fun (w' : World) (b : Below w.heap.size w w') => same_Seat E w' (p6.keep seaM_ok (Keep.below b)) (q6.keep seaM_ok (Keep.below b))
  have K7 := fun (w' : World) (b : Below w.heap.size w w') => same_Entrys A w' (p7.keep entM_ok (Keep.below b)) (q7.keep entM_ok (Keep.below b))
  have G4 := fun (w' : World) (b : Below w.heap.size w w') => And.intro (p4.keep docM_ok (Keep.below b)) (q4.keep docM_ok (Keep.below b))
  have G5 := fun (w' : World) (b : Below w.heap.size w w') => And.intro (p5.keep stkM_ok (Keep.below b)) (q5.keep stkM_ok (Keep.below b))
  have b4 : D.length ≤ 9223372036854775807 := by have := p4.len; unfold maxLen at this; omega
  have b5 : T.length ≤ 9223372036854775807 := by have := p5.len; unfold maxLen at this; omega
  clear p3 p4 p5 p6 p7 q3 q4 q5 q6 q7
  generalize L.length = n3 at *
  generalize E.length = n6 at *
  generalize A.length = n7 at *
  obtain ⟨n4, h4⟩ : ∃ n, n = D.length := ⟨_, rfl⟩
  obtain ⟨n5, h5⟩ : ∃ n, n = T.length := ⟨_, rfl⟩
  rw [← h4] at G4 b4 ⊢
  rw [← h5] at G5 b5 ⊢
  have HN := Lib.hid (And.intro h4 h5)
  clear h4 h5
  show Calls _ _ #[.agg #[.int .i64 x0, .int .i64 x1, .int .i64 x2, .slice u3 n3 c3, .slice u4 n4 c4, .slice u5 n5 c5, .slice u6 n6 c6, .slice u7 n7 c7], .agg #[.int .i64 x0, .int .i64 x1, .int .i64 x2, .slice v3 n3 d3, .slice v4 n4 d4, .slice v5 n5 d5, .slice v6 n6 d6, .slice v7 n7 d7]] _ _
  obtain ⟨B0, P0, L0⟩ := box1 w #[.int .i64 x0, .int .i64 x1, .int .i64 x2, .slice u3 n3 c3, .slice u4 n4 c4, .slice u5 n5 c5, .slice u6 n6 c6, .slice u7 n7 c7] 34
  obtain ⟨W0, hW0⟩ : ∃ W0, W0 = w.alloc (.cells #[.int .i64 x0, .int .i64 x1, .int .i64 x2, .slice u3 n3 c3, .slice u4 n4 c4, .slice u5 n5 c5, .slice u6 n6 c6, .slice u7 n7 c7] 34) := ⟨_, rfl⟩
  rw [← hW0] at B0 P0 L0
  obtain ⟨B1, P1, L1⟩ := box1 W0 #[.int .i64 x0, .int .i64 x1, .int .i64 x2, .slice v3 n3 d3, .slice v4 n4 d4, .slice v5 n5 d5, .slice v6 n6 d6, .slice v7 n7 d7] 34
  obtain ⟨W1, hW1⟩ : ∃ W1, W1 = W0.alloc (.cells #[.int .i64 x0, .int .i64 x1, .int .i64 x2, .slice v3 n3 d3, .slice v4 n4 d4, .slice v5 n5 d5, .slice v6 n6 d6, .slice v7 n7 d7] 34) := ⟨_, rfl⟩
  rw [← hW1] at B1 P1 L1
  have q0 : W1.heap[w.heap.size]? = some (.cells #[.int .i64 x0, .int .i64 x1, .int .i64 x2, .slice u3 n3 c3, .slice u4 n4 c4, .slice u5 n5 c5, .slice u6 n6 c6, .slice u7 n7 c7] 34 (0, 0)) := (B1.block _ (by omega)).trans P0
  rw [L0] at P1 L1
  have bb : Below w.heap.size w W1 := below_on B0 B1
  obtain ⟨R, hR⟩ : ∃ R, R = w.heap.size := ⟨_, rfl⟩
  rw [← hR] at q0 P1 L1
  have HQ0 := Lib.hid q0
  have HQ1 := Lib.hid P1
  have HL : Hid (W1.heap.size = R + 1 + 1) := L1
  have HB : Hid (Below w.heap.size w W1) := bb
  have HW : Hid (W1 = (w.alloc (.cells #[.int .i64 x0, .int .i64 x1, .int .i64 x2, .slice u3 n3 c3, .slice u4 n4 c4, .slice u5 n5 c5, .slice u6 n6 c6, .slice u7 n7 c7] 34)).alloc (.cells #[.int .i64 x0, .int .i64 x1, .int .i64 x2, .slice v3 n3 d3, .slice v4 n4 d4, .slice v5 n5 d5, .slice v6 n6 d6, .slice v7 n7 d7] 34)) := by show _ = _; rw [hW1, hW0]
  have HR : Hid (w.heap.size = R) := hR.symm
  have C3 := Lib.hid (K3 W1 bb)
  have H4 : Hid (∀ w', Below W1.heap.size W1 w' → _) := fun w' (b : Below W1.heap.size W1 w') => G4 w' (bb.trans (b.mono bb.size))
  have H5 : Hid (∀ w', Below W1.heap.size W1 w' → _) := fun w' (b : Below W1.heap.size W1 w') => G5 w' (bb.trans (b.mono bb.size))
  have H6 : Hid (∀ w', Below W1.heap.size W1 w' → _) := fun w' (b : Below W1.heap.size W1 w') => K6 w' (bb.trans (b.mono bb.size))
  have H7 : Hid (∀ w', Below W1.heap.size W1 w' → _) := fun w' (b : Below W1.heap.size W1 w') => K7 w' (bb.trans (b.mono bb.size))
  obtain ⟨a0, a1, a2, a3, a4, a5, a6, a7⟩ := eight_cells q0
  obtain ⟨e0, e1, e2, e3, e4, e5, e6, e7⟩ := eight_cells P1
  clear hR B0 P0 L0 B1 P1 L1 hW0 hW1 q0 K3 K6 K7 G4 G5 bb
  have z0 : (x0 != x0) = false := by simp
  have z1 : (x1 != x1) = false := by simp
  have z2 : (x2 != x2) = false := by simp
  go_enter Tryz.func11, Tryz.ntmps11
  go_upto_region 1 with fail
  rw [← HW.out, HR.out]
  go_wp2_with fail
  refine C3.out.mono ?_
  rintro e w6 ⟨rfl, b6⟩
  have HB6 := Lib.hid b6
  clear b6 C3 a0 e0 a1 e1 a2 e2 a3 e3 a4 e4 a5 e5 a6 e6 a7 e7
  obtain ⟨_, _, _, _, a4, a5, _, _⟩ := eight_cells ((HB6.out.block R (by have := HL.out; omega)).trans HQ0.out)
  obtain ⟨_, _, _, _, e4, e5, _, _⟩ := eight_cells ((HB6.out.block (R + 1) (by have := HL.out; omega)).trans HQ1.out)
  go_wp2_with fail
  clear a4 a5 e4 e5
  go_loopg [5] n4 (fun g i_ wr => ∃ (i : Nat), i ≤ n4 ∧ n4 - i ≤ g ∧ i_ = .int .i64 (i : Nat) ∧ Hid (Below W1.heap.size W1 wr))
  case atStart => exact ⟨0, by omega, by omega, rfl, HB6⟩
  case round =>
    obtain ⟨i, hi, hg, rfl, HX⟩ := hrel
    obtain ⟨_, _, _, _, a4, a5, _, _⟩ := eight_cells ((HX.out.block R (by have := HL.out; omega)).trans HQ0.out)
    obtain ⟨_, _, _, _, e4, e5, _, _⟩ := eight_cells ((HX.out.block (R + 1) (by have := HL.out; omega)).trans HQ1.out)
    by_cases hin : i < n4
    · have iw : ((i : Nat) : Int) < (n4 : Int) := by omega
      have n0 : (0 : Int) ≤ ((i : Nat) : Int) := by omega
      have hix : i < D.length := by rw [← HN.out.1]; exact hin
      obtain ⟨r1, r2⟩ := H4.out wr HX.out
      obtain ⟨b1, f1, s1, rfl, hlt1, _, hR1, hc1⟩ := r1.get hix
      obtain ⟨b2, f2, s2, rfl, hlt2, _, hR2, hc2⟩ := r2.get hix
      obtain ⟨x, hx⟩ : ∃ x, x = D[i] := ⟨_, rfl⟩
      rw [← hx] at hR1 hR2
      obtain ⟨g1, l1, rfl, t1⟩ := docM_cells hR1
      obtain ⟨g2, l2, rfl, t2⟩ := docM_cells hR2
      have m10 : wr.cell? ⟨b1, f1 + i * 2, none⟩ = some (.bool x.1) := hc1 0 _ rfl
      have m11 : wr.cell? ⟨b1, f1 + i * 2 + 1, none⟩ = some (.slice g1 x.2.length l1) := hc1 1 _ rfl
      have m20 : wr.cell? ⟨b2, f2 + i * 2, none⟩ = some (.bool x.1) := hc2 0 _ rfl
      have m21 : wr.cell? ⟨b2, f2 + i * 2 + 1, none⟩ = some (.slice g2 x.2.length l2) := hc2 1 _ rfl
      have C : Hid (Calls Tryz.prog 33 #[.slice g1 x.2.length l1, .slice g2 x.2.length l2] wr.drew fun e w' => e = .returned (.bool true) ∧ Below wr.drew.heap.size wr.drew w') := same_Segs x.2 wr.drew (t1.keep segM_ok (Keep.below (Below.drew (Below.refl _ _)))) (t2.keep segM_ok (Keep.below (Below.drew (Below.refl _ _))))
      have HWD : Hid (Below W1.heap.size W1 wr.drew) := Below.drew HX.out
      generalize x.2.length = ll at *
      generalize x.1 = xb at *
      have zb : (xb != xb) = false := by simp
      clear r1 r2 hR1 hR2 hc1 hc2 hx hix t1 t2
      go_upto_region 6 with fail
      refine still_tailW 26 (by kernel_rfl) (by kernel_rfl) ?_
      simp only [List.take_succ_cons, List.take_zero, List.drop_succ_cons, List.drop_zero]
      have y1 := drew_cell m10
      have y2 := drew_cell m11
      have y3 := drew_cell m20
      have y4 := drew_cell m21
      have y5 := drew_cell a4
      have y6 := drew_cell e4
      have hlt1' : b1 < wr.drew.heap.size := hlt1
      have hlt2' : b2 < wr.drew.heap.size := hlt2
      generalize wr.drew = wo at *
      repeat still_step
      refine wpStill_nil ?_
      clear y1 y2 y3 y4 y5 y6 m10 m11 m20 m21 a4 a5 e4 e5
      go_wp2_with fail
      refine C.out.mono ?_
      rintro e w5 ⟨rfl, b5⟩
      have HX5 : Hid (Below W1.heap.size W1 w5) := below_on HWD.out b5
      clear b5 C
      go_wp2_with fail
      go_roundg (n4 - (i + 1))
      case measure => omega
      case rel => exact ⟨i + 1, by omega, Nat.le_refl _, by go_num, HX5⟩
    · obtain rfl : i = n4 := by omega
      have iw : ¬ ((i : Nat) : Int) < ((i : Nat) : Int) := by omega
      go_wp2_with fail
      clear a4 a5 e4 e5 hi hg iw H4
      go_loopg [6] n5 (fun g i_ wr => ∃ (i : Nat), i ≤ n5 ∧ n5 - i ≤ g ∧ i_ = .int .i64 (i : Nat) ∧ Hid (Below W1.heap.size W1 wr))
      case atStart => exact ⟨0, by omega, by omega, rfl, HX⟩
      case round =>
        clear HX
        obtain ⟨j, hi, hg, rfl, HX⟩ := hrel
        obtain ⟨_, _, _, _, _, a5, a6, a7⟩ := eight_cells ((HX.out.block R (by have := HL.out; omega)).trans HQ0.out)
        obtain ⟨_, _, _, _, _, e5, e6, e7⟩ := eight_cells ((HX.out.block (R + 1) (by have := HL.out; omega)).trans HQ1.out)
        by_cases hjn : j < n5
        · have iw : ((j : Nat) : Int) < (n5 : Int) := by omega
          have n0 : (0 : Int) ≤ ((j : Nat) : Int) := by omega
          have hix : j < T.length := by rw [← HN.out.2]; exact hjn
          obtain ⟨r1, r2⟩ := H5.out wr HX.out
          obtain ⟨b1, f1, s1, rfl, hlt1, _, hR1, hc1⟩ := r1.get hix
          obtain ⟨b2, f2, s2, rfl, hlt2, _, hR2, hc2⟩ := r2.get hix
          obtain ⟨x, hx⟩ : ∃ x, x = T[j] := ⟨_, rfl⟩
          rw [← hx] at hR1 hR2
          obtain ⟨g1, l1, rfl, t1⟩ := stkM_cells hR1
          obtain ⟨g2, l2, rfl, t2⟩ := stkM_cells hR2
          have m10 : wr.cell? ⟨b1, f1 + j, none⟩ = some (.slice g1 x.length l1) := by have q := hc1 0 _ rfl; rw [show f1 + j * stkM.k + 0 = f1 + j from by show f1 + j * 1 + 0 = _; omega] at q; exact q
          have m20 : wr.cell? ⟨b2, f2 + j, none⟩ = some (.slice g2 x.length l2) := by have q := hc2 0 _ rfl; rw [show f2 + j * stkM.k + 0 = f2 + j from by show f2 + j * 1 + 0 = _; omega] at q; exact q
          have C : Hid (∀ m, Calls Tryz.prog 34 #[.slice g1 x.length l1, .slice g2 x.length l2] (wr.drewN m) fun e w' => e = .returned (.bool true) ∧ ∃ q, w' = (wr.drewN m).drewN q) := fun m => same_Undo x _ (t1.keep thgM_ok (Keep.below (d_drews (Below.refl _ _) m))) (t2.keep thgM_ok (Keep.below (d_drews (Below.refl _ _) m)))
          generalize x.length = ll at *
          clear r1 r2 hR1 hR2 hc1 hc2 hx hix t1 t2
          go_upto_region 11 with fail
          go_quiet ((go_at_call 34; with_reducible exact Calls.quiet_of (C.out _)))
          have HX5 : Hid (Below W1.heap.size W1 (wr.drewN nq)) := d_drews HX.out _
          go_wp2_with fail
          go_roundg (n5 - (j + 1))
          case measure => omega
          case rel => exact ⟨j + 1, by omega, Nat.le_refl _, by go_num, HX5⟩
        · obtain rfl : j = n5 := by omega
          have iw : ¬ ((j : Nat) : Int) < ((j : Nat) : Int) := by omega
          have C6 := Lib.hid (H6.out wr HX.out)
          go_wp2_with fail
          refine C6.out.mono ?_
          rintro e w8 ⟨rfl, b8⟩
          have HX8 : Hid (Below W1.heap.size W1 w8) := below_on HX.out b8
          clear b8 C6 a5 a6 a7 e5 e6 e7
          obtain ⟨_, _, _, _, _, _, _, a7⟩ := eight_cells ((HX8.out.block R (by have := HL.out; omega)).trans HQ0.out)
          obtain ⟨_, _, _, _, _, _, _, e7⟩ := eight_cells ((HX8.out.block (R + 1) (by have := HL.out; omega)).trans HQ1.out)
          have C7 := Lib.hid (H7.out w8 HX8.out)
          go_wp2_with fail
          refine C7.out.mono ?_
          rintro e w9 ⟨rfl, b9⟩
          have HX9 : Hid (Below w.heap.size w w9) := by
            have b := below_on HX8.out b9
            exact HB.out.trans (b.mono HB.out.size)
          clear b9 C7
          go_wp2_with fail
          go_ret
          exact ⟨rfl, HX9.out⟩
end Go.Proofs.YtffepndeegbdoaaGreatDoor.Sta
