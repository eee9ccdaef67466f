/- Contract: Same, of the same spans and sites. -/
import Derived.Test.YtengmiolcfgdiaaDoorMspans
import Derived.Laws.StructEq
set_option linter.unusedVariables false
namespace Go.Proofs.YtengmiolcfgdiaaDoor.Rig
open Go.RowKit Go.Lib Go.Proofs.YtengmiolcfgdiaaDoor.Rt

theorem hS_span : Tryd.prog.underlying 104 = some (.struct (Tryd.prog.fieldsOf 104)) := by kernel_rfl
theorem hS_site : Tryd.prog.underlying 120 = some (.struct (Tryd.prog.fieldsOf 120)) := by kernel_rfl
theorem guard_span (op : BinOp) (x y : Operand) (xs ys : Array Value) (w : World) : (eqGuard op 104 x y (.agg xs) (.agg ys)).run Tryd.prog w = .ok () w := run_eqGuard_agg w op _ x y xs ys (by kernel_rfl)
theorem guard_site (op : BinOp) (x y : Operand) (xs ys : Array Value) (w : World) : (eqGuard op 120 x y (.agg xs) (.agg ys)).run Tryd.prog w = .ok () w := run_eqGuard_agg w op _ x y xs ys (by kernel_rfl)
theorem eql_site (a b c d : Int) (w : World) : (binOp .eql 120 (.agg #[.int .i64 a, .int .i64 b]) (.agg #[.int .i64 c, .int .i64 d])).run Tryd.prog w = .ok (.bool (a == c && b == d)) w := by
  have u3 := Tryd.underlying3
  have a3 := Tryd.isAgg3
  have z3 := Tryd.sizeOf3
  have hp : Tryd.prog.stoodInHeld 120 = false := by kernel_rfl
  rw [run_eql_struct, show (10000 : Nat) = 9999 + 1 from rfl, run_equalIn_agg w 9999 120 _ _ hS_site hp]
  simp only [Program.fieldsOf, Tryd.underlying120]
  go_simp
  by_cases h1 : a = c <;> by_cases h2 : b = d <;> simp [h1, h2]
theorem neq_site (a b c d : Int) (w : World) : (binOp .neq 120 (.agg #[.int .i64 a, .int .i64 b]) (.agg #[.int .i64 c, .int .i64 d])).run Tryd.prog w = .ok (.bool (!(a == c && b == d))) w := by
  have u3 := Tryd.underlying3
  have a3 := Tryd.isAgg3
  have z3 := Tryd.sizeOf3
  have hp : Tryd.prog.stoodInHeld 120 = false := by kernel_rfl
  rw [run_neq_struct, show (10000 : Nat) = 9999 + 1 from rfl, run_equalIn_agg w 9999 120 _ _ hS_site hp]
  simp only [Program.fieldsOf, Tryd.underlying120]
  go_simp
  by_cases h1 : a = c <;> by_cases h2 : b = d <;> simp [h1, h2]
theorem neq_span (a b c a' b' c' : Int) (w : World) : (binOp .neq 104 (.agg #[.int .i64 a, .int .i64 b, .int .i64 c]) (.agg #[.int .i64 a', .int .i64 b', .int .i64 c'])).run Tryd.prog w = .ok (.bool (!(a == a' && (b == b' && c == c')))) w := by
  have u3 := Tryd.underlying3
  have a3 := Tryd.isAgg3
  have z3 := Tryd.sizeOf3
  have hp : Tryd.prog.stoodInHeld 104 = false := by kernel_rfl
  rw [run_neq_struct, show (10000 : Nat) = 9999 + 1 from rfl, run_equalIn_agg w 9999 104 _ _ hS_span hp]
  simp only [Program.fieldsOf, Tryd.underlying104]
  go_simp
  by_cases h1 : a = a' <;> by_cases h2 : b = b' <;> by_cases h3 : c = c' <;> simp [h1, h2, h3]

set_option maxRecDepth 100000 in
set_option maxHeartbeats 2000000 in
theorem msame_any {s1 s2 t1 t2 : Value} {S : List Sp} {T : List St} (w : World) (h1 : Spans w s1 S) (h2 : Spans w s2 S) (h3 : Sites w t1 T) (h4 : Sites w t2 T) :
    Calls Tryd.prog 63 #[s1, s2, t1, t2] w fun e w' => e = .returned (.bool true) ∧ Below w.heap.size w w' := by
  obtain ⟨a1, c1, rfl, hl1, hm1, q1⟩ := h1.open_
  obtain ⟨a2, c2, rfl, hl2, hm2, q2⟩ := h2.open_
  obtain ⟨a3, c3, rfl, hl3, hm3, q3⟩ := h3.open_
  obtain ⟨a4, c4, rfl, hl4, hm4, q4⟩ := h4.open_
  have H1 := Lib.hid q1
  have H2 := Lib.hid q2
  have H3 := Lib.hid q3
  have H4 := Lib.hid q4
  obtain ⟨ns, hns⟩ : ∃ n, n = S.length := ⟨_, rfl⟩
  obtain ⟨nt, hnt⟩ : ∃ n, n = T.length := ⟨_, rfl⟩
  rw [← hns] at hl1 hl2 ⊢
  rw [← hnt] at hl3 hl4 ⊢
  replace hns := Lib.hid hns
  replace hnt := Lib.hid hnt
  have GS := guard_span
  have GT := guard_site
  clear q1 q2 q3 q4 h1 h2 h3 h4
  go_enter Tryd.func63, Tryd.ntmps63
  go_wp2_with fail
  go_loopw [9] (fun i wr => ∃ k : Nat, k ≤ ns ∧ i = .int .i64 k ∧ Below w.heap.size w wr) (fun i _ => ns - (RowKit.intOf i).toNat)
  case atStart => exact ⟨0, Nat.zero_le _, rfl, Below.refl _ _⟩
  case round =>
    obtain ⟨k, hk, rfl, hbel⟩ := hrel
    by_cases hlt : k < ns
    · have hkl : k < S.length := by rw [← hns.out]; exact hlt
      obtain ⟨b1, f1, rfl, hb1, ⟨⟨m1, m2⟩, ⟨g1, g2⟩, ⟨g3, g4⟩⟩, x0, x1, x2⟩ := H1.out k hkl
      obtain ⟨b2, f2, rfl, hb2, _, y0, y1, y2⟩ := H2.out k hkl
      generalize sp S k = s at *
      obtain ⟨m, f, t⟩ := s
      simp only at m1 m2 g1 g2 g3 g4 x0 x1 x2 y0 y1 y2
      replace x0 := below_cell hbel hb1 x0
      replace x1 := below_cell hbel hb1 x1
      replace x2 := below_cell hbel hb1 x2
      replace y0 := below_cell hbel hb2 y0
      replace y1 := below_cell hbel hb2 y1
      replace y2 := below_cell hbel hb2 y2
      have NE : ∀ w, (binOp .neq 104 (.agg #[.int .i64 m, .int .i64 f, .int .i64 t]) (.agg #[.int .i64 m, .int .i64 f, .int .i64 t])).run Tryd.prog w = .ok (.bool false) w := fun w => by rw [neq_span]; simp
      have i0 : (0 : Int) ≤ (k : Int) := by omega
      have i1 : (k : Int) < (ns : Int) := by omega
      have HB := Lib.hid hbel
      clear H1 H2 H3 H4 hbel
      go_wp2_with fail
      go_quiet (fail)
      go_wp2
      go_roundw
      case rel => exact ⟨k + 1, by omega, by go_num, below_drews HB.out _⟩
      case measure => simp [RowKit.intOf]; omega
    · obtain rfl : k = ns := by omega
      have HB0 := Lib.hid hbel
      clear H1 H2 hbel
      go_wp2_with fail
      go_loopw [10] (fun i wr => ∃ k : Nat, k ≤ nt ∧ i = .int .i64 k ∧ Below w.heap.size w wr) (fun i _ => nt - (RowKit.intOf i).toNat)
      case atStart => exact ⟨0, Nat.zero_le _, rfl, HB0.out⟩
      case round =>
        obtain ⟨k, hk, rfl, hbel⟩ := hrel
        by_cases hlt : k < nt
        · have hkl : k < T.length := by rw [← hnt.out]; exact hlt
          obtain ⟨b1, f1, rfl, hb1, ⟨⟨m1, m2⟩, ⟨g1, g2⟩⟩, x0, x1⟩ := H3.out k hkl
          obtain ⟨b2, f2, rfl, hb2, _, y0, y1⟩ := H4.out k hkl
          generalize st T k = s at *
          obtain ⟨m, f⟩ := s
          simp only at m1 m2 g1 g2 x0 x1 y0 y1
          replace x0 := below_cell hbel hb1 x0
          replace x1 := below_cell hbel hb1 x1
          replace y0 := below_cell hbel hb2 y0
          replace y1 := below_cell hbel hb2 y1
          have NE : ∀ w, (binOp .neq 120 (.agg #[.int .i64 m, .int .i64 f]) (.agg #[.int .i64 m, .int .i64 f])).run Tryd.prog w = .ok (.bool false) w := fun w => by rw [neq_site]; simp
          have i0 : (0 : Int) ≤ (k : Int) := by omega
          have i1 : (k : Int) < (nt : Int) := by omega
          have HB := Lib.hid hbel
          clear H3 H4 hbel HB0
          go_wp2_with fail
          go_quiet (fail)
          go_wp2
          go_roundw
          case rel => exact ⟨k + 1, by omega, by go_num, below_drews HB.out _⟩
          case measure => simp [RowKit.intOf]; omega
        · have HB := Lib.hid hbel
          clear H3 H4 hbel HB0
          go_wp2_with fail
          go_ret
          exact ⟨rfl, HB.out⟩
end Go.Proofs.YtengmiolcfgdiaaDoor.Rig
