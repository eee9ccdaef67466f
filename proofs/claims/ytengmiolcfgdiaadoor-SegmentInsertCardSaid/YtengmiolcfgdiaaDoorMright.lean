/- Contract: Right of marks, of the plain text. -/
import Derived.Test.YtengmiolcfgdiaaDoorMk
import Derived.Deep.LoopGhost
import Derived.Deep.QuietTactic
import Derived.BigQuiet
import Derived.WalkSmall
import Derived.IntWalk
set_option linter.unusedVariables false
namespace Go.Proofs.YtengmiolcfgdiaaDoor.Rig
open Go.RowKit Go.Lib Go.Proofs.YtengmiolcfgdiaaDoor.Rt

theorem bcell {W w1 : World} (hb : Below W.heap.size W w1) : (∀ b o, b < W.heap.size → w1.cell? ⟨b, o, none⟩ = W.cell? ⟨b, o, none⟩) ∧ (∀ b o, b < W.heap.size → w1.frozen? ⟨b, o, none⟩ = W.frozen? ⟨b, o, none⟩) :=
  ⟨fun b o h => hb.cell (p := ⟨b, o, none⟩) h, fun b o h => hb.frozen (p := ⟨b, o, none⟩) h⟩

set_option maxRecDepth 100000 in
set_option maxHeartbeats 4000000 in
theorem rmright_any {sv tv : Value} {S : List Sp} {T : List St} (n : Int) (w : World) (hS : Spans w sv S) (hT : Sites w tv T) (hn : i64 n) :
    Calls Tryd.prog 37 #[.agg #[sv, tv], .int .i64 n] w fun e w' => e = .returned (.bool (mrightB S T n)) ∧ Below w.heap.size w w' := by
  obtain ⟨sa, sc, rfl, hls, hcs, hS1⟩ := hS.open_
  obtain ⟨ta, tc, rfl, hlt, hct, hT1⟩ := hT.open_
  have HS := Lib.hid hS1
  have HT := Lib.hid hT1
  obtain ⟨ns, hns⟩ : ∃ ns, ns = S.length := ⟨_, rfl⟩
  obtain ⟨nt, hnt⟩ : ∃ nt, nt = T.length := ⟨_, rfl⟩
  rw [← hns] at hls ⊢
  rw [← hnt] at hlt ⊢
  replace hns := Lib.hid hns
  replace hnt := Lib.hid hnt
  obtain ⟨n1, n2⟩ := hn
  obtain ⟨W0, hW0⟩ : ∃ W0, W0 = w.alloc (.cells #[.slice sa ns sc, .slice ta nt tc] 69) := ⟨_, rfl⟩
  have b0 : Below w.heap.size w W0 := by rw [hW0]; exact (Below.refl _ _).alloc (Nat.le_refl _) _
  have h0 : W0.heap[w.heap.size]? = some (.cells #[.slice sa ns sc, .slice ta nt tc] 69 (0, 0)) := by rw [hW0]; exact heap_alloc_new _ _
  have l0 : w.heap.size < W0.heap.size := by rw [hW0]; simp
  have BX : Hid (∀ w', Below W0.heap.size W0 w' → w'.cell? ⟨w.heap.size, 0, none⟩ = some (.slice sa ns sc) ∧ w'.cell? ⟨w.heap.size, 1, none⟩ = some (.slice ta nt tc)) := fun w' hb => by
    refine ⟨below_cell hb l0 ?_, below_cell hb l0 ?_⟩ <;> (rw [cell_of_row _ _ _ _ _ _ h0]; rfl)
  have HW0 := Lib.hid hW0
  have B0 := Lib.hid b0
  clear hS1 hT1 hS hT h0 hW0 b0
  go_enter Tryd.func37, Tryd.ntmps37
  go_wp2_with fail
  rw [← HW0.out]
  go_loopw [5] (fun i wr => ∃ k : Nat, k ≤ ns ∧ i = .int .i64 k ∧ Hid (∀ j, j < k → spOk S n j) ∧ Below W0.heap.size W0 wr) (fun i _ => ns - (RowKit.intOf i).toNat)
  case atStart => exact ⟨0, Nat.zero_le _, rfl, fun j hj => absurd hj (by omega), Below.refl _ _⟩
  case round =>
    obtain ⟨k, hk, rfl, OK, hbel⟩ := hrel
    obtain ⟨x0, x1⟩ := BX.out _ hbel
    by_cases hltk : k < ns
    · have hkl : k < S.length := by rw [← hns.out]; exact hltk
      obtain ⟨b, off, rfl, hb, ⟨⟨m1, m2⟩, ⟨f1, f2⟩, ⟨t1, t2⟩⟩, c0, c1, c2⟩ := HS.out k hkl
      have NO : ¬ spOk S n k → Hid (mrightB S T n = false) := fun hno => mright_sp hkl hno
      have YES : spOk S n k → Hid (∀ j, j < k + 1 → spOk S n j) := fun hy j hj => by
        by_cases e : j = k
        · subst e; exact hy
        · exact OK.out j (by omega)
      unfold spOk at NO YES
      have hbw : b < W0.heap.size := by omega
      have hbel2 := below_more B0.out hbel
      have PV : Hid (0 < k → ∃ y, y = sp S (k - 1) ∧ Sp.good y ∧ wr.cell? ⟨b, off + (k - 1) * 3, none⟩ = some (.int .i64 y.m) ∧ wr.cell? ⟨b, off + (k - 1) * 3 + 1, none⟩ = some (.int .i64 y.f) ∧ wr.cell? ⟨b, off + (k - 1) * 3 + 2, none⟩ = some (.int .i64 y.t)) := fun hk0 => by
        obtain ⟨b', off', e', hb', g', q0, q1, q2⟩ := HS.out (k - 1) (by omega)
        injection e' with e'
        injection e' with e1 e2
        subst e1 e2
        exact ⟨_, rfl, g', below_cell hbel2 hb' q0, below_cell hbel2 hb' q1, below_cell hbel2 hb' q2⟩
      generalize sp S k = s at *
      obtain ⟨m, f, t⟩ := s
      simp only at m1 m2 f1 f2 t1 t2 c0 c1 c2 NO YES
      replace c0 := below_cell hbel2 hb c0
      replace c1 := below_cell hbel2 hb c1
      replace c2 := below_cell hbel2 hb c2
      have N := Lib.hid NO
      have Y := Lib.hid YES
      have HB := Lib.hid hbel2
      have KA : Hid (∀ o, Below wr.heap.size wr (wr.alloc o)) := fun o => (Below.refl _ _).alloc (Nat.le_refl _) _
      have lb0 := Nat.lt_of_lt_of_le l0 hbel.size
      have lbb := Nat.lt_of_lt_of_le hb hbel2.size
      have HE := Lib.hid hbel
      clear NO YES hbel hbel2 OK HS HT
      by_cases q1 : m ≤ 0
      · have R := N.out (by omega)
        go_wp2_with fail
        go_ret
        exact ⟨ret_bool R.out.symm, below_more HB.out (KA.out _)⟩
      by_cases q2 : f < 0
      · have R := N.out (by omega)
        go_wp2_with fail
        go_ret
        exact ⟨ret_bool R.out.symm, below_more HB.out (KA.out _)⟩
      by_cases q3 : t ≤ f
      · have R := N.out (by omega)
        go_wp2_with fail
        go_ret
        exact ⟨ret_bool R.out.symm, below_more HB.out (KA.out _)⟩
      by_cases q4 : n < t
      · have R := N.out (by omega)
        go_wp2_with fail
        go_ret
        exact ⟨ret_bool R.out.symm, below_more HB.out (KA.out _)⟩
      obtain ⟨W1, hW1⟩ : ∃ W1, W1 = wr.alloc (.cells #[.int .i64 m, .int .i64 f, .int .i64 t] 104) := ⟨_, rfl⟩
      have b1 : Below wr.heap.size wr W1 := by rw [hW1]; exact KA.out _
      have h1 : W1.heap[wr.heap.size]? = some (.cells #[.int .i64 m, .int .i64 f, .int .i64 t] 104 (0, 0)) := by rw [hW1]; exact heap_alloc_new _ _
      have y0 : W1.cell? ⟨wr.heap.size, 0, none⟩ = some (.int .i64 m) := by rw [cell_of_row _ _ _ _ _ _ h1]; rfl
      have y1 : W1.cell? ⟨wr.heap.size, 1, none⟩ = some (.int .i64 f) := by rw [cell_of_row _ _ _ _ _ _ h1]; rfl
      have y2 : W1.cell? ⟨wr.heap.size, 2, none⟩ = some (.int .i64 t) := by rw [cell_of_row _ _ _ _ _ _ h1]; rfl
      have x0' := below_cell b1 lb0 x0
      have HW1 := Lib.hid hW1
      have B1 := Lib.hid (below_more HB.out b1)
      have BR := Lib.hid (below_more HE.out b1)
      have z2 : (0 : Int) ≤ (k : Int) := by omega
      by_cases hk0 : k = 0
      · have R := Y.out ⟨by omega, by omega, by omega, by omega, fun h => by omega⟩
        have d0 : decide ((0 : Int) < (k : Int)) = false := by simp; omega
        have d1 : decide (0 < k) = false := by simp; omega
        clear hk0 b1 h1 hW1 N Y PV
        go_wp2_with fail
        rw [← HW1.out]
        go_quiet (fail)
        go_wp2
        go_roundw
        case rel => exact ⟨k + 1, by omega, by go_num, R, below_drews BR.out _⟩
        case measure => simp [RowKit.intOf]; omega
      · obtain ⟨y, hy, ⟨⟨g1, g2⟩, ⟨g3, g4⟩, ⟨g5, g6⟩⟩, e0, e1, e2⟩ := PV.out (by omega)
        rw [← hy] at N Y
        obtain ⟨pm, pf, pt⟩ := y
        simp only at g1 g2 g3 g4 g5 g6 e0 e1 e2 N Y
        replace e0 := below_cell b1 lbb e0
        replace e2 := below_cell b1 lbb e2
        have d0 : decide ((0 : Int) < (k : Int)) = true := by simp; omega
        have d1 : decide (0 < k) = true := by simp; omega
        have z1 : IntKind.i64.wrap ((k : Int) - 1) = (k : Int) - 1 := IntWalk.i64_in _ (by omega)
        have z6 : (1 : Int) ≤ (k : Int) := by omega
        have z3 : (0 : Int) ≤ (k : Int) - 1 := by omega
        have z5 : (k : Int) - 1 < (ns : Int) := by omega
        have z4 : ((k : Int) - 1).toNat = k - 1 := by omega
        by_cases r1 : f < pt
        · have R := N.out (by omega)
          have d2 : decide (f < pt) = true := by simpa using r1
          clear hk0 b1 h1 hW1 N Y PV hy
          go_wp2_with fail
          rw [← HW1.out]
          go_quiet (fail)
          clear z1 z3 z4 z5
          go_wp2
          go_ret
          exact ⟨ret_bool R.out.symm, below_drews B1.out _⟩
        · have d2 : decide (f < pt) = false := by simpa using r1
          by_cases r2 : f = pt
          · have d3 : (f == pt) = true := by simpa using r2
            by_cases r3 : m = pm
            · have R := N.out (by omega)
              have d4 : (m == pm) = true := by simpa using r3
              clear hk0 b1 h1 hW1 N Y PV hy r2 r3
              go_wp2_with fail
              rw [← HW1.out]
              go_quiet (fail)
              clear z1 z3 z4 z5
              go_wp2
              go_ret
              exact ⟨ret_bool R.out.symm, below_drews B1.out _⟩
            · have R := Y.out ⟨by omega, by omega, by omega, by omega, fun _ => ⟨by omega, fun _ => r3⟩⟩
              have d4 : (m == pm) = false := by simpa using r3
              clear hk0 b1 h1 hW1 N Y PV hy r2 r3
              go_wp2_with fail
              rw [← HW1.out]
              go_quiet (fail)
              clear z1 z3 z4 z5
              go_wp2
              go_roundw
              case rel => exact ⟨k + 1, by omega, by go_num, R, below_drews BR.out _⟩
              case measure => simp [RowKit.intOf]; omega
          · have d3 : (f == pt) = false := by simpa using r2
            have R := Y.out ⟨by omega, by omega, by omega, by omega, fun _ => ⟨by omega, fun h => absurd h r2⟩⟩
            clear hk0 b1 h1 hW1 N Y PV hy r2
            go_wp2_with fail
            rw [← HW1.out]
            go_quiet (fail)
            clear z1 z3 z4 z5
            go_wp2
            go_roundw
            case rel => exact ⟨k + 1, by omega, by go_num, R, below_drews BR.out _⟩
            case measure => simp [RowKit.intOf]; omega
    · obtain rfl : k = ns := by omega
      have OKS := OK
      have HB0 := Lib.hid hbel
      clear HS OK hbel
      go_wp2_with fail
      go_loopw [7] (fun i wr => ∃ k : Nat, k ≤ nt ∧ i = .int .i64 k ∧ Hid (∀ j, j < k → stOk T n j) ∧ Below W0.heap.size W0 wr) (fun i _ => nt - (RowKit.intOf i).toNat)
      case atStart => exact ⟨0, Nat.zero_le _, rfl, fun j hj => absurd hj (by omega), HB0.out⟩
      case round =>
        obtain ⟨k, hk, rfl, OK, hbel⟩ := hrel
        clear x0 x1 hltk HB0
        obtain ⟨x0, x1⟩ := BX.out _ hbel
        by_cases hltk : k < nt
        · have hkl : k < T.length := by rw [← hnt.out]; exact hltk
          obtain ⟨b, off, rfl, hb, ⟨⟨m1, m2⟩, ⟨f1, f2⟩⟩, c0, c1⟩ := HT.out k hkl
          have NO : ¬ stOk T n k → Hid (mrightB S T n = false) := fun hno => mright_st hkl hno
          have YES : stOk T n k → Hid (∀ j, j < k + 1 → stOk T n j) := fun hy j hj => by
            by_cases e : j = k
            · subst e; exact hy
            · exact OK.out j (by omega)
          unfold stOk at NO YES
          have hbel2 := below_more B0.out hbel
          have PV : Hid (0 < k → ∃ y, y = st T (k - 1) ∧ St.good y ∧ wr.cell? ⟨b, off + (k - 1) * 2, none⟩ = some (.int .i64 y.m) ∧ wr.cell? ⟨b, off + (k - 1) * 2 + 1, none⟩ = some (.int .i64 y.a)) := fun hk0 => by
            obtain ⟨b', off', e', hb', g', q0, q1⟩ := HT.out (k - 1) (by omega)
            injection e' with e'
            injection e' with e1 e2
            subst e1 e2
            exact ⟨_, rfl, g', below_cell hbel2 hb' q0, below_cell hbel2 hb' q1⟩
          generalize st T k = s at *
          obtain ⟨m, f⟩ := s
          simp only at m1 m2 f1 f2 c0 c1 NO YES
          replace c0 := below_cell hbel2 hb c0
          replace c1 := below_cell hbel2 hb c1
          have N := Lib.hid NO
          have Y := Lib.hid YES
          have HB := Lib.hid hbel2
          have KA : Hid (∀ o, Below wr.heap.size wr (wr.alloc o)) := fun o => (Below.refl _ _).alloc (Nat.le_refl _) _
          have lb0 := Nat.lt_of_lt_of_le l0 hbel.size
          have lbb := Nat.lt_of_lt_of_le hb hbel2.size
          have HE := Lib.hid hbel
          clear NO YES hbel hbel2 OK HT
          by_cases q1 : m ≤ 0
          · have R := N.out (by omega)
            go_wp2_with fail
            go_ret
            exact ⟨ret_bool R.out.symm, below_more HB.out (KA.out _)⟩
          by_cases q2 : f < 0
          · have R := N.out (by omega)
            go_wp2_with fail
            go_ret
            exact ⟨ret_bool R.out.symm, below_more HB.out (KA.out _)⟩
          by_cases q4 : n < f
          · have R := N.out (by omega)
            go_wp2_with fail
            go_ret
            exact ⟨ret_bool R.out.symm, below_more HB.out (KA.out _)⟩
          obtain ⟨W1, hW1⟩ : ∃ W1, W1 = wr.alloc (.cells #[.int .i64 m, .int .i64 f] 120) := ⟨_, rfl⟩
          have b1 : Below wr.heap.size wr W1 := by rw [hW1]; exact KA.out _
          have h1 : W1.heap[wr.heap.size]? = some (.cells #[.int .i64 m, .int .i64 f] 120 (0, 0)) := by rw [hW1]; exact heap_alloc_new _ _
          have y0 : W1.cell? ⟨wr.heap.size, 0, none⟩ = some (.int .i64 m) := by rw [cell_of_row _ _ _ _ _ _ h1]; rfl
          have y1 : W1.cell? ⟨wr.heap.size, 1, none⟩ = some (.int .i64 f) := by rw [cell_of_row _ _ _ _ _ _ h1]; rfl
          have x1' := below_cell b1 lb0 x1
          have HW1 := Lib.hid hW1
          have B1 := Lib.hid (below_more HB.out b1)
          have BR := Lib.hid (below_more HE.out b1)
          have z2 : (0 : Int) ≤ (k : Int) := by omega
          by_cases hk0 : k = 0
          · have R := Y.out ⟨by omega, by omega, by omega, fun h => by omega⟩
            have d0 : decide ((0 : Int) < (k : Int)) = false := by simp; omega
            have d1 : decide (0 < k) = false := by simp; omega
            clear hk0 b1 h1 hW1 N Y PV
            go_wp2_with fail
            rw [← HW1.out]
            go_quiet (fail)
            go_wp2
            go_roundw
            case rel => exact ⟨k + 1, by omega, by go_num, R, below_drews BR.out _⟩
            case measure => simp [RowKit.intOf]; omega
          · obtain ⟨y, hy, ⟨⟨g1, g2⟩, ⟨g3, g4⟩⟩, e0, e1⟩ := PV.out (by omega)
            rw [← hy] at N Y
            obtain ⟨pm, pf⟩ := y
            simp only at g1 g2 g3 g4 e0 e1 N Y
            replace e0 := below_cell b1 lbb e0
            replace e1 := below_cell b1 lbb e1
            have d0 : decide ((0 : Int) < (k : Int)) = true := by simp; omega
            have d1 : decide (0 < k) = true := by simp; omega
            have z1 : IntKind.i64.wrap ((k : Int) - 1) = (k : Int) - 1 := IntWalk.i64_in _ (by omega)
            have z6 : (1 : Int) ≤ (k : Int) := by omega
            have z3 : (0 : Int) ≤ (k : Int) - 1 := by omega
            have z5 : (k : Int) - 1 < (nt : Int) := by omega
            have z4 : ((k : Int) - 1).toNat = k - 1 := by omega
            by_cases r1 : f < pf
            · have R := N.out (by omega)
              have d2 : decide (f < pf) = true := by simpa using r1
              clear hk0 b1 h1 hW1 N Y PV hy
              go_wp2_with fail
              rw [← HW1.out]
              go_quiet (fail)
              clear z1 z3 z4 z5
              go_wp2
              go_ret
              exact ⟨ret_bool R.out.symm, below_drews B1.out _⟩
            · have d2 : decide (f < pf) = false := by simpa using r1
              by_cases r2 : f = pf
              · have d3 : (f == pf) = true := by simpa using r2
                by_cases r3 : m ≤ pm
                · have R := N.out (by omega)
                  have d4 : decide (m ≤ pm) = true := by simpa using r3
                  clear hk0 b1 h1 hW1 N Y PV hy r2 r3
                  go_wp2_with fail
                  rw [← HW1.out]
                  go_quiet (fail)
                  clear z1 z3 z4 z5
                  go_wp2
                  go_ret
                  exact ⟨ret_bool R.out.symm, below_drews B1.out _⟩
                · have R := Y.out ⟨by omega, by omega, by omega, fun _ => ⟨by omega, fun _ => by omega⟩⟩
                  have d4 : decide (m ≤ pm) = false := by simpa using r3
                  clear hk0 b1 h1 hW1 N Y PV hy r2 r3
                  go_wp2_with fail
                  rw [← HW1.out]
                  go_quiet (fail)
                  clear z1 z3 z4 z5
                  go_wp2
                  go_roundw
                  case rel => exact ⟨k + 1, by omega, by go_num, R, below_drews BR.out _⟩
                  case measure => simp [RowKit.intOf]; omega
              · have d3 : (f == pf) = false := by simpa using r2
                have R := Y.out ⟨by omega, by omega, by omega, fun _ => ⟨by omega, fun h => absurd h r2⟩⟩
                clear hk0 b1 h1 hW1 N Y PV hy r2
                go_wp2_with fail
                rw [← HW1.out]
                go_quiet (fail)
                clear z1 z3 z4 z5
                go_wp2
                go_roundw
                case rel => exact ⟨k + 1, by omega, by go_num, R, below_drews BR.out _⟩
                case measure => simp [RowKit.intOf]; omega
        · have R : Hid (mrightB S T n = true) := decide_eq_true ⟨fun j hj => OKS.out j (by rw [← hns.out] at hj; exact hj), fun j hj => OK.out j (by rw [← hnt.out] at hj; omega)⟩
          have HE := Lib.hid hbel
          clear OK OKS HT hbel
          go_wp2_with fail
          go_ret
          exact ⟨ret_bool R.out.symm, below_more B0.out HE.out⟩
end Go.Proofs.YtengmiolcfgdiaaDoor.Rig
