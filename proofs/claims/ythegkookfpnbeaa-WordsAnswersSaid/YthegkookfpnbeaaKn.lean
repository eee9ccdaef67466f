/- Words: Small of the law; the plain text's Answer. -/
import Derived.Test.YthegkookfpnbeaaNe
import Derived.Test.YthegkookfpnbeaaGv
import Derived.Test.YthegkookfpnbeaaGl
import Derived.Deep.RegionHeld3
set_option linter.unusedVariables false
set_option linter.unusedSimpArgs false
set_option maxRecDepth 100000
namespace Go.Proofs.Ythegkookfpnbeaa.Wds
open Go.RowKit Go.Lib Go.Proofs.Ythegkookfpnbeaa.Bx Go.Proofs.Ythegkookfpnbeaa.Frm

def AnyB (e : Ending) : Prop := ∃ b, e = .returned (.bool b)
set_option maxHeartbeats 8000000 in
theorem small_any {v : Value} {a : An} (w : World) (h : AnV w v a) : Calls Try.prog 18 #[v] w fun e w' => AnyB e ∧ Below w.heap.size w w' := by
  obtain ⟨rv, ev, rfl, hr, he⟩ := h
  obtain ⟨ra, rc, rfl, hrl, hrc, hro⟩ := hr.open_
  obtain ⟨ea, ec, rfl, hel, hec⟩ := he.is_slice
  unfold maxLen at hrc hec
  obtain ⟨nr, hnr⟩ : ∃ nr, nr = a.R.length := ⟨_, rfl⟩
  obtain ⟨ne, hne⟩ : ∃ ne, ne = a.E.length := ⟨_, rfl⟩
  rw [← hnr] at hrl ⊢
  rw [← hne] at hel he ⊢
  obtain ⟨B0, P0, L0⟩ := box1 w #[.int .i64 a.st, .string (mkB a.tok), .int .i64 a.num, .int .i64 a.at', .slice ra nr rc, .slice ea ne ec] 46
  obtain ⟨W0, hW0⟩ : ∃ W0, W0 = w.alloc (.cells #[.int .i64 a.st, .string (mkB a.tok), .int .i64 a.num, .int .i64 a.at', .slice ra nr rc, .slice ea ne ec] 46) := ⟨_, rfl⟩
  rw [← hW0] at B0 P0 L0
  have HC : Hid (∀ w', Below W0.heap.size W0 w' → w'.heap[w.heap.size]? = some (.cells #[.int .i64 a.st, .string (mkB a.tok), .int .i64 a.num, .int .i64 a.at', .slice ra nr rc, .slice ea ne ec] 46 (0, 0))) := fun w' hb => (hb.block _ (by omega)).trans P0
  have HRO : Hid (∀ w', Below W0.heap.size W0 w' → ∀ j (hj : j < a.R.length), ∃ b off, ra = some ⟨b, off, none⟩ ∧ w'.cell? ⟨b, off + j * 4, none⟩ = some (.int .i64 a.R[j].i) ∧ w'.cell? ⟨b, off + j * 4 + 1, none⟩ = some (.int .i64 a.R[j].l) ∧ w'.cell? ⟨b, off + j * 4 + 2, none⟩ = some (.bool a.R[j].o) ∧ w'.cell? ⟨b, off + j * 4 + 3, none⟩ = some (.string (mkB a.R[j].t))) := fun w' hb j hj => by
    obtain ⟨b, off, e, hlt, c0, c1, c2, c3⟩ := hro j hj
    have k := below_on B0 hb
    exact ⟨b, off, e, vcell k hlt c0, vcell k hlt c1, vcell k hlt c2, vcell k hlt c3⟩
  have HEO : Hid (∀ w', Below W0.heap.size W0 w' → Aud.EnsP (fun _ => True) w' (.slice ea ne ec) a.E) := fun w' hb => he.below (below_on B0 hb)
  have HN := Lib.hid (And.intro hnr hne)
  have HB0 := Lib.hid B0
  have HW0 := Lib.hid hW0
  obtain ⟨c0, c1, c2, c3, c4, c5⟩ := six_cells P0
  clear hr he hro B0 P0 L0 hnr hne hW0
  go_enter Try.func18, Try.ntmps18
  go_upto_region 1 with fail
  rw [← HW0.out]
  go_wp2_with fail
  go_loopg [3, 14] nr (fun g n_ i_ wr => ∃ (i : Nat) (z : Int), i ≤ nr ∧ nr - i ≤ g ∧ i_ = .int .i64 (i : Nat) ∧ n_ = .int .i64 z ∧ Hid (Below W0.heap.size W0 wr))
  case atStart => exact ⟨0, _, by omega, by omega, rfl, rfl, Below.refl _ _⟩
  case round =>
    clear c0 c1 c2 c3 c4 c5
    obtain ⟨i, z, hi, hg, rfl, rfl, HB⟩ := hrel
    by_cases hin : i < nr
    · have iw : ((i : Nat) : Int) < (nr : Int) := by omega
      have n0 : (0 : Int) ≤ ((i : Nat) : Int) := by omega
      obtain ⟨b, off, rfl, x0, x1, x2, x3⟩ := HRO.out wr HB.out i (by rw [← HN.out.1]; exact hin)
      generalize a.R[i]'(by rw [← HN.out.1]; exact hin) = x at *
      obtain ⟨xi, xl, xo, xt⟩ := x
      simp only at x0 x1 x2 x3
      generalize mkB xt = y at *
      have z3 := cell_of_row _ wr.heap.size 3 _ _ _ (box1 wr #[.int .i64 xi, .int .i64 xl, .bool xo, .string y] 114).2.1
      have z3' : (wr.alloc (.cells #[.int .i64 xi, .int .i64 xl, .bool xo, .string y] 114)).cell? ⟨wr.heap.size, 3, none⟩ = some (.string y) := z3
      have HBn : Hid (∀ o, Below W0.heap.size W0 (wr.alloc o)) := fun o => HB.out.alloc HB.out.size o
      clear HB z3
      go_wp2_with fail
      go_roundg (nr - (i + 1))
      case measure => omega
      case rel => exact ⟨i + 1, _, by omega, Nat.le_refl _, by go_num, rfl, HBn.out _⟩
    · obtain rfl : nr = i := by omega
      have iw : ¬ ((nr : Nat) : Int) < ((nr : Nat) : Int) := by omega
      obtain ⟨w1, hw1⟩ : ∃ w1 : World, w1 = wr := ⟨_, rfl⟩
      subst hw1
      obtain ⟨c0, c1, c2, c3, c4, c5⟩ := six_cells (HC.out w1 HB.out)
      clear hg hi hin
      go_wp2_with fail
      go_loopg [3, 27] ne (fun g n_ i_ wr => ∃ (i : Nat) (z : Int), i ≤ ne ∧ ne - i ≤ g ∧ i_ = .int .i64 (i : Nat) ∧ n_ = .int .i64 z ∧ Hid (Below W0.heap.size W0 wr))
      case atStart => exact ⟨0, _, by omega, by omega, rfl, rfl, HB⟩
      case round =>
        clear c0 c1 c2 c3 c4 c5 HB z
        obtain ⟨i, z, hi, hg, rfl, rfl, HB⟩ := hrel
        by_cases hin : i < ne
        · have iw : ((i : Nat) : Int) < (ne : Int) := by omega
          have n0 : (0 : Int) ≤ ((i : Nat) : Int) := by omega
          obtain ⟨b, off, sa, sn, sc, la, ln, lc, rfl, hlt, hE, x0, x1, x2, x3, x4, hs1, hs2⟩ := (HEO.out wr HB.out).get (show i < a.E.length by rw [← HN.out.2]; exact hin)
          generalize a.E[i]'(by rw [← HN.out.2]; exact hin) = x at *
          obtain ⟨xu, xo, xs, xS, xL⟩ := x
          simp only at x0 x1 x2 x3 x4
          obtain ⟨zz0, zz1, zz2, zz3, zz4⟩ := five_cells (box1 wr #[.int .i64 xu, .int .i64 xo, .int .i64 xs, .slice sa sn sc, .slice la ln lc] 119).2.1
          have HBn : Hid (∀ o, Below W0.heap.size W0 (wr.alloc o)) := fun o => HB.out.alloc HB.out.size o
          clear HB hE hs1 hs2
          go_wp2_with fail
          go_roundg (ne - (i + 1))
          case measure => omega
          case rel => exact ⟨i + 1, _, by omega, Nat.le_refl _, by go_num, rfl, HBn.out _⟩
        · obtain rfl : ne = i := by omega
          have iw2 : ¬ ((ne : Nat) : Int) < ((ne : Nat) : Int) := by omega
          obtain ⟨c0, c1, c2, c3, c4, c5⟩ := six_cells (HC.out wr HB.out)
          have BF : Hid (Below w.heap.size w wr) := below_on HB0.out HB.out
          by_cases k1 : nr ≤ 300
          · have g1 : ((nr : Nat) : Int) ≤ 300 := by omega
            have d1 : decide (((nr : Nat) : Int) ≤ 300) = true := decide_eq_true g1
            by_cases k2 : ne ≤ 300
            · have g2 : ((ne : Nat) : Int) ≤ 300 := by omega
              have d2 : decide (((ne : Nat) : Int) ≤ 300) = true := decide_eq_true g2
              by_cases k3 : z ≤ 70000
              · have d3 : decide (z ≤ 70000) = true := decide_eq_true k3
                go_wp2_with fail
                go_ret
                exact ⟨⟨_, rfl⟩, BF.out⟩
              · have d3 : decide (z ≤ 70000) = false := decide_eq_false k3
                go_wp2_with fail
                go_ret
                exact ⟨⟨_, rfl⟩, BF.out⟩
            · have g2 : ¬ ((ne : Nat) : Int) ≤ 300 := by omega
              have d2 : decide (((ne : Nat) : Int) ≤ 300) = false := decide_eq_false g2
              go_wp2_with fail
              go_ret
              exact ⟨⟨_, rfl⟩, BF.out⟩
          · have g1 : ¬ ((nr : Nat) : Int) ≤ 300 := by omega
            have d1 : decide (((nr : Nat) : Int) ≤ 300) = false := decide_eq_false g1
            go_wp2_with fail
            go_ret
            exact ⟨⟨_, rfl⟩, BF.out⟩
set_option maxHeartbeats 40000000 in
theorem rans_head (k nr : Nat) : True := trivial
end Go.Proofs.Ythegkookfpnbeaa.Wds
