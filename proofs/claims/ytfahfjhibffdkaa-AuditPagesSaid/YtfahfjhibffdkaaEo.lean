/- Audit: the program's own; Sees. -/
import Derived.Test.YtfahfjhibffdkaaEs
import Derived.Test.YtfahfjhibffdkaaCi
import Derived.Test.YtfahfjhibffdkaaMay
import Derived.Deep.RegionLaw
set_option linter.unusedVariables false
set_option linter.unusedSimpArgs false
set_option maxRecDepth 100000
namespace Go.Proofs.Ytfahfjhibffdkaa.Aud
open Go.RowKit Go.Lib Go.Proofs.Ytfahfjhibffdkaa.Rig Go.Proofs.Ytfahfjhibffdkaa.Rt Go.Proofs.Ytfahfjhibffdkaa.Bx

theorem ints_own {base : Nat} {w : World} {v : Value} {xs : List Int} (h : OwnI base w v xs) : IntsP (base ≤ ·) w v xs := by
  refine ⟨h.ints, ?_⟩
  obtain ⟨a, c, rfl⟩ := h.is_slice
  rcases h.1.2 with ⟨e, h0⟩ | ⟨g, cap, cur, e, hb, _⟩
  · exact .inl (List.eq_nil_of_length_eq_zero h0)
  · exact .inr ⟨g, 0, _, _, e, hb⟩
def GiveOne (y : En) (w : World) (e : Ending) (w' : World) : Prop := ∃ s l, e = .returned (.agg #[.int .i64 y.u, .int .i64 y.o, .int .i64 y.s, s, l]) ∧ EnP (w.heap.size ≤ ·) w' [.int .i64 y.u, .int .i64 y.o, .int .i64 y.s, s, l] y ∧ Below w.heap.size w w'
def set5 (w : World) (B : Nat) (a0 a1 a2 a3 a4 : Value) : World := ((((w.setCell ⟨B, 0, none⟩ a0).setCell ⟨B, 1, none⟩ a1).setCell ⟨B, 2, none⟩ a2).setCell ⟨B, 3, none⟩ a3).setCell ⟨B, 4, none⟩ a4
theorem set5_block {w : World} {B : Nat} {x0 x1 x2 x3 x4 a0 a1 a2 a3 a4 : Value} {ty : TypeId} (r : w.heap[B]? = some (.cells #[x0, x1, x2, x3, x4] ty (0, 0))) : (set5 w B a0 a1 a2 a3 a4).heap[B]? = some (.cells #[a0, a1, a2, a3, a4] ty (0, 0)) := by
  have h0 := set_block (i := 0) (u := a0) r
  have h1 := set_block (i := 1) (u := a1) h0
  have h2 := set_block (i := 2) (u := a2) h1
  have h3 := set_block (i := 3) (u := a3) h2
  exact set_block (i := 4) (u := a4) h3
theorem set5_below {W w : World} {B C : Nat} {a0 a1 a2 a3 a4 : Value} (h : Below C W w) (hC : C ≤ B) : Below C W (set5 w B a0 a1 a2 a3 a4) := below_put (below_put (below_put (below_put (below_put h hC _) hC _) hC _) hC _) hC _
theorem five_free {w : World} {B : Nat} {cs : Array Value} {ty : TypeId} (z : w.heap[B]? = some (.cells cs ty (0, 0))) : w.frozen? ⟨B, 0, none⟩ = false ∧ w.frozen? ⟨B, 1, none⟩ = false ∧ w.frozen? ⟨B, 2, none⟩ = false ∧ w.frozen? ⟨B, 3, none⟩ = false ∧ w.frozen? ⟨B, 4, none⟩ = false :=
  ⟨free_at z, free_at z, free_at z, free_at z, free_at z⟩
theorem box2 (w : World) (cs zs : Array Value) (ty tz : TypeId) : Below w.heap.size w ((w.alloc (.cells cs ty)).alloc (.cells zs tz)) ∧ ((w.alloc (.cells cs ty)).alloc (.cells zs tz)).heap[w.heap.size]? = some (.cells cs ty (0, 0)) ∧ ((w.alloc (.cells cs ty)).alloc (.cells zs tz)).heap[w.heap.size + 1]? = some (.cells zs tz (0, 0)) ∧ ((w.alloc (.cells cs ty)).alloc (.cells zs tz)).heap.size = w.heap.size + 2 := by
  have hB := heap_alloc_new (w.alloc (.cells cs ty)) (.cells zs tz)
  refine ⟨((Below.refl _ _).alloc (Nat.le_refl _) _).alloc (by simp) _, ?_, by simpa using hB, by simp⟩
  rw [Below.heap_alloc _ _ _ (by simp)]
  exact heap_alloc_new _ _
theorem own_put {base : Nat} {w : World} {v : Value} {xs : List Int} {B j : Nat} {u : Value} (h : OwnI base w v xs) (hB : B < base) : OwnI base (w.setCell ⟨B, j, none⟩ u) v xs := by
  have b0 : Below 0 w (w.setCell ⟨B, j, none⟩ u) := (Below.refl 0 w).setCell (p := ⟨B, j, none⟩) (Nat.zero_le _) u
  refine h.kept (row := some B) ⟨b0.os, b0.tape, b0.output, b0.size, fun k _ hk => Below.heap_setCell _ _ _ _ (fun e => hk (by rw [e]))⟩ ?_
  cases hv : v.ownBlock with
  | none => exact .inl rfl
  | some g => exact .inr fun e => by injection e with e; have := (h.block g hv).1; omega
theorem own_put5 {base : Nat} {w : World} {v : Value} {xs : List Int} {B : Nat} {a0 a1 a2 a3 a4 : Value} (h : OwnI base w v xs) (hB : B < base) : OwnI base (set5 w B a0 a1 a2 a3 a4) v xs := own_put (own_put (own_put (own_put (own_put h hB) hB) hB) hB) hB
theorem have_it (T : Prop) {r : Prop} (h : T) (k : T → r) : r := k h
/-- The end of own: the box has its new lists, the result's block is filled. -/
theorem own_end {w W0 w5 : World} {y : En} {s l s' l' : Value} {B C : Nat} {z0 z1 z2 z3 z4 : Value} {ty : TypeId} (hB : w.heap.size = B) (hC : C = B + 1) (bw : Below w.heap.size w W0) (b5 : Below W0.heap.size W0 w5) (hC0 : W0.heap[C]? = some (.cells #[z0, z1, z2, z3, z4] ty (0, 0))) (hs : W0.heap.size = B + 2)
    (hi : i64 y.u ∧ i64 y.o ∧ i64 y.s) (h1 : OwnI W0.heap.size w5 s' y.S) (h2 : OwnI W0.heap.size w5 l' y.L) :
    let w7 := set5 ((w5.setCell ⟨B, 3, none⟩ s').setCell ⟨B, 4, none⟩ l') C (.int .i64 y.u) (.int .i64 y.o) (.int .i64 y.s) s' l'
    EnP (w.heap.size ≤ ·) w7 [.int .i64 y.u, .int .i64 y.o, .int .i64 y.s, s', l'] y ∧ Below w.heap.size w w7 ∧ w7.heap[C]? = some (.cells #[.int .i64 y.u, .int .i64 y.o, .int .i64 y.s, s', l'] ty (0, 0)) := by
  intro w7
  have k5 : w5.heap[C]? = some (.cells #[z0, z1, z2, z3, z4] ty (0, 0)) := (b5.block _ (by omega)).trans hC0
  have k7 : ((w5.setCell ⟨B, 3, none⟩ s').setCell ⟨B, 4, none⟩ l').heap[C]? = some (.cells #[z0, z1, z2, z3, z4] ty (0, 0)) := by
    rw [Below.heap_setCell _ _ _ _ (by show C ≠ B; omega), Below.heap_setCell _ _ _ _ (by show C ≠ B; omega)]
    exact k5
  have bk : Below w.heap.size w ((w5.setCell ⟨B, 3, none⟩ s').setCell ⟨B, 4, none⟩ l') := below_put (below_put (below_more bw b5) (by omega) _) (by omega) _
  have g1 : ∀ v xs, OwnI W0.heap.size w5 v xs → OwnI W0.heap.size w7 v xs := fun v xs h => own_put5 (own_put (own_put h (by omega)) (by omega)) (by omega)
  refine ⟨⟨s', l', rfl, hi, ?_, ?_⟩, set5_below bk (by omega), set5_block k7⟩
  · exact (ints_own (g1 _ _ h1)).mono fun b _ h => by show _ ≤ _; have : W0.heap.size ≤ b := h; omega
  · exact (ints_own (g1 _ _ h2)).mono fun b _ h => by show _ ≤ _; have : W0.heap.size ≤ b := h; omega
set_option maxHeartbeats 8000000 in
theorem own_any {y : En} {sv lv : Value} {P : Nat → Prop} (w : World) (hy : EnP P w [.int .i64 y.u, .int .i64 y.o, .int .i64 y.s, sv, lv] y) (n1 : y.S.length ≤ 1000) (n2 : y.L.length ≤ 1000) :
    Calls Try.prog 19 #[.agg #[.int .i64 y.u, .int .i64 y.o, .int .i64 y.s, sv, lv]] w (GiveOne y w) := by
  obtain ⟨sv', lv', e, hi, hS, hL⟩ := hy
  obtain ⟨rfl, rfl⟩ : sv = sv' ∧ lv = lv' := by simpa using e
  have C1 : Hid (∀ w', Below w.heap.size w w' → Calls Try.prog 22 #[sv] w' (NewI w' y.S)) := fun w' hb => cints_any w' (hS.1.below hb (Nat.le_refl _)) n1
  have C2 : Hid (∀ w', Below w.heap.size w w' → Calls Try.prog 22 #[lv] w' (NewI w' y.L)) := fun w' hb => cints_any w' (hL.1.below hb (Nat.le_refl _)) n2
  obtain ⟨sa, sc, rfl⟩ := hS.1.is_slice
  obtain ⟨la, lc, rfl⟩ := hL.1.is_slice
  obtain ⟨yu, yo, ys, S, L⟩ := y
  simp only at hi C1 C2 n1 n2 ⊢
  obtain ⟨sn, hsn⟩ : ∃ sn, sn = S.length := ⟨_, rfl⟩
  obtain ⟨ln, hln⟩ : ∃ ln, ln = L.length := ⟨_, rfl⟩
  rw [← hsn] at C1 ⊢
  rw [← hln] at C2 ⊢
  obtain ⟨B0, R0, Z0, L0⟩ := box2 w #[.int .i64 yu, .int .i64 yo, .int .i64 ys, .slice sa sn sc, .slice la ln lc] #[.int .i64 0, .int .i64 0, .int .i64 0, .slice none 0 0, .slice none 0 0] 25 25
  obtain ⟨W0, hW0⟩ : ∃ W0, W0 = (w.alloc (.cells #[.int .i64 yu, .int .i64 yo, .int .i64 ys, .slice sa sn sc, .slice la ln lc] 25)).alloc (.cells #[.int .i64 0, .int .i64 0, .int .i64 0, .slice none 0 0, .slice none 0 0] 25) := ⟨_, rfl⟩
  rw [← hW0] at B0 R0 Z0 L0
  have HB0 := Lib.hid B0
  have HW0 := Lib.hid hW0
  have KZ : Hid (Below W0.heap.size W0 W0) := Below.refl _ _
  obtain ⟨b, hb⟩ : ∃ b, b = w.heap.size := ⟨_, rfl⟩
  have HBN := Lib.hid hb.symm
  rw [← hb] at R0 Z0 L0
  have HI := Lib.hid hi
  have HLT : Hid (b < W0.heap.size ∧ b + 1 < W0.heap.size) := by show _ ∧ _; omega
  have BX : Hid (∀ w', Below W0.heap.size W0 w' → (w'.cell? ⟨b, 0, none⟩ = some (.int .i64 yu) ∧ w'.cell? ⟨b, 1, none⟩ = some (.int .i64 yo) ∧ w'.cell? ⟨b, 2, none⟩ = some (.int .i64 ys) ∧ w'.cell? ⟨b, 3, none⟩ = some (.slice sa sn sc) ∧ w'.cell? ⟨b, 4, none⟩ = some (.slice la ln lc)) ∧ (w'.frozen? ⟨b, 0, none⟩ = false ∧ w'.frozen? ⟨b, 1, none⟩ = false ∧ w'.frozen? ⟨b, 2, none⟩ = false ∧ w'.frozen? ⟨b, 3, none⟩ = false ∧ w'.frozen? ⟨b, 4, none⟩ = false)) := fun w' hk =>
    have r := (hk.block _ HLT.out.1).trans R0
    ⟨five_cells r, five_free r⟩
  have BZ : Hid (∀ w', Below W0.heap.size W0 w' → w'.heap[b + 1]? = some (.cells #[.int .i64 0, .int .i64 0, .int .i64 0, .slice none 0 0, .slice none 0 0] 25 (0, 0))) := fun w' hk => (hk.block _ HLT.out.2).trans Z0
  have FIN : Hid (∀ w5 s' l', Below W0.heap.size W0 w5 → OwnI W0.heap.size w5 s' S → OwnI W0.heap.size w5 l' L → let w7 := set5 ((w5.setCell ⟨b, 3, none⟩ s').setCell ⟨b, 4, none⟩ l') (b + 1) (.int .i64 yu) (.int .i64 yo) (.int .i64 ys) s' l'
      EnP (w.heap.size ≤ ·) w7 [.int .i64 yu, .int .i64 yo, .int .i64 ys, s', l'] ⟨yu, yo, ys, S, L⟩ ∧ Below w.heap.size w w7 ∧ w7.heap[b + 1]? = some (.cells #[.int .i64 yu, .int .i64 yo, .int .i64 ys, s', l'] 25 (0, 0))) := fun w5 s' l' h5 o1 o2 =>
    own_end (y := ⟨yu, yo, ys, S, L⟩) (s := s') (l := l') (ty := 25) HBN.out rfl HB0.out h5 Z0 L0 HI.out o1 o2
  clear e hi hS hL n1 n2 hW0 B0 R0 Z0 L0 hsn hln
  go_enter Try.func19, Try.ntmps19
  go_upto_region 1 with fail
  rw [← hb, ← HW0.out]
  clear hb
  obtain ⟨⟨z0, z1, z2, z3, z4⟩, f0, f1, f2, f3, f4⟩ := BX.out W0 KZ.out
  go_region_with (first
    | (go_at_call 22; (with_reducible refine (C1.out _ (below_more HB0.out ?_)).mono ?_); (focus ((repeat first | with_reducible assumption | with_reducible exact KZ.out | with_reducible apply Below.drew | with_reducible apply below_drews); done)); rintro e w4 ⟨v4, rfl, o4, b4⟩; obtain ⟨a4, c4, rfl⟩ := o4.is_slice; have k4 := fun h => below_more (B := W0.heap.size) (w := W0) h b4; replace k4 := k4 (by (repeat first | with_reducible assumption | with_reducible exact KZ.out | with_reducible apply Below.drew | with_reducible apply below_drews)); obtain ⟨⟨z0, z1, z2, z3, z4⟩, f0, f1, f2, f3, f4⟩ := BX.out w4 k4; obtain ⟨y0, y1, y2, y3, y4⟩ := five_cells (BZ.out w4 k4); obtain ⟨g0, g1, g2, g3, g4⟩ := five_free (BZ.out w4 k4))
    | (go_at_call 22; (with_reducible refine (C2.out _ (below_more HB0.out ?_)).mono ?_); (focus ((repeat first | with_reducible assumption | with_reducible exact KZ.out | with_reducible apply Below.drew | with_reducible apply below_drews); done)); rintro e w5 ⟨v5, rfl, o5, b5⟩; obtain ⟨a5, c5, rfl⟩ := o5.is_slice; have k5 := fun h => below_more (B := W0.heap.size) (w := W0) h b5; replace k5 := k5 (by (repeat first | with_reducible assumption | with_reducible exact KZ.out | with_reducible apply Below.drew | with_reducible apply below_drews)); obtain ⟨⟨z0, z1, z2, z3, z4⟩, f0, f1, f2, f3, f4⟩ := BX.out w5 k5; obtain ⟨y0, y1, y2, y3, y4⟩ := five_cells (BZ.out w5 k5); obtain ⟨g0, g1, g2, g3, g4⟩ := five_free (BZ.out w5 k5)))
  all_goals go_wp2_with fail
  all_goals (first
    | (refine have_it (OwnI W0.heap.size w5 (.slice a4 S.length c4) S) ?_ ?_; (focus (first | exact (o4.mono (Nat.le_refl _)).below b5 | exact (o4.mono (Nat.le_refl _)).below (below_more (Below.drew (Below.refl _ _)) b5) | exact o4.mono (Nat.le_refl _) | exact o4.mono k4.size | exact o4.mono k5.size)); intro oS; refine have_it (OwnI W0.heap.size w5 (.slice a5 L.length c5) L) ?_ ?_; (focus (first | exact (o5.mono (Nat.le_refl _)).below b5 | exact (o5.mono (Nat.le_refl _)).below (below_more (Below.drew (Below.refl _ _)) b5) | exact o5.mono (Nat.le_refl _) | exact o5.mono k4.size | exact o5.mono k5.size)); intro oL; obtain ⟨E7, B7, R7⟩ := FIN.out w5 _ _ k5 oS oL; obtain ⟨u0, u1, u2, u3, u4⟩ := five_cells R7; simp only [set5] at u0 u1 u2 u3 u4; refine bodyPost_ret (v := .agg #[.int .i64 yu, .int .i64 yo, .int .i64 ys, .slice a4 S.length c4, .slice a5 L.length c5]) ?_ rfl ⟨_, _, rfl, E7, B7⟩; (focus (simp [results, Try.results19, go_sem, u0, u1, u2, u3, u4]; done)))
    | (refine have_it (OwnI W0.heap.size w4 (.slice a4 S.length c4) S) ?_ ?_; (focus (first | exact (o4.mono (Nat.le_refl _)).below b4 | exact (o4.mono (Nat.le_refl _)).below (below_more (Below.drew (Below.refl _ _)) b4) | exact o4.mono (Nat.le_refl _) | exact o4.mono k4.size | exact o4.mono k5.size)); intro oS; refine have_it (OwnI W0.heap.size w4 (.slice a5 L.length c5) L) ?_ ?_; (focus (first | exact (o5.mono (Nat.le_refl _)).below b4 | exact (o5.mono (Nat.le_refl _)).below (below_more (Below.drew (Below.refl _ _)) b4) | exact o5.mono (Nat.le_refl _) | exact o5.mono k4.size | exact o5.mono k5.size)); intro oL; obtain ⟨E7, B7, R7⟩ := FIN.out w4 _ _ k4 oS oL; obtain ⟨u0, u1, u2, u3, u4⟩ := five_cells R7; simp only [set5] at u0 u1 u2 u3 u4; refine bodyPost_ret (v := .agg #[.int .i64 yu, .int .i64 yo, .int .i64 ys, .slice a4 S.length c4, .slice a5 L.length c5]) ?_ rfl ⟨_, _, rfl, E7, B7⟩; (focus (simp [results, Try.results19, go_sem, u0, u1, u2, u3, u4]; done))))
end Go.Proofs.Ytfahfjhibffdkaa.Aud
