/- Audit: Add of the plain text; the law's some. -/
import Derived.Test.YtfahfjhibffdkaaEs
import Derived.Deep.RegionLaw
set_option linter.unusedVariables false
set_option linter.unusedSimpArgs false
set_option maxRecDepth 100000
namespace Go.Proofs.Ytfahfjhibffdkaa.Aud
open Go.RowKit Go.Lib Go.Proofs.Ytfahfjhibffdkaa.Rig Go.Proofs.Ytfahfjhibffdkaa.Rt Go.Proofs.Ytfahfjhibffdkaa.Bx

def addE (A : List En) (y : En) (most : Int) : List En := if (A.length : Int) < most then A ++ [y] else A
theorem own_empty {e : TypeId} {k base nb : Nat} {w : World} (hb : base ≤ nb) (h : w.heap[nb]? = some (.cells #[] e (0, 0))) : Rk.OwnK e k base w (.slice (some ⟨nb, 0, none⟩) 0 0) [] :=
  ⟨fun _ h => by simp at h, by simp, .inr ⟨nb, 0, #[], rfl, hb, h, Nat.le_refl _, by unfold maxLen; omega, by simp, by simp⟩⟩
def GiveAdd (P : Nat → Prop) (A : List En) (y : En) (most : Int) (w : World) (e : Ending) (w' : World) : Prop := ∃ s, e = .returned (.tuple #[s, .bool (decide ((A.length : Int) < most))]) ∧ EnsP P w' s (addE A y most) ∧ Below w.heap.size w w'
theorem al_old (w : World) (o o' : Obj) : ((w.alloc o).alloc o').heap[w.heap.size]? = some o := by
  rw [Below.heap_alloc _ _ _ (by simp)]
  exact heap_alloc_new _ _
theorem al_next (w : World) (o o' : Obj) : ((w.alloc o).alloc o').heap[w.heap.size + 1]? = some o' := by
  have := heap_alloc_new (w.alloc o) o'
  simpa using this
theorem have_of (T : Prop) {r : Prop} (h : T) (k : T → r) : r := k h
theorem carry {w w' : World} {nb q : Nat} {e : TypeId} {x0 x1 x2 x3 x4 : Value} (hE : w.heap[nb]? = some (.cells #[] e (0, 0))) (hq : w.heap[q]? = some (.cells #[x0, x1, x2, x3, x4] e (0, 0))) (g : w.grownBy w' (some nb)) : w'.heap[q]? = some (.cells #[x0, x1, x2, x3, x4] e (0, 0)) := by
  rw [g.block q (Array.getElem?_eq_some_iff.1 hq).1 (fun e1 => by
    injection e1 with e1
    subst e1
    rw [hE] at hq
    simp at hq)]
  exact hq
set_option maxHeartbeats 8000000 in
theorem radd_any {sv : Value} {A : List En} {y : En} {s l : Value} {P : Nat → Prop} (most : Int) (w : World) (hA : EnsP P w sv A) (hy : EnP P w [.int .i64 y.u, .int .i64 y.o, .int .i64 y.s, s, l] y) (hP : ∀ b, P b → b < w.heap.size) (hn : A.length ≤ 10000) (r1 : i64 most) :
    Calls Try.prog 9 #[sv, .agg #[.int .i64 y.u, .int .i64 y.o, .int .i64 y.s, s, l], .int .i64 most] w (GiveAdd P A y most w) := by
  have hy0 := hy
  obtain ⟨s', l', e, ⟨j1, j2, j3⟩, hS, hL⟩ := hy
  obtain ⟨rfl, rfl⟩ : s = s' ∧ l = l' := by simpa using e
  obtain ⟨sa, sc, rfl⟩ := hS.1.is_slice
  obtain ⟨ia, ic, rfl⟩ := hL.1.is_slice
  obtain ⟨yu, yo, ys, S, L⟩ := y
  simp only at hy0 ⊢
  obtain ⟨sn, hsn⟩ : ∃ sn, sn = S.length := ⟨_, rfl⟩
  obtain ⟨ln, hln⟩ : ∃ ln, ln = L.length := ⟨_, rfl⟩
  rw [← hsn, ← hln] at hy0 ⊢
  obtain ⟨a, cap, rfl, hl, hm⟩ := hA.is_slice
  obtain ⟨n, hnA⟩ : ∃ n, n = A.length := ⟨_, rfl⟩
  obtain ⟨B0, R0, L0⟩ := box1 w #[.int .i64 yu, .int .i64 yo, .int .i64 ys, .slice sa sn sc, .slice ia ln ic] 25
  obtain ⟨W0, hW0⟩ : ∃ W0, W0 = w.alloc (.cells #[.int .i64 yu, .int .i64 yo, .int .i64 ys, .slice sa sn sc, .slice ia ln ic] 25) := ⟨_, rfl⟩
  rw [← hW0] at B0 R0 L0
  have HB0 := Lib.hid B0
  have HW0 := Lib.hid hW0
  obtain ⟨b4, hb4⟩ : ∃ b4, b4 = w.heap.size := ⟨_, rfl⟩
  rw [← hb4] at R0 L0
  have HL4 : Hid (b4 < W0.heap.size) := by show _ < _; omega
  have BX : Hid (∀ w', Below W0.heap.size W0 w' → w'.cell? ⟨b4, 0, none⟩ = some (.int .i64 yu) ∧ w'.cell? ⟨b4, 1, none⟩ = some (.int .i64 yo) ∧ w'.cell? ⟨b4, 2, none⟩ = some (.int .i64 ys) ∧ w'.cell? ⟨b4, 3, none⟩ = some (.slice sa sn sc) ∧ w'.cell? ⟨b4, 4, none⟩ = some (.slice ia ln ic)) := fun w' hb =>
    five_cells ((hb.block _ HL4.out).trans R0)
  obtain ⟨p, hp1, hp2, hp3⟩ := hA
  have HR : Hid (∀ w', Below W0.heap.size W0 w' → Rk.RowK 5 w' (.slice a n cap) (p.map Prod.fst)) := fun w' hb => by rw [hnA]; exact hp2.below (below_more B0 hb) (Nat.le_refl _)
  have hpl : p.length = n := by rw [hnA, ← hp1, List.length_map]
  have HPL : Hid ((p.map Prod.fst).length = n) := by show _ = _; rw [List.length_map, hpl]
  have hn' : n ≤ 10000 := by rw [hnA]; exact hn
  have HLN : Hid (([] : List (List Value)).length + (p.map Prod.fst).length ≤ 100000) := by show _ ≤ _; rw [HPL.out, List.length_nil]; omega
  have H1 : Hid (∀ z ∈ p.map Prod.fst, ∀ q ∈ z, q.oneCell' = true) := fun z hz => by
    obtain ⟨x, hx, rfl⟩ := List.mem_map.1 hz
    exact (hp3 x hx).one
  have HY1 : Hid (∀ z ∈ [[Value.int .i64 yu, .int .i64 yo, .int .i64 ys, .slice sa sn sc, .slice ia ln ic]], ∀ q ∈ z, q.oneCell' = true) := fun z hz => by
    simp only [List.mem_singleton] at hz
    subst hz
    exact hy0.one
  have HA0 : Hid (EnsP P W0 (.slice a n cap) A) := EnsP.below (by rw [hnA]; exact ⟨p, hp1, hp2, hp3⟩) B0
  have KZ : Hid (Below W0.heap.size W0 W0) := Below.refl _ _
  have HPw : Hid (∀ b, P b → b < W0.heap.size) := fun b hb => by have := hP b hb; have := B0.size; omega
  /- behind the first append: the elder entries, a row of the call's own -/
  have HA1 : Hid (∀ (W : World) (v6 : Value) (w6 : World) (nb : Nat), Below W0.heap.size W0 W → W0.heap.size ≤ nb → Rk.OwnK 25 5 W0.heap.size w6 v6 ([] ++ p.map Prod.fst) → W.grownBy w6 (some nb) → (v6.ownBlock = some nb ∨ v6.ownBlock = some W.heap.size) → (∃ a l c, v6 = .slice a l c) ∧ Hid (OEn P W0.heap.size w6 v6 A) ∧ Hid (Below W0.heap.size W0 w6)) := fun W v6 w6 nb hW hnb h6 g6 k6 => by
    obtain ⟨a6, c6, e6⟩ := h6.is_slice
    refine ⟨⟨a6, _, c6, e6⟩, ⟨p, hp1, h6, fun x hx => ?_⟩, hW.grown g6 hW.size (fun q e => by injection e with e; omega)⟩
    refine ((hp3 x hx).below (below_more B0 hW)).kept g6 (fun b hb e => ?_) fun b hb hPb => ⟨hPb, fun e => ?_⟩
    · injection e with e
      have := hP b hb
      have := B0.size
      omega
    · have h1 := hP b hPb
      have h2 := B0.size
      have h3 := hW.size
      rcases k6 with k6 | k6 <;> (rw [k6] at e; injection e with e; omega)
  /- behind the second one -/
  have HA2 : Hid (∀ (w6 : World) (v6 : Value), OEn P W0.heap.size w6 v6 A → Below W0.heap.size W0 w6 → ∃ xs : List (List Value), Hid (xs.length + 1 ≤ 100000) ∧ Hid (∀ W, Below w6.heap.size w6 W → Rk.OwnK 25 5 W0.heap.size W v6 xs ∧ ∀ v7 w7, Rk.OwnK 25 5 W0.heap.size w7 v7 (xs ++ [[Value.int .i64 yu, .int .i64 yo, .int .i64 ys, .slice sa sn sc, .slice ia ln ic]]) → W.grownBy w7 v6.ownBlock → (A.length : Int) < most → GiveAdd P A ⟨yu, yo, ys, S, L⟩ most w (.returned (.tuple #[v7, .bool true])) w7)) := fun w6 v6 h6 hb6 => by
    obtain ⟨p', q1, q2, q3⟩ := h6
    have hl' : p'.length = n := by rw [hnA, ← q1, List.length_map]
    refine ⟨p'.map Prod.fst, by show _ ≤ _; rw [List.length_map, hl']; omega, fun W hW => ⟨q2.below hW, fun v7 w7 h7 g7 hlt => ⟨v7, by rw [decide_eq_true hlt], ?_, ?_⟩⟩⟩
    · have e1 : addE A ⟨yu, yo, ys, S, L⟩ most = A ++ [⟨yu, yo, ys, S, L⟩] := by unfold addE; rw [if_pos hlt]
      rw [e1]
      refine ⟨p' ++ [([Value.int .i64 yu, .int .i64 yo, .int .i64 ys, .slice sa sn sc, .slice ia ln ic], ⟨yu, yo, ys, S, L⟩)], by rw [List.map_append, q1]; rfl, by rw [List.map_append]; exact h7.row, fun x hx => ?_⟩
      rcases List.mem_append.1 hx with hx | hx
      · exact ((q3 x hx).below hW).kept g7 (fun b hb => hb.2) (fun b _ h => h.1)
      · simp only [List.mem_singleton] at hx
        subst hx
        refine (hy0.below (below_more (below_more B0 hb6) hW)).kept g7 (fun b hb e => ?_) (fun b _ h => h)
        have h1 := (q2.block b e.symm).1
        have h2 := hP b hb
        have h3 := B0.size
        omega
    · exact (q2.below hW).belowOf (below_more (below_more B0 hb6) hW) B0.size (Nat.le_trans hb6.size hW.size) g7
  rw [← hnA] at hl hn ⊢
  unfold maxLen at hm
  have HNA := Lib.hid hnA
  clear e hS hL hy0 hsn hln hW0 B0 R0 L0 hp2 hp3 hpl hP hnA
  go_enter Try.func9, Try.ntmps9
  go_upto_region 1 with fail
  rw [← hb4, ← HW0.out]
  clear hb4
  by_cases hlt : (n : Int) < most
  · have i1 : decide (most ≤ (n : Int)) = false := decide_eq_false (by omega)
    have i2 : ¬ (most ≤ (n : Int)) := by omega
    obtain ⟨z0, z1, z2, z3, z4⟩ := BX.out W0 KZ.out
    obtain ⟨x0, x1, x2, x3, x4⟩ := BX.out (W0.alloc (.cells #[] 25)) (below_al KZ.out _)
    go_upto_region 3 with fail
    have HLT : Hid ((A.length : Int) < most) := by show _ < _; rw [← HNA.out]; exact hlt
    go_region_law (first
      | (refine step_append_rowk rfl _ _ 22 25 5 72 _ Try.underlying22 infoEn rfl (by decide) (by decide) rfl W0.heap.size _ _ [] (p.map Prod.fst) rfl rfl (own_empty ?_ ?_) ?_ H1.out HLN.out ?_ ?_; (focus (first | exact Nat.le_refl _ | (simp; done))); (focus (first | exact heap_alloc_new _ _ | exact al_old W0 _ _ | exact al_next W0 _ _ | (simp; done))); (focus (refine HR.out _ ?_; (repeat first | with_reducible assumption | with_reducible exact KZ.out | with_reducible apply Below.drew | with_reducible apply below_drews | with_reducible apply below_al); done)); (focus (refine Below.size (B := W0.heap.size) (w := W0) ?_; (repeat first | with_reducible assumption | with_reducible exact KZ.out | with_reducible apply Below.drew | with_reducible apply below_drews | with_reducible apply below_al); done)); intro v6 w6 h6 g6 k6; have hq := fun h1 h2 k7 => HA1.out _ v6 w6 _ h1 h2 h6 g6 k7; replace hq := hq (by (repeat first | with_reducible assumption | with_reducible exact KZ.out | with_reducible apply Below.drew | with_reducible apply below_drews | with_reducible apply below_al)) (by first | exact Nat.le_refl _ | (simp; done)) (by first | exact k6 | simpa using k6); obtain ⟨⟨a6, l6, c6, rfl⟩, O6, B6⟩ := hq; obtain ⟨u0, u1, u2, u3, u4⟩ := BX.out w6 B6.out; obtain ⟨xs, hxl, HX⟩ := HA2.out w6 _ O6.out B6.out; have KZ6 := Lib.hid (Below.refl w6.heap.size w6); (first | (refine have_of (w6.heap[W0.heap.size + 1]? = some (.cells #[Value.int .i64 yu, .int .i64 yo, .int .i64 ys, .slice sa sn sc, .slice ia ln ic] 25 (0, 0))) ?_ ?_; (focus (refine carry (nb := W0.heap.size) ?_ ?_ g6; (focus (exact al_old W0 _ _)); (focus (exact al_next W0 _ _)))); intro y6) | (refine have_of (w6.heap[W0.heap.size]? = some (.cells #[Value.int .i64 yu, .int .i64 yo, .int .i64 ys, .slice sa sn sc, .slice ia ln ic] 25 (0, 0))) ?_ ?_; (focus (refine carry (nb := W0.heap.size + 1) ?_ ?_ g6; (focus (exact al_next W0 _ _)); (focus (exact al_old W0 _ _)))); intro y6) | skip); clear h6 g6 k6)
      | (refine step_append_rowk rfl _ _ 22 25 5 72 _ Try.underlying22 infoEn rfl (by decide) (by decide) rfl W0.heap.size _ _ xs [[Value.int .i64 yu, .int .i64 yo, .int .i64 ys, .slice sa sn sc, .slice ia ln ic]] rfl rfl ?_ ?_ HY1.out hxl.out ?_ ?_; (focus (refine (HX.out _ ?_).1; (repeat first | with_reducible assumption | with_reducible exact KZ6.out | with_reducible apply Below.drew | with_reducible apply below_drews | with_reducible apply below_al); done)); (focus (refine Rk.row_one (e := 25) ?_ rfl; (first | exact y6 | exact heap_alloc_new _ _ | (simp; done)); done)); (focus (refine Below.size (B := W0.heap.size) (w := W0) ?_; refine below_more B6.out ?_; (repeat first | with_reducible assumption | with_reducible exact KZ6.out | with_reducible apply Below.drew | with_reducible apply below_drews | with_reducible apply below_al); done)); intro v7 w7 h7 g7 k7; have FN := fun h => (HX.out _ h).2 v7 w7 h7 g7 HLT.out; replace FN := FN (by (repeat first | with_reducible assumption | with_reducible exact KZ6.out | with_reducible apply Below.drew | with_reducible apply below_drews | with_reducible apply below_al)); obtain ⟨a7, c7, rfl⟩ := h7.is_slice; generalize (xs ++ [[Value.int .i64 yu, .int .i64 yo, .int .i64 ys, .slice sa sn sc, .slice ia ln ic]]).length = l7 at *; have FN2 := Lib.hid FN; clear h7 g7 k7 FN))
    all_goals go_wp2_with fail
    all_goals exact bodyPost_ret (v := .tuple #[.slice _ _ _, .bool true]) (by simp [results, Try.results9, go_sem]) rfl FN2.out
  · have i1 : decide (most ≤ (n : Int)) = true := decide_eq_true (by omega)
    have i2 : most ≤ (n : Int) := by omega
    have FIN : GiveAdd P A ⟨yu, yo, ys, S, L⟩ most w (.returned (.tuple #[.slice a n cap, .bool false])) W0 := by
      have e1 : addE A ⟨yu, yo, ys, S, L⟩ most = A := by unfold addE; rw [if_neg (by rw [← HNA.out]; exact hlt)]
      have e2 : decide ((A.length : Int) < most) = false := decide_eq_false (by rw [← HNA.out]; exact hlt)
      exact ⟨_, by rw [e2], by rw [e1]; exact HA0.out, HB0.out⟩
    have HF := Lib.hid FIN
    clear FIN
    go_wp2_with fail
    exact bodyPost_ret (v := .tuple #[.slice a n cap, .bool false]) (by simp [results, Try.results9, go_sem]) rfl HF.out
end Go.Proofs.Ytfahfjhibffdkaa.Aud
