/- Undo, the plain text: Push. -/
import Derived.Test.YtoejjicgnhndfaaDoorUm2
import Derived.Test.YtoejjicgnhndfaaDoorUi
import Derived.Deep.RegionHeld3
import Derived.Deep.RegionLaw
set_option linter.unusedVariables false
set_option linter.unusedSimpArgs false
set_option maxRecDepth 100000
namespace Go.Proofs.YtoejjicgnhndfaaDoor.Und
open Go.RowKit Go.Lib Go.Proofs.YtoejjicgnhndfaaDoor.Rk Go.Proofs.YtoejjicgnhndfaaDoor.Rig

/-- An append of a row that is read, as a step of a region that draws. -/
theorem step_append_rowk {P : Program} {w : World} {ops : Array Oper} {o : Oper} {a : Act} {K : Act → World → Prop} {Q : Exit → Act → World → Prop} {E : Prop} (hgd : o.guard = none) (s x : Operand) (tS e : TypeId) (k bytes : Nat) (z : Value)
    (ht : P.underlying tS = some (.slice e)) (hinfo : (P.info? e).map (fun i => (i.zero, i.size, i.bytes)) = some (some z, k, bytes)) (hzs : z.cells.size = k) (hk : 0 < k) (hby : bytes ≤ 1000)
    (ho : o.op = .call { callee := .builtin .append, args := #[s, x], argTypes := #[tS, tS] }) (base : Nat) (v u : Value) (xs ys : List (List Value)) (hs : a.eval s = v) (hx : a.eval x = u) (hown : OwnK e k base w v xs) (hy : RowK k w u ys) (hyo : ∀ y ∈ ys, ∀ q ∈ y, q.oneCell' = true) (hn : xs.length + ys.length ≤ 100000) (hbase : base ≤ w.heap.size)
    (h : ∀ v' w', OwnK e k base w' v' (xs ++ ys) → w.grownBy w' v.ownBlock → (v'.ownBlock = v.ownBlock ∨ v'.ownBlock = some w.heap.size) → K (a.put o.dst v') w') : if Region.wanted o (yielded ops a.tmps) = true then Oper.wp P o a w K Q else E := by
  have hw : Region.wanted o (yielded ops a.tmps) = true := by simp [Region.wanted, hgd]
  rw [if_pos hw]
  obtain ⟨v', w', hr, h2, h3, h5⟩ := run_append_rowk (P := P) w base tS o.type e k bytes z ht hinfo hzs hk hby v u xs ys hown hy hyo hn hbase
  unfold Oper.wp execOp
  simp only [ho, resolve, invoke, builtin, Sem.run_bind, Sem.run_pure, Result.andThen_ok, List.map_toArray, List.map_cons, List.map_nil, hs, hx, hr]
  exact h v' w' h2 h3 h5
/-- An empty row in a block of the call's own. -/
theorem own_empty {e : TypeId} {k base g : Nat} {w : World} (hg : w.heap[g]? = some (.cells #[] e (0, 0))) (hb : base ≤ g) : OwnK e k base w (.slice (some ⟨g, 0, none⟩) 0 0) [] :=
  ⟨fun _ h => by simp at h, ⟨by simp, .inr ⟨g, 0, #[], rfl, hb, hg, Nat.le_refl _, Nat.zero_le _, by simp, by simp⟩⟩⟩
theorem below_al {w w' : World} (h : Below w.heap.size w w') (o : Obj) : Below w.heap.size w (w'.alloc o) := h.alloc h.size o
theorem al_new {w : World} {g : Nat} (o : Obj) (hg : g = w.heap.size) : (w.alloc o).heap[g]? = some o := hg ▸ heap_alloc_new w o
theorem drew_size (w : World) : w.drew.heap.size = w.heap.size := rfl
theorem OwnK.drewN {e : TypeId} {k base : Nat} {w : World} {v : Value} {xs : List (List Value)} (h : OwnK e k base w v xs) (n : Nat) : OwnK e k base (w.drewN n) v xs := h.below (below_drews (Below.refl _ _) n)
theorem OwnK.drew {e : TypeId} {k base : Nat} {w : World} {v : Value} {xs : List (List Value)} (h : OwnK e k base w v xs) : OwnK e k base w.drew v xs := h.below (Below.refl _ _).drew
theorem OwnK.alloc {e : TypeId} {k base : Nat} {w : World} {v : Value} {xs : List (List Value)} (h : OwnK e k base w v xs) (o : Obj) : OwnK e k base (w.alloc o) v xs := h.below ((Below.refl _ _).alloc (Nat.le_refl _) _)

/-- What the document's Push gives. -/
def rpushA (A : List U) (y : U) (depth : Int) : List U := if max depth 1 < (A.length : Int) + 1 then (A ++ [y]).tail else A ++ [y]
def rpushO (A : List U) (y : U) (depth : Int) : List U := if max depth 1 < (A.length : Int) + 1 then (A ++ [y]).take 1 else []
theorem rpush_same (A : List U) (y : U) (depth : Int) : rpushA A y depth = pushA A y depth ∧ rpushO A y depth = (pushO A depth).toList := by
  unfold rpushA rpushO pushA pushO
  by_cases h : max depth 1 ≤ (A.length : Int)
  · have h' : max depth 1 < (A.length : Int) + 1 := by omega
    simp only [if_pos h, if_pos h']
    cases A with
    | nil => simp at h; omega
    | cons z zs => exact ⟨rfl, rfl⟩
  · have h' : ¬ max depth 1 < (A.length : Int) + 1 := by omega
    simp only [if_neg h, if_neg h']
    exact ⟨trivial, rfl⟩
theorem RowK.tailk {k : Nat} {w : World} {b off n cap : Nat} {xs : List (List Value)} (h : RowK k w (.slice (some ⟨b, off, none⟩) n cap) xs) (hn : 0 < n) : RowK k w (.slice (if cap = 1 then some ⟨b, off, none⟩ else some ⟨b, off + k, none⟩) (n - 1) (cap - 1)) xs.tail := by
  by_cases hc : cap = 1
  · rw [if_pos hc]
    have h' := RowK.tail h hn
    obtain ⟨h0, a, c, e, h1, h2, h3⟩ := h'
    injection e with e1 e2 e3
    subst e1 e3
    have hx : xs.tail = [] := List.eq_nil_of_length_eq_zero (by omega)
    exact ⟨h0, _, _, by rw [← e2], h1, h2, .inl hx⟩
  · rw [if_neg hc]
    exact RowK.tail h hn
theorem RowK.first {k : Nat} {w : World} {a : Option Addr} {n cap : Nat} {xs : List (List Value)} (m : Nat) (h : RowK k w (.slice a n cap) xs) (hm : m ≤ n) : RowK k w (.slice a m cap) (xs.take m) := by
  obtain ⟨h0, a', c, e, h1, h2, h3⟩ := h
  injection e with e1 e2 e3
  subst e1 e3
  have hl : (xs.take m).length = m := by rw [List.length_take]; omega
  refine ⟨fun x hx => h0 x (List.mem_of_mem_take hx), _, _, by rw [hl], by omega, h2, ?_⟩
  rcases h3 with h3 | ⟨b, off, rfl, hb, hc⟩
  · exact .inl (by rw [h3]; simp)
  · exact .inr ⟨b, off, rfl, hb, fun j hj i u hu => hc j (by omega) i u (by rw [List.getElem_take] at hu; exact hu)⟩

set_option maxHeartbeats 8000000 in
theorem rpush_any {v : Value} {A : List U} (y : U) (depth : Int) (w : World) (h : Us w v A) (hy : y.good) (hn : A.length ≤ 10000) (d1 : -9223372036854775808 ≤ depth) (d2 : depth ≤ 9223372036854775807) : Calls Tryd.prog 57 #[v, y.val, .int .i64 depth] w fun e w' => ∃ v1 v2, e = .returned (.tuple #[v1, v2]) ∧ Us w' v1 (rpushA A y depth) ∧ Us w' v2 (rpushO A y depth) ∧ Below w.heap.size w w' := by
  obtain ⟨a, cap, rfl, hcap, hmax, _⟩ := h.open_
  obtain ⟨n, hnA⟩ : ∃ n, n = A.length := ⟨_, rfl⟩
  rw [← hnA] at h hcap hn ⊢
  have HU : Hid (∀ w', Below w.heap.size w w' → Us w' (.slice a n cap) A) := fun w' hb => h.below hb (Nat.le_refl _)
  have HN := Lib.hid hnA
  have HYG := Lib.hid hy
  have HG := Lib.hid h.2
  have hyo := ucells_one y
  obtain ⟨yk, hyk⟩ : ∃ z, z = y.k := ⟨_, rfl⟩
  obtain ⟨yd, hyd⟩ : ∃ z, z = y.d := ⟨_, rfl⟩
  obtain ⟨ym, hym⟩ : ∃ z, z = y.m := ⟨_, rfl⟩
  obtain ⟨yl, hyl⟩ : ∃ z, z = y.l := ⟨_, rfl⟩
  obtain ⟨yt, hyt⟩ : ∃ z, z = y.t := ⟨_, rfl⟩
  have EV : Hid (y.val = .agg #[.int .i64 yk, .int .i64 yd, .int .i64 ym, .int .i64 yl, .string (Let.mk yt)]) := by rw [hyk, hyd, hym, hyl, hyt]; rfl
  have EC : Hid (y.cells = [.int .i64 yk, .int .i64 yd, .int .i64 ym, .int .i64 yl, .string (Let.mk yt)]) := by rw [hyk, hyd, hym, hyl, hyt]; rfl
  rw [EV.out]
  have HYO : Hid (∀ x ∈ [y.cells], ∀ q ∈ x, q.oneCell' = true) := fun x hx => by simp at hx; subst hx; exact hyo
  have HAO : Hid (∀ x ∈ A.map U.cells, ∀ q ∈ x, q.oneCell' = true) := fun x hx => by
    obtain ⟨z, _, rfl⟩ := List.mem_map.1 hx
    exact ucells_one z
  have HL0 : Hid (([] : List (List Value)).length + (A.map U.cells).length ≤ 100000) := by show _ ≤ _; rw [List.length_map, ← hnA]; simp; omega
  have HL1 : Hid (([] ++ A.map U.cells).length + [y.cells].length ≤ 100000) := by show _ ≤ _; simp; omega
  have RY : Hid (∀ (w' : World) (b : Nat), w'.heap[b]? = some (.cells #[.int .i64 yk, .int .i64 yd, .int .i64 ym, .int .i64 yl, .string (Let.mk yt)] 88 (0, 0)) → RowK 5 w' (.slice (some ⟨b, 0, none⟩) 1 1) [y.cells]) := fun w' b hb => by rw [EC.out]; exact row_one (y := [.int .i64 yk, .int .i64 yd, .int .i64 ym, .int .i64 yl, .string (Let.mk yt)]) hb rfl
  obtain ⟨B1, R1, l1⟩ := ubox w #[.int .i64 yk, .int .i64 yd, .int .i64 ym, .int .i64 yl, .string (Let.mk yt)] 88
  obtain ⟨W1, hW1⟩ : ∃ W1, W1 = w.alloc (.cells #[.int .i64 yk, .int .i64 yd, .int .i64 ym, .int .i64 yl, .string (Let.mk yt)] 88) := ⟨_, rfl⟩
  rw [← hW1] at B1 R1 l1
  have HW1 := Lib.hid hW1
  have HB1 : Hid (∀ w', Below W1.heap.size W1 w' → Below w.heap.size w w') := fun w' hb => below_more B1 hb
  have DN : Hid (∀ w', Below W1.heap.size W1 w' → Below W1.heap.size W1 w' ∧ w'.cell? ⟨w.heap.size, 0, none⟩ = some (.int .i64 yk) ∧ w'.cell? ⟨w.heap.size, 1, none⟩ = some (.int .i64 yd) ∧ w'.cell? ⟨w.heap.size, 2, none⟩ = some (.int .i64 ym) ∧ w'.cell? ⟨w.heap.size, 3, none⟩ = some (.int .i64 yl) ∧ w'.cell? ⟨w.heap.size, 4, none⟩ = some (.string (Let.mk yt))) := fun w' hb => ⟨hb, u5cells (ukeep hb (urow_lt R1) R1)⟩
  have KS := Lib.hid (Below.refl W1.heap.size W1)
  obtain ⟨_, x0, x1, x2, x3, x4⟩ := DN.out _ KS.out
  clear hW1 B1 R1 l1 h hy hyo hyk hyd hym hyl hyt hnA
  go_enter Tryd.func57, Tryd.ntmps57
  go_upto_region 1 with fail
  rw [← HW1.out]
  go_region_held3 (fun w' => Below W1.heap.size W1 w' ∧ w'.cell? ⟨w.heap.size, 0, none⟩ = some (.int .i64 yk) ∧ w'.cell? ⟨w.heap.size, 1, none⟩ = some (.int .i64 yd) ∧ w'.cell? ⟨w.heap.size, 2, none⟩ = some (.int .i64 ym) ∧ w'.cell? ⟨w.heap.size, 3, none⟩ = some (.int .i64 yl) ∧ w'.cell? ⟨w.heap.size, 4, none⟩ = some (.string (Let.mk yt)))
    ((refine DN.out _ ?_; focus ((repeat first | with_reducible assumption | with_reducible exact KS.out | with_reducible apply Below.drew | with_reducible apply below_drews | with_reducible apply below_al); done)))
    (first
      | (refine step_append_rowk rfl _ _ 81 88 5 48 _ Tryd.underlying81 infoUndo rfl (by decide) (by decide) rfl W1.heap.size _ _ [] (A.map U.cells) rfl rfl ?_ (HU.out _ (HB1.out _ ?_)).1 HAO.out HL0.out ?_ ?_; (focus (refine own_empty ?_ ?_; (focus (first | (refine al_new _ ?_; simp [drew_size]; done) | (refine (Below.heap_alloc _ _ _ ?_).trans (al_new _ ?_); (focus (simp [drew_size]; done)); (focus (simp [drew_size]; done))))); (focus (first | exact Nat.le_refl _ | (simp; done))))); (focus ((repeat first | with_reducible assumption | with_reducible exact KS.out | with_reducible apply Below.drew | with_reducible apply below_drews | with_reducible apply below_al); done)); (focus (refine Below.size (B := W1.heap.size) (w := W1) ?_; (repeat first | with_reducible assumption | with_reducible exact KS.out | with_reducible apply Below.drew | with_reducible apply below_drews | with_reducible apply below_al); done)); intro v6 w6 h6 g6 _; have b6 : Below W1.heap.size W1 w6 := (by refine Below.grown ?_ g6 ?_ ?_; (focus ((repeat first | with_reducible assumption | with_reducible exact KS.out | with_reducible apply Below.drew | with_reducible apply below_drews | with_reducible apply below_al); done)); (focus (refine Below.size (B := W1.heap.size) (w := W1) ?_; (repeat first | with_reducible assumption | with_reducible exact KS.out | with_reducible apply Below.drew | with_reducible apply below_drews | with_reducible apply below_al); done)); (intro q e; (have e' := Option.some.inj e; rw [← e']; first | exact Nat.le_refl _ | simp))))
      | (refine step_append_rowk rfl _ _ 81 88 5 48 _ Tryd.underlying81 infoUndo rfl (by decide) (by decide) rfl W1.heap.size _ _ ([] ++ A.map U.cells) [y.cells] rfl rfl ?_ ?_ HYO.out HL1.out ?_ ?_; (focus (first | exact h6 | exact OwnK.drew h6 | exact OwnK.alloc h6 _ | exact OwnK.drew (OwnK.alloc h6 _) | exact OwnK.alloc (OwnK.drew h6) _ | exact OwnK.drew (OwnK.alloc (OwnK.drew h6) _))); (focus (refine RY.out _ _ ?_; first | (refine al_new _ ?_; simp [drew_size]; done) | (refine (g6.block _ ?_ ?_).trans (al_new _ ?_); (focus (simp [drew_size]; done)); (focus (intro e; have e' := Option.some.inj e; simp at e'; done)); (focus (simp [drew_size]; done))) | (refine (g6.block _ ?_ ?_).trans ((Below.heap_alloc _ _ _ ?_).trans (al_new _ ?_)); (focus (simp [drew_size]; omega)); (focus (intro e; have e' := Option.some.inj e; simp at e'; done)); (focus (simp [drew_size]; done)); (focus (simp [drew_size]; done))))); (focus (refine Below.size (B := W1.heap.size) (w := W1) ?_; (repeat first | with_reducible assumption | with_reducible exact KS.out | with_reducible apply Below.drew | with_reducible apply below_drews | with_reducible apply below_al); done)); intro v7 w7 h7 g7 _; have b7 : Below W1.heap.size W1 w7 := (by refine Below.grown ?_ g7 ?_ ?_; (focus ((repeat first | with_reducible assumption | with_reducible exact KS.out | with_reducible apply Below.drew | with_reducible apply below_drews | with_reducible apply below_al); done)); (focus (refine Below.size (B := W1.heap.size) (w := W1) ?_; (repeat first | with_reducible assumption | with_reducible exact KS.out | with_reducible apply Below.drew | with_reducible apply below_drews | with_reducible apply below_al); done)); (intro q e; exact (h6.block q e).1)); obtain ⟨a7, c7, rfl⟩ := h7.is_slice; obtain ⟨m7, hm7⟩ : ∃ z, z = ([] ++ A.map U.cells ++ [y.cells]).length := ⟨_, rfl⟩; rw [← hm7] at h7 ⊢; have HM7 := Lib.hid hm7; clear hm7))
  all_goals (
    have HB7 : Hid (Below w.heap.size w w7) := HB1.out _ b7
    have HGA : Hid (∀ z ∈ A ++ [y], z.good) := fun z hz => by
      rcases List.mem_append.1 hz with hz | hz
      · exact HG.out z hz
      · simp at hz
        rw [hz]
        exact HYG.out
    have HU7 : Hid (Us w7 (.slice a7 m7 c7) (A ++ [y])) := ⟨by have := h7.row; rwa [show [] ++ A.map U.cells ++ [y.cells] = (A ++ [y]).map U.cells by simp] at this, HGA.out⟩
    have HM : Hid (m7 = n + 1) := by show _ = _; rw [HM7.out, HN.out]; simp
    have hm7 : 1 ≤ m7 := by rw [HM.out]; omega
    obtain ⟨hc7, hmx⟩ : m7 ≤ c7 ∧ c7 ≤ maxLen := by
      have e := HU7.out.1
      obtain ⟨_, a', c', e1, e2, e3, _⟩ := e
      injection e1 with _ e4 e5
      subst e5
      exact ⟨by omega, e3⟩
    unfold maxLen at hmx
    by_cases hd : max depth 1 < (n : Int) + 1
    · have d1 : decide (max depth 1 < (m7 : Int)) = true := decide_eq_true (by rw [HM.out]; omega)
      have EA : Hid (rpushA A y depth = (A ++ [y]).tail ∧ rpushO A y depth = (A ++ [y]).take 1) := by
        unfold rpushA rpushO
        rw [← HN.out, if_pos hd, if_pos hd]
        exact ⟨rfl, rfl⟩
      obtain ⟨g, off, rfl⟩ : ∃ g off, a7 = some ⟨g, off, none⟩ := by
        obtain ⟨_, a', c', e1, _, _, e6⟩ := HU7.out.1
        injection e1 with e1 _ _
        subst e1
        rcases e6 with e6 | ⟨b, off, e6, _⟩
        · simp at e6
        · exact ⟨b, off, e6⟩
      have i1 : (1 : Int) ≤ (m7 : Int) := by omega
      have i2 : (m7 : Int) ≤ (c7 : Int) := by omega
      have i3 : (1 : Int) ≤ (c7 : Int) := by omega
      clear h7 g7 b7 h6 g6 b6 x0 x1 x2 x3 x4 hd
      go_upto_region 3 with fail
      go_quiet (fail)
      have b8 : Below w.heap.size w (w7.drewN nq) := below_more HB7.out (below_drews (Below.refl _ _) _)
      have U8 := HU7.out.below (below_drews (Below.refl w7.heap.size w7) nq) (Nat.le_refl _)
      have UT : Hid (Us (w7.drewN nq) (.slice (if c7 = 1 then some ⟨g, off, none⟩ else some ⟨g, off + 5, none⟩) (m7 - 1) (c7 - 1)) (A ++ [y]).tail) := ⟨by have := RowK.tailk U8.1 (by omega); rwa [← List.map_tail] at this, fun z hz => U8.2 z (List.mem_of_mem_tail hz)⟩
      have UF : Hid (Us (w7.drewN nq) (.slice (some ⟨g, off, none⟩) 1 c7) ((A ++ [y]).take 1)) := ⟨by have := RowK.first 1 U8.1 hm7; rwa [← List.map_take] at this, fun z hz => U8.2 z (List.mem_of_mem_take hz)⟩
      have HB8 := Lib.hid b8
      obtain ⟨q, hq⟩ : ∃ q, q = (if c7 = 1 then some ⟨g, off, none⟩ else some ⟨g, off + 5, none⟩ : Option Addr) := ⟨_, rfl⟩
      rw [← hq] at UT ⊢
      clear b8 U8 hq
      go_wp2_with fail
      go_ret2
      exact ⟨.slice q (m7 - 1) (c7 - 1), .slice (some ⟨g, off, none⟩) 1 c7, rfl, by rw [EA.out.1]; exact UT.out, by rw [EA.out.2]; exact UF.out, HB8.out⟩
    · have d1 : decide (max depth 1 < (m7 : Int)) = false := decide_eq_false (by rw [HM.out]; omega)
      have EA : Hid (rpushA A y depth = A ++ [y] ∧ rpushO A y depth = []) := by
        unfold rpushA rpushO
        rw [← HN.out, if_neg hd, if_neg hd]
        exact ⟨rfl, rfl⟩
      clear h7 g7 b7 h6 g6 b6 x0 x1 x2 x3 x4 hd
      go_wp2_with fail
      go_ret2
      exact ⟨_, _, rfl, by rw [EA.out.1]; exact HU7.out, by rw [EA.out.2]; exact ⟨RowK.nil_ _ _, fun _ h => by simp at h⟩, HB7.out⟩)
end Go.Proofs.YtoejjicgnhndfaaDoor.Und
