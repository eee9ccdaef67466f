/- A part of the proof. -/
import Derived.Test.YtccaiippoephbaaGreatDoorWa
import Derived.Test.YtccaiippoephbaaGreatDoorWy
set_option linter.unusedVariables false
set_option maxRecDepth 100000
namespace Go.Proofs.YtccaiippoephbaaGreatDoor.She
open Go.RowKit Go.Lib Go.Proofs.YtccaiippoephbaaGreatDoor.Rk Go.Proofs.YtccaiippoephbaaGreatDoor.Rt Go.Proofs.YtccaiippoephbaaGreatDoor.Rig Go.Proofs.YtccaiippoephbaaGreatDoor.Seg
structure G5 where
  i : Int
  l : Int
  L : Bytes
  S : List Sp
  T : List St
def SgC (w : World) (x : List Value) (g : G5) : Prop := ∃ tp sv tv, x = [.int .i64 g.i, .int .i64 g.l, tp, sv, tv] ∧ Sg w (.agg #[.int .i64 g.i, .int .i64 g.l, tp, sv, tv]) g.i g.l g.L g.S g.T
theorem SgC.below {w w' : World} {x : List Value} {g : G5} (h : SgC w x g) (hb : Below w.heap.size w w') : SgC w' x g := by
  obtain ⟨tp, sv, tv, e, h⟩ := h
  exact ⟨tp, sv, tv, e, h.below hb (Nat.le_refl _)⟩
def PlC (w : World) (x : List Value) (g : G5) : Prop := ∃ sv tv, x = [.int .i64 g.i, .int .i64 g.l, .string (Let.mk g.L), sv, tv] ∧ Pl w (.agg #[.int .i64 g.i, .int .i64 g.l, .string (Let.mk g.L), sv, tv]) g.i g.l g.L g.S g.T
theorem PlC.below {w w' : World} {x : List Value} {g : G5} (h : PlC w x g) (hb : Below w.heap.size w w') : PlC w' x g := by
  obtain ⟨sv, tv, e, h⟩ := h
  exact ⟨sv, tv, e, h.below hb (Nat.le_refl _)⟩
def Sgs (w : World) (s : Value) (G : List G5) : Prop := Rk.Rows 5 SgC w s G
def Pls (w : World) (s : Value) (G : List G5) : Prop := Rk.Rows 5 PlC w s G
theorem Sgs.below {w w' : World} {s : Value} {G : List G5} (h : Sgs w s G) (hb : Below w.heap.size w w') : Sgs w' s G := Rk.Rows.below (R := SgC) (fun h hb => SgC.below h hb) h hb
theorem Pls.below {w w' : World} {s : Value} {G : List G5} (h : Pls w s G) (hb : Below w.heap.size w w') : Pls w' s G := Rk.Rows.below (R := PlC) (fun h hb => PlC.below h hb) h hb
theorem Sgs.get {w : World} {a : Option Addr} {n cap : Nat} {G : List G5} (h : Sgs w (.slice a n cap) G) {j : Nat} (hj : j < G.length) :
    ∃ b off q sa sc ta tc, a = some ⟨b, off, none⟩ ∧ b < w.heap.size ∧ Sg w (.agg #[.int .i64 G[j].i, .int .i64 G[j].l, .pointer q, .slice sa G[j].S.length sc, .slice ta G[j].T.length tc]) G[j].i G[j].l G[j].L G[j].S G[j].T ∧
      w.cell? ⟨b, off + j * 5, none⟩ = some (.int .i64 G[j].i) ∧ w.cell? ⟨b, off + j * 5 + 1, none⟩ = some (.int .i64 G[j].l) ∧ w.cell? ⟨b, off + j * 5 + 2, none⟩ = some (.pointer q) ∧ w.cell? ⟨b, off + j * 5 + 3, none⟩ = some (.slice sa G[j].S.length sc) ∧ w.cell? ⟨b, off + j * 5 + 4, none⟩ = some (.slice ta G[j].T.length tc) := by
  obtain ⟨b, off, x, h1, h2, _, ⟨tp, sv, tv, rfl, hv⟩, hc⟩ := Rk.Rows.get h hj
  obtain ⟨q, sa, sc, ta, tc, e, _, _, _⟩ := hv.open_
  injection e with e
  simp only [Array.mk.injEq, List.cons.injEq, and_true, true_and] at e
  obtain ⟨rfl, rfl, rfl⟩ := e
  exact ⟨b, off, q, sa, sc, ta, tc, h1, h2, hv, hc 0 _ rfl, hc 1 _ rfl, hc 2 _ rfl, hc 3 _ rfl, hc 4 _ rfl⟩
theorem Pls.get {w : World} {a : Option Addr} {n cap : Nat} {G : List G5} (h : Pls w (.slice a n cap) G) {j : Nat} (hj : j < G.length) :
    ∃ b off sa sc ta tc, a = some ⟨b, off, none⟩ ∧ b < w.heap.size ∧ Pl w (.agg #[.int .i64 G[j].i, .int .i64 G[j].l, .string (Let.mk G[j].L), .slice sa G[j].S.length sc, .slice ta G[j].T.length tc]) G[j].i G[j].l G[j].L G[j].S G[j].T ∧
      w.cell? ⟨b, off + j * 5, none⟩ = some (.int .i64 G[j].i) ∧ w.cell? ⟨b, off + j * 5 + 1, none⟩ = some (.int .i64 G[j].l) ∧ w.cell? ⟨b, off + j * 5 + 2, none⟩ = some (.string (Let.mk G[j].L)) ∧ w.cell? ⟨b, off + j * 5 + 3, none⟩ = some (.slice sa G[j].S.length sc) ∧ w.cell? ⟨b, off + j * 5 + 4, none⟩ = some (.slice ta G[j].T.length tc) := by
  obtain ⟨b, off, x, h1, h2, _, ⟨sv, tv, rfl, hv⟩, hc⟩ := Rk.Rows.get h hj
  obtain ⟨sa, sc, ta, tc, e, _, _⟩ := hv.open_
  injection e with e
  simp only [Array.mk.injEq, List.cons.injEq, and_true, true_and] at e
  obtain ⟨rfl, rfl⟩ := e
  exact ⟨b, off, sa, sc, ta, tc, h1, h2, hv, hc 0 _ rfl, hc 1 _ rfl, hc 2 _ rfl, hc 3 _ rfl, hc 4 _ rfl⟩
end Go.Proofs.YtccaiippoephbaaGreatDoor.She
set_option linter.unusedSimpArgs false
namespace Go.Proofs.YtccaiippoephbaaGreatDoor.She
open Go.RowKit Go.Proofs.YtccaiippoephbaaGreatDoor.Rk
section
variable {P : Program} (w : World)
theorem run_append_own_c (base : Nat) (t ty e : TypeId) (i : TypeInfo) (z : Value) (size bytes : Nat) (ht : P.underlying t = some (.slice e)) (hi : P.info? e = some i) (hz : i.zero = some z)
    (hsize : i.size = size) (hby : i.bytes = bytes) (hzs : z.cells.size = size) (hsz : 0 < size)
    (v : Value) (n : Nat) (xs : List Value) (hown : w.ownsRow base e size v n xs)
    (a : Addr) (m c : Nat) (news : List Value) (hl : news.length = m * size) (hnews : ∀ j u, news[j]? = some u → w.cell? (a.add j) = some u) (h1 : ∀ u ∈ news, u.oneCell' = true)
    (h63 : n + m ≤ maxLen) (hbytes : (n + m) * bytes ≤ 140737488355328) (hbase : base ≤ w.heap.size) :
    ∃ v' w', (Builtin.append_ #[t, t] ty #[v, .slice (some a) m c]).run P w = .ok v' w' ∧
      ((w' = w ∧ v' = v ∧ m = 0) ∨ (∃ c', v' = .slice (some ⟨w.heap.size, 0, none⟩) (n + m) c' ∧ w' = w.drew.alloc (.cells (xs.toArray ++ news.toArray ++ Builtin.zeroCells z.cells (c' - (n + m))) e)) ∨
       (∃ g cap cur, v = .slice (some ⟨g, 0, none⟩) n cap ∧ v' = .slice (some ⟨g, 0, none⟩) (n + m) cap ∧ w.heap[g]? = some (.cells cur e (0, 0)) ∧ w'.heap[g]? = some (.cells (cur.toList.take (n * size) ++ news ++ cur.toList.drop (n * size + news.length)).toArray e (0, 0)))) := by
  subst hsize
  subst hby
  have hsmall : n + m ≤ 9223372036854775807 := by simp only [maxLen] at h63; omega
  rcases hown.2 with ⟨rfl, rfl⟩ | ⟨g, cap, cur, rfl, hbg, hg, hnc, hcm, hcs, htake⟩
  · have hx : xs = [] := List.eq_nil_of_length_eq_zero (by simpa using hown.1)
    subst hx
    by_cases hm : m = 0
    · subst hm
      have hn : news = [] := List.eq_nil_of_length_eq_zero (by simpa using hl)
      subst hn
      refine ⟨.slice none 0 0, w, ?_, .inl ⟨rfl, rfl, rfl⟩⟩
      simp [Builtin.append_, run_underlying ht, sizeOf, typeInfo, hi, Builtin.lenOf, Builtin.firstCells, loadCells, loadCellsFrom]
    · have hr := run_append_nil (P := P) w t ty e i z ht hi hz a m c news hl hnews (by omega) (by omega) (by have hb := hbytes; simp only [Nat.zero_add] at hb; omega)
      refine ⟨_, _, hr, .inr (.inl ⟨_, by rw [Nat.zero_add], by simp only [Nat.zero_add, List.nil_append, Array.empty_append]⟩)⟩
  · by_cases hroom : n + m ≤ cap
    · have hfit : n * i.size + news.length ≤ cur.size := by rw [hl, hcs, ← Nat.add_mul]; exact Nat.mul_le_mul_right _ hroom
      have hr := run_append_room (P := P) w t ty e i ht hi g n cap cur hg a m c news hl hnews h1 hroom hfit
      exact ⟨_, _, hr, .inr (.inr ⟨g, cap, cur, rfl, rfl, hg, setRow_heap w g cur _ e _ hg⟩)⟩
    · have holds : ∀ j u, xs[j]? = some u → w.cell? ((⟨g, 0, none⟩ : Addr).add j) = some u := hown.cells (g := g) rfl
      have hr := run_append_grow (P := P) w t ty e i z ht hi hz ⟨g, 0, none⟩ n cap xs hown.1 holds a m c news hl hnews (by omega) (by omega) (growslice_fits (by omega) hbytes)
      exact ⟨_, _, hr, .inr (.inl ⟨_, rfl, rfl⟩)⟩
end
def noInt (u : Value) : Prop := ∀ z, u ≠ .int .i64 z
def Five (x : List Value) : Prop := x.length = 5 ∧ (∀ i u, 2 ≤ i → x[i]? = some u → noInt u) ∧ ∀ u ∈ x, u.oneCell' = true
structure Own5 (e : TypeId) (base : Nat) (w : World) (v : Value) (xs : List (List Value)) : Prop where
  own : OwnK e 5 base w v xs
  five : ∀ x ∈ xs, Five x
  shape : ∀ g, v.ownBlock = some g → ∀ j u, w.cell? ⟨g, j, none⟩ = some (.int .i64 u) → j % 5 < 2 ∧ (xs.length * 5 ≤ j → u = 0)
theorem Own5.nil_ (e : TypeId) (base : Nat) (w : World) : Own5 e base w (.slice none 0 0) [] := ⟨OwnK.nil_ _ _ _ _, fun _ h => by simp at h, fun _ h => by cases h⟩
theorem Own5.below {e : TypeId} {base : Nat} {w w' : World} {v : Value} {xs : List (List Value)} (h : Own5 e base w v xs) (hb : Below w.heap.size w w') : Own5 e base w' v xs :=
  ⟨h.own.below hb, h.five, fun g hg j u hc => h.shape g hg j u (by rw [← hc]; exact (hb.cell (p := ⟨g, j, none⟩) (h.own.block g hg).2).symm)⟩
theorem flat_five {xs : List (List Value)} (h : ∀ x ∈ xs, Five x) {j : Nat} {z : Int} (hj : xs.flatten[j]? = some (.int .i64 z)) : j % 5 < 2 ∧ j < xs.length * 5 := by
  have hk : ∀ x ∈ xs, x.length = 5 := fun x hx => (h x hx).1
  have hl := flat_len hk
  have hlt : j < xs.length * 5 := by
    rcases Nat.lt_or_ge j xs.flatten.length with g | g
    · omega
    · rw [List.getElem?_eq_none g] at hj; cases hj
  refine ⟨?_, hlt⟩
  have hd : j / 5 < xs.length := by omega
  have e := flat_get hk (j / 5) hd (j % 5) (by omega)
  rw [show j / 5 * 5 + j % 5 = j by omega, hj] at e
  rcases Nat.lt_or_ge (j % 5) 2 with q | q
  · exact q
  · exact absurd rfl ((h _ (List.getElem_mem hd)).2.1 (j % 5) _ q e.symm z)
theorem zero_five {zc : Array Value} (hz : zc.size = 5) (h0 : zc[0]? = some (.int .i64 0)) (h1 : zc[1]? = some (.int .i64 0)) (hn : ∀ i u, 2 ≤ i → zc[i]? = some u → noInt u) {n j : Nat} {z : Int} (hj : (Builtin.zeroCells zc n)[j]? = some (.int .i64 z)) : j % 5 < 2 ∧ z = 0 := by
  have hs : j < n * 5 := by
    rcases Nat.lt_or_ge j (Builtin.zeroCells zc n).size with g | g
    · rw [size_zeroCells, hz] at g; exact g
    · rw [Array.getElem?_eq_none g] at hj; cases hj
  have hm0 : j % 5 < zc.size := by rw [hz]; exact Nat.mod_lt _ (by omega)
  have e : (Builtin.zeroCells zc n)[j]? = zc[j % 5]? := by
    rw [Array.getElem?_eq_getElem hm0, Array.getElem?_eq_getElem (by rw [size_zeroCells, hz]; exact hs)]
    simp [Builtin.zeroCells, hz, Array.getElem!_eq_getD, Array.getD, hm0]
    rw [dif_pos (by omega)]
  rw [e] at hj
  have hm : j % 5 < 5 := Nat.mod_lt _ (by omega)
  rcases Nat.lt_or_ge (j % 5) 2 with q | q
  · refine ⟨q, ?_⟩
    rcases (show j % 5 = 0 ∨ j % 5 = 1 by omega) with q2 | q2
    · rw [q2, h0] at hj; simpa using hj.symm
    · rw [q2, h1] at hj; simpa using hj.symm
  · exact absurd rfl (hn (j % 5) _ q hj z)
theorem run_append_five {P : Program} (w : World) (base : Nat) (tS ty e : TypeId) (bytes : Nat) (z : Value) (ht : P.underlying tS = some (.slice e)) (hinfo : (P.info? e).map (fun i => (i.zero, i.size, i.bytes)) = some (some z, 5, bytes)) (hzs : z.cells.size = 5)
    (z0 : z.cells[0]? = some (.int .i64 0)) (z1 : z.cells[1]? = some (.int .i64 0)) (zn : ∀ i u, 2 ≤ i → z.cells[i]? = some u → noInt u) (hby : bytes ≤ 1000)
    (v u : Value) (xs ys : List (List Value)) (hown : Own5 e base w v xs) (hy : Rk.RowK 5 w u ys) (hyo : ∀ y ∈ ys, Five y) (hn : xs.length + ys.length ≤ 100000) (hbase : base ≤ w.heap.size) :
    ∃ v' w', (Builtin.append_ #[tS, tS] ty #[v, u]).run P w = .ok v' w' ∧ Own5 e base w' v' (xs ++ ys) ∧ w.grownBy w' v.ownBlock ∧ (v'.ownBlock = v.ownBlock ∨ v'.ownBlock = some w.heap.size) ∧
      (∀ g, v.ownBlock = some g → ∀ j, j < xs.length * 5 → w'.cell? ⟨g, j, none⟩ = w.cell? ⟨g, j, none⟩) := by
  obtain ⟨v', w', hr, h2, h3, h4⟩ := run_append_rowk (P := P) w base tS ty e 5 bytes z ht hinfo hzs (by omega) hby v u xs ys hown.own hy (fun y hy => (hyo y hy).2.2) hn hbase
  have hfv : ∀ x ∈ xs ++ ys, Five x := fun x hx => by
    rcases List.mem_append.1 hx with hx | hx
    · exact hown.five x hx
    · exact hyo x hx
  refine ⟨v', w', hr, ⟨h2, hfv, ?_⟩, h3, h4, ?_⟩
  all_goals (
    obtain ⟨i0, hi, hz0, hz1, hz2⟩ := kparts hinfo
    have hbig : (xs.length + ys.length) * bytes ≤ 140737488355328 := Nat.le_trans (Nat.mul_le_mul (show xs.length + ys.length ≤ 100000 from hn) hby) (by decide)
    obtain ⟨hyl, a, cap, rfl, q1, q2, q3⟩ := hy)
  · intro g hg j p hc
    cases a with
    | none =>
      have he : ys = [] := by
        rcases q3 with q3 | ⟨b, off, q3, _⟩
        · exact q3
        · cases q3
      subst he
      have := nil_append_run w base tS ty e i0 5 ht hi v xs.length xs.flatten hown.own.2 cap
      rw [show (#[v, Value.slice none ([] : List (List Value)).length cap]) = #[v, Value.slice none 0 cap] from rfl, this] at hr
      injection hr with e1 e2
      subst e1 e2
      rw [List.append_nil]
      exact hown.shape g hg j p hc
    | some ad =>
      have hfl : ys.flatten.length = ys.length * 5 := flat_len hyl
      obtain ⟨v1, w1, hr1, hcase⟩ := run_append_own_c (P := P) w base tS ty e i0 z 5 bytes ht hi hz0 hz1 hz2 hzs (by omega) v xs.length xs.flatten hown.own.2 ad ys.length cap ys.flatten hfl (by
        intro j q hj
        have hjl : j < ys.length * 5 := by
          rcases Nat.lt_or_ge j ys.flatten.length with g | g
          · omega
          · rw [List.getElem?_eq_none g] at hj; cases hj
        rcases q3 with q3 | ⟨b, off, q3, hb, hc⟩
        · subst q3; simp at hj
        · injection q3 with q3
          subst q3
          have hm : j % 5 < 5 := Nat.mod_lt _ (by omega)
          have hd : j / 5 < ys.length := by omega
          have := hc (j / 5) hd (j % 5) q (by rw [← flat_get hyl (j / 5) hd (j % 5) hm, show j / 5 * 5 + j % 5 = j by omega]; exact hj)
          rw [kadd, ← this, show off + j / 5 * 5 + j % 5 = off + j by omega])
        (fun q hq => by
          obtain ⟨y, hy1, hy2⟩ := List.mem_flatten.1 hq
          exact (hyo y hy1).2.2 q hy2) (by unfold maxLen; omega) hbig hbase
      rw [hr1] at hr
      injection hr with e1 e2
      subst e1 e2
      rw [List.length_append]
      have fxs := flat_len (k := 5) (fun x hx => (hown.five x hx).1)
      rcases hcase with ⟨rfl, rfl, hm⟩ | ⟨c', rfl, rfl⟩ | ⟨g', cap', cur, rfl, rfl, r1, r2⟩
      · have := hown.shape g hg j p hc
        refine ⟨this.1, fun hj => this.2 (by omega)⟩
      · have hgg : g = w.heap.size := by simpa [Value.ownBlock] using hg.symm
        subst hgg
        rw [cell_of_row _ w.heap.size j _ _ (0, 0) (heap_alloc_new w.drew _)] at hc
        rw [Array.append_assoc, Array.getElem?_append, Array.getElem?_append] at hc
        simp only [List.size_toArray, List.getElem?_toArray, fxs, hfl] at hc
        split at hc
        · have := flat_five hown.five hc
          exact ⟨this.1, fun hj => by omega⟩
        · split at hc
          · have := flat_five hyo hc
            exact ⟨by omega, fun hj => by omega⟩
          · have := zero_five hzs z0 z1 zn hc
            exact ⟨by omega, fun _ => this.2⟩
      · have hgg : g' = g := by simpa [Value.ownBlock] using hg
        subst hgg
        have hsh := hown.shape g' rfl
        have r0 : ∀ j, w.cell? ⟨g', j, none⟩ = cur[j]? := fun j => cell_of_row _ _ _ _ _ _ r1
        rw [cell_of_row _ _ _ _ _ _ r2] at hc
        simp only [List.getElem?_toArray] at hc
        have hsz : xs.length * 5 + ys.length * 5 ≤ cur.size := by
          rcases h2.2.2 with ⟨h5, _⟩ | ⟨g5, cap5, cur5, e5, _, hg5, hnc5, _, hcs5, _⟩
          · cases h5
          · injection e5 with e5 e6 e7
            injection e5 with e5
            injection e5 with e5
            subst e5
            rw [r2] at hg5
            injection hg5 with hg5
            injection hg5 with hg5
            have h8 := congrArg Array.size hg5
            simp only [List.size_toArray, List.length_append, List.length_take, List.length_drop, Array.length_toList, hfl] at h8
            rw [List.length_append] at hnc5 e6
            rcases hown.own.2.2 with ⟨h7, _⟩ | ⟨g7, cap7, cur7, e7', _, hg7, hnc7, _, hcs7, _⟩
            · cases h7
            · injection e7' with e7' e8 e9
              injection e7' with e7'
              injection e7' with e7'
              subst e7'
              rw [r1] at hg7
              injection hg7 with hg7
              injection hg7 with hg7
              subst hg7
              rw [hcs7]
              omega
        rw [List.getElem?_append, List.getElem?_append] at hc
        simp only [List.length_append, List.length_take, Array.length_toList, hfl] at hc
        split at hc
        · split at hc
          · rename_i q5 q6
            rw [List.getElem?_take] at hc
            split at hc
            · rw [Array.getElem?_toList, ← r0] at hc
              have := hsh j p hc
              exact ⟨this.1, fun hj => by omega⟩
            · cases hc
          · rename_i q5 q6
            have hmin : min (xs.length * 5) cur.size = xs.length * 5 := by omega
            rw [hmin] at hc q5 q6
            have := flat_five hyo hc
            exact ⟨by omega, fun hj => by omega⟩
        · rename_i q5
          have hmin : min (xs.length * 5) cur.size = xs.length * 5 := by omega
          rw [hmin] at hc q5
          rw [List.getElem?_drop, Array.getElem?_toList, ← r0] at hc
          rw [show xs.length * 5 + ys.length * 5 + (j - (xs.length * 5 + ys.length * 5)) = j by omega] at hc
          have := hsh j p hc
          exact ⟨this.1, fun hj => this.2 (by omega)⟩
  · intro g hg j hj
    have hlt := (hown.own.block g hg).2
    have hv := hown.own.2.2
    rcases hv with ⟨rfl, _⟩ | ⟨g1, cap1, cur1, rfl, _, hg1, hnc1, _, hcs1, htk1⟩
    · cases hg
    · have hgg : g1 = g := by simpa [Value.ownBlock] using hg
      subst hgg
      rcases h4 with h4 | h4
      · have fxs := flat_len (k := 5) (fun x hx => (hown.five x hx).1)
        have hjf : j < xs.flatten.length := by omega
        have a1 := World.ownsRow.cells hown.own.2 (g := g1) rfl j _ (List.getElem?_eq_getElem hjf)
        have a2 := World.ownsRow.cells h2.2 (g := g1) (by rw [h4]; rfl) j (xs.flatten[j]) (by rw [List.flatten_append, List.getElem?_append_left hjf]; exact List.getElem?_eq_getElem hjf)
        rw [kadd, Nat.zero_add] at a1 a2
        rw [a1, a2]
      · obtain ⟨a', c', e'⟩ := h2.is_slice
        have : w'.heap[g1]? = w.heap[g1]? := by
          cases a with
          | none =>
            have he : ys = [] := by
              rcases q3 with q3 | ⟨b, off, q3, _⟩
              · exact q3
              · cases q3
            subst he
            have := nil_append_run w base tS ty e i0 5 ht hi (.slice (some ⟨g1, 0, none⟩) xs.length cap1) xs.length xs.flatten hown.own.2 cap
            rw [show (#[Value.slice (some ⟨g1, 0, none⟩) xs.length cap1, Value.slice none ([] : List (List Value)).length cap]) = #[Value.slice (some ⟨g1, 0, none⟩) xs.length cap1, Value.slice none 0 cap] from rfl, this] at hr
            injection hr with e1 e2
            subst e1 e2
            rfl
          | some ad =>
            have hfl : ys.flatten.length = ys.length * 5 := flat_len hyl
            obtain ⟨v1, w1, hr1, hcase⟩ := run_append_own_c (P := P) w base tS ty e i0 z 5 bytes ht hi hz0 hz1 hz2 hzs (by omega) (.slice (some ⟨g1, 0, none⟩) xs.length cap1) xs.length xs.flatten hown.own.2 ad ys.length cap ys.flatten hfl (by
              intro j q hj
              have hjl : j < ys.length * 5 := by
                rcases Nat.lt_or_ge j ys.flatten.length with g | g
                · omega
                · rw [List.getElem?_eq_none g] at hj; cases hj
              rcases q3 with q3 | ⟨b, off, q3, hb, hc⟩
              · subst q3; simp at hj
              · injection q3 with q3
                subst q3
                have hm : j % 5 < 5 := Nat.mod_lt _ (by omega)
                have hd : j / 5 < ys.length := by omega
                have := hc (j / 5) hd (j % 5) q (by rw [← flat_get hyl (j / 5) hd (j % 5) hm, show j / 5 * 5 + j % 5 = j by omega]; exact hj)
                rw [kadd, ← this, show off + j / 5 * 5 + j % 5 = off + j by omega])
              (fun q hq => by
                obtain ⟨y, hy1, hy2⟩ := List.mem_flatten.1 hq
                exact (hyo y hy1).2.2 q hy2) (by unfold maxLen; omega) hbig hbase
            rw [hr1] at hr
            injection hr with e1 e2
            subst e1 e2
            rcases hcase with ⟨rfl, _, _⟩ | ⟨c5, _, rfl⟩ | ⟨g', cap', cur, e5, rfl, r1, r2⟩
            · rfl
            · exact (by first | exact heap_alloc_old w.drew _ hlt | exact Go.heap_alloc_old w.drew _ g1 hlt)
            · injection e5 with e5
              injection e5 with e5
              injection e5 with e5
              subst e5
              simp [Value.ownBlock] at h4
              omega
        unfold World.cell?
        rw [this]
section
variable {P : Program}
theorem wpList_append_five {w : World} {ops : Array Oper} {rest : List Oper} {o : Oper} {a : Act} {Q : Exit → Act → World → Prop} (hgd : o.guard = none) (s x : Operand) (tS e : TypeId) (bytes : Nat) (z : Value)
    (ht : P.underlying tS = some (.slice e)) (hinfo : (P.info? e).map (fun i => (i.zero, i.size, i.bytes)) = some (some z, 5, bytes)) (hzs : z.cells.size = 5) (z0 : z.cells[0]? = some (.int .i64 0)) (z1 : z.cells[1]? = some (.int .i64 0)) (zn : ∀ i u, 2 ≤ i → z.cells[i]? = some u → noInt u) (hby : bytes ≤ 1000)
    (ho : o.op = .call { callee := .builtin .append, args := #[s, x], argTypes := #[tS, tS] }) (base : Nat) (v u : Value) (xs ys : List (List Value)) (hs : a.eval s = v) (hx : a.eval x = u) (hown : Own5 e base w v xs) (hy : Rk.RowK 5 w u ys) (hyo : ∀ y ∈ ys, Five y) (hn : xs.length + ys.length ≤ 100000) (hbase : base ≤ w.heap.size)
    (h : ∀ v' w', Own5 e base w' v' (xs ++ ys) → w.grownBy w' v.ownBlock → (∀ g, v.ownBlock = some g → ∀ j, j < xs.length * 5 → w'.cell? ⟨g, j, none⟩ = w.cell? ⟨g, j, none⟩) → wpList P ops Q rest (a.put o.dst v') w') : wpList P ops Q (o :: rest) a w := by
  refine wpList_plain hgd fun K hK => ?_
  obtain ⟨v', w', hr, h2, h3, _, h5⟩ := run_append_five (P := P) w base tS o.type e bytes z ht hinfo hzs z0 z1 zn hby v u xs ys hown hy hyo hn hbase
  unfold Oper.wp execOp
  simp only [ho, resolve, invoke, builtin, Sem.run_bind, Sem.run_pure, Result.andThen_ok, List.map_toArray, List.map_cons, List.map_nil, hs, hx, hr]
  exact hK _ _ (h v' w' h2 h3 h5)
end
end Go.Proofs.YtccaiippoephbaaGreatDoor.She
namespace Go.Proofs.YtccaiippoephbaaGreatDoor.She
open Go.RowKit Go.Lib Go.Proofs.YtccaiippoephbaaGreatDoor.Rk Go.Proofs.YtccaiippoephbaaGreatDoor.Rt Go.Proofs.YtccaiippoephbaaGreatDoor.Rig Go.Proofs.YtccaiippoephbaaGreatDoor.Seg
theorem fl_five {w w' : World} {v u : Value} {n k : Nat} {zs : List Int} {e : TypeId} {base : Nat} {xs : List (List Value)} (h : Fl w v n k zs) (ho : Own5 e base w u xs) (hg : w.grownBy w' u.ownBlock)
    (hB : ∀ (b o j : Nat), u.ownBlock = some b → j < n * k → w.cell? ⟨b, o + j, none⟩ = some (.int .i64 (at_ zs j)) → (∀ i, i < n * k → w.cell? ⟨b, o + i, none⟩ = some (.int .i64 (at_ zs i))) → w'.cell? ⟨b, o + j, none⟩ = some (.int .i64 (at_ zs j))) : Fl w' v n k zs := by
  cases hu : u.ownBlock with
  | none => exact Fl.one (B := w.heap.size) h hg.size (fun b _ hlt => hg.block b hlt (by rw [hu]; simp)) (fun b o j e hj h1 _ => by
      have := World.block_lt_of_cell? _ _ h1
      exfalso; subst e; simp at this)
  | some g => exact Fl.one (B := g) h hg.size (fun b hne hlt => hg.block b hlt (by rw [hu]; simpa using hne)) (fun b o j e hj h1 h2 => hB b o j (by rw [hu, e]) hj h1 h2)
theorem spans_five {w w' : World} {v u : Value} {S : List Sp} {e : TypeId} {base : Nat} {xs : List (List Value)} (h : Spans w v S) (ho : Own5 e base w u xs) (hg : w.grownBy w' u.ownBlock) : Spans w' v S :=
  fl_five h ho hg fun b o j hb hj h1 h2 => by
    exfalso
    have q0 := (ho.shape b hb _ _ (h2 (j / 3 * 3) (by omega))).1
    have q1 := (ho.shape b hb _ _ (h2 (j / 3 * 3 + 1) (by omega))).1
    have q2 := (ho.shape b hb _ _ (h2 (j / 3 * 3 + 2) (by omega))).1
    omega
theorem sites_five {w w' : World} {v u : Value} {T : List St} {e : TypeId} {base : Nat} {xs : List (List Value)} (h : Sites w v T) (hp : ∀ s ∈ T, 0 < s.m) (ho : Own5 e base w u xs) (hg : w.grownBy w' u.ownBlock)
    (hk : ∀ g, u.ownBlock = some g → ∀ j, j < xs.length * 5 → w'.cell? ⟨g, j, none⟩ = w.cell? ⟨g, j, none⟩) : Sites w' v T :=
  fl_five h ho hg fun b o j hb hj h1 h2 => by
    have hT : j / 2 < T.length := by omega
    have q0 := ho.shape b hb _ _ (h2 (j / 2 * 2) (by omega))
    have q1 := (ho.shape b hb _ _ (h2 (j / 2 * 2 + 1) (by omega))).1
    have m0 := (fl2_at T (j / 2) hT).1
    have hm := hp (st T (j / 2)) (by rw [st_get hT]; exact List.getElem_mem hT)
    have hne : ¬ (xs.length * 5 ≤ o + j / 2 * 2) := fun q => by
      have := q0.2 q
      omega
    have q2 := q0.1
    rw [hk b hb (o + j) (by omega)]
    exact h1
theorem rope_grown {w w' : World} {L : Bytes} {v : Value} {row : Option Nat} (h : IsRope w L v) (hg : w.grownBy w' row) (hr : ∀ b, Con.Ty w b → row ≠ some b) : IsRope w' L v := by
  obtain ⟨t, r1, r2, r3⟩ := h
  exact ⟨t, Con.Rp.same (fun b hb => hg.block b (by obtain ⟨cs, hc⟩ := hb; exact (Array.getElem?_eq_some_iff.1 hc).1) (fun e => hr b hb e.symm)) hg.size r1, r2, r3⟩
theorem row_noty {w : World} {base k n : Nat} {e : TypeId} {u : Value} {xs : List Value} (hown : w.ownsRow base e k u n xs) (he : e ≠ 169) {b : Nat} (hb : Con.Ty w b) : u.ownBlock ≠ some b := by
  obtain ⟨cs, hc⟩ := hb
  intro h
  rcases hown.2 with ⟨rfl, _⟩ | ⟨g, cap, cur, rfl, hbg, hg, _⟩
  · cases h
  · have : g = b := by simpa [Value.ownBlock] using h
    subst this
    rw [hg] at hc
    simp at hc
    exact he hc.2
def SgP (w : World) (x : List Value) (g : G5) : Prop := SgC w x g ∧ ∀ s ∈ g.T, 0 < s.m
theorem SgP.below {w w' : World} {x : List Value} {g : G5} (h : SgP w x g) (hb : Below w.heap.size w w') : SgP w' x g := ⟨h.1.below hb, h.2⟩
theorem SgC.five {w : World} {x : List Value} {g : G5} (h : SgC w x g) : Five x := by
  obtain ⟨tp, sv, tv, rfl, hg⟩ := h
  obtain ⟨q, sa, sc, ta, tc, e, _⟩ := hg.open_
  injection e with e
  simp only [Array.mk.injEq, List.cons.injEq, and_true, true_and] at e
  obtain ⟨rfl, rfl, rfl⟩ := e
  refine ⟨rfl, fun i u hi hu z hz => ?_, fun u hu => ?_⟩
  · subst hz
    match i, hi, hu with
    | 2, _, hu => simp at hu
    | 3, _, hu => simp at hu
    | 4, _, hu => simp at hu
    | i + 5, _, hu => simp at hu
  · simp at hu
    rcases hu with rfl | rfl | rfl | rfl | rfl <;> rfl
theorem PlC.five {w : World} {x : List Value} {g : G5} (h : PlC w x g) : Five x := by
  obtain ⟨sv, tv, rfl, hg⟩ := h
  obtain ⟨sa, sc, ta, tc, e, _⟩ := hg.open_
  injection e with e
  simp only [Array.mk.injEq, List.cons.injEq, and_true, true_and] at e
  obtain ⟨rfl, rfl⟩ := e
  refine ⟨rfl, fun i u hi hu z hz => ?_, fun u hu => ?_⟩
  · subst hz
    match i, hi, hu with
    | 2, _, hu => simp at hu
    | 3, _, hu => simp at hu
    | 4, _, hu => simp at hu
    | i + 5, _, hu => simp at hu
  · simp at hu
    rcases hu with rfl | rfl | rfl | rfl | rfl <;> rfl
theorem SgP.grown {w w' : World} {x : List Value} {g : G5} {u : Value} {e : TypeId} {base : Nat} {xs : List (List Value)} (h : SgP w x g) (he : e ≠ 169) (ho : Own5 e base w u xs) (hg : w.grownBy w' u.ownBlock)
    (hk : ∀ g, u.ownBlock = some g → ∀ j, j < xs.length * 5 → w'.cell? ⟨g, j, none⟩ = w.cell? ⟨g, j, none⟩) : SgP w' x g := by
  obtain ⟨⟨tp, sv, tv, rfl, t2, s2, v2, e2, h1, h2, h3⟩, hp⟩ := h
  injection e2 with e2
  simp only [Array.mk.injEq, List.cons.injEq, and_true, true_and] at e2
  obtain ⟨rfl, rfl, rfl⟩ := e2
  exact ⟨⟨tp, sv, tv, rfl, tp, sv, tv, rfl, rope_grown h1 hg (fun b hb => row_noty ho.own.2 he hb), spans_five h2 ho hg, sites_five h3 hp ho hg hk⟩, hp⟩
def OSg (base : Nat) (w : World) (v : Value) (G : List G5) : Prop := ∃ p : List (List Value × G5), p.map Prod.snd = G ∧ Own5 119 base w v (p.map Prod.fst) ∧ ∀ x ∈ p, SgP w x.1 x.2
theorem OSg.nil_ (base : Nat) (w : World) : OSg base w (.slice none 0 0) [] := ⟨[], rfl, Own5.nil_ _ _ _, fun _ h => by simp at h⟩
theorem OSg.below {base : Nat} {w w' : World} {v : Value} {G : List G5} (h : OSg base w v G) (hb : Below w.heap.size w w') : OSg base w' v G := by
  obtain ⟨p, h1, h2, h3⟩ := h
  exact ⟨p, h1, h2.below hb, fun x hx => (h3 x hx).below hb⟩
theorem OSg.sgs {base : Nat} {w : World} {v : Value} {G : List G5} (h : OSg base w v G) : Sgs w v G := by
  obtain ⟨p, h1, h2, h3⟩ := h
  exact ⟨p, h1, h2.own.row, fun x hx => (h3 x hx).1⟩
theorem OSg.is_slice {base : Nat} {w : World} {v : Value} {G : List G5} (h : OSg base w v G) : ∃ a cap, v = .slice a G.length cap := Rk.Rows.is_slice h.sgs
theorem OSg.row {base : Nat} {w : World} {s : Value} {G : List G5} (h : OSg base w s G) : ∃ xs : List (List Value), xs.length = G.length ∧ Own5 119 base w s xs ∧
    ∀ (x : List Value) (s' : Value) (w' : World) (g : G5), Own5 119 base w' s' (xs ++ [x]) → w.grownBy w' s.ownBlock → (∀ g, s.ownBlock = some g → ∀ j, j < xs.length * 5 → w'.cell? ⟨g, j, none⟩ = w.cell? ⟨g, j, none⟩) → SgP w x g → OSg base w' s' (G ++ [g]) := by
  obtain ⟨p, h1, h2, h3⟩ := h
  refine ⟨p.map Prod.fst, by rw [← h1, List.length_map, List.length_map], h2, fun x s' w' g h5 hg hk hx => ⟨p ++ [(x, g)], by rw [List.map_append, h1]; rfl, by rw [List.map_append]; exact h5, fun y hy => ?_⟩⟩
  rcases List.mem_append.1 hy with hy | hy
  · exact (h3 y hy).grown (by decide) h2 hg hk
  · simp at hy
    subst hy
    exact hx.grown (by decide) h2 hg hk
theorem infoSeg : (Tryz.prog.info? 119).map (fun i => (i.zero, i.size, i.bytes)) = some (some (.agg #[.int .i64 0, .int .i64 0, .pointer none, .slice none 0 0, .slice none 0 0]), 5, 72) := by kernel_rfl
theorem zn_of {x : Value} {a b c d e : Value} (hx : x = .agg #[a, b, c, d, e]) (hc : noInt c) (hd : noInt d) (he : noInt e) (h1 : x.cells = #[a, b, c, d, e]) : ∀ i u, 2 ≤ i → x.cells[i]? = some u → noInt u := fun i u hi hu => by
  rw [h1] at hu
  match i, hi, hu with
  | 2, _, hu => simp at hu; subst hu; exact hc
  | 3, _, hu => simp at hu; subst hu; exact hd
  | 4, _, hu => simp at hu; subst hu; exact he
  | i + 5, _, hu => simp at hu
theorem znSeg : ∀ i u, 2 ≤ i → (Value.agg #[.int .i64 0, .int .i64 0, .pointer none, .slice none 0 0, .slice none 0 0]).cells[i]? = some u → noInt u :=
  zn_of rfl (fun z h => by cases h) (fun z h => by cases h) (fun z h => by cases h) rfl
end Go.Proofs.YtccaiippoephbaaGreatDoor.She
