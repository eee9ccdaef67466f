/- Sheets: rows of segments, and of plain ones, of the call's own. -/
import Derived.Test.YtcpdoicbekcpeaaDoorHk
import Derived.Test.YtcpdoicbekcpeaaDoorHa
import Derived.Test.YtcpdoicbekcpeaaDoorQs
set_option linter.unusedVariables false
set_option linter.unusedSimpArgs false
set_option maxRecDepth 100000
namespace Go.Proofs.YtcpdoicbekcpeaaDoor.She
open Go.RowKit Go.Lib Go.Proofs.YtcpdoicbekcpeaaDoor.Rk Go.Proofs.YtcpdoicbekcpeaaDoor.Rt Go.Proofs.YtcpdoicbekcpeaaDoor.Rig Go.Proofs.YtcpdoicbekcpeaaDoor.Seg

theorem fl_five {w w' : World} {v u : Value} {n k : Nat} {zs : List Int} {e : TypeId} {base : Nat} {xs : List (List Value)} (h : Fl w v n k zs) (ho : Own5 e base w u xs) (hg : w.grownBy w' u.ownBlock)
    (hB : ∀ (b o j : Nat), u.ownBlock = some b → j < n * k → w.cell? ⟨b, o + j, none⟩ = some (.int .i64 (at_ zs j)) → (∀ i, i < n * k → w.cell? ⟨b, o + i, none⟩ = some (.int .i64 (at_ zs i))) → w'.cell? ⟨b, o + j, none⟩ = some (.int .i64 (at_ zs j))) : Fl w' v n k zs := by
  cases hu : u.ownBlock with
  | none => exact Fl.one (B := w.heap.size) h hg.size (fun b _ hlt => hg.block b hlt (by rw [hu]; simp)) (fun b o j e hj h1 _ => by
      have := World.block_lt_of_cell? _ _ h1
      exfalso; subst e; simp at this)
  | some g => exact Fl.one (B := g) h hg.size (fun b hne hlt => hg.block b hlt (by rw [hu]; simpa using hne)) (fun b o j e hj h1 h2 => hB b o j (by rw [hu, e]) hj h1 h2)
theorem spans_five {w w' : World} {v u : Value} {S : List Sp} {e : TypeId} {base : Nat} {xs : List (List Value)} (h : Spans w v S) (ho : Own5 e base w u xs) (hg : w.grownBy w' u.ownBlock) : Spans w' v S :=
  fl_five h ho hg fun b o j hb hj h1 h2 => by
    exfalso
    have q0 := (ho.shape b hb _ _ (h2 (j / 3 * 3) (by omega))).1
    have q1 := (ho.shape b hb _ _ (h2 (j / 3 * 3 + 1) (by omega))).1
    have q2 := (ho.shape b hb _ _ (h2 (j / 3 * 3 + 2) (by omega))).1
    omega
theorem sites_five {w w' : World} {v u : Value} {T : List St} {e : TypeId} {base : Nat} {xs : List (List Value)} (h : Sites w v T) (hp : ∀ s ∈ T, 0 < s.m) (ho : Own5 e base w u xs) (hg : w.grownBy w' u.ownBlock)
    (hk : ∀ g, u.ownBlock = some g → ∀ j, j < xs.length * 5 → w'.cell? ⟨g, j, none⟩ = w.cell? ⟨g, j, none⟩) : Sites w' v T :=
  fl_five h ho hg fun b o j hb hj h1 h2 => by
    have hT : j / 2 < T.length := by omega
    have q0 := ho.shape b hb _ _ (h2 (j / 2 * 2) (by omega))
    have q1 := (ho.shape b hb _ _ (h2 (j / 2 * 2 + 1) (by omega))).1
    have m0 := (fl2_at T (j / 2) hT).1
    have hm := hp (st T (j / 2)) (by rw [st_get hT]; exact List.getElem_mem hT)
    have hne : ¬ (xs.length * 5 ≤ o + j / 2 * 2) := fun q => by
      have := q0.2 q
      omega
    have q2 := q0.1
    rw [hk b hb (o + j) (by omega)]
    exact h1
theorem rope_grown {w w' : World} {L : Bytes} {v : Value} {row : Option Nat} (h : IsRope w L v) (hg : w.grownBy w' row) (hr : ∀ b, Con.Ty w b → row ≠ some b) : IsRope w' L v := by
  obtain ⟨t, r1, r2, r3⟩ := h
  exact ⟨t, Con.Rp.same (fun b hb => hg.block b (by obtain ⟨cs, hc⟩ := hb; exact (Array.getElem?_eq_some_iff.1 hc).1) (fun e => hr b hb e.symm)) hg.size r1, r2, r3⟩
theorem row_noty {w : World} {base k n : Nat} {e : TypeId} {u : Value} {xs : List Value} (hown : w.ownsRow base e k u n xs) (he : e ≠ 126) {b : Nat} (hb : Con.Ty w b) : u.ownBlock ≠ some b := by
  obtain ⟨cs, hc⟩ := hb
  intro h
  rcases hown.2 with ⟨rfl, _⟩ | ⟨g, cap, cur, rfl, hbg, hg, _⟩
  · cases h
  · have : g = b := by simpa [Value.ownBlock] using h
    subst this
    rw [hg] at hc
    simp at hc
    exact he hc.2

/-- An element, of positive marks. -/
def SgP (w : World) (x : List Value) (g : G5) : Prop := SgC w x g ∧ ∀ s ∈ g.T, 0 < s.m
def PlP (w : World) (x : List Value) (g : G5) : Prop := PlC w x g ∧ ∀ s ∈ g.T, 0 < s.m
theorem SgP.below {w w' : World} {x : List Value} {g : G5} (h : SgP w x g) (hb : Below w.heap.size w w') : SgP w' x g := ⟨h.1.below hb, h.2⟩
theorem PlP.below {w w' : World} {x : List Value} {g : G5} (h : PlP w x g) (hb : Below w.heap.size w w') : PlP w' x g := ⟨h.1.below hb, h.2⟩
theorem SgC.five {w : World} {x : List Value} {g : G5} (h : SgC w x g) : Five x := by
  obtain ⟨tp, sv, tv, rfl, hg⟩ := h
  obtain ⟨q, sa, sc, ta, tc, e, _⟩ := hg.open_
  injection e with e
  simp only [Array.mk.injEq, List.cons.injEq, and_true, true_and] at e
  obtain ⟨rfl, rfl, rfl⟩ := e
  refine ⟨rfl, fun i u hi hu z hz => ?_, fun u hu => ?_⟩
  · subst hz
    match i, hi, hu with
    | 2, _, hu => simp at hu
    | 3, _, hu => simp at hu
    | 4, _, hu => simp at hu
    | i + 5, _, hu => simp at hu
  · simp at hu
    rcases hu with rfl | rfl | rfl | rfl | rfl <;> rfl
theorem PlC.five {w : World} {x : List Value} {g : G5} (h : PlC w x g) : Five x := by
  obtain ⟨sv, tv, rfl, hg⟩ := h
  obtain ⟨sa, sc, ta, tc, e, _⟩ := hg.open_
  injection e with e
  simp only [Array.mk.injEq, List.cons.injEq, and_true, true_and] at e
  obtain ⟨rfl, rfl⟩ := e
  refine ⟨rfl, fun i u hi hu z hz => ?_, fun u hu => ?_⟩
  · subst hz
    match i, hi, hu with
    | 2, _, hu => simp at hu
    | 3, _, hu => simp at hu
    | 4, _, hu => simp at hu
    | i + 5, _, hu => simp at hu
  · simp at hu
    rcases hu with rfl | rfl | rfl | rfl | rfl <;> rfl
/-- .. behind an append to a row of the call's own. -/
theorem SgP.grown {w w' : World} {x : List Value} {g : G5} {u : Value} {e : TypeId} {base : Nat} {xs : List (List Value)} (h : SgP w x g) (he : e ≠ 126) (ho : Own5 e base w u xs) (hg : w.grownBy w' u.ownBlock)
    (hk : ∀ g, u.ownBlock = some g → ∀ j, j < xs.length * 5 → w'.cell? ⟨g, j, none⟩ = w.cell? ⟨g, j, none⟩) : SgP w' x g := by
  obtain ⟨⟨tp, sv, tv, rfl, t2, s2, v2, e2, h1, h2, h3⟩, hp⟩ := h
  injection e2 with e2
  simp only [Array.mk.injEq, List.cons.injEq, and_true, true_and] at e2
  obtain ⟨rfl, rfl, rfl⟩ := e2
  exact ⟨⟨tp, sv, tv, rfl, tp, sv, tv, rfl, rope_grown h1 hg (fun b hb => row_noty ho.own.2 he hb), spans_five h2 ho hg, sites_five h3 hp ho hg hk⟩, hp⟩
theorem PlP.grown {w w' : World} {x : List Value} {g : G5} {u : Value} {e : TypeId} {base : Nat} {xs : List (List Value)} (h : PlP w x g) (ho : Own5 e base w u xs) (hg : w.grownBy w' u.ownBlock)
    (hk : ∀ g, u.ownBlock = some g → ∀ j, j < xs.length * 5 → w'.cell? ⟨g, j, none⟩ = w.cell? ⟨g, j, none⟩) : PlP w' x g := by
  obtain ⟨⟨sv, tv, rfl, s2, v2, e2, h2, h3⟩, hp⟩ := h
  injection e2 with e2
  simp only [Array.mk.injEq, List.cons.injEq, and_true, true_and] at e2
  obtain ⟨rfl, rfl⟩ := e2
  exact ⟨⟨sv, tv, rfl, sv, tv, rfl, spans_five h2 ho hg, sites_five h3 hp ho hg hk⟩, hp⟩
/-- Rows of the call's own. -/
def OSg (base : Nat) (w : World) (v : Value) (G : List G5) : Prop := ∃ p : List (List Value × G5), p.map Prod.snd = G ∧ Own5 33 base w v (p.map Prod.fst) ∧ ∀ x ∈ p, SgP w x.1 x.2
def OPl (base : Nat) (w : World) (v : Value) (G : List G5) : Prop := ∃ p : List (List Value × G5), p.map Prod.snd = G ∧ Own5 25 base w v (p.map Prod.fst) ∧ ∀ x ∈ p, PlP w x.1 x.2
theorem OSg.nil_ (base : Nat) (w : World) : OSg base w (.slice none 0 0) [] := ⟨[], rfl, Own5.nil_ _ _ _, fun _ h => by simp at h⟩
theorem OPl.nil_ (base : Nat) (w : World) : OPl base w (.slice none 0 0) [] := ⟨[], rfl, Own5.nil_ _ _ _, fun _ h => by simp at h⟩
theorem OSg.below {base : Nat} {w w' : World} {v : Value} {G : List G5} (h : OSg base w v G) (hb : Below w.heap.size w w') : OSg base w' v G := by
  obtain ⟨p, h1, h2, h3⟩ := h
  exact ⟨p, h1, h2.below hb, fun x hx => (h3 x hx).below hb⟩
theorem OPl.below {base : Nat} {w w' : World} {v : Value} {G : List G5} (h : OPl base w v G) (hb : Below w.heap.size w w') : OPl base w' v G := by
  obtain ⟨p, h1, h2, h3⟩ := h
  exact ⟨p, h1, h2.below hb, fun x hx => (h3 x hx).below hb⟩
theorem OSg.sgs {base : Nat} {w : World} {v : Value} {G : List G5} (h : OSg base w v G) : Sgs w v G := by
  obtain ⟨p, h1, h2, h3⟩ := h
  exact ⟨p, h1, h2.own.row, fun x hx => (h3 x hx).1⟩
theorem OPl.pls {base : Nat} {w : World} {v : Value} {G : List G5} (h : OPl base w v G) : Pls w v G := by
  obtain ⟨p, h1, h2, h3⟩ := h
  exact ⟨p, h1, h2.own.row, fun x hx => (h3 x hx).1⟩
theorem OSg.is_slice {base : Nat} {w : World} {v : Value} {G : List G5} (h : OSg base w v G) : ∃ a cap, v = .slice a G.length cap := Rk.Rows.is_slice h.sgs
theorem OPl.is_slice {base : Nat} {w : World} {v : Value} {G : List G5} (h : OPl base w v G) : ∃ a cap, v = .slice a G.length cap := Rk.Rows.is_slice h.pls
/-- An element more: what the append asks, and gives. -/
theorem OSg.row {base : Nat} {w : World} {s : Value} {G : List G5} (h : OSg base w s G) : ∃ xs : List (List Value), xs.length = G.length ∧ Own5 33 base w s xs ∧
    ∀ (x : List Value) (s' : Value) (w' : World) (g : G5), Own5 33 base w' s' (xs ++ [x]) → w.grownBy w' s.ownBlock → (∀ g, s.ownBlock = some g → ∀ j, j < xs.length * 5 → w'.cell? ⟨g, j, none⟩ = w.cell? ⟨g, j, none⟩) → SgP w x g → OSg base w' s' (G ++ [g]) := by
  obtain ⟨p, h1, h2, h3⟩ := h
  refine ⟨p.map Prod.fst, by rw [← h1, List.length_map, List.length_map], h2, fun x s' w' g h5 hg hk hx => ⟨p ++ [(x, g)], by rw [List.map_append, h1]; rfl, by rw [List.map_append]; exact h5, fun y hy => ?_⟩⟩
  rcases List.mem_append.1 hy with hy | hy
  · exact (h3 y hy).grown (by decide) h2 hg hk
  · simp at hy
    subst hy
    exact hx.grown (by decide) h2 hg hk
theorem OPl.row {base : Nat} {w : World} {s : Value} {G : List G5} (h : OPl base w s G) : ∃ xs : List (List Value), xs.length = G.length ∧ Own5 25 base w s xs ∧
    ∀ (x : List Value) (s' : Value) (w' : World) (g : G5), Own5 25 base w' s' (xs ++ [x]) → w.grownBy w' s.ownBlock → (∀ g, s.ownBlock = some g → ∀ j, j < xs.length * 5 → w'.cell? ⟨g, j, none⟩ = w.cell? ⟨g, j, none⟩) → PlP w x g → OPl base w' s' (G ++ [g]) := by
  obtain ⟨p, h1, h2, h3⟩ := h
  refine ⟨p.map Prod.fst, by rw [← h1, List.length_map, List.length_map], h2, fun x s' w' g h5 hg hk hx => ⟨p ++ [(x, g)], by rw [List.map_append, h1]; rfl, by rw [List.map_append]; exact h5, fun y hy => ?_⟩⟩
  rcases List.mem_append.1 hy with hy | hy
  · exact (h3 y hy).grown h2 hg hk
  · simp at hy
    subst hy
    exact hx.grown h2 hg hk
theorem infoSeg : (Tryd.prog.info? 33).map (fun i => (i.zero, i.size, i.bytes)) = some (some (.agg #[.int .i64 0, .int .i64 0, .pointer none, .slice none 0 0, .slice none 0 0]), 5, 72) := by kernel_rfl
theorem infoPl : (Tryd.prog.info? 25).map (fun i => (i.zero, i.size, i.bytes)) = some (some (.agg #[.int .i64 0, .int .i64 0, .string (ByteArray.mk #[]), .slice none 0 0, .slice none 0 0]), 5, 80) := by kernel_rfl
theorem zn_of {x : Value} {a b c d e : Value} (hx : x = .agg #[a, b, c, d, e]) (hc : noInt c) (hd : noInt d) (he : noInt e) (h1 : x.cells = #[a, b, c, d, e]) : ∀ i u, 2 ≤ i → x.cells[i]? = some u → noInt u := fun i u hi hu => by
  rw [h1] at hu
  match i, hi, hu with
  | 2, _, hu => simp at hu; subst hu; exact hc
  | 3, _, hu => simp at hu; subst hu; exact hd
  | 4, _, hu => simp at hu; subst hu; exact he
  | i + 5, _, hu => simp at hu
theorem znSeg : ∀ i u, 2 ≤ i → (Value.agg #[.int .i64 0, .int .i64 0, .pointer none, .slice none 0 0, .slice none 0 0]).cells[i]? = some u → noInt u :=
  zn_of rfl (fun z h => by cases h) (fun z h => by cases h) (fun z h => by cases h) rfl
theorem znPl : ∀ i u, 2 ≤ i → (Value.agg #[.int .i64 0, .int .i64 0, .string (ByteArray.mk #[]), .slice none 0 0, .slice none 0 0]).cells[i]? = some u → noInt u :=
  zn_of rfl (fun z h => by cases h) (fun z h => by cases h) (fun z h => by cases h) rfl
end Go.Proofs.YtcpdoicbekcpeaaDoor.She
