/- Sheets: Set of the program; five cells of a row stored. -/
import Derived.Test.YtcpdoicbekcpeaaDoorHr
import Derived.Test.YtcpdoicbekcpeaaDoorQs
import Derived.Deep.RegionHeld3
import Derived.Deep.DeepCutAuto
import Derived.Deep.CutBlock
set_option linter.unusedVariables false
set_option linter.unusedSimpArgs false
set_option maxRecDepth 100000
namespace Go.Proofs.YtcpdoicbekcpeaaDoor.She
open Go.RowKit Go.Lib Go.Shelf Go.Proofs.YtcpdoicbekcpeaaDoor.Rk Go.Proofs.YtcpdoicbekcpeaaDoor.Rt Go.Proofs.YtcpdoicbekcpeaaDoor.Rig Go.Proofs.YtcpdoicbekcpeaaDoor.Seg

theorem row_cell5 {w : World} {b i : Nat} {cs : Array Value} {e : TypeId} (h : w.heap[b]? = some (.cells cs e (0, 0))) : w.cell? ⟨b, i, none⟩ = cs[i]? := cell_of_row w b i cs e (0, 0) h
/-- Five cells of block g, from o on. -/
def st5 (w : World) (g o : Nat) (y0 y1 y2 y3 y4 : Value) : World := ((((w.setCell ⟨g, o, none⟩ y0).setCell ⟨g, o + 1, none⟩ y1).setCell ⟨g, o + 2, none⟩ y2).setCell ⟨g, o + 3, none⟩ y3).setCell ⟨g, o + 4, none⟩ y4
theorem st5_block {w : World} {g o : Nat} {y0 y1 y2 y3 y4 : Value} {cs : Array Value} {e : TypeId} (h : w.heap[g]? = some (.cells cs e (0, 0))) :
    (st5 w g o y0 y1 y2 y3 y4).heap[g]? = some (.cells (((((cs.setIfInBounds o y0).setIfInBounds (o + 1) y1).setIfInBounds (o + 2) y2).setIfInBounds (o + 3) y3).setIfInBounds (o + 4) y4) e (0, 0)) :=
  set_block (set_block (set_block (set_block (set_block h))))
theorem st5_below {w W : World} {base g o : Nat} (y0 y1 y2 y3 y4 : Value) (hb : Below base w W) (hg : base ≤ g) : Below base w (st5 W g o y0 y1 y2 y3 y4) :=
  below_put (below_put (below_put (below_put (below_put hb hg _) hg _) hg _) hg _) hg _
theorem row_st5 {w : World} {g cap k : Nat} {xs : List (List Value)} {y0 y1 y2 y3 y4 : Value} {cs : Array Value} {e : TypeId} (h0 : ∀ x ∈ xs, x.length = 5) (h1 : xs.length ≤ cap) (hm : cap ≤ maxLen) (hcs : cs.size = cap * 5) (hk : k < xs.length)
    (h : w.heap[g]? = some (.cells cs e (0, 0))) (hx : ∀ j (hj : j < xs.length) i u, xs[j][i]? = some u → cs[j * 5 + i]? = some u) : Rk.RowK 5 (st5 w g (k * 5) y0 y1 y2 y3 y4) (.slice (some ⟨g, 0, none⟩) xs.length cap) (xs.set k [y0, y1, y2, y3, y4]) := by
  have hb := st5_block (o := k * 5) (y0 := y0) (y1 := y1) (y2 := y2) (y3 := y3) (y4 := y4) h
  refine ⟨fun x hx' => ?_, some ⟨g, 0, none⟩, cap, by rw [List.length_set], by rw [List.length_set]; exact h1, hm, .inr ⟨g, 0, rfl, (Array.getElem?_eq_some_iff.1 hb).1, fun j hj i u hu => ?_⟩⟩
  · rcases List.mem_or_eq_of_mem_set hx' with q | q
    · exact h0 x q
    · rw [q]; rfl
  · rw [List.length_set] at hj
    rw [cell_of_row _ g _ _ _ (0, 0) hb, Nat.zero_add]
    have hsz : k * 5 + 4 < cs.size := by rw [hcs]; omega
    by_cases e : j = k
    · subst e
      rw [List.getElem_set_self] at hu
      rcases i with _ | _ | _ | _ | _ | i
      · simp at hu; subst hu
        rw [Array.getElem?_setIfInBounds_ne (by omega), Array.getElem?_setIfInBounds_ne (by omega), Array.getElem?_setIfInBounds_ne (by omega), Array.getElem?_setIfInBounds_ne (by omega), Nat.add_zero, Array.getElem?_setIfInBounds_self_of_lt (by omega)]
      · simp at hu; subst hu
        rw [Array.getElem?_setIfInBounds_ne (by omega), Array.getElem?_setIfInBounds_ne (by omega), Array.getElem?_setIfInBounds_ne (by omega), Array.getElem?_setIfInBounds_self_of_lt (by simp; omega)]
      · simp at hu; subst hu
        rw [Array.getElem?_setIfInBounds_ne (by omega), Array.getElem?_setIfInBounds_ne (by omega), Array.getElem?_setIfInBounds_self_of_lt (by simp; omega)]
      · simp at hu; subst hu
        rw [Array.getElem?_setIfInBounds_ne (by omega), Array.getElem?_setIfInBounds_self_of_lt (by simp; omega)]
      · simp at hu; subst hu
        rw [Array.getElem?_setIfInBounds_self_of_lt (by simp; omega)]
      · simp at hu
    · rw [List.getElem_set_ne (by omega)] at hu
      have hi : i < 5 := by
        rcases Nat.lt_or_ge i 5 with q | q
        · exact q
        · rw [List.getElem?_eq_none (by rw [h0 _ (List.getElem_mem hj)]; exact q)] at hu; cases hu
      rw [Array.getElem?_setIfInBounds_ne (by omega), Array.getElem?_setIfInBounds_ne (by omega), Array.getElem?_setIfInBounds_ne (by omega), Array.getElem?_setIfInBounds_ne (by omega), Array.getElem?_setIfInBounds_ne (by omega)]
      exact hx j hj i u hu
/-- What such a row is made of. -/
theorem own_open {e : TypeId} {base : Nat} {w : World} {v : Value} {xs : List (List Value)} (h : OwnK e 5 base w v xs) (hx : 0 < xs.length) : ∃ g cap cs, v = .slice (some ⟨g, 0, none⟩) xs.length cap ∧ base ≤ g ∧ w.heap[g]? = some (.cells cs e (0, 0)) ∧ xs.length ≤ cap ∧ cap ≤ maxLen ∧ cs.size = cap * 5 ∧ ∀ j (hj : j < xs.length) i u, xs[j][i]? = some u → cs[j * 5 + i]? = some u := by
  obtain ⟨h0, h1⟩ := h
  rcases h1.2 with ⟨rfl, h2⟩ | ⟨g, cap, cs, rfl, hb, hg, hle, hm, hsz, htake⟩
  · omega
  · refine ⟨g, cap, cs, rfl, hb, hg, hle, hm, hsz, fun j hj i u hu => ?_⟩
    have hi : i < 5 := by
      rcases Nat.lt_or_ge i 5 with q | q
      · exact q
      · rw [List.getElem?_eq_none (by rw [(h0 _ (List.getElem_mem hj)).1]; exact q)] at hu; cases hu
    have hc := World.ownsRow.cells h1 (g := g) rfl (j * 5 + i) u (by rw [flat_get (fun x hx => (h0 x hx).1) j hj i hi]; exact hu)
    rw [kadd, Nat.zero_add, cell_of_row w g _ _ _ (0, 0) hg] at hc
    exact hc
def setG (G : List G5) (x : G5) : List G5 := match placeN G x.i with
  | some k => G.set k x
  | none => G
theorem setG_yes {G : List G5} {x : G5} {k : Nat} (h : placeN G x.i = some k) : setG G x = G.set k x := by unfold setG; rw [h]
theorem setG_no {G : List G5} {x : G5} (h : placeN G x.i = none) : setG G x = G := by unfold setG; rw [h]
def GiveSh (f : Bool) (G : List G5) (w : World) (e : Ending) (w' : World) : Prop := ∃ v, e = .returned v ∧ Sh w' v f G ∧ Below w.heap.size w w'
theorem box3' (w : World) (cs ds zs : Array Value) (ty td tz : TypeId) : Below w.heap.size w (((w.alloc (.cells cs ty)).alloc (.cells ds td)).alloc (.cells zs tz)) ∧ (((w.alloc (.cells cs ty)).alloc (.cells ds td)).alloc (.cells zs tz)).heap[w.heap.size]? = some (.cells cs ty (0, 0)) ∧ (((w.alloc (.cells cs ty)).alloc (.cells ds td)).alloc (.cells zs tz)).heap[w.heap.size + 1]? = some (.cells ds td (0, 0)) ∧
    (((w.alloc (.cells cs ty)).alloc (.cells ds td)).alloc (.cells zs tz)).heap[w.heap.size + 1 + 1]? = some (.cells zs tz (0, 0)) ∧ (((w.alloc (.cells cs ty)).alloc (.cells ds td)).alloc (.cells zs tz)).heap.size = w.heap.size + 3 := by
  obtain ⟨b, r0, r1, l⟩ := box2 w cs ds ty td
  obtain ⟨b2, r2, l2⟩ := box1 ((w.alloc (.cells cs ty)).alloc (.cells ds td)) zs tz
  refine ⟨below_more b b2, (b2.block _ (by omega)).trans r0, (b2.block _ (by omega)).trans r1, ?_, by omega⟩
  have : w.heap.size + 1 + 1 = ((w.alloc (.cells cs ty)).alloc (.cells ds td)).heap.size := by omega
  rw [this]
  exact r2
set_option maxHeartbeats 16000000 in
theorem sset_any {v u : Value} {f : Bool} {G : List G5} {y : G5} (w : World) (h : Sh w v f G) (hu : Sg w u y.i y.l y.L y.S y.T) (hn : G.length ≤ 10000) : Calls Tryd.prog 38 #[v, u] w (GiveSh f (setG G y) w) := by
  obtain ⟨a, c, rfl, hs⟩ := h.open_
  obtain ⟨q, a3, c3, a4, c4, rfl, _, _, _⟩ := hu.open_
  obtain ⟨B0, R0, R1, R2, L0⟩ := box3' w #[.bool f, .slice a G.length c] #[.int .i64 y.i, .int .i64 y.l, .pointer q, .slice a3 y.S.length c3, .slice a4 y.T.length c4] #[.bool false, .slice none 0 0] 50 33 50
  obtain ⟨W0, hW0⟩ : ∃ W0, W0 = ((w.alloc (.cells #[.bool f, .slice a G.length c] 50)).alloc (.cells #[.int .i64 y.i, .int .i64 y.l, .pointer q, .slice a3 y.S.length c3, .slice a4 y.T.length c4] 33)).alloc (.cells #[.bool false, .slice none 0 0] 50) := ⟨_, rfl⟩
  rw [← hW0] at B0 R0 R1 R2 L0
  have HB0 := Lib.hid B0
  have HW0 := Lib.hid hW0
  have BX : Hid (∀ w', Below W0.heap.size W0 w' → Below W0.heap.size W0 w' ∧ (w'.cell? ⟨w.heap.size, 0, none⟩ = some (.bool f) ∧ w'.cell? ⟨w.heap.size, 1, none⟩ = some (.slice a G.length c)) ∧
      (w'.cell? ⟨w.heap.size + 1, 0, none⟩ = some (.int .i64 y.i) ∧ w'.cell? ⟨w.heap.size + 1, 1, none⟩ = some (.int .i64 y.l) ∧ w'.cell? ⟨w.heap.size + 1, 2, none⟩ = some (.pointer q) ∧ w'.cell? ⟨w.heap.size + 1, 3, none⟩ = some (.slice a3 y.S.length c3) ∧ w'.cell? ⟨w.heap.size + 1, 4, none⟩ = some (.slice a4 y.T.length c4))) := fun w' hb => by
    have r0 := (hb.block w.heap.size (by omega)).trans R0
    have r1 := (hb.block (w.heap.size + 1) (by omega)).trans R1
    exact ⟨hb, ⟨by rw [row_cell5 r0]; rfl, by rw [row_cell5 r0]; rfl⟩, five_cells r1⟩
  have RY : Hid (∀ w', Below W0.heap.size W0 w' → w'.heap[w.heap.size + 1]? = some (.cells #[.int .i64 y.i, .int .i64 y.l, .pointer q, .slice a3 y.S.length c3, .slice a4 y.T.length c4] 33 (0, 0))) := fun w' hb => (hb.block (w.heap.size + 1) (by omega)).trans R1
  have HL0 : Hid (W0.heap.size = w.heap.size + 3) := L0
  have RX : Hid (∀ w', Below W0.heap.size W0 w' → w'.heap[w.heap.size]? = some (.cells #[.bool f, .slice a G.length c] 50 (0, 0)) ∧ w'.heap[w.heap.size + 1 + 1]? = some (.cells #[.bool false, .slice none 0 0] 50 (0, 0))) := fun w' hb => ⟨(hb.block w.heap.size (by omega)).trans R0, (hb.block (w.heap.size + 1 + 1) (by omega)).trans R2⟩
  have KR : Hid (Below W0.heap.size W0 W0) := Below.refl _ _
  have KF : Hid (∀ w', Below W0.heap.size W0 w' → Below w.heap.size w w') := fun w' hb => below_more HB0.out hb
  have HS : Hid (∀ w', Below w.heap.size w w' → Sgs w' (.slice a G.length c) G) := fun w' hb => hs.below hb
  have HY : Hid (∀ w', Below w.heap.size w w' → SgC w' [.int .i64 y.i, .int .i64 y.l, .pointer q, .slice a3 y.S.length c3, .slice a4 y.T.length c4] y) := fun w' hb => ⟨_, _, _, rfl, hu.below hb (Nat.le_refl _)⟩
  have CI : Hid (∀ w', Below W0.heap.size W0 w' → Calls Tryd.prog 45 #[.agg #[.int .i64 y.i, .int .i64 y.l, .pointer q, .slice a3 y.S.length c3, .slice a4 y.T.length c4]] w' fun e w'' => e = .returned (.int .i64 y.i) ∧ Below w'.heap.size w' w'') := fun w' hb => id_any w' (hu.below (KF.out w' hb) (Nat.le_refl _))
  have CX : Hid (∀ w', Below W0.heap.size W0 w' → Calls Tryd.prog 79 #[.agg #[.bool f, .slice a G.length c], .int .i64 y.i] w' fun e w'' => e = .returned (.int .i64 (placeI G y.i)) ∧ Below w'.heap.size w' w'') := fun w' hb => index_any y.i w' (h.below (KF.out w' hb))
  have CC : Hid (∀ w', Below W0.heap.size W0 w' → ∃ xs : List (List Value), xs.length = G.length ∧ (∀ (s' : Value) (w2 : World) (k : Nat) (z : List Value), Below w.heap.size w w2 → k < G.length → Rk.RowK 5 w2 s' (xs.set k z) → SgC w2 z y → Sgs w2 s' (G.set k y)) ∧ Calls Tryd.prog 78 #[.slice a G.length c] w' fun e w'' => ∃ s, e = .returned s ∧ OwnK 33 5 w'.heap.size w'' s xs ∧ Below w'.heap.size w' w'') := fun w' hb => by
    obtain ⟨p, hp, h1, h2⟩ := hs
    refine ⟨p.map Prod.fst, by rw [← hp, List.length_map, List.length_map], fun s' w2 k z hb2 hk hr hz => ?_, clseg_any w' (h1.below (KF.out w' hb) (Nat.le_refl _)) (fun x hx => by obtain ⟨t, ht, rfl⟩ := List.mem_map.1 hx; exact (SgC.five (h2 t ht)).2.2) (by rw [List.length_map, ← List.length_map (f := Prod.snd), hp]; omega)⟩
    refine ⟨p.set k (z, y), by rw [List.map_set, hp], by rw [List.map_set]; exact hr, fun t ht => ?_⟩
    rcases List.mem_or_eq_of_mem_set ht with ht | rfl
    · exact (h2 t ht).below hb2
    · exact hz
  obtain ⟨n, hnG⟩ : ∃ n, n = G.length := ⟨_, rfl⟩
  rw [← hnG] at hn HW0 BX RX HS CX CC ⊢
  have HN := Lib.hid hnG
  obtain ⟨yi, hyi⟩ : ∃ yi, yi = y.i := ⟨_, rfl⟩
  obtain ⟨yl, hyl⟩ : ∃ yl, yl = y.l := ⟨_, rfl⟩
  obtain ⟨n3, hn3⟩ : ∃ n3, n3 = y.S.length := ⟨_, rfl⟩
  obtain ⟨n4, hn4⟩ : ∃ n4, n4 = y.T.length := ⟨_, rfl⟩
  have HP : Hid (∀ p, placeN G yi = p → placeN G y.i = p) := fun p e => by rw [← hyi]; exact e
  rw [← hyi, ← hyl, ← hn3, ← hn4] at HW0 BX HY CI RY ⊢
  rw [← hyi] at CX
  clear h hs hu R0 R1 R2 B0 hW0 hnG hyi hyl hn3 hn4
  go_enter Tryd.func38, Tryd.ntmps38
  go_upto_region 1 with fail
  rw [← HW0.out]
  go_region_held3 (fun w' => Below W0.heap.size W0 w' ∧ (w'.cell? ⟨w.heap.size, 0, none⟩ = some (.bool f) ∧ w'.cell? ⟨w.heap.size, 1, none⟩ = some (.slice a n c)) ∧
      (w'.cell? ⟨w.heap.size + 1, 0, none⟩ = some (.int .i64 yi) ∧ w'.cell? ⟨w.heap.size + 1, 1, none⟩ = some (.int .i64 yl) ∧ w'.cell? ⟨w.heap.size + 1, 2, none⟩ = some (.pointer q) ∧ w'.cell? ⟨w.heap.size + 1, 3, none⟩ = some (.slice a3 n3 c3) ∧ w'.cell? ⟨w.heap.size + 1, 4, none⟩ = some (.slice a4 n4 c4)))
    ((refine BX.out _ ?_; focus ((repeat first | assumption | exact KR.out | apply Below.drew | apply below_drews); done)))
    (first
      | (go_at_call 45; (with_reducible refine (CI.out _ ?_).mono ?_); (focus ((repeat first | assumption | exact KR.out | apply Below.drew | apply below_drews); done)); rintro e w2 ⟨rfl, b2⟩; have k2 := fun h => below_more (w := W0) h b2; replace k2 := k2 (by (repeat first | assumption | exact KR.out | apply Below.drew | apply below_drews)); clear b2)
      | (go_at_call 79; (with_reducible refine (CX.out _ ?_).mono ?_); (focus ((repeat first | assumption | exact KR.out | apply Below.drew | apply below_drews); done)); rintro e w3 ⟨rfl, b3⟩; have k3 := fun h => below_more (w := W0) h b3; replace k3 := k3 (by (repeat first | assumption | exact KR.out | apply Below.drew | apply below_drews)); clear b3))
  have K3 := Lib.hid k3
  clear k2 k3
  obtain ⟨_, ⟨x0, x1⟩, ⟨u0, u1, u2, u3, u4⟩⟩ := BX.out _ K3.out
  cases hp : placeN G yi with
  | none =>
    have hpI := placeI_no hp
    have HPN := HP.out _ hp
    have Z := (RX.out _ K3.out).2
    obtain ⟨s0, s1, f0, f1⟩ := two_cells Z
    have y' := two_cells (two_put (u := .bool f) (v := .slice a n c) Z)
    obtain ⟨y0, y1, _, _⟩ := y'
    have HBF : Below w.heap.size w ((w3.setCell ⟨w.heap.size + 1 + 1, 0, none⟩ (.bool f)).setCell ⟨w.heap.size + 1 + 1, 1, none⟩ (.slice a n c)) := below_put (below_put (KF.out _ K3.out) (by omega) _) (by omega) _
    have FIN : Hid (GiveSh f (setG G y) w (.returned (.agg #[.bool f, .slice a n c])) ((w3.setCell ⟨w.heap.size + 1 + 1, 0, none⟩ (.bool f)).setCell ⟨w.heap.size + 1 + 1, 1, none⟩ (.slice a n c))) := ⟨_, rfl, ⟨_, rfl, by rw [setG_no HPN]; exact HS.out _ HBF⟩, HBF⟩
    rw [hpI]
    clear hp hpI HPN Z HBF CC CX CI
    go_wp2_with fail
    exact bodyPost_ret (v := .agg #[.bool f, .slice a n c]) (by simp [results, Tryd.results38, go_sem, y0, y1]) rfl FIN.out
  | some k =>
    have hpI := placeI_yes hp
    have HPN := HP.out _ hp
    obtain ⟨hk, _, _⟩ := place_lt hp
    rw [← HN.out] at hk
    obtain ⟨xs, hxl, hmk, hcl⟩ := CC.out _ K3.out
    obtain ⟨s0, s1, f0, f1⟩ := two_cells (RX.out _ K3.out).1
    have HMK := Lib.hid hmk
    have HCL := Lib.hid hcl
    have j0 : ¬ ((k : Int) < 0) := by omega
    have i0 : (0 : Int) ≤ (k : Int) := by omega
    have i1 : (k : Int) < (n : Int) := by omega
    rw [hpI]
    clear hp hpI hmk hcl CC CX CI s0 s1
    go_wp2_with fail
    refine (HCL.out).mono ?_
    rintro e w4 ⟨s, rfl, ho, b4⟩
    have K4 := Lib.hid (below_more K3.out b4)
    obtain ⟨g, cap, cs, rfl, hgb, hg, hle, hcm, hcs, hcx⟩ := own_open ho (by omega)
    have h5 : ∀ x ∈ xs, x.length = 5 := fun x hx => (ho.1 x hx).1
    have hfr := fun j => World.ownsRow.frozenAt ho.2 (g := g) j
    rw [hxl] at ho hle ⊢
    have hg3 : w.heap.size + 3 ≤ g := by have := K3.out.size; have := HL0.out; omega
    have r0 := (RX.out _ K4.out).1
    have r2 := (RX.out _ K4.out).2
    have r1 := RY.out _ K4.out
    obtain ⟨_, _, fa, fb⟩ := two_cells r0
    obtain ⟨W5, hW5⟩ : ∃ W5, W5 = w4.setCell ⟨w.heap.size, 1, none⟩ (.slice (some ⟨g, 0, none⟩) n cap) := ⟨_, rfl⟩
    have q0 : W5.heap[w.heap.size]? = some (.cells #[.bool f, .slice (some ⟨g, 0, none⟩) n cap] 50 (0, 0)) := by rw [hW5]; exact set_block (i := 1) r0
    have q1 : W5.heap[w.heap.size + 1]? = some (.cells #[.int .i64 yi, .int .i64 yl, .pointer q, .slice a3 n3 c3, .slice a4 n4 c4] 33 (0, 0)) := by rw [hW5, Below.heap_setCell _ _ _ _ (by simp)]; exact r1
    have q2 : W5.heap[w.heap.size + 1 + 1]? = some (.cells #[.bool false, .slice none 0 0] 50 (0, 0)) := by rw [hW5, Below.heap_setCell _ _ _ _ (by simp; omega)]; exact r2
    have qg : W5.heap[g]? = some (.cells cs 33 (0, 0)) := by rw [hW5, Below.heap_setCell _ _ _ _ (by simp; omega)]; exact hg
    have HB5 : Hid (Below w.heap.size w W5) := by show Below _ _ _; rw [hW5]; exact below_put (KF.out _ K4.out) (Nat.le_refl _) _
    have HW5 := Lib.hid hW5
    obtain ⟨v0, v1, _, _⟩ := two_cells q0
    obtain ⟨t0, t1, t2, t3, t4⟩ := five_cells q1
    have sz : ∀ i, i < 5 → k * 5 + i < cs.size := fun i hi => by rw [hcs]; omega
    have e0 : W5.cell? ⟨g, k * 5, none⟩ = some cs[k * 5] := by rw [row_cell5 qg, Array.getElem?_eq_getElem (show k * 5 < cs.size by have := sz 0 (by omega); omega)]
    have e1 : W5.cell? ⟨g, k * 5 + 1, none⟩ = some cs[k * 5 + 1] := by rw [row_cell5 qg, Array.getElem?_eq_getElem (sz 1 (by omega))]
    have e2 : W5.cell? ⟨g, k * 5 + 2, none⟩ = some cs[k * 5 + 2] := by rw [row_cell5 qg, Array.getElem?_eq_getElem (sz 2 (by omega))]
    have e3 : W5.cell? ⟨g, k * 5 + 3, none⟩ = some cs[k * 5 + 3] := by rw [row_cell5 qg, Array.getElem?_eq_getElem (sz 3 (by omega))]
    have e4 : W5.cell? ⟨g, k * 5 + 4, none⟩ = some cs[k * 5 + 4] := by rw [row_cell5 qg, Array.getElem?_eq_getElem (sz 4 (by omega))]
    have g0 : ∀ i, W5.frozen? ⟨g, i, none⟩ = false := fun i => block_frozen qg
    have z0 := g0 (k * 5)
    have z1 := g0 (k * 5 + 1)
    have z2 := g0 (k * 5 + 2)
    have z3 := g0 (k * 5 + 3)
    have z4 := g0 (k * 5 + 4)
    obtain ⟨W6, hW6⟩ : ∃ W6, W6 = st5 W5 g (k * 5) (.int .i64 yi) (.int .i64 yl) (.pointer q) (.slice a3 n3 c3) (.slice a4 n4 c4) := ⟨_, rfl⟩
    have hoth : ∀ b, b ≠ g → W6.heap[b]? = W5.heap[b]? := fun b hb => by
      rw [hW6]
      unfold st5
      rw [Below.heap_setCell _ _ _ _ hb, Below.heap_setCell _ _ _ _ hb, Below.heap_setCell _ _ _ _ hb, Below.heap_setCell _ _ _ _ hb, Below.heap_setCell _ _ _ _ hb]
    have p0 := (hoth w.heap.size (by omega)).trans q0
    have p2 := (hoth (w.heap.size + 1 + 1) (by omega)).trans q2
    have HR6 : Rk.RowK 5 W6 (.slice (some ⟨g, 0, none⟩) n cap) (xs.set k [.int .i64 yi, .int .i64 yl, .pointer q, .slice a3 n3 c3, .slice a4 n4 c4]) := by
      rw [hW6, ← hxl]
      exact row_st5 h5 (by rw [hxl]; exact hle) hcm hcs (by rw [hxl]; exact hk) qg hcx
    have HB6 : Hid (Below w.heap.size w W6) := by show Below _ _ _; rw [hW6]; exact st5_below _ _ _ _ _ HB5.out (by omega)
    unfold st5 at hW6
    have HW6 := Lib.hid hW6
    obtain ⟨o0, o1, _, _⟩ := two_cells p0
    obtain ⟨s0, s1, ff0, ff1⟩ := two_cells p2
    have y' := two_cells (two_put (u := .bool f) (v := .slice (some ⟨g, 0, none⟩) n cap) p2)
    obtain ⟨y0, y1, _, _⟩ := y'
    have HBF : Below w.heap.size w ((W6.setCell ⟨w.heap.size + 1 + 1, 0, none⟩ (.bool f)).setCell ⟨w.heap.size + 1 + 1, 1, none⟩ (.slice (some ⟨g, 0, none⟩) n cap)) := below_put (below_put HB6.out (by omega) _) (by omega) _
    have HR7 : Rk.RowK 5 ((W6.setCell ⟨w.heap.size + 1 + 1, 0, none⟩ (.bool f)).setCell ⟨w.heap.size + 1 + 1, 1, none⟩ (.slice (some ⟨g, 0, none⟩) n cap)) (.slice (some ⟨g, 0, none⟩) n cap) (xs.set k [.int .i64 yi, .int .i64 yl, .pointer q, .slice a3 n3 c3, .slice a4 n4 c4]) := by
      obtain ⟨m1, a', cap', e', m2, m3, m4⟩ := HR6
      refine ⟨m1, a', cap', e', m2, m3, ?_⟩
      rcases m4 with m4 | ⟨b', off', rfl, mb, mc⟩
      · exact .inl m4
      · injection e' with e' _ _
        injection e' with e'
        injection e' with e1' e2' _
        subst e1' e2'
        refine .inr ⟨g, 0, rfl, by simpa using mb, fun j hj i u hu => ?_⟩
        have := mc j hj i u hu
        rw [← this]
        unfold World.cell?
        rw [Below.heap_setCell _ _ _ _ (by simp; omega), Below.heap_setCell _ _ _ _ (by simp; omega)]
    have FIN : Hid (GiveSh f (setG G y) w (.returned (.agg #[.bool f, .slice (some ⟨g, 0, none⟩) n cap])) ((W6.setCell ⟨w.heap.size + 1 + 1, 0, none⟩ (.bool f)).setCell ⟨w.heap.size + 1 + 1, 1, none⟩ (.slice (some ⟨g, 0, none⟩) n cap))) :=
      ⟨_, rfl, ⟨_, rfl, by rw [setG_yes HPN]; exact HMK.out _ _ k _ HBF hk HR7 (HY.out _ HBF)⟩, HBF⟩
    clear hW5 hW6 q0 q1 q2 qg r0 r1 r2 hoth p0 p2 HR6 HR7 HBF ho hcx hfr h5 hg b4 HCL HMK g0 sz x0 x1 u0 u1 u2 u3 u4
    go_upto_region 5 with fail
    rw [← HW5.out]
    go_upto_region 6 with fail
    rw [← HW6.out]
    clear v0 v1 t0 t1 t2 t3 t4 e0 e1 e2 e3 e4 z0 z1 z2 z3 z4
    go_wp2_with fail
    exact bodyPost_ret (v := .agg #[.bool f, .slice (some ⟨g, 0, none⟩) n cap]) (by simp [results, Tryd.results38, go_sem, y0, y1]) rfl FIN.out
end Go.Proofs.YtcpdoicbekcpeaaDoor.She
