/- Sheets: the plain text's Set. -/
import Derived.Test.YtcpdoicbekcpeaaDoorHu
import Derived.Test.YtcpdoicbekcpeaaDoorHb
set_option linter.unusedVariables false
set_option linter.unusedSimpArgs false
set_option maxRecDepth 100000
namespace Go.Proofs.YtcpdoicbekcpeaaDoor.She
open Go.RowKit Go.Lib Go.Shelf Go.Proofs.YtcpdoicbekcpeaaDoor.Rk Go.Proofs.YtcpdoicbekcpeaaDoor.Rt Go.Proofs.YtcpdoicbekcpeaaDoor.Rig Go.Proofs.YtcpdoicbekcpeaaDoor.Seg

theorem own_nothing {e : TypeId} {base g : Nat} {w : World} (hg : w.heap[g]? = some (.cells #[] e (0, 0))) (hb : base ≤ g) : OwnK e 5 base w (.slice (some ⟨g, 0, none⟩) 0 0) [] :=
  ⟨fun _ h => by simp at h, by simp, .inr ⟨g, 0, #[], rfl, hb, hg, Nat.le_refl _, Nat.zero_le _, by simp, by simp⟩⟩
/-- The cells of a list of plain segments, and what they mean in any later world. -/
theorem pls_rows {w : World} {v : Value} {G : List G5} (h : Pls w v G) : ∃ xs : List (List Value), xs.length = G.length ∧ Rk.RowK 5 w v xs ∧ (∀ x ∈ xs, Five x) ∧ ∀ (s : Value) (w2 : World), Below w.heap.size w w2 →
    (Rk.RowK 5 w2 s xs → Pls w2 s G) ∧ (∀ (k : Nat) (z : List Value) (y : G5), Rk.RowK 5 w2 s (xs.set k z) → PlC w2 z y → Pls w2 s (G.set k y)) := by
  obtain ⟨p, hp, h1, h2⟩ := h
  refine ⟨p.map Prod.fst, by rw [← hp, List.length_map, List.length_map], h1, fun x hx => by obtain ⟨t, ht, rfl⟩ := List.mem_map.1 hx; exact PlC.five (h2 t ht), fun s w2 hb => ⟨fun hr => ⟨p, hp, hr, fun t ht => (h2 t ht).below hb⟩, fun k z y hr hz => ?_⟩⟩
  refine ⟨p.set k (z, y), by rw [List.map_set, hp], by rw [List.map_set]; exact hr, fun t ht => ?_⟩
  rcases List.mem_or_eq_of_mem_set ht with ht | rfl
  · exact (h2 t ht).below hb
  · exact hz
set_option maxHeartbeats 16000000 in
theorem rset_any {v u : Value} {G : List G5} {y : G5} (w : World) (h : Pls w v G) (hu : Pl w u y.i y.l y.L y.S y.T) (hn : G.length ≤ 10000) : Calls Tryd.prog 39 #[v, u] w (GivePls (setG G y) w) := by
  obtain ⟨a, c, rfl⟩ := Rk.Rows.is_slice h
  obtain ⟨a3, c3, a4, c4, rfl, _, _⟩ := hu.open_
  obtain ⟨xs, hxl, hx1, hx2, hx3⟩ := pls_rows h
  obtain ⟨B0, R0, L0⟩ := box1 w #[.int .i64 y.i, .int .i64 y.l, .string (Let.mk y.L), .slice a3 y.S.length c3, .slice a4 y.T.length c4] 25
  obtain ⟨W0, hW0⟩ : ∃ W0, W0 = w.alloc (.cells #[.int .i64 y.i, .int .i64 y.l, .string (Let.mk y.L), .slice a3 y.S.length c3, .slice a4 y.T.length c4] 25) := ⟨_, rfl⟩
  rw [← hW0] at B0 R0 L0
  have HB0 := Lib.hid B0
  have HW0 := Lib.hid hW0
  have HR0 := Lib.hid R0
  have HL0 := Lib.hid L0
  have HX3 := Lib.hid hx3
  have HXL := Lib.hid hxl
  have hB1 := below_more B0 ((Below.refl W0.heap.size W0).alloc (Nat.le_refl _) (.cells #[] 25))
  have HB1 := Lib.hid hB1
  have A1 : Hid (OwnK 25 5 w.heap.size (W0.alloc (.cells #[] 25)) (.slice (some ⟨W0.heap.size, 0, none⟩) 0 0) []) := own_nothing (heap_alloc_new _ _) (by omega)
  have A2 : Hid (Rk.RowK 5 (W0.alloc (.cells #[] 25)) (.slice a G.length c) xs) := Rk.RowK.below hx1 hB1 (Nat.le_refl _)
  have HYO : Hid (∀ y ∈ xs, ∀ q ∈ y, q.oneCell' = true) := fun y hy => (hx2 y hy).2.2
  have A3 : Hid ((0 : Nat) + xs.length ≤ 100000) := by show _ ≤ _; omega
  have A4 : Hid (w.heap.size ≤ (W0.alloc (.cells #[] 25)).heap.size) := hB1.size
  have CP : Hid (∀ w', Below w.heap.size w w' → Calls Tryd.prog 34 #[.slice a G.length c, .int .i64 y.i] w' fun e w'' => e = .returned (.int .i64 (placeI G y.i)) ∧ w'' = w') := fun w' hb => place_any _ w' (h.below hb)
  have HY : Hid (∀ w', Below w.heap.size w w' → PlC w' [.int .i64 y.i, .int .i64 y.l, .string (Let.mk y.L), .slice a3 y.S.length c3, .slice a4 y.T.length c4] y) := fun w' hb => ⟨_, _, rfl, hu.below hb (Nat.le_refl _)⟩
  obtain ⟨d0, d1, d2, d3, d4⟩ := five_cells R0
  obtain ⟨n, hnG⟩ : ∃ n, n = G.length := ⟨_, rfl⟩
  have HN := Lib.hid hnG
  rw [← hnG] at hn A2 CP hxl ⊢
  obtain ⟨yi, hyi⟩ : ∃ yi, yi = y.i := ⟨_, rfl⟩
  obtain ⟨yl, hyl⟩ : ∃ yl, yl = y.l := ⟨_, rfl⟩
  obtain ⟨yL, hyL⟩ : ∃ yL, yL = y.L := ⟨_, rfl⟩
  obtain ⟨n3, hn3⟩ : ∃ n3, n3 = y.S.length := ⟨_, rfl⟩
  obtain ⟨n4, hn4⟩ : ∃ n4, n4 = y.T.length := ⟨_, rfl⟩
  have HP : Hid (∀ p, placeN G yi = p → placeN G y.i = p) := fun p e => by rw [← hyi]; exact e
  rw [← hyi, ← hyl, ← hyL, ← hn3, ← hn4] at HW0 HY HR0 ⊢
  rw [← hyi] at CP d0
  rw [← hyl] at d1
  rw [← hyL] at d2
  rw [← hn3] at d3
  rw [← hn4] at d4
  clear h hu R0 B0 hW0 hnG hyi hyl hyL hn3 hn4 hx1 hx2 hx3 hB1 L0
  go_enter Tryd.func39, Tryd.ntmps39
  go_upto_region 1 with fail
  rw [← HW0.out]
  go_wp2_with (at_builtin; refine wpList_append_rowk rfl _ _ 47 25 5 80 _ Tryd.underlying47 infoPl rfl (by decide) (by decide) rfl w.heap.size _ _ [] xs rfl rfl A1.out A2.out HYO.out A3.out A4.out ?_)
  intro s w2 h5 g5 _
  have HB2 := Lib.hid (A1.out.belowOf HB1.out (Nat.le_refl _) A4.out g5)
  have R2 : w2.heap[w.heap.size]? = some (.cells #[.int .i64 yi, .int .i64 yl, .string (Let.mk yL), .slice a3 n3 c3, .slice a4 n4 c4] 25 (0, 0)) := by
    have h1 : (W0.alloc (.cells #[] 25)).heap[w.heap.size]? = some (.cells #[.int .i64 yi, .int .i64 yl, .string (Let.mk yL), .slice a3 n3 c3, .slice a4 n4 c4] 25 (0, 0)) := by
      rw [heap_alloc_old W0 _ (by have := HL0.out; omega)]
      exact HR0.out
    rw [g5.block w.heap.size (Array.getElem?_eq_some_iff.1 h1).1 (by
      simp only [Value.ownBlock]
      intro q
      injection q with q
      have := HL0.out
      omega)]
    exact h1
  obtain ⟨q0, q1, q2, q3, q4⟩ := five_cells R2
  have HO := Lib.hid h5
  obtain ⟨sa, sc, rfl⟩ := h5.is_slice
  rw [hxl] at HO ⊢
  clear h5 g5 A1 A2 A3 A4 HYO d0 d1 d2 d3 d4
  go_wp2_with fail
  refine (CP.out _ HB2.out).mono ?_
  rintro e w3 ⟨rfl, rfl⟩
  cases hp : placeN G yi with
  | none =>
    have hpI := placeI_no hp
    have HPN := HP.out _ hp
    have FIN : Hid (GivePls (setG G y) w (.returned (.slice sa n sc)) w3) := ⟨_, rfl, by rw [setG_no HPN]; exact (HX3.out _ _ HB2.out).1 HO.out.row, HB2.out⟩
    rw [hpI]
    clear hp hpI HPN CP HO R2
    go_wp2_with fail
    go_ret
    exact FIN.out
  | some k =>
    have hpI := placeI_yes hp
    have HPN := HP.out _ hp
    obtain ⟨hk, _, _⟩ := place_lt hp
    rw [← HN.out] at hk
    have HO' := HO.out
    rw [← hxl] at HO'
    obtain ⟨g, cap, cs, e', hgb, hg, hle, hcm, hcs, hcx⟩ := own_open HO' (by omega)
    injection e' with e1 _ e3
    subst e1 e3
    have h5 : ∀ x ∈ xs, x.length = 5 := fun x hx => (HO.out.1 x hx).1
    have sz : ∀ i, i < 5 → k * 5 + i < cs.size := fun i hi => by rw [hcs]; omega
    have e0 : w3.cell? ⟨g, k * 5, none⟩ = some cs[k * 5] := by rw [row_cell5 hg, Array.getElem?_eq_getElem (show k * 5 < cs.size by have := sz 0 (by omega); omega)]
    have e1 : w3.cell? ⟨g, k * 5 + 1, none⟩ = some cs[k * 5 + 1] := by rw [row_cell5 hg, Array.getElem?_eq_getElem (sz 1 (by omega))]
    have e2 : w3.cell? ⟨g, k * 5 + 2, none⟩ = some cs[k * 5 + 2] := by rw [row_cell5 hg, Array.getElem?_eq_getElem (sz 2 (by omega))]
    have e3 : w3.cell? ⟨g, k * 5 + 3, none⟩ = some cs[k * 5 + 3] := by rw [row_cell5 hg, Array.getElem?_eq_getElem (sz 3 (by omega))]
    have e4 : w3.cell? ⟨g, k * 5 + 4, none⟩ = some cs[k * 5 + 4] := by rw [row_cell5 hg, Array.getElem?_eq_getElem (sz 4 (by omega))]
    have g0 : ∀ i, w3.frozen? ⟨g, i, none⟩ = false := fun i => block_frozen hg
    have z0 := g0 (k * 5)
    have z1 := g0 (k * 5 + 1)
    have z2 := g0 (k * 5 + 2)
    have z3 := g0 (k * 5 + 3)
    have z4 := g0 (k * 5 + 4)
    have HBF : Below w.heap.size w (st5 w3 g (k * 5) (.int .i64 yi) (.int .i64 yl) (.string (Let.mk yL)) (.slice a3 n3 c3) (.slice a4 n4 c4)) := st5_below _ _ _ _ _ HB2.out hgb
    have HR6 : Rk.RowK 5 (st5 w3 g (k * 5) (.int .i64 yi) (.int .i64 yl) (.string (Let.mk yL)) (.slice a3 n3 c3) (.slice a4 n4 c4)) (.slice (some ⟨g, 0, none⟩) n sc) (xs.set k [.int .i64 yi, .int .i64 yl, .string (Let.mk yL), .slice a3 n3 c3, .slice a4 n4 c4]) := by
      have := row_st5 (y0 := .int .i64 yi) (y1 := .int .i64 yl) (y2 := .string (Let.mk yL)) (y3 := .slice a3 n3 c3) (y4 := .slice a4 n4 c4) h5 hle hcm hcs (by rw [hxl]; exact hk) hg hcx
      rwa [hxl] at this
    have FIN : Hid (GivePls (setG G y) w (.returned (.slice (some ⟨g, 0, none⟩) n sc)) (st5 w3 g (k * 5) (.int .i64 yi) (.int .i64 yl) (.string (Let.mk yL)) (.slice a3 n3 c3) (.slice a4 n4 c4))) := ⟨_, rfl, by rw [setG_yes HPN]; exact (HX3.out _ _ HBF).2 k _ y HR6 (HY.out _ HBF), HBF⟩
    unfold st5 at FIN
    have j0 : (0 : Int) ≤ (k : Int) := by omega
    have i1 : (k : Int) < (n : Int) := by omega
    rw [hpI]
    clear hp hpI HPN CP HO HO' R2 hg hcx h5 g0 sz HBF HR6
    go_wp2_with fail
    go_ret
    exact FIN.out
end Go.Proofs.YtcpdoicbekcpeaaDoor.She
