/- A part of the proof. -/
import Derived.Test.YtccaiippoephbaaGreatDoorVz
import Derived.Test.YtccaiippoephbaaGreatDoorWy
set_option linter.unusedVariables false
set_option linter.unusedSimpArgs false
set_option maxRecDepth 100000
namespace Go.Proofs.YtccaiippoephbaaGreatDoor.She
open Go.RowKit Go.Lib Go.Shelf Go.Proofs.YtccaiippoephbaaGreatDoor.Rk Go.Proofs.YtccaiippoephbaaGreatDoor.Rt Go.Proofs.YtccaiippoephbaaGreatDoor.Rig Go.Proofs.YtccaiippoephbaaGreatDoor.Seg
def r5 (g : G5) : Bool := right5 g.L g.S g.T
def okG (G : List G5) : Bool := G.all r5 && decide (G.map G5.i).Nodup
def G5.sz (g : G5) : Prop := g.L.length ≤ 10000 ∧ g.S.length ≤ 10000 ∧ g.T.length ≤ 10000
theorem r5_pos {g : G5} (h : r5 g = true) : ∀ s ∈ g.T, 0 < s.m := by
  unfold r5 right5 at h
  rw [Bool.and_eq_true] at h
  exact RT_pos (mright_of h.2).2
theorem load5_no {v : Value} {g : G5} (w : World) (h : Pl w v g.i g.l g.L g.S g.T) (hs : g.sz) (hr : r5 g = false) (hTb : Con.Tabs w) : Calls Tryz.prog 61 #[v] w (GiveIns w false 0 0 [] [] []) := by
  obtain ⟨h1, h2, h3⟩ := hs
  unfold r5 right5 at hr
  cases hq : Let.right g.L with
  | false => exact load_no1 w h hq h1 (by omega) (by omega) hTb
  | true =>
    rw [hq, Bool.true_and] at hr
    exact load_no2 w h hq hr h1 (by omega) (by omega) hTb
theorem load5_yes {v : Value} {g : G5} (w : World) (h : Pl w v g.i g.l g.L g.S g.T) (hs : g.sz) (hr : r5 g = true) (hTb : Con.Tabs w) : Calls Tryz.prog 61 #[v] w (GiveIns w true g.i g.l g.L g.S g.T) := by
  obtain ⟨h1, h2, h3⟩ := hs
  unfold r5 right5 at hr
  rw [Bool.and_eq_true] at hr
  exact load_yes w h hr.1 hr.2 h1 (by omega) (by omega) hTb
theorem two_grown (w : World) (B : Nat) (u1 u2 : Value) : w.grownBy ((w.setCell ⟨B, 0, none⟩ u1).setCell ⟨B, 1, none⟩ u2) (some B) :=
  ⟨rfl, rfl, rfl, by simp, fun k _ hk => by rw [Below.heap_setCell _ _ _ _ (fun e => hk (by rw [e])), Below.heap_setCell _ _ _ _ (fun e => hk (by rw [e]))]⟩
theorem OSg.two {base : Nat} {w : World} {s u1 u2 x y : Value} {G : List G5} {B : Nat} {ty : TypeId} (h : OSg base w s G) (hB : B < base) (r : w.heap[B]? = some (.cells #[x, y] ty (0, 0))) (hty : ty ≠ 169) (n1 : ∀ z, x ≠ .int .i64 z) (n2 : ∀ z, y ≠ .int .i64 z) :
    Sgs ((w.setCell ⟨B, 0, none⟩ u1).setCell ⟨B, 1, none⟩ u2) s G := by
  obtain ⟨p, h1, h2, h3⟩ := h
  refine ⟨p, h1, (h2.own.kept (two_grown w B u1 u2) (.inr (h2.own.low hB))).row, fun z hz => ?_⟩
  obtain ⟨⟨tp, sv, tv, e, t2, s2, v2, e2, g1, g2, g3⟩, hp⟩ := h3 z hz
  injection e2 with e2
  simp only [Array.mk.injEq, List.cons.injEq, and_true, true_and] at e2
  obtain ⟨rfl, rfl, rfl⟩ := e2
  exact ⟨tp, sv, tv, e, tp, sv, tv, rfl, rope_put (rope_put g1 r hty) (set_block (i := 0) (u := u1) r) hty, Fl.two g2 r n1 n2, Fl.two g3 r n1 n2⟩
def GiveLd (f : Bool) (G : List G5) (w : World) (e : Ending) (w' : World) : Prop :=
  ∃ s, e = .returned (.tuple #[.agg #[.bool (f && okG G), s], .bool (okG G)]) ∧ Sgs w' s (if okG G = true then G else []) ∧ Below w.heap.size w w'
theorem Sgs.nil_ (w : World) : Sgs w (.slice none 0 0) [] := Rk.Rows.nil_ _ _ _
theorem give_no {f : Bool} {G : List G5} {w w' : World} (h : okG G = false) (hb : Below w.heap.size w w') : GiveLd f G w (.returned (.tuple #[.agg #[.bool false, .slice none 0 0], .bool false])) w' := by
  refine ⟨.slice none 0 0, by rw [h, Bool.and_false], ?_, hb⟩
  rw [h]
  exact Sgs.nil_ _
theorem give_yes {f : Bool} {G : List G5} {w w' : World} {s : Value} (h : okG G = true) (hs : Sgs w' s G) (hb : Below w.heap.size w w') : GiveLd f G w (.returned (.tuple #[.agg #[.bool f, s], .bool true])) w' := by
  refine ⟨s, by rw [h, Bool.and_true], ?_, hb⟩
  rw [h, if_pos rfl]
  exact hs
set_option maxHeartbeats 16000000 in
theorem sload_any {v : Value} {G : List G5} (f : Bool) (w : World) (h : Pls w v G) (hsz : ∀ g ∈ G, g.sz) (hn : G.length ≤ 10000) (hT : Con.Tabs w) : Calls Tryz.prog 34 #[.bool f, v] w (GiveLd f G w) := by
  obtain ⟨la, lc, rfl⟩ := Rk.Rows.is_slice h
  obtain ⟨_, hcap, hmax⟩ := Rk.Rows.len h
  obtain ⟨n, hnG⟩ : ∃ n, n = G.length := ⟨_, rfl⟩
  have HR : Hid (∀ w', Below w.heap.size w w' → Pls w' (.slice la n lc) G) := fun w' hb => by rw [hnG]; exact h.below hb
  rw [← hnG] at hcap hn ⊢
  unfold maxLen at hmax
  have HN := Lib.hid hnG
  have HSZ := Lib.hid hsz
  have HT : Hid (∀ w', Below w.heap.size w w' → Con.Tabs w') := fun w' hb => hT.below hb
  obtain ⟨W0, hW0⟩ : ∃ W0, W0 = w.alloc (.cells #[.bool false, .slice none 0 0] 72) := ⟨_, rfl⟩
  obtain ⟨B0, R0, L0⟩ := box1 w #[.bool false, .slice none 0 0] 72
  rw [← hW0] at B0 R0 L0
  have HB0 := Lib.hid B0
  have HW0 := Lib.hid hW0
  have HR0 := Lib.hid R0
  have HL0 : Hid (w.heap.size < W0.heap.size) := by show _ < _; omega
  have HCE : Hid (okG G = (G.all r5 && decide (G.map G5.i).Nodup)) := rfl
  clear h hsz hnG hW0 B0 R0 L0 hT
  go_enter Tryz.func34, Tryz.ntmps34
  go_upto_region 1 with fail
  rw [← HW0.out]
  go_wp2_with fail
  go_loopg [6, 13] n (fun g t i wr => ∃ k : Nat, k ≤ n ∧ n - k ≤ g ∧ i = .int .i64 k ∧ Hid (OSg W0.heap.size wr t (G.take k)) ∧ Hid (∀ j (hj : j < G.length), j < k → r5 G[j] = true) ∧ Below W0.heap.size W0 wr)
  case atStart => exact ⟨0, Nat.zero_le _, by omega, rfl, OSg.nil_ _ _, fun j hj h => by omega, Below.refl _ _⟩
  case round =>
    obtain ⟨k, hk, hg, rfl, HO, HA, hbel⟩ := hrel
    have HB := Lib.hid hbel
    have HBw := Lib.hid (below_more HB0.out hbel)
    by_cases hlt : k < n
    · have hkl : k < G.length := by rw [← HN.out]; exact hlt
      obtain ⟨b, off, a1, e1, a2, e2, rfl, hb, hv, c0, c1, c2, c3, c4⟩ := (HR.out _ HBw.out).get hkl
      have EQ : Hid (G.take (k + 1) = G.take k ++ [G[k]]) := List.take_succ_eq_append_getElem hkl
      have RL : Hid ((G.take k).length = k) := by show _ = _; rw [List.length_take]; omega
      have HZ : Hid (r5 G[k] = true → ∀ j (hj : j < G.length), j < k + 1 → r5 G[j] = true) := fun e j hj hjk => by
        by_cases q : j = k
        · subst q; exact e
        · exact HA.out j hj (by omega)
      have HF : Hid (r5 G[k] = false → okG G = false) := fun e => by
        rw [HCE.out]
        have : G.all r5 = false := by rw [List.all_eq_false]; exact ⟨_, List.getElem_mem hkl, by rw [e]; simp⟩
        rw [this, Bool.false_and]
      have hz := HSZ.out _ (List.getElem_mem hkl)
      have CY := fun w' hb hr => load5_yes w' (hv.below (B := wr.heap.size) hb (Nat.le_refl _)) hz hr (HT.out w' (below_more HBw.out hb))
      have CN := fun w' hb hr => load5_no w' (hv.below (B := wr.heap.size) hb (Nat.le_refl _)) hz hr (HT.out w' (below_more HBw.out hb))
      have HPS : Hid (r5 G[k] = true → ∀ s ∈ G[k].T, 0 < s.m) := fun e => r5_pos e
      obtain ⟨rk, hrk⟩ : ∃ rk, rk = r5 G[k] := ⟨_, rfl⟩
      rw [← hrk] at HZ HF CY CN HPS
      generalize G[k] = y at *
      obtain ⟨yi, yl, yL, yS, yT⟩ := y
      simp only at c0 c1 c2 c3 c4 EQ CY CN HPS
      replace CY := Lib.hid CY
      replace CN := Lib.hid CN
      obtain ⟨B1, R1, L1⟩ := box1 wr #[.int .i64 yi, .int .i64 yl, .string (Let.mk yL), .slice a1 yS.length e1, .slice a2 yT.length e2] 67
      generalize yS.length = n1 at *
      generalize yT.length = n2 at *
      obtain ⟨W1, hW1⟩ : ∃ W1, W1 = wr.alloc (.cells #[.int .i64 yi, .int .i64 yl, .string (Let.mk yL), .slice a1 n1 e1, .slice a2 n2 e2] 67) := ⟨_, rfl⟩
      rw [← hW1] at B1 R1 L1
      have HW1 := Lib.hid hW1
      have HB1 := Lib.hid B1
      have HC1 := Lib.hid (below_more HB.out B1)
      have HO1 := Lib.hid (HO.out.below B1)
      obtain ⟨d0, d1', d2', d3', d4'⟩ := five_cells R1
      have i1 : (k : Int) < (n : Int) := by omega
      obtain ⟨ao, co, rfl⟩ := HO.out.is_slice
      rw [RL.out] at HO1 ⊢
      clear hbel hv hW1 B1 R1 L1 HO HA hz hrk
      cases rk with
      | false =>
        have E := Lib.hid (HF.out rfl)
        go_upto_region 5 with fail
        rw [← HW1.out]
        clear c0 c1 c2 c3 c4
        go_wp2_with fail
        refine (CN.out _ HB1.out (by first | rfl | trivial)).mono ?_
        rintro e w1 ⟨u, rfl, hu, b1⟩
        obtain ⟨q, a3, c3, a4, c4, rfl, hu1, hu3, hu4⟩ := hu.open_
        have HB2 : Hid (Below W0.heap.size W0 (w1.alloc (.cells #[.int .i64 0, .int .i64 0, .pointer q, .slice a3 0 c3, .slice a4 0 c4] 119))) := (below_more HC1.out b1).alloc (Nat.le_trans HC1.out.size b1.size) _
        have Z := (HB2.out.block _ HL0.out).trans HR0.out
        obtain ⟨s0, s1, f0, f1⟩ := two_cells Z
        have y := two_cells (two_put (u := .bool false) (v := .slice none 0 0) Z)
        obtain ⟨y0, y1, _, _⟩ := y
        have FIN := Lib.hid (give_no (f := f) E.out (below_put (below_put (below_more HB0.out HB2.out) (Nat.le_refl _) (.bool false) (j := 0)) (Nat.le_refl _) (.slice none 0 0) (j := 1)))
        clear b1 hu hu1 hu3 hu4 Z d0 d1' d2' d3' d4' HF HZ HPS
        go_wp2_with fail
        exact bodyPost_ret (v := .tuple #[.agg #[.bool false, .slice none 0 0], .bool false]) (by simp [results, Tryz.results34, go_sem, y0, y1]) rfl FIN.out
      | true =>
        have HZ2 := Lib.hid (HZ.out rfl)
        have HP := Lib.hid (HPS.out rfl)
        go_upto_region 5 with fail
        rw [← HW1.out]
        clear c0 c1 c2 c3 c4
        go_wp2_with fail
        refine (CY.out _ HB1.out (by first | rfl | trivial)).mono ?_
        rintro e w1 ⟨u, rfl, hu, b1⟩
        obtain ⟨q, a3, c3, a4, c4, rfl, hu1, hu3, hu4⟩ := hu.open_
        obtain ⟨B2, R2, L2⟩ := box1 w1 #[.int .i64 yi, .int .i64 yl, .pointer q, .slice a3 yS.length c3, .slice a4 yT.length c4] 119
        have hu2 := hu.below B2 (Nat.le_refl _)
        have HB2 := Lib.hid (below_more HC1.out (below_more b1 B2))
        have HO2 := Lib.hid (HO1.out.below (below_more b1 B2))
        have HS1 : Hid (yS.length = yS.length) := rfl
        have HU0 : Hid (SgP (w1.alloc (.cells #[.int .i64 yi, .int .i64 yl, .pointer q, .slice a3 yS.length c3, .slice a4 yT.length c4] 119)) [.int .i64 yi, .int .i64 yl, .pointer q, .slice a3 yS.length c3, .slice a4 yT.length c4] ⟨yi, yl, yL, yS, yT⟩) := ⟨⟨_, _, _, rfl, hu2⟩, HP.out⟩
        generalize yS.length = m1 at *
        generalize yT.length = m2 at *
        obtain ⟨W2, hW2⟩ : ∃ W2, W2 = w1.alloc (.cells #[.int .i64 yi, .int .i64 yl, .pointer q, .slice a3 m1 c3, .slice a4 m2 c4] 119) := ⟨_, rfl⟩
        rw [← hW2] at HB2 HO2 HU0 R2 B2 L2
        have HW2 := Lib.hid hW2
        obtain ⟨g0, g1, g2, g3, g4⟩ := five_cells R2
        have HU : Hid (SgP (W2.alloc (.cells #[.int .i64 yi, .int .i64 yl, .pointer q, .slice a3 m1 c3, .slice a4 m2 c4] 119)) [.int .i64 yi, .int .i64 yl, .pointer q, .slice a3 m1 c3, .slice a4 m2 c4] ⟨yi, yl, yL, yS, yT⟩) := HU0.out.below ((Below.refl _ _).alloc (Nat.le_refl _) _)
        obtain ⟨xs, hxl, A1, K0⟩ := (HO2.out.below ((Below.refl _ _).alloc (Nat.le_refl _) (.cells #[.int .i64 yi, .int .i64 yl, .pointer q, .slice a3 m1 c3, .slice a4 m2 c4] 119))).row
        replace A1 := Lib.hid A1
        have K := Lib.hid K0
        have A2 : Hid (Rk.RowK 5 (W2.alloc (.cells #[.int .i64 yi, .int .i64 yl, .pointer q, .slice a3 m1 c3, .slice a4 m2 c4] 119)) (.slice (some ⟨W2.heap.size, 0, none⟩) 1 1) [[.int .i64 yi, .int .i64 yl, .pointer q, .slice a3 m1 c3, .slice a4 m2 c4]]) := Rk.row_one (e := 119) (heap_alloc_new _ _) rfl
        have HBY : Hid (Below W0.heap.size W0 (W2.alloc (.cells #[.int .i64 yi, .int .i64 yl, .pointer q, .slice a3 m1 c3, .slice a4 m2 c4] 119))) := HB2.out.alloc HB2.out.size _
        have A4 : Hid (W0.heap.size ≤ (W2.alloc (.cells #[.int .i64 yi, .int .i64 yl, .pointer q, .slice a3 m1 c3, .slice a4 m2 c4] 119)).heap.size) := HBY.out.size
        have hxk : xs.length = k := by rw [hxl, RL.out]
        have A3 : Hid (xs.length + 1 ≤ 100000) := by show _ ≤ _; rw [hxk]; omega
        have HYO : Hid (∀ y ∈ [[Value.int .i64 yi, .int .i64 yl, .pointer q, .slice a3 m1 c3, .slice a4 m2 c4]], Five y) := fun y hy => by
          simp only [List.mem_singleton] at hy
          subst hy
          exact SgC.five HU.out.1
        clear b1 hu hu1 hu2 hu3 hu4 K0 hxl d0 d1' d2' d3' d4' R2 B2 L2 hW2 HF HZ HPS
        go_upto_region 8 with fail
        rw [← HW2.out]
        go_wp2_with (at_builtin; refine wpList_append_five rfl _ _ 70 119 72 _ Tryz.underlying70 infoSeg rfl rfl rfl znSeg (by decide) rfl W0.heap.size _ _ xs _ rfl rfl A1.out A2.out HYO.out A3.out A4.out ?_)
        intro v6 w6 h5 g5 k5
        have K6 : Hid (OSg W0.heap.size w6 v6 (G.take (k + 1))) := by show OSg _ _ _ _; rw [EQ.out]; exact K.out _ _ _ _ h5 g5 (by first | exact k5 | (rw [hxk]; exact k5)) HU.out
        obtain ⟨a6, c6, rfl⟩ := K6.out.is_slice
        have HB6 := Lib.hid (A1.out.own.belowOf HBY.out (Nat.le_refl _) A4.out g5)
        clear h5 g5 k5 A1 A2 A3 A4 HBY EQ K HU g0 g1 g2 g3 g4
        go_wp2_with fail
        go_roundg (n - (k + 1))
        case measure => omega
        case rel => exact ⟨k + 1, by omega, Nat.le_refl _, by go_num, K6.out, HZ2, HB6.out⟩
    · obtain rfl : k = n := by omega
      have i1 : ¬ ((k : Int) < (k : Int)) := by omega
      have et : G.take k = G := by rw [HN.out, List.take_length]
      rw [et] at HO
      obtain ⟨ao, co, rfl⟩ := HO.out.is_slice
      have HALL : Hid (okG G = decide (G.map G5.i).Nodup) := by
        show _ = _
        rw [HCE.out]
        have : G.all r5 = true := by
          rw [List.all_eq_true]
          intro g hg
          obtain ⟨j, hj, rfl⟩ := List.getElem_of_mem hg
          exact HA.out j hj (by rw [HN.out]; exact hj)
        rw [this, Bool.true_and]
      have CU := Lib.hid (unlike_any wr HO.out.sgs (by rw [← HN.out]; exact hn))
      rw [← HN.out] at CU ⊢
      clear hbel HA HR et
      go_wp2_with fail
      refine (CU.out).mono ?_
      rintro e w1 ⟨rfl, b1⟩
      have HB2 := Lib.hid (below_more HB.out b1)
      have HO2 := HO.out.below b1
      rw [← HN.out] at HO2
      have Z := (HB2.out.block _ HL0.out).trans HR0.out
      obtain ⟨s0, s1, f0, f1⟩ := two_cells Z
      rw [← HALL.out]
      cases hq : okG G with
      | false =>
        have y := two_cells (two_put (u := .bool false) (v := .slice none 0 0) Z)
        obtain ⟨y0, y1, _, _⟩ := y
        have FIN := Lib.hid (give_no (f := f) hq (below_put (below_put (below_more HB0.out HB2.out) (Nat.le_refl _) (.bool false) (j := 0)) (Nat.le_refl _) (.slice none 0 0) (j := 1)))
        clear b1 Z HO2 hq
        go_wp2_with fail
        exact bodyPost_ret (v := .tuple #[.agg #[.bool false, .slice none 0 0], .bool false]) (by simp [results, Tryz.results34, go_sem, y0, y1]) rfl FIN.out
      | true =>
        have y := two_cells (two_put (u := .bool f) (v := .slice ao k co) Z)
        obtain ⟨y0, y1, _, _⟩ := y
        have FIN := Lib.hid (give_yes (f := f) hq (OSg.two (u1 := .bool f) (u2 := .slice ao k co) HO2 HL0.out Z (by decide) (fun z h => by cases h) (fun z h => by cases h)) (below_put (below_put (below_more HB0.out HB2.out) (Nat.le_refl _) (.bool f) (j := 0)) (Nat.le_refl _) (.slice ao k co) (j := 1)))
        clear b1 Z HO2 hq
        go_wp2_with fail
        exact bodyPost_ret (v := .tuple #[.agg #[.bool f, .slice ao k co], .bool true]) (by simp [results, Tryz.results34, go_sem, y0, y1]) rfl FIN.out
end Go.Proofs.YtccaiippoephbaaGreatDoor.She
