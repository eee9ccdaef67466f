/- Sheets: the row of segments cloned; Segs, Plain. -/
import Derived.Test.YtcpdoicbekcpeaaDoorHn
set_option linter.unusedVariables false
set_option linter.unusedSimpArgs false
set_option maxRecDepth 100000
namespace Go.Proofs.YtcpdoicbekcpeaaDoor.She
open Go.RowKit Go.Lib Go.Shelf Go.Proofs.YtcpdoicbekcpeaaDoor.Rk Go.Proofs.YtcpdoicbekcpeaaDoor.Rt Go.Proofs.YtcpdoicbekcpeaaDoor.Rig Go.Proofs.YtcpdoicbekcpeaaDoor.Seg

/-- slices.Clone at segments. -/
theorem clseg_any {v : Value} {xs : List (List Value)} (w : World) (h : Rk.RowK 5 w v xs) (h1 : ∀ x ∈ xs, ∀ u ∈ x, u.oneCell' = true) (hn : xs.length ≤ 100000) :
    Calls Tryd.prog 78 #[v] w fun e w' => ∃ s, e = .returned s ∧ OwnK 33 5 w.heap.size w' s xs ∧ Below w.heap.size w w' := by
  obtain ⟨h0, a, cap, rfl, q1, q2, q3⟩ := h
  obtain ⟨i0, hi, hz0, hz1, hz2⟩ := kparts infoSeg
  cases a with
  | none =>
    have he : xs = [] := by
      rcases q3 with q3 | ⟨b, off, q3, _⟩
      · exact q3
      · cases q3
    subst he
    refine (AnyE.slices_Clone_nil (ρ := Tryd.clSeg_ren) Tryd.clSeg _ cap w).mono ?_
    rintro e w' ⟨rfl, rfl⟩
    exact ⟨_, rfl, OwnK.nil_ _ _ _ _, Below.refl _ _⟩
  | some ad =>
    by_cases hx : xs = []
    · subst hx
      have q22 : ∀ (w : World) (a : Option Addr) (n c n' c' : Nat), (binOp .eql 48 (.slice a n c) (.slice none n' c')).run Tryd.prog w = .ok (.bool a.isNone) w := fun w a n c n' c' => Lib.run_eql_slice_nil w _ _ a n c n' c' Tryd.underlying48
      clear q1 q2 q3 h0 h1 hn
      show Calls _ _ #[.slice (some ad) 0 cap] w _
      go_enter Tryd.func78, Tryd.ntmps78
      go_wp2_with (at_builtin; refine wpList_append_own _ rfl _ _ 48 rfl w.heap.size 33 i0 _ 5 72 Tryd.underlying48 hi hz0 hz1 hz2 rfl (by decide) _ _ _ rfl (World.ownsRow_made w #[] 0 (Nat.le_refl _) (Nat.zero_le _) (by simp)) ad 0 cap [] rfl ?qc1 ?qc2 ?qc3 ?qc4 ?qc5 ?qc6 ?_)
      case qc1 => rfl
      case qc2 => exact fun j u hj => by simp at hj
      case qc3 => exact fun u hu => by simp at hu
      case qc4 => unfold maxLen; omega
      case qc5 => omega
      case qc6 => simp
      intro v' w1 hown hgrow hnil
      go_wp2
      go_ret
      refine ⟨v', rfl, ⟨fun x hx => by simp at hx, by simpa using hown⟩, ((Below.refl _ w).alloc (Nat.le_refl _) _).grown hgrow (by simp) (by intro k hk; simp [Value.ownBlock] at hk; omega)⟩
    · obtain ⟨b, off, e, hb, hc⟩ : ∃ b off, some ad = some (⟨b, off, none⟩ : Addr) ∧ b < w.heap.size ∧ ∀ j (h : j < xs.length) i u, xs[j][i]? = some u → w.cell? ⟨b, off + j * 5 + i, none⟩ = some u := by
        rcases q3 with q3 | ⟨b, off, e, hb, hc⟩
        · exact absurd q3 hx
        · exact ⟨b, off, e, hb, hc⟩
      injection e with e
      subst e
      have hfl : xs.flatten.length = xs.length * 5 := flat_len h0
      refine (AnyE.slices_Clone (ρ := Tryd.clSeg_ren) Tryd.clSeg i0 _ 5 72 hi hz0 hz1 hz2 rfl (by omega) Tryd.sizeOf33 b off xs.length cap xs.flatten w hfl (by unfold maxLen; omega) (by omega) (fun j u hu => ?_) (fun u hu => ?_)).mono ?_
      · have hjl : j < xs.length * 5 := by
          rcases Nat.lt_or_ge j xs.flatten.length with g | g
          · omega
          · rw [List.getElem?_eq_none g] at hu; cases hu
        have hd : j / 5 < xs.length := by omega
        have := hc (j / 5) hd (j % 5) u (by rw [← flat_get h0 (j / 5) hd (j % 5) (by omega), show j / 5 * 5 + j % 5 = j by omega]; exact hu)
        rw [← this, show off + j / 5 * 5 + j % 5 = off + j by omega]
      · obtain ⟨x, hx1, hx2⟩ := List.mem_flatten.1 hu
        exact h1 x hx1 u hx2
      · rintro e w' ⟨v', rfl, ho, _, hb'⟩
        exact ⟨v', rfl, ⟨fun x hx => ⟨h0 x hx, h1 x hx⟩, ho⟩, hb'⟩
def GiveSgs (G : List G5) (w : World) (e : Ending) (w' : World) : Prop := ∃ s, e = .returned s ∧ Sgs w' s G ∧ Below w.heap.size w w'
def GivePls (G : List G5) (w : World) (e : Ending) (w' : World) : Prop := ∃ s, e = .returned s ∧ Pls w' s G ∧ Below w.heap.size w w'
theorem clsgs_any {v : Value} {G : List G5} (w : World) (h : Sgs w v G) (hn : G.length ≤ 100000) : Calls Tryd.prog 78 #[v] w (GiveSgs G w) := by
  obtain ⟨p, hp, h1, h2⟩ := h
  refine (clseg_any w h1 (fun x hx => ?_) (by rw [List.length_map, ← List.length_map (f := Prod.snd), hp]; exact hn)).mono ?_
  · obtain ⟨y, hy, rfl⟩ := List.mem_map.1 hx
    exact (SgC.five (h2 y hy)).2.2
  · rintro e w' ⟨s, rfl, ho, hb⟩
    exact ⟨s, rfl, ⟨p, hp, ho.row, fun x hx => (h2 x hx).below hb⟩, hb⟩
set_option maxHeartbeats 4000000 in
theorem segs_any {v : Value} {f : Bool} {G : List G5} (w : World) (h : Sh w v f G) (hn : G.length ≤ 100000) : Calls Tryd.prog 29 #[v] w (GiveSgs G w) := by
  obtain ⟨a, c, rfl, hs⟩ := h.open_
  obtain ⟨B0, R0, L0⟩ := box1 w #[.bool f, .slice a G.length c] 50
  obtain ⟨d0, d1⟩ := two_cells R0
  have CX := clsgs_any _ (hs.below B0) hn
  obtain ⟨W0, hW0⟩ : ∃ W0, W0 = w.alloc (.cells #[.bool f, .slice a G.length c] 50) := ⟨_, rfl⟩
  rw [← hW0] at CX B0 d0 d1
  have HB0 := Lib.hid B0
  have HW0 := Lib.hid hW0
  have HCX := Lib.hid CX
  clear hs h R0 B0 hW0 CX
  generalize G.length = n at *
  go_enter Tryd.func29, Tryd.ntmps29
  go_upto_region 1 with fail
  rw [← HW0.out]
  go_wp2_with fail
  refine (HCX.out).mono ?_
  rintro e w1 ⟨s, rfl, hs, b1⟩
  have K := Lib.hid (below_more HB0.out b1)
  have HS := Lib.hid hs
  obtain ⟨a1, c1, rfl⟩ := Rk.Rows.is_slice hs
  clear b1 HCX hs
  generalize G.length = m at *
  go_wp2_with fail
  go_ret
  exact ⟨_, rfl, HS.out, K.out⟩

/-- What a segment must be to be told. -/
def G5.ok (g : G5) : Prop := (∀ s ∈ g.T, 0 < s.m) ∧ g.L.length ≤ 10000 ∧ g.S.length ≤ 10000 ∧ g.T.length ≤ 10000
set_option maxHeartbeats 8000000 in
theorem hplain_any {v : Value} {f : Bool} {G : List G5} (w : World) (h : Sh w v f G) (hok : ∀ g ∈ G, g.ok) (hn : G.length ≤ 10000) : Calls Tryd.prog 31 #[v] w (GivePls G w) := by
  obtain ⟨sa, sc, rfl, hs⟩ := h.open_
  obtain ⟨_, hcap, hmax⟩ := Rk.Rows.len hs
  obtain ⟨n, hnG⟩ : ∃ n, n = G.length := ⟨_, rfl⟩
  have HR : Hid (∀ w', Below w.heap.size w w' → Sgs w' (.slice sa n sc) G) := fun w' hb => by rw [hnG]; exact hs.below hb
  rw [← hnG] at hcap hn ⊢
  unfold maxLen at hmax
  have HN := Lib.hid hnG
  have HOK := Lib.hid hok
  obtain ⟨W0, hW0⟩ : ∃ W0, W0 = w.alloc (.cells #[.bool f, .slice sa n sc] 50) := ⟨_, rfl⟩
  obtain ⟨B0, R0, L0⟩ := box1 w #[.bool f, .slice sa n sc] 50
  rw [← hW0] at B0 R0 L0
  obtain ⟨d0, d1⟩ := two_cells R0
  have HB0 := Lib.hid B0
  have HW0 := Lib.hid hW0
  clear h hs hok hnG hW0 B0 R0 L0
  go_enter Tryd.func31, Tryd.ntmps31
  go_upto_region 1 with fail
  rw [← HW0.out]
  go_wp2_with fail
  go_loopg [3, 9] n (fun g t i wr => ∃ k : Nat, k ≤ n ∧ n - k ≤ g ∧ i = .int .i64 k ∧ Hid (OPl W0.heap.size wr t (G.take k)) ∧ Below W0.heap.size W0 wr)
  case atStart => exact ⟨0, Nat.zero_le _, by omega, rfl, OPl.nil_ _ _, Below.refl _ _⟩
  case round =>
    obtain ⟨k, hk, hg, rfl, HO, hbel⟩ := hrel
    have HB := Lib.hid hbel
    have HBw := Lib.hid (below_more HB0.out hbel)
    by_cases hlt : k < n
    · have hkl : k < G.length := by rw [← HN.out]; exact hlt
      obtain ⟨b, off, q, a1, e1, a2, e2, rfl, hb, hv, c0, c1, c2, c3, c4⟩ := (HR.out _ HBw.out).get hkl
      have EQ : Hid (G.take (k + 1) = G.take k ++ [G[k]]) := List.take_succ_eq_append_getElem hkl
      have RL : Hid ((G.take k).length = k) := by show _ = _; rw [List.length_take]; omega
      obtain ⟨o1, o2, o3, o4⟩ := HOK.out _ (List.getElem_mem hkl)
      generalize G[k] = y at *
      obtain ⟨yi, yl, yL, yS, yT⟩ := y
      simp only at c0 c1 c2 c3 c4 hv EQ o1 o2 o3 o4
      have HP := Lib.hid o1
      obtain ⟨B1, R1, L1⟩ := box1 wr #[.int .i64 yi, .int .i64 yl, .pointer q, .slice a1 yS.length e1, .slice a2 yT.length e2] 33
      have CP : Hid (∀ w', Below wr.heap.size wr w' → Calls Tryd.prog 36 #[.agg #[.int .i64 yi, .int .i64 yl, .pointer q, .slice a1 yS.length e1, .slice a2 yT.length e2]] w' (GivePl w' yi yl yL yS yT)) := fun w' hb => plain_any w' (hv.below hb (Nat.le_refl _)) o1 (by omega) (by omega) (by omega)
      have HS1 : Hid (yS.length ≤ 10000) := o3
      have HT1 : Hid (yT.length ≤ 10000) := o4
      generalize yS.length = n1 at *
      generalize yT.length = n2 at *
      obtain ⟨W1, hW1⟩ : ∃ W1, W1 = wr.alloc (.cells #[.int .i64 yi, .int .i64 yl, .pointer q, .slice a1 n1 e1, .slice a2 n2 e2] 33) := ⟨_, rfl⟩
      rw [← hW1] at B1 R1 L1
      have HW1 := Lib.hid hW1
      have HB1 := Lib.hid B1
      have HC1 := Lib.hid (below_more HB.out B1)
      have HO1 := Lib.hid (HO.out.below B1)
      obtain ⟨d0, d1', d2', d3', d4'⟩ := five_cells R1
      have i1 : (k : Int) < (n : Int) := by omega
      obtain ⟨ao, co, rfl⟩ := HO.out.is_slice
      rw [RL.out] at HO1 ⊢
      clear hbel hv hW1 B1 R1 L1 HO o1 o2 o3 o4
      go_upto_region 5 with fail
      rw [← HW1.out]
      clear c0 c1 c2 c3 c4
      go_wp2_with fail
      refine (CP.out _ HB1.out).mono ?_
      rintro e w1 ⟨u, rfl, hu, b1⟩
      obtain ⟨a3, c3, a4, c4, rfl, hu3, hu4⟩ := hu.open_
      have HU : Hid (PlP (w1.alloc (.cells #[.int .i64 yi, .int .i64 yl, .string (Let.mk yL), .slice a3 yS.length c3, .slice a4 yT.length c4] 25)) [.int .i64 yi, .int .i64 yl, .string (Let.mk yL), .slice a3 yS.length c3, .slice a4 yT.length c4] ⟨yi, yl, yL, yS, yT⟩) :=
        ⟨⟨_, _, rfl, hu.below ((Below.refl _ _).alloc (Nat.le_refl _) _) (Nat.le_refl _)⟩, HP.out⟩
      generalize yS.length = m1 at *
      generalize yT.length = m2 at *
      obtain ⟨xs, hxl, A1, K0⟩ := ((HO1.out.below b1).below ((Below.refl _ _).alloc (Nat.le_refl _) (.cells #[.int .i64 yi, .int .i64 yl, .string (Let.mk yL), .slice a3 m1 c3, .slice a4 m2 c4] 25))).row
      replace A1 := Lib.hid A1
      have K := Lib.hid K0
      have A2 : Hid (Rk.RowK 5 (w1.alloc (.cells #[.int .i64 yi, .int .i64 yl, .string (Let.mk yL), .slice a3 m1 c3, .slice a4 m2 c4] 25)) (.slice (some ⟨w1.heap.size, 0, none⟩) 1 1) [[.int .i64 yi, .int .i64 yl, .string (Let.mk yL), .slice a3 m1 c3, .slice a4 m2 c4]]) := Rk.row_one (e := 25) (heap_alloc_new _ _) rfl
      have HBY : Hid (Below W0.heap.size W0 (w1.alloc (.cells #[.int .i64 yi, .int .i64 yl, .string (Let.mk yL), .slice a3 m1 c3, .slice a4 m2 c4] 25))) := (below_more HC1.out b1).alloc (Nat.le_trans HC1.out.size b1.size) _
      have A4 : Hid (W0.heap.size ≤ (w1.alloc (.cells #[.int .i64 yi, .int .i64 yl, .string (Let.mk yL), .slice a3 m1 c3, .slice a4 m2 c4] 25)).heap.size) := HBY.out.size
      have hxk : xs.length = k := by rw [hxl, RL.out]
      have A3 : Hid (xs.length + 1 ≤ 100000) := by show _ ≤ _; rw [hxk]; omega
      have HYO : Hid (∀ y ∈ [[Value.int .i64 yi, .int .i64 yl, .string (Let.mk yL), .slice a3 m1 c3, .slice a4 m2 c4]], Five y) := fun y hy => by
        simp only [List.mem_singleton] at hy
        subst hy
        exact PlC.five HU.out.1
      clear b1 hu hu3 hu4 K0 hxl d0 d1' d2' d3' d4'
      go_wp2_with (at_builtin; refine wpList_append_five rfl _ _ 47 25 80 _ Tryd.underlying47 infoPl rfl rfl rfl znPl (by decide) rfl W0.heap.size _ _ xs _ rfl rfl A1.out A2.out HYO.out A3.out A4.out ?_)
      intro v6 w6 h5 g5 k5
      have K6 : Hid (OPl W0.heap.size w6 v6 (G.take (k + 1))) := by show OPl _ _ _ _; rw [EQ.out]; exact K.out _ _ _ _ h5 g5 (by first | exact k5 | (rw [hxk]; exact k5)) HU.out
      obtain ⟨a6, c6, rfl⟩ := K6.out.is_slice
      have HB6 := Lib.hid (A1.out.own.belowOf HBY.out (Nat.le_refl _) A4.out g5)
      have RL6 : Hid ((G.take (k + 1)).length = k + 1) := by show _ = _; rw [List.length_take, ← HN.out]; omega
      clear h5 g5 k5 A1 A2 A3 A4 HBY EQ K HU
      go_wp2_with fail
      go_roundg (n - (k + 1))
      case measure => omega
      case rel => exact ⟨k + 1, by omega, Nat.le_refl _, by go_num, K6.out, HB6.out⟩
    · obtain rfl : k = n := by omega
      have i1 : ¬ ((k : Int) < (k : Int)) := by omega
      have et : G.take k = G := by rw [HN.out, List.take_length]
      rw [et] at HO
      obtain ⟨ao, co, rfl⟩ := HO.out.is_slice
      have HU := Lib.hid HO.out.pls
      generalize G.length = m at *
      clear hbel HO HR et
      go_wp2_with fail
      go_ret
      exact ⟨_, rfl, HU.out, HBw.out⟩
end Go.Proofs.YtcpdoicbekcpeaaDoor.She
