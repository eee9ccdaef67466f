/- Sheets: Same (of the same lists), Ints (of the same ints), ids, two. -/
import Derived.Test.YtcpdoicbekcpeaaDoorHr
import Derived.Deep.RegionHeld3
set_option linter.unusedVariables false
set_option linter.unusedSimpArgs false
set_option maxRecDepth 100000
namespace Go.Proofs.YtcpdoicbekcpeaaDoor.She
open Go.RowKit Go.Lib Go.Shelf Go.Proofs.YtcpdoicbekcpeaaDoor.Rk Go.Proofs.YtcpdoicbekcpeaaDoor.Rt Go.Proofs.YtcpdoicbekcpeaaDoor.Rig Go.Proofs.YtcpdoicbekcpeaaDoor.Seg

theorem cell5_below {w w' : World} {b o : Nat} {B : Nat} {v0 v1 v2 v3 v4 : Value} (hb : Below B w w') (hlt : b < B) (h0 : w.cell? ⟨b, o, none⟩ = some v0) (h1 : w.cell? ⟨b, o + 1, none⟩ = some v1) (h2 : w.cell? ⟨b, o + 2, none⟩ = some v2) (h3 : w.cell? ⟨b, o + 3, none⟩ = some v3) (h4 : w.cell? ⟨b, o + 4, none⟩ = some v4) :
    w'.cell? ⟨b, o, none⟩ = some v0 ∧ w'.cell? ⟨b, o + 1, none⟩ = some v1 ∧ w'.cell? ⟨b, o + 2, none⟩ = some v2 ∧ w'.cell? ⟨b, o + 3, none⟩ = some v3 ∧ w'.cell? ⟨b, o + 4, none⟩ = some v4 := by
  refine ⟨?_, ?_, ?_, ?_, ?_⟩
  · rw [hb.cell (p := ⟨b, o, none⟩) hlt]; exact h0
  · rw [hb.cell (p := ⟨b, o + 1, none⟩) hlt]; exact h1
  · rw [hb.cell (p := ⟨b, o + 2, none⟩) hlt]; exact h2
  · rw [hb.cell (p := ⟨b, o + 3, none⟩) hlt]; exact h3
  · rw [hb.cell (p := ⟨b, o + 4, none⟩) hlt]; exact h4
set_option maxHeartbeats 16000000 in
theorem hsame_any {v u : Value} {G : List G5} (w : World) (h : Pls w v G) (h' : Pls w u G) : Calls Tryd.prog 30 #[v, u] w fun e w' => e = .returned (.bool true) ∧ Below w.heap.size w w' := by
  obtain ⟨la, lc, rfl⟩ := Rk.Rows.is_slice h
  obtain ⟨ma, mc, rfl⟩ := Rk.Rows.is_slice h'
  obtain ⟨_, hcap, hmax⟩ := Rk.Rows.len h
  obtain ⟨_, hcap', hmax'⟩ := Rk.Rows.len h'
  obtain ⟨n, hnG⟩ : ∃ n, n = G.length := ⟨_, rfl⟩
  have HR : Hid (∀ w', Below w.heap.size w w' → Pls w' (.slice la n lc) G) := fun w' hb => by rw [hnG]; exact h.below hb
  have HR' : Hid (∀ w', Below w.heap.size w w' → Pls w' (.slice ma n mc) G) := fun w' hb => by rw [hnG]; exact h'.below hb
  rw [← hnG] at hcap hcap' ⊢
  unfold maxLen at hmax hmax'
  have HN := Lib.hid hnG
  clear h h' hnG
  go_enter Tryd.func30, Tryd.ntmps30
  go_wp2_with fail
  go_loopg [5] n (fun g i wr => ∃ k : Nat, k ≤ n ∧ n - k ≤ g ∧ i = .int .i64 k ∧ Below w.heap.size w wr)
  case atStart => exact ⟨0, Nat.zero_le _, by omega, rfl, Below.refl _ _⟩
  case round =>
    obtain ⟨k, hk, hg, rfl, hbel⟩ := hrel
    have HB := Lib.hid hbel
    by_cases hlt : k < n
    · have hkl : k < G.length := by rw [← HN.out]; exact hlt
      obtain ⟨b, off, a1, e1, a2, e2, rfl, hb, hv, c0, c1, c2, c3, c4⟩ := (HR.out _ hbel).get hkl
      obtain ⟨b', off', a3, e3, a4, e4, rfl, hb', hv', c0', c1', c2', c3', c4'⟩ := (HR'.out _ hbel).get hkl
      generalize G[k] = y at *
      obtain ⟨yi, yl, yL, yS, yT⟩ := y
      simp only at c0 c1 c2 c3 c4 c0' c1' c2' c3' c4' hv hv'
      have BX : Hid (∀ w', Below wr.heap.size wr w' → Below wr.heap.size wr w' ∧ (w'.cell? ⟨b, off + k * 5, none⟩ = some (.int .i64 yi) ∧ w'.cell? ⟨b, off + k * 5 + 1, none⟩ = some (.int .i64 yl) ∧ w'.cell? ⟨b, off + k * 5 + 2, none⟩ = some (.string (Let.mk yL)) ∧ w'.cell? ⟨b, off + k * 5 + 3, none⟩ = some (.slice a1 yS.length e1) ∧ w'.cell? ⟨b, off + k * 5 + 4, none⟩ = some (.slice a2 yT.length e2)) ∧
          (w'.cell? ⟨b', off' + k * 5, none⟩ = some (.int .i64 yi) ∧ w'.cell? ⟨b', off' + k * 5 + 1, none⟩ = some (.int .i64 yl) ∧ w'.cell? ⟨b', off' + k * 5 + 2, none⟩ = some (.string (Let.mk yL)) ∧ w'.cell? ⟨b', off' + k * 5 + 3, none⟩ = some (.slice a3 yS.length e3) ∧ w'.cell? ⟨b', off' + k * 5 + 4, none⟩ = some (.slice a4 yT.length e4))) := fun w' hb2 =>
        ⟨hb2, cell5_below hb2 hb c0 c1 c2 c3 c4, cell5_below hb2 hb' c0' c1' c2' c3' c4'⟩
      have CS : Hid (∀ w', Below wr.heap.size wr w' → Calls Tryd.prog 35 #[.agg #[.int .i64 yi, .int .i64 yl, .string (Let.mk yL), .slice a1 yS.length e1, .slice a2 yT.length e2], .agg #[.int .i64 yi, .int .i64 yl, .string (Let.mk yL), .slice a3 yS.length e3, .slice a4 yT.length e4]] w' fun e w'' => e = .returned (.bool true) ∧ Below w'.heap.size w' w'') := fun w' hb => same5_any w' (hv.below hb (Nat.le_refl _)) (hv'.below hb (Nat.le_refl _))
      generalize yS.length = n1 at *
      generalize yT.length = n2 at *
      have i0 : (0 : Int) ≤ (k : Int) := by omega
      have i1 : (k : Int) < (n : Int) := by omega
      have KR : Hid (Below wr.heap.size wr wr) := Below.refl _ _
      have KF : Hid (∀ w', Below wr.heap.size wr w' → Below w.heap.size w w') := fun w' hb => below_more HB.out hb
      clear hbel hv hv' hb hb' c0 c1 c2 c3 c4 c0' c1' c2' c3' c4' HR HR'
      go_upto_region 6 with fail
      go_region_held3 (fun w' => Below wr.heap.size wr w' ∧ (w'.cell? ⟨b, off + k * 5, none⟩ = some (.int .i64 yi) ∧ w'.cell? ⟨b, off + k * 5 + 1, none⟩ = some (.int .i64 yl) ∧ w'.cell? ⟨b, off + k * 5 + 2, none⟩ = some (.string (Let.mk yL)) ∧ w'.cell? ⟨b, off + k * 5 + 3, none⟩ = some (.slice a1 n1 e1) ∧ w'.cell? ⟨b, off + k * 5 + 4, none⟩ = some (.slice a2 n2 e2)) ∧
          (w'.cell? ⟨b', off' + k * 5, none⟩ = some (.int .i64 yi) ∧ w'.cell? ⟨b', off' + k * 5 + 1, none⟩ = some (.int .i64 yl) ∧ w'.cell? ⟨b', off' + k * 5 + 2, none⟩ = some (.string (Let.mk yL)) ∧ w'.cell? ⟨b', off' + k * 5 + 3, none⟩ = some (.slice a3 n1 e3) ∧ w'.cell? ⟨b', off' + k * 5 + 4, none⟩ = some (.slice a4 n2 e4)))
        ((refine BX.out _ ?_; focus ((repeat first | assumption | exact KR.out | apply Below.drew | apply below_drews); done)))
        (first
          | (go_at_call 35; (with_reducible refine (CS.out _ ?_).mono ?_); (focus ((repeat first | assumption | exact KR.out | apply Below.drew | apply below_drews); done)); rintro e w2 ⟨rfl, b2⟩; have k2 := fun h => below_more (w := wr) h b2; replace k2 := k2 (by (repeat first | assumption | exact KR.out | apply Below.drew | apply below_drews))))
      go_wp2_with fail
      go_roundg (n - (k + 1))
      case measure => omega
      case rel => exact ⟨k + 1, by omega, Nat.le_refl _, by go_num, KF.out _ (by (repeat first | assumption | exact KR.out | apply Below.drew | apply below_drews))⟩
    · obtain rfl : k = n := by omega
      have i1 : ¬ ((k : Int) < (k : Int)) := by omega
      clear hbel HR HR'
      go_wp2_with fail
      go_ret
      exact ⟨rfl, HB.out⟩
/-- Ints of a list of ints, and of the same. -/
def iRow (w : World) (v : Value) (xs : List Int) : Prop := Rk.RowK 1 w v (xs.map fun x => [Value.int .i64 x])
theorem iRow.below {w w' : World} {v : Value} {xs : List Int} (h : iRow w v xs) (hb : Below w.heap.size w w') : iRow w' v xs := Rk.RowK.below h hb (Nat.le_refl _)
theorem iRow.open_ {w : World} {v : Value} {xs : List Int} (h : iRow w v xs) : ∃ a cap, v = .slice a xs.length cap ∧ xs.length ≤ cap ∧ cap ≤ maxLen ∧ ∀ j (hj : j < xs.length), ∃ b off, a = some ⟨b, off, none⟩ ∧ b < w.heap.size ∧ w.cell? ⟨b, off + j, none⟩ = some (.int .i64 xs[j]) := by
  obtain ⟨_, a, cap, e, h1, h2, h3⟩ := h
  rw [List.length_map] at e h1
  refine ⟨a, cap, e, h1, h2, fun j hj => ?_⟩
  rcases h3 with h3 | ⟨b, off, rfl, hb, hc⟩
  · have : xs.length = 0 := by rw [← List.length_map (f := fun x => [Value.int .i64 x]), h3]; rfl
    omega
  · have := hc j (by rw [List.length_map]; exact hj) 0 (.int .i64 xs[j]) (by rw [List.getElem_map]; rfl)
    rw [Nat.mul_one, Nat.add_zero] at this
    exact ⟨b, off, rfl, hb, this⟩
set_option maxHeartbeats 4000000 in
theorem hints_any {v1 v2 : Value} {xs : List Int} (w : World) (h1 : iRow w v1 xs) (h2 : iRow w v2 xs) :
    Calls Tryd.prog 25 #[v1, v2] w fun e w' => e = .returned (.bool true) ∧ Below w.heap.size w w' := by
  obtain ⟨a, ca, rfl, hla, hca, hc1⟩ := h1.open_
  obtain ⟨b, cb, rfl, hlb, hcb, hc2⟩ := h2.open_
  have H1 := Lib.hid hc1
  have H2 := Lib.hid hc2
  obtain ⟨n, hn⟩ : ∃ n, n = xs.length := ⟨_, rfl⟩
  rw [← hn] at hla hlb ⊢
  unfold maxLen at hca hcb
  replace hn := Lib.hid hn
  clear hc1 hc2 h1 h2
  go_enter Tryd.func25, Tryd.ntmps25
  go_wp2_with fail
  go_loopw [5] (fun i wr => ∃ k q : Nat, k ≤ n ∧ i = .int .i64 k ∧ wr = w.drewN q) (fun i _ => n - (RowKit.intOf i).toNat)
  case atStart => exact ⟨0, 0, Nat.zero_le _, rfl, rfl⟩
  case round =>
    obtain ⟨k, q, hk, rfl, rfl⟩ := hrel
    by_cases hlt : k < n
    · have hkl : k < xs.length := by rw [← hn.out]; exact hlt
      obtain ⟨b1, f1, rfl, hb1, c1⟩ := H1.out k hkl
      obtain ⟨b2, f2, rfl, hb2, c2⟩ := H2.out k hkl
      generalize xs[k] = x at *
      have i0 : (0 : Int) ≤ (k : Int) := by omega
      have i1 : (k : Int) < (n : Int) := by omega
      have e0 : (x != x) = false := by simp
      clear H1 H2
      go_wp2_with fail
      go_quiet (fail)
      go_wp2
      go_roundw
      case rel => exact ⟨k + 1, _, by omega, by go_num, rfl⟩
      case measure => simp [RowKit.intOf]; omega
    · clear H1 H2
      go_wp2
      go_ret
      exact ⟨rfl, below_drews (Below.refl _ _) q⟩
def GiveI (xs : List Int) (w : World) (e : Ending) (w' : World) : Prop := ∃ s, e = .returned s ∧ iRow w' s xs ∧ Below w.heap.size w w'
set_option maxHeartbeats 8000000 in
theorem ids_any {v : Value} {f : Bool} {G : List G5} (w : World) (h : Sh w v f G) (hn : G.length ≤ 10000) : Calls Tryd.prog 26 #[v] w (GiveI (G.map G5.i) w) := by
  obtain ⟨ha, hc, rfl, hs⟩ := h.open_
  obtain ⟨B0, R0, L0⟩ := box1 w #[.bool f, .slice ha G.length hc] 50
  obtain ⟨x0, x1, _, _⟩ := two_cells R0
  have CG := segs_any (w.alloc (.cells #[.bool f, .slice ha G.length hc] 50)) (h.below B0) (by omega)
  obtain ⟨W0, hW0⟩ : ∃ W0, W0 = w.alloc (.cells #[.bool f, .slice ha G.length hc] 50) := ⟨_, rfl⟩
  rw [← hW0] at CG B0 x0 x1
  have HB0 := Lib.hid B0
  have HW0 := Lib.hid hW0
  have HCG := Lib.hid CG
  obtain ⟨n, hnG⟩ : ∃ n, n = G.length := ⟨_, rfl⟩
  have HN := Lib.hid hnG
  rw [← hnG] at hn x1 HCG HW0 ⊢
  clear h hs R0 B0 hW0 CG hnG
  go_enter Tryd.func26, Tryd.ntmps26
  go_upto_region 1 with fail
  rw [← HW0.out]
  go_wp2_with fail
  refine (HCG.out).mono ?_
  rintro e w1 ⟨s, rfl, hs, b1⟩
  obtain ⟨sa, sc, rfl⟩ := Rk.Rows.is_slice hs
  obtain ⟨_, hcap, hmax⟩ := Rk.Rows.len hs
  rw [← HN.out] at hs hcap ⊢
  have HR : Hid (∀ w', Below w1.heap.size w1 w' → Sgs w' (.slice sa n sc) G) := fun w' hb => hs.below hb
  have HB1 := Lib.hid (below_more HB0.out b1)
  unfold maxLen at hmax
  clear b1 hs HCG x0 x1
  go_wp2_with fail
  go_loopg [3, 9] n (fun g t i wr => ∃ k : Nat, k ≤ n ∧ n - k ≤ g ∧ i = .int .i64 k ∧ Hid (OwnK 3 1 w1.heap.size wr t (((G.take k).map G5.i).map fun x => [Value.int .i64 x])) ∧ Below w1.heap.size w1 wr)
  case atStart => exact ⟨0, Nat.zero_le _, by omega, rfl, OwnK.nil_ _ _ _ _, Below.refl _ _⟩
  case round =>
    obtain ⟨k, hk, hg, rfl, HO, hbel⟩ := hrel
    have HB := Lib.hid hbel
    by_cases hlt : k < n
    · have hkl : k < G.length := by rw [← HN.out]; exact hlt
      obtain ⟨b, off, q, a1, d1, a2, d2, rfl, hb, hv, c0, c1, c2, c3, c4⟩ := (HR.out _ hbel).get hkl
      have EQ : Hid ((((G.take (k + 1)).map G5.i).map fun x => [Value.int .i64 x]) = (((G.take k).map G5.i).map fun x => [Value.int .i64 x]) ++ [[Value.int .i64 G[k].i]]) := by
        show _ = _
        rw [List.take_succ_eq_append_getElem hkl, List.map_append, List.map_append]; rfl
      have RL : Hid ((((G.take k).map G5.i).map fun x => [Value.int .i64 x]).length = k) := by show _ = _; rw [List.length_map, List.length_map, List.length_take]; omega
      generalize G[k] = y at *
      obtain ⟨yi, yl, yL, yS, yT⟩ := y
      simp only at c0 c1 c2 c3 c4 hv EQ
      generalize (((G.take k).map G5.i).map fun x => [Value.int .i64 x]) = R at *
      obtain ⟨B1, R1, L1⟩ := box1 wr #[.int .i64 yi, .int .i64 yl, .pointer q, .slice a1 yS.length d1, .slice a2 yT.length d2] 33
      have CI : Hid (∀ w', Below wr.heap.size wr w' → Calls Tryd.prog 45 #[.agg #[.int .i64 yi, .int .i64 yl, .pointer q, .slice a1 yS.length d1, .slice a2 yT.length d2]] w' fun e w'' => e = .returned (.int .i64 yi) ∧ Below w'.heap.size w' w'') := fun w' hb => id_any w' (hv.below hb (Nat.le_refl _))
      generalize yS.length = n1 at *
      generalize yT.length = n2 at *
      obtain ⟨W1, hW1⟩ : ∃ W1, W1 = wr.alloc (.cells #[.int .i64 yi, .int .i64 yl, .pointer q, .slice a1 n1 d1, .slice a2 n2 d2] 33) := ⟨_, rfl⟩
      rw [← hW1] at B1 R1 L1
      have HW1 := Lib.hid hW1
      have HBx := Lib.hid B1
      have HC1 := Lib.hid (below_more HB.out B1)
      have HO1 := Lib.hid (HO.out.below B1)
      obtain ⟨d0, d1', d2', d3', d4'⟩ := five_cells R1
      have i1 : (k : Int) < (n : Int) := by omega
      obtain ⟨ao, co, rfl⟩ := HO.out.is_slice
      clear hbel hv hW1 B1 R1 L1 HO
      go_upto_region 5 with fail
      rw [← HW1.out]
      clear c0 c1 c2 c3 c4
      go_wp2_with fail
      refine (CI.out _ HBx.out).mono ?_
      rintro e w2 ⟨rfl, b1⟩
      have A1 : Hid (OwnK 3 1 w1.heap.size (w2.alloc (.cells #[.int .i64 yi] 3)) (.slice ao R.length co) R) := (HO1.out.below b1).below ((Below.refl _ _).alloc (Nat.le_refl _) _)
      have A2 : Hid (Rk.RowK 1 (w2.alloc (.cells #[.int .i64 yi] 3)) (.slice (some ⟨w2.heap.size, 0, none⟩) 1 1) [[.int .i64 yi]]) := Rk.row_one (e := 3) (heap_alloc_new _ _) rfl
      have HBY : Hid (Below w1.heap.size w1 (w2.alloc (.cells #[.int .i64 yi] 3))) := (below_more HC1.out b1).alloc (Nat.le_trans HC1.out.size b1.size) _
      have A4 : Hid (w1.heap.size ≤ (w2.alloc (.cells #[.int .i64 yi] 3)).heap.size) := HBY.out.size
      have A3 : Hid (R.length + 1 ≤ 100000) := by show _ ≤ _; rw [RL.out]; omega
      have HYO : Hid (∀ y ∈ [[Value.int .i64 yi]], ∀ q ∈ y, q.oneCell' = true) := fun y hy q hq => by simp at hy; subst hy; simp at hq; subst hq; rfl
      clear b1 d0 d1' d2' d3' d4'
      go_wp2_with (at_builtin; refine wpList_append_rowk rfl _ _ 56 3 1 8 _ Tryd.underlying56 infoInt1 rfl (by decide) (by decide) rfl w1.heap.size _ _ R [[.int .i64 yi]] rfl rfl A1.out A2.out HYO.out A3.out A4.out ?_)
      intro v6 w6 h5 g5 _
      have K6 : Hid (OwnK 3 1 w1.heap.size w6 v6 (((G.take (k + 1)).map G5.i).map fun x => [Value.int .i64 x])) := by show OwnK _ _ _ _ _ _; rw [EQ.out]; exact h5
      obtain ⟨a6, c6, rfl⟩ := K6.out.is_slice
      have HB6 := Lib.hid (A1.out.belowOf HBY.out (Nat.le_refl _) A4.out g5)
      clear h5 g5 A1 A2 A3 A4 HBY EQ
      go_wp2_with fail
      go_roundg (n - (k + 1))
      case measure => omega
      case rel => exact ⟨k + 1, by omega, Nat.le_refl _, by go_num, K6.out, HB6.out⟩
    · obtain rfl : k = n := by omega
      have i1 : ¬ ((k : Int) < (k : Int)) := by omega
      have et : G.take k = G := by rw [HN.out, List.take_length]
      rw [et] at HO
      obtain ⟨ao, co, rfl⟩ := HO.out.is_slice
      have HI : Hid (iRow wr (.slice ao ((G.map G5.i).map fun x => [Value.int .i64 x]).length co) (G.map G5.i)) := HO.out.row
      have HBF := Lib.hid (below_more HB1.out HB.out)
      generalize ((G.map G5.i).map fun x => [Value.int .i64 x]).length = m at *
      clear hbel HO HR et
      go_wp2_with fail
      go_ret
      exact ⟨_, rfl, HI.out, HBF.out⟩
def twoG : List G5 := [⟨1, 0, [97], [], []⟩, ⟨2, 0, [98], [], []⟩]
theorem two_row {w : World} {b : Nat} {e : TypeId} (hb : w.heap[b]? = some (.cells #[.int .i64 1, .int .i64 0, .string (Let.mk [97]), .slice none 0 0, .slice none 0 0, .int .i64 2, .int .i64 0, .string (Let.mk [98]), .slice none 0 0, .slice none 0 0] e (0, 0))) : Pls w (.slice (some ⟨b, 0, none⟩) 2 2) twoG := by
  have hp : ∀ (i : Int) (L : Bytes), PlC w [.int .i64 i, .int .i64 0, .string (Let.mk L), .slice none 0 0, .slice none 0 0] ⟨i, 0, L, [], []⟩ := fun i L => ⟨_, _, rfl, _, _, rfl, Spans.nil_ _, Sites.nil_ _⟩
  refine ⟨[([.int .i64 1, .int .i64 0, .string (Let.mk [97]), .slice none 0 0, .slice none 0 0], ⟨1, 0, [97], [], []⟩), ([.int .i64 2, .int .i64 0, .string (Let.mk [98]), .slice none 0 0, .slice none 0 0], ⟨2, 0, [98], [], []⟩)], rfl, ⟨fun x hx => ?_, some ⟨b, 0, none⟩, 2, rfl, by decide, by unfold maxLen; omega, .inr ⟨b, 0, rfl, (Array.getElem?_eq_some_iff.1 hb).1, fun j hj i u hu => ?_⟩⟩, fun x hx => ?_⟩
  · simp at hx
    rcases hx with rfl | rfl <;> rfl
  · rw [cell_of_row w b _ _ _ (0, 0) hb, Nat.zero_add]
    rcases j with _ | _ | j
    · rcases i with _ | _ | _ | _ | _ | i
      all_goals first | exact hu | (simp at hu)
    · rcases i with _ | _ | _ | _ | _ | i
      all_goals first | exact hu | (simp at hu)
    · simp at hj; omega
  · simp at hx
    rcases hx with rfl | rfl
    · exact hp 1 [97]
    · exact hp 2 [98]
set_option maxHeartbeats 4000000 in
theorem two_any (w : World) : Calls Tryd.prog 23 #[] w (GivePls twoG w) := by
  go_enter Tryd.func23, Tryd.ntmps23
  go_wp2_with fail
  go_ret
  exact ⟨_, rfl, two_row (heap_alloc_new _ _), (Below.refl _ _).alloc (Nat.le_refl _) _⟩
theorem two_sz : ∀ g ∈ twoG, g.sz := by
  intro g hg
  simp [twoG] at hg
  rcases hg with rfl | rfl <;> (unfold G5.sz; decide)
theorem two_ok : okG twoG = true := by decide +kernel
end Go.Proofs.YtcpdoicbekcpeaaDoor.She
