/- View: Look, of the plain text. -/
import Derived.Test.YtcpdoicbekcpeaaDoorVr
import Derived.Deep.RegionLaw
set_option linter.unusedVariables false
set_option linter.unusedSimpArgs false
set_option maxRecDepth 100000
namespace Go.Proofs.YtcpdoicbekcpeaaDoor.Vi
open Go.RowKit Go.Lib Go.Shelf Go.Proofs.YtcpdoicbekcpeaaDoor.Rk Go.Proofs.YtcpdoicbekcpeaaDoor.Rt Go.Proofs.YtcpdoicbekcpeaaDoor.Rig Go.Proofs.YtcpdoicbekcpeaaDoor.Seg Go.Proofs.YtcpdoicbekcpeaaDoor.She

set_option maxHeartbeats 32000000 in
theorem rlook_any {u b : Value} {G : List G5} {B : List Bool} (w : World) (h : Pls w u G) (hb : Bls w b B) (hg : ∀ g ∈ G, G5.vok g) (hn : G.length ≤ 10000) :
    Calls Tryd.prog 52 #[u, b] w (GiveLk (Lk (told B) G) w) := by
  obtain ⟨la, lc, rfl⟩ := Rk.Rows.is_slice h
  obtain ⟨hx1, hlc, hlm⟩ := Rk.Rows.len h
  obtain ⟨ua, uc, rfl, huc, hum, hx2⟩ := hb.open_
  obtain ⟨n, hnG⟩ : ∃ n, n = G.length := ⟨_, rfl⟩
  obtain ⟨mb, hmb⟩ : ∃ mb, mb = B.length := ⟨_, rfl⟩
  have HN := Lib.hid hnG
  have HMB := Lib.hid hmb
  have HV := Lib.hid hg
  obtain ⟨o, ho⟩ : ∃ o, o = told B := ⟨_, rfl⟩
  have HFG : Hid (∀ y ∈ Lk o G, y.good) := fun y hy => by
    unfold Lk at hy
    obtain ⟨x, hx, rfl⟩ := List.mem_map.1 hy
    obtain ⟨g, hgm, rfl⟩ := List.mem_map.1 hx
    exact (vw_good o (hg g hgm)).1
  have HPl : Hid (∀ w', Below w.heap.size w w' → Pls w' (.slice la n lc) G) := fun w' k => by rw [hnG]; exact h.below k
  have HBl : Hid (∀ w', Below w.heap.size w w' → ∀ j (hj : j < B.length), ∃ b off, ua = some ⟨b, off, none⟩ ∧ w'.cell? ⟨b, off + j, none⟩ = some (.bool B[j])) := fun w' k j hj => by
    obtain ⟨a, c, e, _, _, h⟩ := (hb.below k).open_
    injection e with e1 _ _
    obtain ⟨b, off, h1, _, h2⟩ := h j hj
    exact ⟨b, off, by rw [e1, h1], h2⟩
  have T0 : Hid (∀ n, n < 0 → o n = false) := fun n h => by rw [ho]; exact told_no h
  have T1 : Hid (∀ n : Int, (mb : Int) ≤ n → o n = false) := fun n h => by rw [ho]; exact told_out (by rw [← hmb]; exact h)
  have T2 : Hid (∀ (k : Nat) (hk : k < B.length), o (k : Int) = B[k]) := fun k hk => by rw [ho]; exact told_in hk
  rw [← hnG] at hlc hn ⊢
  rw [← hmb] at huc ⊢
  rw [← ho]
  unfold maxLen at hlm hum
  clear h hb hg hnG hmb hx1 hx2 ho
  go_enter Tryd.func52, Tryd.ntmps52
  go_wp2_with fail
  go_loopg [5, 6] n (fun g t i wr => ∃ k : Nat, k ≤ n ∧ n - k ≤ g ∧ i = .int .i64 k ∧ Hid (OPc w.heap.size wr t (Lk o (G.take k))) ∧ Below w.heap.size w wr)
  case atStart => exact ⟨0, Nat.zero_le _, by omega, rfl, OPc.nil_ _ _, Below.refl _ _⟩
  case round =>
    obtain ⟨k, hk, hg, rfl, HP, hbel⟩ := hrel
    have HB := Lib.hid hbel
    have RL : Hid ((Lk o (G.take k)).length = k) := by show _ = _; unfold Lk; rw [List.length_map, List.length_map, List.length_take, ← HN.out]; omega
    by_cases hlt : k < n
    · have hkl : k < G.length := by rw [← HN.out]; exact hlt
      have RL6 : Hid ((Lk o (G.take (k + 1))).length = k + 1) := by show _ = _; unfold Lk; rw [List.length_map, List.length_map, List.length_take, ← HN.out]; omega
      obtain ⟨b, off, a1, e1, a2, e2, rfl, hb, hv, c0, c1, c2, c3, c4⟩ := (HPl.out _ hbel).get hkl
      have EQ : Hid (Lk o (G.take (k + 1)) = Lk o (G.take k) ++ [(vw o G[k]).pc]) := lk_take o G hkl
      obtain ⟨v1, v2, v3⟩ := HV.out _ (List.getElem_mem hkl)
      generalize G[k] = y at *
      obtain ⟨yi, yl, yL, yS, yT⟩ := y
      simp only at c0 c1 c2 v1 v2 v3
      unfold in64 at v1 v2
      have CC : Hid (∀ w', Calls Tryd.prog 21 #[.string (Let.mk yL)] w' fun e w'' => e = .returned (.int .i64 (Let.cnt yL)) ∧ Below w'.heap.size w' w'') := fun w' => count1_any yL w' (by omega)
      obtain ⟨xs, hxs⟩ : ∃ xs, xs = (Lk o (G.take k)).map Pc.cells := ⟨_, rfl⟩
      have HXL : Hid (xs.length = k) := by show _ = _; rw [hxs, List.length_map]; exact RL.out
      have HXS := Lib.hid hxs
      obtain ⟨ao, co, rfl⟩ := HP.out.is_slice
      rw [RL.out] at HP ⊢
      have HPX : Hid (∀ w', Below wr.heap.size wr w' → Rk.OwnK 89 4 w.heap.size w' (.slice ao k co) xs) := fun w' hb => by rw [hxs]; exact HP.out.below hb
      have i0 : (0 : Int) ≤ (k : Int) := by omega
      have i1 : (k : Int) < (n : Int) := by omega
      have KZ : Hid (Below wr.heap.size wr wr) := Below.refl _ _
      have hc1 := Lib.hid c1
      have hc2 := Lib.hid c2
      have hbb := Lib.hid hb
      clear hbel hv c2 c3 c4 hxs HP RL hb v3
      go_upto_region 5 with fail
      go_cut [7] from 14 to 24 (fun x wx => ∃ NB : Nat, x = .pointer (some ⟨NB, 0, none⟩) ∧ Hid (FilP wr wx NB yi yl))
      case first =>
        have BA := below_al KZ.out (.cells #[.int .i64 0, .int .i64 0, .int .i64 0, .bool false] 89)
        have ca0 := vcell BA hbb.out c0
        have ca1 := vcell BA hbb.out c1
        clear BA
        go_region
        all_goals go_wp2_with fail
        all_goals go_meet
        all_goals refine ⟨_, rfl, ?_⟩
        all_goals (obtain ⟨f1, f2, f3⟩ := (fin_pa (yi := yi) (yl := yl) KZ.out).out; first | exact Lib.hid ⟨f1, f2, f3.drew⟩ | exact Lib.hid ⟨f1, f2, f3⟩ | exact Lib.hid ⟨f1, f2, below_drews f3 _⟩)
      case rest =>
        obtain ⟨NB, rfl, HF⟩ := hcut
        obtain ⟨R9, hs9, hK9⟩ := HF.out
        have K9 := Lib.hid hK9
        have HS9 := Lib.hid hs9
        have HR9 := Lib.hid R9
        have HLT9 : Hid (NB < wc.heap.size) := (Array.getElem?_eq_some_iff.1 R9).1
        obtain ⟨z0, z1, z2, z3, f0, f1, f2, f3⟩ := four_cells R9
        replace c1 := vcell hK9 hbb.out hc1.out
        clear c0 R9 hs9 hK9 HF
        by_cases q0 : yl < 0
        · have hob : o yl = false := T0.out yl q0
          have j0 : ¬ (0 ≤ yl) := by omega
          have j1 : decide (0 ≤ yl) = false := decide_eq_false j0
          have EQ2 : Hid (Lk o (G.take (k + 1)) = Lk o (G.take k) ++ [⟨yi, yl, 0, false⟩]) := by show _ = _; rw [EQ.out]; simp [vw, Vw.pc, hob]
          clear hob EQ
          go_upto_region 9 with fail

          have A1 : Hid (Rk.OwnK 89 4 w.heap.size (wc.alloc (.cells #[Value.int .i64 yi, .int .i64 yl, .int .i64 0, .bool false] 89)) (.slice ao k co) xs) := HPX.out _ (below_al K9.out _)
          have A2 : Hid (Rk.RowK 4 (wc.alloc (.cells #[Value.int .i64 yi, .int .i64 yl, .int .i64 0, .bool false] 89)) (.slice (some ⟨wc.heap.size, 0, none⟩) 1 1) [[Value.int .i64 yi, .int .i64 yl, .int .i64 0, .bool false]]) := Rk.row_one (e := 89) (heap_alloc_new _ _) rfl
          have HBY : Hid (Below w.heap.size w (wc.alloc (.cells #[Value.int .i64 yi, .int .i64 yl, .int .i64 0, .bool false] 89))) := below_more HB.out (below_al K9.out _)
          have A4 : Hid (w.heap.size ≤ (wc.alloc (.cells #[Value.int .i64 yi, .int .i64 yl, .int .i64 0, .bool false] 89)).heap.size) := HBY.out.size
          have A3 : Hid (xs.length + 1 ≤ 100000) := by show _ ≤ _; rw [HXL.out]; omega
          have HYO : Hid (∀ y ∈ [[Value.int .i64 yi, .int .i64 yl, .int .i64 0, .bool false]], ∀ u ∈ y, u.oneCell' = true) := fun y hy u hu => by
            simp only [List.mem_singleton] at hy
            subst hy
            simp at hu
            rcases hu with rfl | rfl | rfl | rfl <;> rfl
          go_wp2_with (at_builtin; refine Rk.wpList_append_rowk rfl _ _ 85 89 4 32 _ Tryd.underlying85 infoPc rfl (by decide) (by decide) rfl w.heap.size _ _ xs _ rfl rfl A1.out A2.out HYO.out A3.out A4.out ?_)
          intro v6 w6 h6 g6 _
          have HB6 := Lib.hid (A1.out.belowOf HBY.out (Nat.le_refl _) A4.out g6)
          have K6 : Hid (OPc w.heap.size w6 v6 (Lk o (G.take (k + 1)))) := by
            show Rk.OwnK _ _ _ _ _ _
            rw [EQ2.out, List.map_append, ← HXS.out]
            exact h6
          obtain ⟨a6, c6, rfl⟩ := K6.out.is_slice
          clear h6 g6 A1 A2 A3 A4 HBY HYO EQ2
          rw [RL6.out] at K6 ⊢
          go_wp2_with fail
          go_roundg (n - (k + 1))
          case measure => omega
          case rel => exact ⟨k + 1, by omega, Nat.le_refl _, by go_num, K6.out, HB6.out⟩
        · obtain ⟨j, rfl⟩ : ∃ j : Nat, yl = j := ⟨yl.toNat, by omega⟩
          have j0 : (0 : Int) ≤ (j : Int) := by omega
          have j1 : decide ((0 : Int) ≤ (j : Int)) = true := decide_eq_true j0
          by_cases q1 : j < mb
          · have hj : j < B.length := by rw [← HMB.out]; exact q1
            obtain ⟨ob, oo, rfl, cb⟩ := HBl.out wc (below_more HB.out K9.out) j hj
            have hoj : o (j : Int) = B[j] := T2.out j hj
            generalize B[j] = bj at *
            have j2 : (j : Int) < (mb : Int) := by omega
            have j3 : decide ((j : Int) < (mb : Int)) = true := decide_eq_true j2
            cases bj with
            | false =>
              have hob := hoj
              clear hoj
              have EQ2 : Hid (Lk o (G.take (k + 1)) = Lk o (G.take k) ++ [⟨yi, (j : Int), 0, false⟩]) := by show _ = _; rw [EQ.out]; simp [vw, Vw.pc, hob]
              clear hob EQ
              go_upto_region 9 with fail

              have A1 : Hid (Rk.OwnK 89 4 w.heap.size (wc.alloc (.cells #[Value.int .i64 yi, .int .i64 j, .int .i64 0, .bool false] 89)) (.slice ao k co) xs) := HPX.out _ (below_al K9.out _)
              have A2 : Hid (Rk.RowK 4 (wc.alloc (.cells #[Value.int .i64 yi, .int .i64 j, .int .i64 0, .bool false] 89)) (.slice (some ⟨wc.heap.size, 0, none⟩) 1 1) [[Value.int .i64 yi, .int .i64 j, .int .i64 0, .bool false]]) := Rk.row_one (e := 89) (heap_alloc_new _ _) rfl
              have HBY : Hid (Below w.heap.size w (wc.alloc (.cells #[Value.int .i64 yi, .int .i64 j, .int .i64 0, .bool false] 89))) := below_more HB.out (below_al K9.out _)
              have A4 : Hid (w.heap.size ≤ (wc.alloc (.cells #[Value.int .i64 yi, .int .i64 j, .int .i64 0, .bool false] 89)).heap.size) := HBY.out.size
              have A3 : Hid (xs.length + 1 ≤ 100000) := by show _ ≤ _; rw [HXL.out]; omega
              have HYO : Hid (∀ y ∈ [[Value.int .i64 yi, .int .i64 j, .int .i64 0, .bool false]], ∀ u ∈ y, u.oneCell' = true) := fun y hy u hu => by
                simp only [List.mem_singleton] at hy
                subst hy
                simp at hu
                rcases hu with rfl | rfl | rfl | rfl <;> rfl
              go_wp2_with (at_builtin; refine Rk.wpList_append_rowk rfl _ _ 85 89 4 32 _ Tryd.underlying85 infoPc rfl (by decide) (by decide) rfl w.heap.size _ _ xs _ rfl rfl A1.out A2.out HYO.out A3.out A4.out ?_)
              intro v6 w6 h6 g6 _
              have HB6 := Lib.hid (A1.out.belowOf HBY.out (Nat.le_refl _) A4.out g6)
              have K6 : Hid (OPc w.heap.size w6 v6 (Lk o (G.take (k + 1)))) := by
                show Rk.OwnK _ _ _ _ _ _
                rw [EQ2.out, List.map_append, ← HXS.out]
                exact h6
              obtain ⟨a6, c6, rfl⟩ := K6.out.is_slice
              clear h6 g6 A1 A2 A3 A4 HBY HYO EQ2
              rw [RL6.out] at K6 ⊢
              go_wp2_with fail
              go_roundg (n - (k + 1))
              case measure => omega
              case rel => exact ⟨k + 1, by omega, Nat.le_refl _, by go_num, K6.out, HB6.out⟩
            | true =>
              have EQ2 : Hid (Lk o (G.take (k + 1)) = Lk o (G.take k) ++ [⟨yi, (j : Int), (Let.cnt yL : Int), true⟩]) := by show _ = _; rw [EQ.out]; simp [vw, Vw.pc, hoj]
              clear hoj EQ
              obtain ⟨W7, hW7⟩ : ∃ W7, W7 = wc.setCell ⟨NB, 3, none⟩ (.bool true) := ⟨_, rfl⟩
              have K7 : Hid (Below wr.heap.size wr W7) := by show Below _ _ _; rw [hW7]; exact below_put K9.out HS9.out _
              have HR7 : Hid (W7.heap[NB]? = some (.cells #[.int .i64 yi, .int .i64 j, .int .i64 0, .bool true] 89 (0, 0))) := by
                show _ = _
                rw [hW7]
                simpa using set_block (i := 3) (u := .bool true) HR9.out
              have HW7 := Lib.hid hW7
              clear hW7
              go_upto_region 8 with fail
              rw [← HW7.out]
              clear z0 z1 z2 z3 f0 f1 f2 f3 c1 cb
              have c2 := vcell K7.out hbb.out hc2.out
              have CC7 := Lib.hid (CC.out W7)
              go_wp2_with fail
              refine (CC7.out).mono ?_
              rintro e w8 ⟨rfl, b8⟩
              have K8 := Lib.hid (below_more K7.out b8)
              have HLT7 : NB < W7.heap.size := (Array.getElem?_eq_some_iff.1 HR7.out).1
              have R8 := (b8.block NB HLT7).trans HR7.out
              obtain ⟨z0, z1, z2, z3, f0, f1, f2, f3⟩ := four_cells R8
              obtain ⟨cl, hcl⟩ : ∃ cl : Int, cl = (Let.cnt yL : Int) := ⟨_, rfl⟩
              rw [← hcl] at EQ2 ⊢
              obtain ⟨W10, hW10⟩ : ∃ W10, W10 = w8.setCell ⟨NB, 2, none⟩ (.int .i64 cl) := ⟨_, rfl⟩
              have K10 : Hid (Below wr.heap.size wr W10) := by show Below _ _ _; rw [hW10]; exact below_put K8.out HS9.out _
              have HR10 : Hid (W10.heap[NB]? = some (.cells #[.int .i64 yi, .int .i64 j, .int .i64 cl, .bool true] 89 (0, 0))) := by
                show _ = _
                rw [hW10]
                simpa using set_block (i := 2) (u := .int .i64 cl) R8
              have HW10 := Lib.hid hW10
              clear hW10 hcl b8 R8 CC7 c2 HLT7
              go_upto_region 9 with fail
              rw [← HW10.out]
              clear z0 z1 z2 z3 f0 f1 f2 f3
              obtain ⟨z0, z1, z2, z3, f0, f1, f2, f3⟩ := four_cells HR10.out
              have A1 : Hid (Rk.OwnK 89 4 w.heap.size (W10.alloc (.cells #[Value.int .i64 yi, .int .i64 j, .int .i64 cl, .bool true] 89)) (.slice ao k co) xs) := HPX.out _ (below_al K10.out _)
              have A2 : Hid (Rk.RowK 4 (W10.alloc (.cells #[Value.int .i64 yi, .int .i64 j, .int .i64 cl, .bool true] 89)) (.slice (some ⟨W10.heap.size, 0, none⟩) 1 1) [[Value.int .i64 yi, .int .i64 j, .int .i64 cl, .bool true]]) := Rk.row_one (e := 89) (heap_alloc_new _ _) rfl
              have HBY : Hid (Below w.heap.size w (W10.alloc (.cells #[Value.int .i64 yi, .int .i64 j, .int .i64 cl, .bool true] 89))) := below_more HB.out (below_al K10.out _)
              have A4 : Hid (w.heap.size ≤ (W10.alloc (.cells #[Value.int .i64 yi, .int .i64 j, .int .i64 cl, .bool true] 89)).heap.size) := HBY.out.size
              have A3 : Hid (xs.length + 1 ≤ 100000) := by show _ ≤ _; rw [HXL.out]; omega
              have HYO : Hid (∀ y ∈ [[Value.int .i64 yi, .int .i64 j, .int .i64 cl, .bool true]], ∀ u ∈ y, u.oneCell' = true) := fun y hy u hu => by
                simp only [List.mem_singleton] at hy
                subst hy
                simp at hu
                rcases hu with rfl | rfl | rfl | rfl <;> rfl
              go_wp2_with (at_builtin; refine Rk.wpList_append_rowk rfl _ _ 85 89 4 32 _ Tryd.underlying85 infoPc rfl (by decide) (by decide) rfl w.heap.size _ _ xs _ rfl rfl A1.out A2.out HYO.out A3.out A4.out ?_)
              intro v6 w6 h6 g6 _
              have HB6 := Lib.hid (A1.out.belowOf HBY.out (Nat.le_refl _) A4.out g6)
              have K6 : Hid (OPc w.heap.size w6 v6 (Lk o (G.take (k + 1)))) := by
                show Rk.OwnK _ _ _ _ _ _
                rw [EQ2.out, List.map_append, ← HXS.out]
                exact h6
              obtain ⟨a6, c6, rfl⟩ := K6.out.is_slice
              clear h6 g6 A1 A2 A3 A4 HBY HYO EQ2
              rw [RL6.out] at K6 ⊢
              go_wp2_with fail
              go_roundg (n - (k + 1))
              case measure => omega
              case rel => exact ⟨k + 1, by omega, Nat.le_refl _, by go_num, K6.out, HB6.out⟩
          · have hob : o (j : Int) = false := T1.out _ (by omega)
            have j2 : ¬ ((j : Int) < (mb : Int)) := by omega
            have j3 : decide ((j : Int) < (mb : Int)) = false := decide_eq_false j2
            have EQ2 : Hid (Lk o (G.take (k + 1)) = Lk o (G.take k) ++ [⟨yi, (j : Int), 0, false⟩]) := by show _ = _; rw [EQ.out]; simp [vw, Vw.pc, hob]
            clear hob EQ
            go_upto_region 9 with fail

            have A1 : Hid (Rk.OwnK 89 4 w.heap.size (wc.alloc (.cells #[Value.int .i64 yi, .int .i64 j, .int .i64 0, .bool false] 89)) (.slice ao k co) xs) := HPX.out _ (below_al K9.out _)
            have A2 : Hid (Rk.RowK 4 (wc.alloc (.cells #[Value.int .i64 yi, .int .i64 j, .int .i64 0, .bool false] 89)) (.slice (some ⟨wc.heap.size, 0, none⟩) 1 1) [[Value.int .i64 yi, .int .i64 j, .int .i64 0, .bool false]]) := Rk.row_one (e := 89) (heap_alloc_new _ _) rfl
            have HBY : Hid (Below w.heap.size w (wc.alloc (.cells #[Value.int .i64 yi, .int .i64 j, .int .i64 0, .bool false] 89))) := below_more HB.out (below_al K9.out _)
            have A4 : Hid (w.heap.size ≤ (wc.alloc (.cells #[Value.int .i64 yi, .int .i64 j, .int .i64 0, .bool false] 89)).heap.size) := HBY.out.size
            have A3 : Hid (xs.length + 1 ≤ 100000) := by show _ ≤ _; rw [HXL.out]; omega
            have HYO : Hid (∀ y ∈ [[Value.int .i64 yi, .int .i64 j, .int .i64 0, .bool false]], ∀ u ∈ y, u.oneCell' = true) := fun y hy u hu => by
              simp only [List.mem_singleton] at hy
              subst hy
              simp at hu
              rcases hu with rfl | rfl | rfl | rfl <;> rfl
            go_wp2_with (at_builtin; refine Rk.wpList_append_rowk rfl _ _ 85 89 4 32 _ Tryd.underlying85 infoPc rfl (by decide) (by decide) rfl w.heap.size _ _ xs _ rfl rfl A1.out A2.out HYO.out A3.out A4.out ?_)
            intro v6 w6 h6 g6 _
            have HB6 := Lib.hid (A1.out.belowOf HBY.out (Nat.le_refl _) A4.out g6)
            have K6 : Hid (OPc w.heap.size w6 v6 (Lk o (G.take (k + 1)))) := by
              show Rk.OwnK _ _ _ _ _ _
              rw [EQ2.out, List.map_append, ← HXS.out]
              exact h6
            obtain ⟨a6, c6, rfl⟩ := K6.out.is_slice
            clear h6 g6 A1 A2 A3 A4 HBY HYO EQ2
            rw [RL6.out] at K6 ⊢
            go_wp2_with fail
            go_roundg (n - (k + 1))
            case measure => omega
            case rel => exact ⟨k + 1, by omega, Nat.le_refl _, by go_num, K6.out, HB6.out⟩
    · obtain rfl : k = n := by omega
      have i1 : ¬ ((k : Int) < (k : Int)) := by omega
      have et : G.take k = G := by rw [HN.out, List.take_length]
      rw [et] at HP RL
      have FIN : Hid (Pcs wr _ (Lk o G)) := ⟨Rk.OwnK.row HP.out, HFG.out⟩
      obtain ⟨ao, co, rfl⟩ := HP.out.is_slice
      rw [RL.out] at FIN ⊢
      clear hbel HP et
      go_wp2_with fail
      go_ret
      exact ⟨_, rfl, FIN.out, HB.out⟩
end Go.Proofs.YtcpdoicbekcpeaaDoor.Vi
