/- Contract: Put of the program. -/
import Derived.Test.YtengmiolcfgdiaaDoorPjk
set_option linter.unusedVariables false
namespace Go.Proofs.YtengmiolcfgdiaaDoor.Rig
open Go.RowKit Go.Lib Go.Proofs.YtengmiolcfgdiaaDoor.Rt

theorem putB_take {T : List St} {k : Nat} (p q : Int) (h : k < T.length) : ((T.take (k + 1)).map fun x : St => (⟨x.m, x.a + p + q⟩ : St)) = ((T.take k).map fun x : St => (⟨x.m, x.a + p + q⟩ : St)) ++ [⟨(st T k).m, (st T k).a + p + q⟩] := by
  rw [List.take_succ_eq_append_getElem h, List.map_append, st_get h]
  rfl
def newB (mk k : Int) : Bool := decide (0 < mk ∧ 0 < k)
set_option maxRecDepth 100000 in
set_option maxHeartbeats 16000000 in
theorem put_any {sv tv : Value} {S : List Sp} {T : List St} (n p k mk : Int) (w : World) (hS : Spans w sv S) (hT : Sites w tv T) (hRS : RS 0 0 n S) (hRT : RT n T) (hp0 : 0 ≤ p) (hp : p ≤ n) (hn : n ≤ 10000) (hk0 : 0 ≤ k) (hk : k ≤ 10000) (hmk : i64 mk) (hls : S.length ≤ 10000) (hlt : T.length ≤ 10000) :
    Calls Tryd.prog 72 #[.agg #[sv, tv], .int .i64 p, .int .i64 k, .int .i64 mk] w (GivesM w (pPut S p k mk) (pPutT T p k)) := by
  have hat : ∀ j, j < S.length → 0 ≤ (sp S j).f ∧ (sp S j).f ≤ (sp S j).t ∧ (sp S j).t ≤ n := fun j hj => by
    obtain ⟨_, b, c, d⟩ := hRS.ord.mem (sp S j) (by rw [sp_get hj]; exact List.getElem_mem hj)
    exact ⟨b, by omega, d⟩
  have htt : ∀ j, j < T.length → 0 ≤ (st T j).a ∧ (st T j).a ≤ n := fun j hj => by
    obtain ⟨_, b, c⟩ := hRT.2 (st T j) (mem_st.2 ⟨j, hj, rfl⟩)
    exact ⟨b, c⟩
  obtain ⟨W0, hW0⟩ : ∃ W0, W0 = (w.alloc (.cells #[sv, tv] 29)).alloc (.cells #[.slice none 0 0, .slice none 0 0] 29) := ⟨_, rfl⟩
  have b0 : Below w.heap.size w W0 := by rw [hW0]; exact ((Below.refl _ _).alloc (Nat.le_refl _) _).alloc (by simp) _
  have r0 : W0.heap[w.heap.size]? = some (.cells #[sv, tv] 29 (0, 0)) := by rw [hW0]; simp only [alloc_at, World.size_alloc]; repeat (first | rw [if_pos (by first | trivial | omega)] | rw [if_neg (by omega)])
  have r1 : W0.heap[w.heap.size + 1]? = some (.cells #[.slice none 0 0, .slice none 0 0] 29 (0, 0)) := by rw [hW0]; simp only [alloc_at, World.size_alloc]; repeat (first | rw [if_pos (by first | trivial | omega)] | rw [if_neg (by omega)])
  have CP := Lib.hid (part_any p W0 (hS.below b0 (Nat.le_refl _)) (hT.below b0 (Nat.le_refl _)) hp0 (by omega) hls hlt (fun j hj => by obtain ⟨u1, u2, u3⟩ := hat j hj; exact ⟨u1, u2, by omega⟩) (fun j hj => by obtain ⟨u1, u2⟩ := htt j hj; exact ⟨u1, by omega⟩))
  have lA : (pA p S).length ≤ 10000 := Nat.le_trans (pA_len p S) hls
  have lB : (pB p S).length ≤ 10000 := Nat.le_trans (pB_len p S) hls
  have lTA : (sA p T).length ≤ 10000 := Nat.le_trans (sA_len p T) hlt
  have lTB : (sB p T).length ≤ 10000 := Nat.le_trans (sB_len p T) hlt
  have oB : ∀ j, j < (pB p S).length → 0 ≤ (sp (pB p S) j).f ∧ (sp (pB p S) j).f ≤ (sp (pB p S) j).t ∧ (sp (pB p S) j).t ≤ 10000 := fun j hj => by
    obtain ⟨_, b, c, d⟩ := (RS_pB (p := p) hRS).ord.mem (sp (pB p S) j) (by rw [sp_get hj]; exact List.getElem_mem hj)
    exact ⟨b, by omega, by omega⟩
  have oTB : ∀ j, j < (sB p T).length → 0 ≤ (st (sB p T) j).a ∧ (st (sB p T) j).a ≤ 10000 := fun j hj => by
    obtain ⟨_, b, c⟩ := (sB_right (p := p) hRT).2 (st (sB p T) j) (mem_st.2 ⟨j, hj, rfl⟩)
    exact ⟨b, by omega⟩
  have EP : Hid (pPut S p k mk = joins (pNew S p k mk) (mvS (p + k) (pB p S))) := rfl
  have EQ : Hid (pPutT T p k = sA p T ++ (sB p T).map fun x : St => (⟨x.m, x.a + p + k⟩ : St)) := rfl
  have EN : Hid (pNew S p k mk = if 0 < mk ∧ 0 < k then joinL (pA p S) ⟨mk, p, p + k⟩ else pA p S) := rfl
  generalize pPut S p k mk = RP at *
  generalize pPutT T p k = RQ at *
  generalize pNew S p k mk = RN at *
  generalize pA p S = SA at *
  generalize pB p S = SB at *
  generalize sA p T = TA at *
  generalize sB p T = TB at *
  obtain ⟨sa, sc, rfl⟩ := hS.is_slice
  obtain ⟨ta, tc, rfl⟩ := hT.is_slice
  generalize S.length = ls at *
  generalize T.length = lt at *
  have HOB := Lib.hid oB
  have HOT := Lib.hid oTB
  obtain ⟨m1, m2⟩ := hmk
  have c0 : W0.cell? ⟨w.heap.size, 0, none⟩ = some (.slice sa ls sc) := by rw [cell_of_row _ _ _ _ _ _ r0]; rfl
  have c1 : W0.cell? ⟨w.heap.size, 1, none⟩ = some (.slice ta lt tc) := by rw [cell_of_row _ _ _ _ _ _ r0]; rfl
  have l0 : W0.heap.size = w.heap.size + 1 + 1 := by rw [hW0]; simp
  have HW0 := Lib.hid hW0
  have L0 := Lib.hid l0
  have B0 := Lib.hid b0
  have R1 := Lib.hid r1
  clear hS hT hRS hRT hat htt oB oTB b0 r0 r1 hW0 l0
  go_enter Tryd.func72, Tryd.ntmps72
  go_wp2_with fail
  rw [← HW0.out]
  go_wp2_with fail
  refine CP.out.mono ?_
  rintro e w1 ⟨v1, v2, v3, v4, rfl, o1, o2, o3, o4, p1, p2, b1⟩
  obtain ⟨WA, hWA⟩ : ∃ WA, WA = (w1.alloc (.cells #[v1, v2] 29)).alloc (.cells #[v3, v4] 29) := ⟨_, rfl⟩
  have bA : Below w1.heap.size w1 WA := by rw [hWA]; exact ((Below.refl _ _).alloc (Nat.le_refl _) _).alloc (by simp) _
  have z0 : WA.heap[w1.heap.size]? = some (.cells #[v1, v2] 29 (0, 0)) := by rw [hWA]; simp only [alloc_at, World.size_alloc]; repeat (first | rw [if_pos (by first | trivial | omega)] | rw [if_neg (by omega)])
  have z1 : WA.heap[w1.heap.size + 1]? = some (.cells #[v3, v4] 29 (0, 0)) := by rw [hWA]; simp only [alloc_at, World.size_alloc]; repeat (first | rw [if_pos (by first | trivial | omega)] | rw [if_neg (by omega)])
  have J0 : Hid (PJ W0 w1.heap.size (w1.heap.size + 1) v1 v2 v3 v4 SB TB WA v1 SA v2 TA) := ⟨z0, z1, OwnF.below o1 bA, OwnF.below o2 bA, OwnF.below o3 bA, OwnF.below o4 bA, p1, p2, below_more b1 bA⟩
  obtain ⟨a1, d1, rfl⟩ := o1.is_slice
  obtain ⟨a2, d2, rfl⟩ := o2.is_slice
  obtain ⟨a3, d3, rfl⟩ := o3.is_slice
  obtain ⟨a4, d4, rfl⟩ := o4.is_slice
  have y0 : WA.cell? ⟨w1.heap.size, 0, none⟩ = some (.slice a1 SA.length d1) := by rw [cell_of_row _ _ _ _ _ _ z0]; rfl
  have y1 : WA.cell? ⟨w1.heap.size, 1, none⟩ = some (.slice a2 TA.length d2) := by rw [cell_of_row _ _ _ _ _ _ z0]; rfl
  have HWA := Lib.hid hWA
  clear o1 o2 o3 o4 p1 p2 b1 bA z0 z1 CP c0 c1 hWA
  go_upto_region 2 with fail
  rw [← HWA.out]
  go_upto_region 3 with fail
  go_cut [30] from 25 to 38 (fun c wx => c = .bool (newB mk k) ∧ wx = WA)
  case first =>
    by_cases h1 : 0 < mk
    · by_cases h2 : 0 < k
      · have E : Hid (newB mk k = true) := decide_eq_true ⟨h1, h2⟩
        have d2 : decide (0 < k) = true := by simpa using h2
        go_wp2_with fail
        go_meet
        case rel => exact ⟨congrArg Value.bool E.out.symm, rfl⟩
      · have E : Hid (newB mk k = false) := decide_eq_false (fun hc => h2 hc.2)
        have d2 : decide (0 < k) = false := by simpa using h2
        go_wp2_with fail
        go_meet
        case rel => exact ⟨congrArg Value.bool E.out.symm, rfl⟩
    · have E : Hid (newB mk k = false) := decide_eq_false (fun hc => h1 hc.1)
      go_wp2_with fail
      go_meet
      case rel => exact ⟨congrArg Value.bool E.out.symm, rfl⟩
  case rest =>
  obtain ⟨rfl, rfl⟩ := hcut
  go_upto_if 30 with fail
  go_cut [11] from 25 to 38 (fun u wx => ∃ uv, Hid (u = uv ∧ PJ W0 w1.heap.size (w1.heap.size + 1) (.slice a1 SA.length d1) (.slice a2 TA.length d2) (.slice a3 SB.length d3) (.slice a4 TB.length d4) SB TB wx uv RN (.slice a2 TA.length d2) TA))
  case first =>
    cases hb : newB mk k with
    | true =>
      obtain ⟨h1, h2⟩ : 0 < mk ∧ 0 < k := of_decide_eq_true hb
      have E : Hid (RN = joinL SA ⟨mk, p, p + k⟩) := EN.out.trans (if_pos ⟨h1, h2⟩)
      have CJ := Lib.hid (join_any mk p (p + k) wc J0.out.row J0.out.old.size (by omega) ⟨by omega, by omega⟩ ⟨by omega, by omega⟩ ⟨by omega, by omega⟩)
      go_wp2_with fail
      refine CJ.out.mono ?_
      rintro e w2 ⟨u, rfl, K, g, hat⟩
      have J1 := Lib.hid (J0.out.join K g hat)
      clear K g hat CJ J0
      go_wp2_with fail
      go_meet
      case rel => exact ⟨u, rfl, by rw [E.out]; exact J1.out⟩
    | false =>
      have hn : ¬ (0 < mk ∧ 0 < k) := of_decide_eq_false hb
      have E : Hid (RN = SA) := EN.out.trans (if_neg hn)
      clear hn
      go_wp2_with fail
      go_meet
      case rel => exact ⟨_, rfl, by rw [E.out]; exact J0.out⟩
  case rest =>
    obtain ⟨u, HU⟩ := hcut
    obtain rfl := HU.out.1
    have J1 := Lib.hid HU.out.2
    have lN : RN.length ≤ 10001 := by
      rw [EN.out]
      have := joinL_len SA ⟨mk, p, p + k⟩
      split <;> omega
    clear HU J0 y0 y1 EN HWA
    have y2 : wc.cell? ⟨w1.heap.size + 1, 0, none⟩ = some (.slice a3 SB.length d3) := by rw [cell_of_row _ _ _ _ _ _ J1.out.r10]; rfl
    have y3 : wc.cell? ⟨w1.heap.size + 1, 1, none⟩ = some (.slice a4 TB.length d4) := by rw [cell_of_row _ _ _ _ _ _ J1.out.r10]; rfl
    obtain ⟨_, _, hv3, hl3, hc3, hq3⟩ := J1.out.fst.spans.open_
    injection hv3 with e1 _ e3
    subst e1 e3
    obtain ⟨rn, cn, hu⟩ := J1.out.row.is_slice
    obtain ⟨nb, hnb⟩ : ∃ nb, nb = SB.length := ⟨_, rfl⟩
    have HNB := Lib.hid hnb
    rw [← hnb] at J1 y2 hl3 lB
    have EB : Hid (joins RN (mvS (p + k) (SB.take nb)) = joins RN (mvS (p + k) SB)) := by show _ = _; rw [hnb, List.take_length]
    clear hnb hq3 hu
    go_wp2_with fail
    go_loopg [11, 42] nb (fun g x i wr => ∃ (j : Nat) (u : Value), u = x ∧ j ≤ nb ∧ nb - j ≤ g ∧ i = .int .i64 j ∧ Hid (PJ W0 w1.heap.size (w1.heap.size + 1) (.slice a1 SA.length d1) (.slice a2 TA.length d2) (.slice a3 nb d3) (.slice a4 TB.length d4) SB TB wr u (joins RN (mvS (p + k) (SB.take j))) (.slice a2 TA.length d2) TA))
    case atStart => exact ⟨0, _, rfl, Nat.zero_le _, by omega, rfl, J1.out⟩
    case round =>
      clear J1 y2 y3
      obtain ⟨j, u, rfl, hj, hg, rfl, HJ⟩ := hrel
      have HJL : Hid ((joins RN (mvS (p + k) (SB.take j))).length ≤ 90000) := by
        show _ ≤ _
        have h1 := joins_len (mvS (p + k) (SB.take j)) RN
        rw [mvS_len] at h1
        have h2 := List.length_take_le j SB
        omega
      obtain ⟨RJ, hRJ⟩ : ∃ RJ, RJ = joins RN (mvS (p + k) (SB.take j)) := ⟨_, rfl⟩
      by_cases hltk : j < nb
      · have hkl : j < SB.length := by rw [← HNB.out]; exact hltk
        obtain ⟨_, _, hv3, _, _, hq3⟩ := HJ.out.fst.spans.open_
        obtain ⟨b, off, ha, hb, ⟨⟨m3, m4⟩, ⟨f1, f2⟩, ⟨t1, t2⟩⟩, e0, e1, e2⟩ := hq3 j hkl
        injection hv3 with e3 e5 e4
        obtain rfl := e3.trans ha
        obtain ⟨g1, g2, g3⟩ := HOB.out j hkl
        have EJ := Lib.hid ((congrArg (joins RN) (mvS_take (p + k) hkl)).trans (joins_snoc _ _ _))
        rw [← hRJ] at EJ HJ HJL
        obtain ⟨e, he⟩ : ∃ e, e = sp SB j := ⟨_, rfl⟩
        rw [← he] at m3 m4 f1 f2 t1 t2 e0 e1 e2 g1 g2 g3 EJ
        obtain ⟨m, f, t⟩ := e
        simp only at m3 m4 f1 f2 t1 t2 e0 e1 e2 g1 g2 g3
        have HX := Lib.hid (HJ.out.alloc (.cells #[.int .i64 m, .int .i64 f, .int .i64 t] 104))
        have CM := Lib.hid (moved_any m f t (p + k) (wr.alloc (.cells #[.int .i64 m, .int .i64 f, .int .i64 t] 104)) ⟨m3, m4⟩ ⟨g1, by omega⟩ ⟨by omega, by omega⟩ ⟨by omega, by omega⟩)
        have CJ : Hid (∀ w', Below (wr.alloc (.cells #[.int .i64 m, .int .i64 f, .int .i64 t] 104)).heap.size (wr.alloc (.cells #[.int .i64 m, .int .i64 f, .int .i64 t] 104)) w' → Calls Tryd.prog 91 #[u, .agg #[.int .i64 m, .int .i64 (f + (p + k)), .int .i64 (t + (p + k))]] w' (Joined W0.heap.size w' u (joinL RJ ⟨m, f + (p + k), t + (p + k)⟩))) := fun w' hb => join_any m (f + (p + k)) (t + (p + k)) w' (HX.out.below hb).row (HX.out.below hb).old.size HJL.out ⟨m3, m4⟩ ⟨by omega, by omega⟩ ⟨by omega, by omega⟩
        clear hq3 he HJL hRJ
        try clear e4
        try clear e5
        try clear e3
        try clear ha
        go_wp2_with fail
        refine CM.out.mono ?_
        rintro e w2 ⟨rfl, b2⟩
        have J2 := Lib.hid (HX.out.below b2)
        have CJ2 := Lib.hid (CJ.out w2 b2)
        clear b2 CJ CM HX
        go_wp2_with fail
        refine CJ2.out.mono ?_
        rintro e w3 ⟨u3, rfl, K, g, hat⟩
        have J3 := Lib.hid (J2.out.join K g hat)
        clear K g hat CJ2 J2
        go_wp2_with fail
        go_roundg (nb - (j + 1))
        case measure => omega
        case rel => exact ⟨j + 1, u3, rfl, by omega, Nat.le_refl _, by go_num, by rw [EJ.out]; exact J3.out⟩
      · obtain rfl : j = nb := by omega
        have J2 : Hid (PJ W0 w1.heap.size (w1.heap.size + 1) (.slice a1 SA.length d1) (.slice a2 TA.length d2) (.slice a3 j d3) (.slice a4 TB.length d4) SB TB wr u RP (.slice a2 TA.length d2) TA) := by
          show PJ _ _ _ _ _ _ _ _ _ _ _ _ _ _
          rw [EP.out, ← EB.out]
          exact HJ.out
        clear HJ HJL hRJ EB
        have y0 : wr.cell? ⟨w1.heap.size, 0, none⟩ = some (.slice a1 SA.length d1) := by rw [cell_of_row _ _ _ _ _ _ J2.out.r9]; rfl
        have y1 : wr.cell? ⟨w1.heap.size, 1, none⟩ = some (.slice a2 TA.length d2) := by rw [cell_of_row _ _ _ _ _ _ J2.out.r9]; rfl
        have y2 : wr.cell? ⟨w1.heap.size + 1, 0, none⟩ = some (.slice a3 j d3) := by rw [cell_of_row _ _ _ _ _ _ J2.out.r10]; rfl
        have y3 : wr.cell? ⟨w1.heap.size + 1, 1, none⟩ = some (.slice a4 TB.length d4) := by rw [cell_of_row _ _ _ _ _ _ J2.out.r10]; rfl
        obtain ⟨wm, hwm⟩ : ∃ wm : World, wm = wr := ⟨_, rfl⟩
        subst hwm
        obtain ⟨_, _, hv4, hl4, hc4, _⟩ := J2.out.snd.sites.open_
        injection hv4 with e1 _ e3
        subst e1 e3
        obtain ⟨nc, hnc⟩ : ∃ nc, nc = TB.length := ⟨_, rfl⟩
        have HNC := Lib.hid hnc
        rw [← hnc] at J2 y3 hl4 lTB
        have EC : Hid (TA ++ ((TB.take nc).map fun x : St => (⟨x.m, x.a + p + k⟩ : St)) = RQ) := by show _ = _; rw [hnc, List.take_length, EQ.out]
        clear hnc
        go_wp2_with fail
        go_loopg [14, 59] nc (fun g x i wr => ∃ (j' : Nat) (s : Value), s = x ∧ j' ≤ nc ∧ nc - j' ≤ g ∧ i = .int .i64 j' ∧ Hid (PJ W0 w1.heap.size (w1.heap.size + 1) (.slice a1 SA.length d1) (.slice a2 TA.length d2) (.slice a3 j d3) (.slice a4 nc d4) SB TB wr u RP s (TA ++ ((TB.take j').map fun x : St => (⟨x.m, x.a + p + k⟩ : St)))))
        case atStart => exact ⟨0, _, rfl, Nat.zero_le _, by omega, rfl, by rw [List.take_zero, List.map_nil, List.append_nil]; exact J2.out⟩
        case round =>
          clear J2 y0 y1 y2 y3
          obtain ⟨j', s, rfl, hj', hg', rfl, HJ⟩ := hrel
          obtain ⟨RJ, hRJ⟩ : ∃ RJ, RJ = TA ++ ((TB.take j').map fun x : St => (⟨x.m, x.a + p + k⟩ : St)) := ⟨_, rfl⟩
          have HJL : Hid (RJ.length ≤ 100000) := by
            show _ ≤ _
            rw [hRJ, List.length_append, List.length_map]
            have h2 := List.length_take_le j' TB
            omega
          by_cases hltk : j' < nc
          · have hkl : j' < TB.length := by rw [← HNC.out]; exact hltk
            obtain ⟨_, _, hv4, _, _, hq4⟩ := HJ.out.snd.sites.open_
            obtain ⟨b, off, ha, hb, ⟨⟨m3, m4⟩, ⟨f1, f2⟩⟩, e0, e1⟩ := hq4 j' hkl
            injection hv4 with e3 e5 e4
            obtain rfl := e3.trans ha
            obtain ⟨g1, g2⟩ := HOT.out j' hkl
            have EJ := Lib.hid ((congrArg (TA ++ ·) (putB_take p k hkl)).trans (List.append_assoc _ _ _).symm)
            replace EJ : Hid (TA ++ ((TB.take (j' + 1)).map fun x : St => (⟨x.m, x.a + p + k⟩ : St)) = _) := EJ
            rw [← hRJ] at EJ HJ
            obtain ⟨e, he⟩ : ∃ e, e = st TB j' := ⟨_, rfl⟩
            rw [← he] at m3 m4 f1 f2 e0 e1 g1 g2 EJ
            obtain ⟨m, f⟩ := e
            simp only at m3 m4 f1 f2 e0 e1 g1 g2
            obtain ⟨so, sc', rfl⟩ := HJ.out.site.is_slice
            have HX := Lib.hid ((HJ.out.alloc (.cells #[.int .i64 m, .int .i64 f] 120)).alloc (.cells #[.int .i64 m, .int .i64 (f + p + k)] 120))
            have A1 := Lib.hid HX.out.site
            have A2 : Hid (((wr.alloc (.cells #[.int .i64 m, .int .i64 f] 120)).alloc (.cells #[.int .i64 m, .int .i64 (f + p + k)] 120)).heap[wr.heap.size + 1]? = some (.cells #[.int .i64 m, .int .i64 (f + p + k)] 120)) := by have := heap_alloc_new (wr.alloc (.cells #[.int .i64 m, .int .i64 f] 120)) (.cells #[.int .i64 m, .int .i64 (f + p + k)] 120); rw [World.size_alloc] at this; exact this
            have A4 : Hid (W0.heap.size ≤ ((wr.alloc (.cells #[.int .i64 m, .int .i64 f] 120)).alloc (.cells #[.int .i64 m, .int .i64 (f + p + k)] 120)).heap.size) := HX.out.old.size
            have A5 : Hid (∀ q ∈ [m, f + p + k], i64 q) := good2 ⟨m3, m4⟩ ⟨by omega, by omega⟩
            clear hq4 he hRJ
            try clear e4
            try clear e5
            try clear e3
            try clear ha
            go_wp2_with (at_builtin; refine wpList_append_at rfl _ _ 23 120 2 16 _ Tryd.underlying23 infoSite rfl (by decide) (by decide) rfl W0.heap.size _ RJ.length _ rfl A1.out (wr.heap.size + 1) [m, f + p + k] rfl A2.out rfl A5.out HJL.out A4.out ?_)
            intro v6 w6 h5 g5 hat
            have K6 : Hid (OwnSt W0.heap.size w6 v6 (RJ ++ [⟨m, f + p + k⟩])) := by
              show OwnF _ _ _ _ _ _ _
              rw [fl2_app, List.length_append]
              exact h5
            have J6 := Lib.hid (HX.out.app K6.out g5 (by
              rcases hat with h | h
              · exact .inl h
              · exact .inr ⟨_, h, by simp⟩))
            obtain ⟨a6, c6, rfl⟩ := K6.out.is_slice
            clear h5 g5 hat A1 A2 A4 A5 HX K6 HJ HJL
            go_wp2_with fail
            go_roundg (nc - (j' + 1))
            case measure => omega
            case rel => exact ⟨j' + 1, _, rfl, by omega, Nat.le_refl _, by go_num, by rw [EJ.out]; exact J6.out⟩
          · obtain rfl : j' = nc := by omega
            rw [EC.out] at HJ
            clear hRJ HJL
            have q0 : wr.heap[w.heap.size + 1]? = some (.cells #[.slice none 0 0, .slice none 0 0] 29 (0, 0)) := by
              rw [HJ.out.old.block _ (by have := L0.out; omega)]
              exact R1.out
            have u0 : wr.cell? ⟨w.heap.size + 1, 0, none⟩ = some (.slice none 0 0) := by rw [cell_of_row _ _ _ _ _ _ q0]; rfl
            have u1 : wr.cell? ⟨w.heap.size + 1, 1, none⟩ = some (.slice none 0 0) := by rw [cell_of_row _ _ _ _ _ _ q0]; rfl
            have f0 : wr.frozen? ⟨w.heap.size + 1, 0, none⟩ = false := block_frozen q0
            have f1 : wr.frozen? ⟨w.heap.size + 1, 1, none⟩ = false := block_frozen q0
            obtain ⟨x1, x2, rfl⟩ := HJ.out.row.is_slice
            obtain ⟨x3, x4, rfl⟩ := HJ.out.site.is_slice
            have FIN := Lib.hid (give_one (w := w) (Nat.le_add_right _ 1) q0 HJ.out.row HJ.out.site (below_more B0.out HJ.out.old))
            obtain ⟨z0, z1⟩ := res_cells (a1 := x1) (n1 := RP.length) (c1 := x2) (a2 := x3) (n2 := RQ.length) (c2 := x4) q0
            clear q0 HJ
            generalize RP.length = lp at *
            generalize RQ.length = lq at *
            go_wp2_with fail
            exact bodyPost_ret (v := .agg #[.slice x1 lp x2, .slice x3 lq x4]) (by simp [results, Tryd.results72, go_sem, z0, z1]) rfl FIN.out
end Go.Proofs.YtengmiolcfgdiaaDoor.Rig
