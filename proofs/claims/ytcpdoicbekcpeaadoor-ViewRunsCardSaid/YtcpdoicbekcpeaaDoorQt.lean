/- Segments: loaded; Has; the plain text's with, Insert. Segments: mathematics of what is taken away and put back. -/
import Derived.Test.YtcpdoicbekcpeaaDoorQs
set_option linter.unusedVariables false
set_option maxRecDepth 100000
namespace Go.Proofs.YtcpdoicbekcpeaaDoor.Seg
open Go.RowKit Go.Lib Go.Proofs.YtcpdoicbekcpeaaDoor.Rt Go.Proofs.YtcpdoicbekcpeaaDoor.Rig

theorem box3 (w : World) (cs ds zs : Array Value) (ty td tz : TypeId) : Below w.heap.size w (((w.alloc (.cells cs ty)).alloc (.cells ds td)).alloc (.cells zs tz)) ∧ (((w.alloc (.cells cs ty)).alloc (.cells ds td)).alloc (.cells zs tz)).heap[w.heap.size]? = some (.cells cs ty (0, 0)) ∧ (((w.alloc (.cells cs ty)).alloc (.cells ds td)).alloc (.cells zs tz)).heap[w.heap.size + 1]? = some (.cells ds td (0, 0)) ∧ (((w.alloc (.cells cs ty)).alloc (.cells ds td)).alloc (.cells zs tz)).heap[w.heap.size + 1 + 1]? = some (.cells zs tz (0, 0)) ∧ (((w.alloc (.cells cs ty)).alloc (.cells ds td)).alloc (.cells zs tz)).heap.size = w.heap.size + 1 + 1 + 1 := by
  refine ⟨(((Below.refl _ _).alloc (Nat.le_refl _) _).alloc (by simp) _).alloc (by simp; omega) _, ?_, ?_, ?_, by simp⟩ <;> (simp only [alloc_at, World.size_alloc]; repeat (first | rw [if_pos (by first | trivial | omega)] | rw [if_neg (by omega)]))
/-- Both may be. -/
def loadB (L : Bytes) (S : List Sp) (T : List St) (t : Bytes) : Bool := smallB L S T && (right5 L S T && (decide (t.length ≤ 1500) && Let.right t))

set_option maxHeartbeats 8000000 in
theorem loaded_no {v : Value} {i l : Int} {L : Bytes} {S : List Sp} {T : List St} (w : World) (da dn dm dq : Int) (dt : Bytes) (h : Pl w v i l L S T) (hB : loadB L S T dt = false) (hTb : Tabs w) (hdl : dt.length ≤ maxLen) :
    Calls Tryd.prog 17 #[v, .agg #[.int .i64 da, .int .i64 dn, .int .i64 dm, .int .i64 dq, .string (Let.mk dt)]] w (fun e w' => e = .returned (.tuple #[.agg #[.int .i64 0, .int .i64 0, .pointer none, .slice none 0 0, .slice none 0 0], .bool false]) ∧ Below w.heap.size w w') := by
  have C1 : Hid (∀ w', Below w.heap.size w w' → Calls Tryd.prog 74 #[v] w' fun e w'' => e = .returned (.bool (smallB L S T)) ∧ Below w'.heap.size w' w'') := fun w' hb => small_any w' (h.below hb (Nat.le_refl _))
  have C2 : Hid (smallB L S T = true → ∀ w', Below w.heap.size w w' → Calls Tryd.prog 33 #[v] w' fun e w'' => e = .returned (.bool (right5 L S T)) ∧ Below w'.heap.size w' w'') := fun hs w' hb => right5_any w' (h.below hb (Nat.le_refl _)) (by have : L.length ≤ 1500 ∧ S.length ≤ 300 ∧ T.length ≤ 300 := of_decide_eq_true hs; omega)
  have C3 : Hid (∀ w', Calls Tryd.prog 19 #[.string (Let.mk dt)] w' fun e w'' => e = .returned (.bool (Let.right dt)) ∧ w' = w'') := fun w' => right1_any dt w' hdl
  have CLD : True := trivial
  obtain ⟨sa, sc, ta, tc, rfl, hS, hT⟩ := h.open_
  obtain ⟨ls, hls⟩ : ∃ ls, ls = S.length := ⟨_, rfl⟩
  obtain ⟨lt, hlt⟩ : ∃ lt, lt = T.length := ⟨_, rfl⟩
  obtain ⟨W0, hW0⟩ : ∃ W0, W0 = ((w.alloc (.cells #[.int .i64 i, .int .i64 l, .string (Let.mk L), .slice sa ls sc, .slice ta lt tc] 25)).alloc (.cells #[.int .i64 da, .int .i64 dn, .int .i64 dm, .int .i64 dq, .string (Let.mk dt)] 27)).alloc (.cells #[.int .i64 0, .int .i64 0, .pointer none, .slice none 0 0, .slice none 0 0] 33) := ⟨_, rfl⟩
  obtain ⟨b0, r0, r1, z0, l0⟩ := box3 w #[.int .i64 i, .int .i64 l, .string (Let.mk L), .slice sa ls sc, .slice ta lt tc] #[.int .i64 da, .int .i64 dn, .int .i64 dm, .int .i64 dq, .string (Let.mk dt)] #[.int .i64 0, .int .i64 0, .pointer none, .slice none 0 0, .slice none 0 0] 25 27 33
  rw [← hW0] at b0 r0 r1 z0 l0
  have BX : Hid (∀ w', Below W0.heap.size W0 w' → (w'.cell? ⟨w.heap.size, 0, none⟩ = some (.int .i64 i) ∧ w'.cell? ⟨w.heap.size, 1, none⟩ = some (.int .i64 l) ∧ w'.cell? ⟨w.heap.size, 2, none⟩ = some (.string (Let.mk L)) ∧ w'.cell? ⟨w.heap.size, 3, none⟩ = some (.slice sa ls sc) ∧ w'.cell? ⟨w.heap.size, 4, none⟩ = some (.slice ta lt tc)) ∧ (w'.cell? ⟨w.heap.size + 1, 0, none⟩ = some (.int .i64 da) ∧ w'.cell? ⟨w.heap.size + 1, 1, none⟩ = some (.int .i64 dn) ∧ w'.cell? ⟨w.heap.size + 1, 2, none⟩ = some (.int .i64 dm) ∧ w'.cell? ⟨w.heap.size + 1, 3, none⟩ = some (.int .i64 dq) ∧ w'.cell? ⟨w.heap.size + 1, 4, none⟩ = some (.string (Let.mk dt))) ∧ ZSeg w' (w.heap.size + 1 + 1)) := fun w' hb => ⟨five_cells ((hb.block _ (by omega)).trans r0), five_cells ((hb.block _ (by omega)).trans r1), ZSeg.below z0 hb (by omega)⟩
  have KB : Hid (∀ w', Below W0.heap.size W0 w' → Below w.heap.size w w') := fun w' hb => below_more b0 hb
  have HW0 := Lib.hid hW0
  have hzt : (Let.mk dt).size = dt.length := Let.mk_size dt
  clear hS hT b0 r0 r1 z0 l0 hW0 h hTb
  simp only [← hls, ← hlt] at C1 C2 ⊢
  clear hls hlt
  unfold maxLen at hdl
  obtain ⟨⟨c0, c1, c2, c3, c4⟩, ⟨e0, e1, e2, e3, e4⟩, zz⟩ := BX.out W0 (Below.refl _ _)
  go_enter Tryd.func17, Tryd.ntmps17
  go_upto_region 1 with fail
  rw [← HW0.out]
  go_wp2_with fail
  refine (C1.out _ (KB.out _ (Below.refl _ _))).mono ?_
  rintro e w1 ⟨rfl, b1⟩
  clear c0 c1 c2 c3 c4 e0 e1 e2 e3 e4 zz
  obtain ⟨⟨c0, c1, c2, c3, c4⟩, ⟨e0, e1, e2, e3, e4⟩, zz⟩ := BX.out w1 b1
  unfold loadB at hB
  cases hs : smallB L S T with
  | false =>
    clear hs hB
    have FIN := Lib.hid (set5_below (.int .i64 0) (.int .i64 0) (.pointer none) (.slice none 0 0) (.slice none 0 0) (KB.out _ b1) (show w.heap.size ≤ w.heap.size + 1 + 1 by omega))
    obtain ⟨y0, y1, y2, y3, y4⟩ := set5_cells (a0 := .int .i64 0) (a1 := .int .i64 0) (a2 := .pointer none) (a3 := .slice none 0 0) (a4 := .slice none 0 0) zz
    obtain ⟨k0, k1, k2, k3, k4, f0, f1, f2, f3, f4⟩ := zseg_cells zz
    go_wp2_with fail
    exact bodyPost_ret (v := .tuple #[.agg #[.int .i64 0, .int .i64 0, .pointer none, .slice none 0 0, .slice none 0 0], .bool false]) (by simp only [set5] at y0 y1 y2 y3 y4; simp [results, Tryd.results17, go_sem, y0, y1, y2, y3, y4]) rfl ⟨rfl, FIN.out⟩
  | true =>
    rw [hs, Bool.true_and] at hB
    have C2' := Lib.hid (C2.out hs)
    clear C2 hs
    go_wp2_with fail
    refine (C2'.out _ (KB.out _ b1)).mono ?_
    rintro e w2 ⟨rfl, b2⟩
    have d2 : Below W0.heap.size W0 w2 := below_more b1 b2
    clear c0 c1 c2 c3 c4 e0 e1 e2 e3 e4 zz b1 b2
    obtain ⟨⟨c0, c1, c2, c3, c4⟩, ⟨e0, e1, e2, e3, e4⟩, zz⟩ := BX.out w2 d2
    cases h5 : right5 L S T with
    | false =>
      clear h5 hB
      have FIN := Lib.hid (set5_below (.int .i64 0) (.int .i64 0) (.pointer none) (.slice none 0 0) (.slice none 0 0) (KB.out _ d2) (show w.heap.size ≤ w.heap.size + 1 + 1 by omega))
      obtain ⟨y0, y1, y2, y3, y4⟩ := set5_cells (a0 := .int .i64 0) (a1 := .int .i64 0) (a2 := .pointer none) (a3 := .slice none 0 0) (a4 := .slice none 0 0) zz
      obtain ⟨k0, k1, k2, k3, k4, f0, f1, f2, f3, f4⟩ := zseg_cells zz
      go_wp2_with fail
      exact bodyPost_ret (v := .tuple #[.agg #[.int .i64 0, .int .i64 0, .pointer none, .slice none 0 0, .slice none 0 0], .bool false]) (by simp only [set5] at y0 y1 y2 y3 y4; simp [results, Tryd.results17, go_sem, y0, y1, y2, y3, y4]) rfl ⟨rfl, FIN.out⟩
    | true =>
      rw [h5, Bool.true_and] at hB
      clear h5
      by_cases hq : dt.length ≤ 1500
      · rw [decide_eq_true hq, Bool.true_and] at hB
        have g1 : decide ((1500 : Int) < ((Let.mk dt).size : Int)) = false := decide_eq_false (by omega)
        have g2 : ¬ ((1500 : Int) < ((Let.mk dt).size : Int)) := by omega
        rw [hB] at C3
        clear hB hq
        generalize Let.mk dt = sd at *
        go_wp2_with fail
        refine (C3.out _).mono ?_
        rintro e w3 ⟨rfl, rfl⟩
        have FIN := Lib.hid (set5_below (.int .i64 0) (.int .i64 0) (.pointer none) (.slice none 0 0) (.slice none 0 0) (KB.out _ d2) (show w.heap.size ≤ w.heap.size + 1 + 1 by omega))
        obtain ⟨y0, y1, y2, y3, y4⟩ := set5_cells (a0 := .int .i64 0) (a1 := .int .i64 0) (a2 := .pointer none) (a3 := .slice none 0 0) (a4 := .slice none 0 0) zz
        obtain ⟨k0, k1, k2, k3, k4, f0, f1, f2, f3, f4⟩ := zseg_cells zz
        go_wp2_with fail
        exact bodyPost_ret (v := .tuple #[.agg #[.int .i64 0, .int .i64 0, .pointer none, .slice none 0 0, .slice none 0 0], .bool false]) (by simp only [set5] at y0 y1 y2 y3 y4; simp [results, Tryd.results17, go_sem, y0, y1, y2, y3, y4]) rfl ⟨rfl, FIN.out⟩
      · have g1 : decide ((1500 : Int) < ((Let.mk dt).size : Int)) = true := decide_eq_true (by omega)
        have g2 : (1500 : Int) < ((Let.mk dt).size : Int) := by omega
        clear hB hq
        generalize Let.mk dt = sd at *
        have FIN := Lib.hid (set5_below (.int .i64 0) (.int .i64 0) (.pointer none) (.slice none 0 0) (.slice none 0 0) (KB.out _ d2) (show w.heap.size ≤ w.heap.size + 1 + 1 by omega))
        obtain ⟨y0, y1, y2, y3, y4⟩ := set5_cells (a0 := .int .i64 0) (a1 := .int .i64 0) (a2 := .pointer none) (a3 := .slice none 0 0) (a4 := .slice none 0 0) zz
        obtain ⟨k0, k1, k2, k3, k4, f0, f1, f2, f3, f4⟩ := zseg_cells zz
        go_wp2_with fail
        exact bodyPost_ret (v := .tuple #[.agg #[.int .i64 0, .int .i64 0, .pointer none, .slice none 0 0, .slice none 0 0], .bool false]) (by simp only [set5] at y0 y1 y2 y3 y4; simp [results, Tryd.results17, go_sem, y0, y1, y2, y3, y4]) rfl ⟨rfl, FIN.out⟩

set_option maxHeartbeats 8000000 in
theorem loaded_yes {v : Value} {i l : Int} {L : Bytes} {S : List Sp} {T : List St} (w : World) (da dn dm dq : Int) (dt : Bytes) (h : Pl w v i l L S T) (hB : loadB L S T dt = true) (hTb : Tabs w) (hdl : dt.length ≤ maxLen) :
    Calls Tryd.prog 17 #[v, .agg #[.int .i64 da, .int .i64 dn, .int .i64 dm, .int .i64 dq, .string (Let.mk dt)]] w (GiveIns w true i l L S T) := by
  unfold loadB at hB
  rw [Bool.and_eq_true, Bool.and_eq_true, Bool.and_eq_true] at hB
  obtain ⟨hs, h5, hq, hrt⟩ := hB
  have hq' : dt.length ≤ 1500 := of_decide_eq_true hq
  have hss : L.length ≤ 1500 ∧ S.length ≤ 300 ∧ T.length ≤ 300 := of_decide_eq_true hs
  have h55 := h5
  unfold right5 at h55
  rw [Bool.and_eq_true] at h55
  have C1 : Hid (∀ w', Below w.heap.size w w' → Calls Tryd.prog 74 #[v] w' fun e w'' => e = .returned (.bool (smallB L S T)) ∧ Below w'.heap.size w' w'') := fun w' hb => small_any w' (h.below hb (Nat.le_refl _))
  have C2 : Hid (smallB L S T = true → ∀ w', Below w.heap.size w w' → Calls Tryd.prog 33 #[v] w' fun e w'' => e = .returned (.bool (right5 L S T)) ∧ Below w'.heap.size w' w'') := fun hs w' hb => right5_any w' (h.below hb (Nat.le_refl _)) (by have : L.length ≤ 1500 ∧ S.length ≤ 300 ∧ T.length ≤ 300 := of_decide_eq_true hs; omega)
  have C3 : Hid (∀ w', Calls Tryd.prog 19 #[.string (Let.mk dt)] w' fun e w'' => e = .returned (.bool (Let.right dt)) ∧ w' = w'') := fun w' => right1_any dt w' hdl
  have CLD : Hid (∀ w', Below w.heap.size w w' → Calls Tryd.prog 37 #[v] w' (GiveIns w' true i l L S T)) := fun w' hb => load_yes w' (h.below hb (Nat.le_refl _)) h55.1 h55.2 (by omega) (by omega) (by omega) (hTb.below hb)
  have HP : Hid (∀ s ∈ T, 0 < s.m) := RT_pos (mright_of h55.2).2
  have C2' := Lib.hid (C2.out hs)
  rw [hs] at C1
  rw [h5] at C2'
  rw [hrt] at C3
  clear C2 hs h5 h55 hq hrt hss
  obtain ⟨sa, sc, ta, tc, rfl, hS, hT⟩ := h.open_
  obtain ⟨ls, hls⟩ : ∃ ls, ls = S.length := ⟨_, rfl⟩
  obtain ⟨lt, hlt⟩ : ∃ lt, lt = T.length := ⟨_, rfl⟩
  obtain ⟨W0, hW0⟩ : ∃ W0, W0 = ((w.alloc (.cells #[.int .i64 i, .int .i64 l, .string (Let.mk L), .slice sa ls sc, .slice ta lt tc] 25)).alloc (.cells #[.int .i64 da, .int .i64 dn, .int .i64 dm, .int .i64 dq, .string (Let.mk dt)] 27)).alloc (.cells #[.int .i64 0, .int .i64 0, .pointer none, .slice none 0 0, .slice none 0 0] 33) := ⟨_, rfl⟩
  obtain ⟨b0, r0, r1, z0, l0⟩ := box3 w #[.int .i64 i, .int .i64 l, .string (Let.mk L), .slice sa ls sc, .slice ta lt tc] #[.int .i64 da, .int .i64 dn, .int .i64 dm, .int .i64 dq, .string (Let.mk dt)] #[.int .i64 0, .int .i64 0, .pointer none, .slice none 0 0, .slice none 0 0] 25 27 33
  rw [← hW0] at b0 r0 r1 z0 l0
  have BX : Hid (∀ w', Below W0.heap.size W0 w' → (w'.cell? ⟨w.heap.size, 0, none⟩ = some (.int .i64 i) ∧ w'.cell? ⟨w.heap.size, 1, none⟩ = some (.int .i64 l) ∧ w'.cell? ⟨w.heap.size, 2, none⟩ = some (.string (Let.mk L)) ∧ w'.cell? ⟨w.heap.size, 3, none⟩ = some (.slice sa ls sc) ∧ w'.cell? ⟨w.heap.size, 4, none⟩ = some (.slice ta lt tc)) ∧ (w'.cell? ⟨w.heap.size + 1, 0, none⟩ = some (.int .i64 da) ∧ w'.cell? ⟨w.heap.size + 1, 1, none⟩ = some (.int .i64 dn) ∧ w'.cell? ⟨w.heap.size + 1, 2, none⟩ = some (.int .i64 dm) ∧ w'.cell? ⟨w.heap.size + 1, 3, none⟩ = some (.int .i64 dq) ∧ w'.cell? ⟨w.heap.size + 1, 4, none⟩ = some (.string (Let.mk dt))) ∧ ZSeg w' (w.heap.size + 1 + 1)) := fun w' hb => ⟨five_cells ((hb.block _ (by omega)).trans r0), five_cells ((hb.block _ (by omega)).trans r1), ZSeg.below z0 hb (by omega)⟩
  have KB : Hid (∀ w', Below W0.heap.size W0 w' → Below w.heap.size w w') := fun w' hb => below_more b0 hb
  have HW0 := Lib.hid hW0
  have hzt : (Let.mk dt).size = dt.length := Let.mk_size dt
  clear hS hT b0 r0 r1 z0 l0 hW0 h hTb
  simp only [← hls, ← hlt] at C1 C2' CLD ⊢
  clear hls hlt
  unfold maxLen at hdl
  obtain ⟨⟨c0, c1, c2, c3, c4⟩, ⟨e0, e1, e2, e3, e4⟩, zz⟩ := BX.out W0 (Below.refl _ _)
  go_enter Tryd.func17, Tryd.ntmps17
  go_upto_region 1 with fail
  rw [← HW0.out]
  go_wp2_with fail
  refine (C1.out _ (KB.out _ (Below.refl _ _))).mono ?_
  rintro e w1 ⟨rfl, b1⟩
  clear c0 c1 c2 c3 c4 e0 e1 e2 e3 e4 zz
  have g1 : decide ((1500 : Int) < ((Let.mk dt).size : Int)) = false := decide_eq_false (by omega)
  have g2 : ¬ ((1500 : Int) < ((Let.mk dt).size : Int)) := by omega
  obtain ⟨⟨c0, c1, c2, c3, c4⟩, ⟨e0, e1, e2, e3, e4⟩, zz⟩ := BX.out w1 b1
  go_wp2_with fail
  refine (C2'.out _ (KB.out _ b1)).mono ?_
  rintro e w2 ⟨rfl, b2⟩
  have d2 : Below W0.heap.size W0 w2 := below_more b1 b2
  clear c0 c1 c2 c3 c4 e0 e1 e2 e3 e4 zz b1 b2
  obtain ⟨⟨c0, c1, c2, c3, c4⟩, ⟨e0, e1, e2, e3, e4⟩, zz⟩ := BX.out w2 d2
  clear hq' hzt
  generalize Let.mk dt = sd at *
  go_wp2_with fail
  refine (C3.out _).mono ?_
  rintro e w3 ⟨rfl, rfl⟩
  go_wp2_with fail
  refine (CLD.out _ (KB.out _ d2)).mono ?_
  rintro e w4 ⟨v4, rfl, o4, b4⟩
  have d4 : Below W0.heap.size W0 w4 := below_more d2 b4
  obtain ⟨q4, a4, x4, a5, x5, rfl, g1', g2', g3'⟩ := o4.open_
  clear c0 c1 c2 c3 c4 e0 e1 e2 e3 e4 zz b4 d2
  obtain ⟨-, -, zz⟩ := BX.out w4 d4
  have FIN := Lib.hid (give_sg (w := w) (i := i) (l := l) (show w.heap.size ≤ w.heap.size + 1 + 1 by omega) zz g1' g2' g3' HP.out (KB.out _ d4))
  obtain ⟨y0, y1, y2, y3, y4⟩ := set5_cells (a0 := .int .i64 i) (a1 := .int .i64 l) (a2 := .pointer q4) (a3 := .slice a4 S.length x4) (a4 := .slice a5 T.length x5) zz
  obtain ⟨k0, k1, k2, k3, k4, f0, f1, f2, f3, f4⟩ := zseg_cells zz
  clear g1' g2' g3' o4
  generalize S.length = n1 at *
  generalize T.length = n2 at *
  go_wp2_with fail
  exact bodyPost_ret (v := .tuple #[.agg #[.int .i64 i, .int .i64 l, .pointer q4, .slice a4 n1 x4, .slice a5 n2 x5], .bool true]) (by simp only [set5] at y0 y1 y2 y3 y4; simp [results, Tryd.results17, go_sem, y0, y1, y2, y3, y4]) rfl ⟨_, rfl, FIN.out.1, FIN.out.2⟩

/-- Has it a span or a site of the mark? -/
def hasB (S : List Sp) (T : List St) (mk : Int) : Bool := decide (0 < (ofS S mk).length ∨ 0 < (ofT T mk).length)
set_option maxHeartbeats 1600000 in
theorem shas_any {v : Value} {i l : Int} {L : Bytes} {S : List Sp} {T : List St} (mk : Int) (w : World) (h : Sg w v i l L S T) (hmk : i64 mk) (l1 : S.length ≤ 10000) (l2 : T.length ≤ 10000) :
    Calls Tryd.prog 18 #[v, .int .i64 mk] w fun e w' => e = .returned (.bool (hasB S T mk)) ∧ Below w.heap.size w w' := by
  obtain ⟨q, sa, sc, ta, tc, rfl, hR, hS, hT⟩ := h.open_
  have CO : Hid (∀ w', Below w.heap.size w w' → Calls Tryd.prog 64 #[.agg #[.slice sa S.length sc, .slice ta T.length tc], .int .i64 mk] w' (GivesOf w' (ofS S mk) (ofT T mk))) := fun w' hb => of_any mk w' (hS.below hb (Nat.le_refl _)) (hT.below hb (Nat.le_refl _)) hmk l1 l2
  have EF : Hid (∀ b : Bool, (b = true ↔ (0 < (ofS S mk).length ∨ 0 < (ofT T mk).length)) → b = hasB S T mk) := fun b hb => by
    unfold hasB
    cases b with
    | true => rw [decide_eq_true (hb.1 rfl)]
    | false => rw [decide_eq_false (fun h => by have := hb.2 h; cases this)]
  generalize hasB S T mk = rs at *
  generalize ofS S mk = A at *
  generalize ofT T mk = B at *
  generalize S.length = ls at *
  generalize T.length = lt at *
  obtain ⟨W0, hW0⟩ : ∃ W0, W0 = w.alloc (.cells #[.int .i64 i, .int .i64 l, .pointer q, .slice sa ls sc, .slice ta lt tc] 33) := ⟨_, rfl⟩
  obtain ⟨b0, r0, l0⟩ := box1 w #[.int .i64 i, .int .i64 l, .pointer q, .slice sa ls sc, .slice ta lt tc] 33
  rw [← hW0] at b0 r0 l0
  have B0 := Lib.hid b0
  have HW0 := Lib.hid hW0
  obtain ⟨c0, c1, c2, c3, c4⟩ := five_cells r0
  obtain ⟨mk1, mk2⟩ := hmk
  clear h hR hS hT b0 r0 l0 hW0
  go_enter Tryd.func18, Tryd.ntmps18
  go_upto_region 1 with fail
  rw [← HW0.out]
  go_wp2_with fail
  refine (CO.out _ B0.out).mono ?_
  rintro e w1 ⟨v1, v2, rfl, g1, g2, b1⟩
  have FIN := Lib.hid (below_more B0.out b1)
  obtain ⟨a1, d1, rfl⟩ := g1.is_slice
  obtain ⟨a2, d2, rfl⟩ := g2.is_slice
  generalize A.length = na at *
  generalize B.length = nb at *
  clear g1 g2 b1
  by_cases h1 : 0 < na
  · have g1 : decide ((0 : Int) < (na : Int)) = true := decide_eq_true (by omega)
    go_wp2_with fail
    go_ret
    exact ⟨ret_bool (EF.out _ (by simp; omega)), FIN.out⟩
  · have g1 : decide ((0 : Int) < (na : Int)) = false := decide_eq_false (by omega)
    have hn : na = 0 := by omega
    subst hn
    go_wp2_with fail
    go_ret
    exact ⟨ret_bool (EF.out _ (by simp)), FIN.out⟩

end Go.Proofs.YtcpdoicbekcpeaaDoor.Seg

namespace Go.Proofs.YtcpdoicbekcpeaaDoor.Seg
open Go.RowKit Go.Lib Go.Proofs.YtcpdoicbekcpeaaDoor.Rt Go.Proofs.YtcpdoicbekcpeaaDoor.Rig

theorem filt_len (f : St → Bool) : ∀ T : List St, (T.filter f).length + (T.filter fun x => !f x).length = T.length
  | [] => rfl
  | x :: T => by
    have ih := filt_len f T
    cases hf : f x
    · rw [List.filter_cons_of_neg (by simp [hf]), List.filter_cons_of_pos (by simp [hf]), List.length_cons, List.length_cons]; omega
    · rw [List.filter_cons_of_pos (by simp [hf]), List.filter_cons_of_neg (by simp [hf]), List.length_cons, List.length_cons]; omega
theorem pPutT_len5 (T : List St) (p k : Int) : (pPutT T p k).length ≤ T.length := by
  unfold pPutT sA sB
  rw [List.length_append, List.length_map, List.length_map]
  have := filt_len (fun x : St => decide (x.a ≤ p)) T
  omega
theorem hasB_nil {S : List Sp} {T : List St} {mk : Int} (h : hasB S T mk = false) : ofS S mk = [] ∧ ofT T mk = [] := by
  have := of_decide_eq_false h
  exact ⟨List.eq_nil_of_length_eq_zero (by omega), List.eq_nil_of_length_eq_zero (by omega)⟩
theorem hasB_drop (S : List Sp) (T : List St) (mk : Int) : hasB (dropS S mk) (dropT T mk) mk = false := by
  have h1 : ofS (dropS S mk) mk = [] := by
    unfold ofS dropS
    rw [List.filter_eq_nil_iff]
    intro x hx
    have := (List.mem_filter.1 hx).2
    simpa using this
  have h2 : ofT (dropT T mk) mk = [] := by
    unfold ofT dropT
    rw [List.map_eq_nil_iff, List.filter_eq_nil_iff]
    intro x hx
    have := (List.mem_filter.1 hx).2
    simpa using this
  unfold hasB
  rw [h1, h2]
  rfl
theorem cutS_m (p e : Int) (y : St) : (cutS p e y).m = y.m := by
  unfold cutS
  split
  · rfl
  · split <;> rfl
theorem taken_site {T : List St} {p e mk : Int} (hm : 0 < mk) (h : ofT T mk = []) : ofT (pTakeT T p e mk) mk = [p] := by
  obtain ⟨u1, u2⟩ := pTakeT_ok T p e mk
  have hn : ∀ y ∈ T, y.m ≠ mk := fun y hy e' => by
    have : y.a ∈ ofT T mk := by
      unfold ofT
      exact List.mem_map.2 ⟨y, List.mem_filter.2 ⟨hy, by simpa using e'⟩, rfl⟩
    rw [h] at this
    simp at this
  have hf : (pTakeT T p e mk).filter (fun s => decide (s.m = mk)) = [⟨mk, p⟩] := by
    refine up_uniq (List.Pairwise.filter _ u1) (List.pairwise_singleton _ _) (fun x => ?_)
    rw [List.mem_filter, u2, List.mem_singleton]
    constructor
    · rintro ⟨⟨y, hy, rfl⟩ | ⟨_, rfl⟩, hx⟩
      · exfalso
        have hx' : (cutS p e y).m = mk := by simpa using hx
        rw [cutS_m] at hx'
        exact hn y hy hx'
      · rfl
    · rintro rfl
      exact ⟨.inr ⟨hm, rfl⟩, by simp⟩
  unfold ofT
  rw [hf]
  rfl
theorem dropL_eq (L : Bytes) {p e : Nat} (h : p ≤ e) : Con.dropL L p e = L.take (Let.byt p L) ++ L.drop (Let.byt e L) := by
  have hm := Let.byt_mono h L
  unfold Con.dropL
  show (if Let.byt e L ≤ Let.byt p L then L else L.take (Let.byt p L) ++ L.drop (Let.byt e L)) = _
  by_cases hc : Let.byt e L ≤ Let.byt p L
  · rw [if_pos hc, show Let.byt e L = Let.byt p L by omega, List.take_append_drop]
  · rw [if_neg hc]
theorem cut_eq (L : Bytes) (p e : Nat) : Let.cut L p e = (L.take (Let.byt e L)).drop (Let.byt p L) := rfl
theorem dropL_right {L : Bytes} {p e : Nat} (h : p ≤ e) (hr : Let.right L = true) : Let.right (Con.dropL L p e) = true := by
  rw [dropL_eq L h]
  exact (Let.right_app _ _ (Let.right_take p L hr).1).2 (Let.right_drop e L hr)
theorem dropL_cnt {L : Bytes} {p e : Nat} (h : p ≤ e) (he : e ≤ Let.cnt L) (hr : Let.right L = true) : Let.cnt (Con.dropL L p e) = Let.cnt L - (e - p) := by
  have h1 := Let.right_take p L hr
  rw [dropL_eq L h, Let.cnt_app h1.1, h1.2]
  have h2 : Let.cnt (L.drop (Let.byt e L)) = Let.cnt L - e := by
    show (Let.lets (L.drop (Let.byt e L))).length = (Let.lets L).length - e
    rw [Let.lets_drop, List.length_drop]
  omega
theorem dropL_cut_len (L : Bytes) {p e : Nat} (h : p ≤ e) : (Con.dropL L p e).length + (Let.cut L p e).length = L.length := by
  have hm := Let.byt_mono h L
  have h1 := Let.byt_le e L
  rw [dropL_eq L h, cut_eq, List.length_append, List.length_take, List.length_drop, List.length_drop, List.length_take]
  omega
theorem put_cut {L : Bytes} {p e : Nat} (h : p ≤ e) (he : e ≤ Let.cnt L) (hr : Let.right L = true) : Let.put (Con.dropL L p e) (p : Nat) (Let.cut L p e) = L := by
  have hm := Let.byt_mono h L
  have h1 := Let.byt_le e L
  have h2 := Let.right_take p L hr
  have hx : (L.take (Let.byt p L)).length = Let.byt p L := by rw [List.length_take]; omega
  have hb : Let.byt p (L.take (Let.byt p L) ++ L.drop (Let.byt e L)) = Let.byt p L := by
    rw [Let.byt_app_left _ _ h2.1 p (by rw [h2.2]; omega), Let.byt_all (by rw [h2.2]; omega), hx]
  rw [dropL_eq L h, cut_eq]
  unfold Let.put
  show (L.take (Let.byt p L) ++ L.drop (Let.byt e L)).take (Let.byt p (L.take (Let.byt p L) ++ L.drop (Let.byt e L))) ++ (L.take (Let.byt e L)).drop (Let.byt p L) ++ (L.take (Let.byt p L) ++ L.drop (Let.byt e L)).drop (Let.byt p (L.take (Let.byt p L) ++ L.drop (Let.byt e L))) = L
  rw [hb, List.take_append_of_le_length (by omega), List.drop_append_of_le_length (by omega), List.take_take, List.drop_take]
  have e1 : min (Let.byt p L) (Let.byt p L) = Let.byt p L := by omega
  rw [e1, show L.take (Let.byt p L) ++ (L.drop (Let.byt p L)).take (Let.byt e L - Let.byt p L) = L.take (Let.byt e L) by
    rw [show Let.byt e L = Let.byt p L + (Let.byt e L - Let.byt p L) by omega, List.take_add]
    congr 2
    omega]
  rw [List.drop_of_length_le (by rw [List.length_take]; omega), List.nil_append, List.take_append_drop]
end Go.Proofs.YtcpdoicbekcpeaaDoor.Seg
