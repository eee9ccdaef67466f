/- Segments: take within a bound; Forget (of the program). -/
import Derived.Test.YtcpdoicbekcpeaaDoorQt
import Derived.Deep.RegionWith
set_option linter.unusedVariables false
set_option maxRecDepth 100000
namespace Go.Proofs.YtcpdoicbekcpeaaDoor.Seg
open Go.RowKit Go.Lib Go.Proofs.YtcpdoicbekcpeaaDoor.Rt Go.Proofs.YtcpdoicbekcpeaaDoor.Rig

set_option maxHeartbeats 4000000 in
theorem stake2_any {v : Value} {i l : Int} {L : Bytes} {S : List Sp} {T : List St} (p e N0 : Nat) (mk : Int) (w : World) (h : Sg w v i l L S T) (hRS : RS 0 0 N0 S) (hRT : RT N0 T) (hpe : p ≤ e) (hec : e ≤ N0) (hN : N0 ≤ 10000) (hmk : i64 mk) (b1 : L.length ≤ 10000) (hlt : T.length ≤ 10000) :
    Calls Tryd.prog 66 #[v, .int .i64 p, .int .i64 e, .int .i64 mk] w (GiveSg w i l (Con.dropL L p e) (pTake S p e) (pTakeT T p e mk)) := by
  obtain ⟨q, sa, sc, ta, tc, rfl, hR, hS, hT⟩ := h.open_
  have hls := RS_len hRS (by omega)
  have POS : Hid (∀ s ∈ pTakeT T p e mk, 0 < s.m) := RT_pos (pTakeT_right hRT (a := p) (b := e) (mk := mk) (by omega) (by omega) (by omega))
  have CP : Hid (∀ w', Below w.heap.size w w' → Calls Tryd.prog 100 #[.pointer q, .int .i64 p, .int .i64 e] w' (Con.Roped w' (Con.dropL L p e))) := fun w' hb => Con.drop_is w' p e (hR.below hb (Nat.le_refl _)) (by omega) (by omega) (by omega) (by omega) (by omega)
  have CM : Hid (∀ w', Below w.heap.size w w' → Calls Tryd.prog 101 #[.agg #[.slice sa S.length sc, .slice ta T.length tc], .int .i64 p, .int .i64 e, .int .i64 mk] w' (GivesM w' (pTake S p e) (pTakeT T p e mk))) := fun w' hb => Rig.take_any N0 p e mk w' (hS.below hb (Nat.le_refl _)) (hT.below hb (Nat.le_refl _)) hRS hRT (by omega) (by omega) (by omega) (by omega) hmk (by omega) hlt
  generalize pTake S p e = S1 at *
  generalize pTakeT T p e mk = T1 at *
  generalize Con.dropL L p e = L1 at *
  generalize S.length = ls at *
  generalize T.length = lt at *
  obtain ⟨W0, hW0⟩ : ∃ W0, W0 = (w.alloc (.cells #[.int .i64 i, .int .i64 l, .pointer q, .slice sa ls sc, .slice ta lt tc] 33)).alloc (.cells #[.int .i64 0, .int .i64 0, .pointer none, .slice none 0 0, .slice none 0 0] 33) := ⟨_, rfl⟩
  obtain ⟨b0, r0, z0, l0⟩ := box2 w #[.int .i64 i, .int .i64 l, .pointer q, .slice sa ls sc, .slice ta lt tc] #[.int .i64 0, .int .i64 0, .pointer none, .slice none 0 0, .slice none 0 0] 33 33
  rw [← hW0] at b0 r0 z0 l0
  have B0 := Lib.hid b0
  have HW0 := Lib.hid hW0
  have HR0 := Lib.hid r0
  have HZ0 : Hid (ZSeg W0 (w.heap.size + 1)) := z0
  have HL0 : Hid (W0.heap.size = w.heap.size + 1 + 1) := l0
  clear h hR hS hT hRS hRT b0 r0 z0 l0 hW0 hls b1 hlt hec hpe
  obtain ⟨c0, c1, c2, c3, c4⟩ := five_cells HR0.out
  obtain ⟨mk1, mk2⟩ := hmk
  go_enter Tryd.func66, Tryd.ntmps66
  go_upto_region 1 with fail
  rw [← HW0.out]
  go_wp2_with fail
  refine (CP.out _ B0.out).mono ?_
  rintro e' w1 ⟨vn, rfl, hn, hb1⟩
  obtain ⟨qn, rfl⟩ := rope_ptr hn
  have HR1 : Hid (w1.heap[w.heap.size]? = some (.cells #[.int .i64 i, .int .i64 l, .pointer q, .slice sa ls sc, .slice ta lt tc] 33 (0, 0))) := (hb1.block _ (by have := HL0.out; omega)).trans HR0.out
  have HZ1 : Hid (ZSeg w1 (w.heap.size + 1)) := HZ0.out.below hb1 (by have := HL0.out; omega)
  have B1 := Lib.hid (below_more B0.out hb1)
  have HN1 := Lib.hid hn
  clear c0 c1 c2 c3 c4 hn hb1 CP HZ0 HR0
  obtain ⟨c0, c1, c2, c3, c4⟩ := five_cells HR1.out
  have f2 : w1.frozen? ⟨w.heap.size, 2, none⟩ = false := block_frozen HR1.out
  obtain ⟨W1, hW1⟩ : ∃ W1, W1 = w1.setCell ⟨w.heap.size, 2, none⟩ (.pointer qn) := ⟨_, rfl⟩
  have HR3 : Hid (W1.heap[w.heap.size]? = some (.cells #[.int .i64 i, .int .i64 l, .pointer qn, .slice sa ls sc, .slice ta lt tc] 33 (0, 0))) := by show _ = _; rw [hW1]; exact set_block HR1.out
  have HZ3 : Hid (ZSeg W1 (w.heap.size + 1)) := by show ZSeg _ _; rw [hW1]; exact (Below.heap_setCell _ _ _ _ (by show w.heap.size + 1 ≠ w.heap.size; omega)).trans HZ1.out
  have B3 : Hid (Below w.heap.size w W1) := by show Below _ _ _; rw [hW1]; exact below_put B1.out (Nat.le_refl _) _
  have HN3 : Hid (IsRope W1 L1 (.pointer qn)) := by show IsRope _ _ _; rw [hW1]; exact rope_put HN1.out HR1.out (by decide)
  have HL3 : Hid (w.heap.size + 1 < W1.heap.size) := row_lt HZ3.out
  have HW1 := Lib.hid hW1
  clear hW1
  go_upto_region 2 with fail
  rw [← HW1.out]
  clear c0 c1 c2 c3 c4 f2 HR1 HZ1 HN1 B1 HW1
  obtain ⟨c0, c1, c2, c3, c4⟩ := five_cells HR3.out
  go_wp2_with fail
  refine (CM.out _ B3.out).mono ?_
  rintro e' w3 ⟨u1, u2, rfl, g1, g2, hb3⟩
  obtain ⟨a1, d1, rfl⟩ := g1.is_slice
  obtain ⟨a2, d2, rfl⟩ := g2.is_slice
  have HR4 : Hid (w3.heap[w.heap.size]? = some (.cells #[.int .i64 i, .int .i64 l, .pointer qn, .slice sa ls sc, .slice ta lt tc] 33 (0, 0))) := (hb3.block _ (by have := HL3.out; omega)).trans HR3.out
  have HZ4 : Hid (ZSeg w3 (w.heap.size + 1)) := HZ3.out.below hb3 HL3.out
  have B4 := Lib.hid (below_more B3.out hb3)
  have HN4 := Lib.hid (HN3.out.below hb3 (Nat.le_refl _))
  have G1 := Lib.hid g1
  have G2 := Lib.hid g2
  clear c0 c1 c2 c3 c4 g1 g2 hb3 CM HR3 HZ3 HN3 HL3
  generalize S1.length = n1 at *
  generalize T1.length = n2 at *
  obtain ⟨c0, c1, c2, c3, c4⟩ := five_cells HR4.out
  have f3 : w3.frozen? ⟨w.heap.size, 3, none⟩ = false := block_frozen HR4.out
  have f4 : w3.frozen? ⟨w.heap.size, 4, none⟩ = false := block_frozen HR4.out
  obtain ⟨W5, hW5⟩ : ∃ W5, W5 = (w3.setCell ⟨w.heap.size, 3, none⟩ (.slice a1 n1 d1)).setCell ⟨w.heap.size, 4, none⟩ (.slice a2 n2 d2) := ⟨_, rfl⟩
  have R4a : (w3.setCell ⟨w.heap.size, 3, none⟩ (.slice a1 n1 d1)).heap[w.heap.size]? = some (.cells #[.int .i64 i, .int .i64 l, .pointer qn, .slice a1 n1 d1, .slice ta lt tc] 33 (0, 0)) := set_block HR4.out
  have HR5 : Hid (W5.heap[w.heap.size]? = some (.cells #[.int .i64 i, .int .i64 l, .pointer qn, .slice a1 n1 d1, .slice a2 n2 d2] 33 (0, 0))) := by show _ = _; rw [hW5]; exact set_block R4a
  have HZ5 : Hid (ZSeg W5 (w.heap.size + 1)) := by
    show ZSeg _ _
    rw [hW5]
    exact (Below.heap_setCell _ _ _ _ (by show w.heap.size + 1 ≠ w.heap.size; omega)).trans ((Below.heap_setCell _ _ _ _ (by show w.heap.size + 1 ≠ w.heap.size; omega)).trans HZ4.out)
  have B5 : Hid (Below w.heap.size w W5) := by show Below _ _ _; rw [hW5]; exact below_put (below_put B4.out (Nat.le_refl _) _) (Nat.le_refl _) _
  have HN5 : Hid (IsRope W5 L1 (.pointer qn)) := by show IsRope _ _ _; rw [hW5]; exact rope_put (rope_put HN4.out HR4.out (by decide)) R4a (by decide)
  have G3 : Hid (Spans W5 (.slice a1 n1 d1) S1) := by show Spans _ _ _; rw [hW5]; exact Fl.put1 (Fl.put1 G1.out c3 (sl_ni _ _ _)) (five_cells R4a).2.2.2.2 (sl_ni _ _ _)
  have G4 : Hid (Sites W5 (.slice a2 n2 d2) T1) := by show Sites _ _ _; rw [hW5]; exact Fl.put1 (Fl.put1 G2.out c3 (sl_ni _ _ _)) (five_cells R4a).2.2.2.2 (sl_ni _ _ _)
  have HW5 := Lib.hid hW5
  clear hW5 R4a HZ4 B4 HN4 G1 G2
  go_upto_region 3 with fail
  rw [← HW5.out]
  clear c0 c1 c2 c3 c4 f3 f4 HW5 HR4
  obtain ⟨c0, c1, c2, c3, c4⟩ := five_cells HR5.out
  obtain ⟨k0, k1, k2, k3, k4, f0, f1, f2, f3, f4⟩ := zseg_cells HZ5.out
  have FIN := Lib.hid (give_sg (w := w) (i := i) (l := l) (Nat.le_add_right _ 1) HZ5.out HN5.out G3.out G4.out POS.out B5.out)
  obtain ⟨y0, y1, y2, y3, y4⟩ := set5_cells (a0 := .int .i64 i) (a1 := .int .i64 l) (a2 := .pointer qn) (a3 := .slice a1 n1 d1) (a4 := .slice a2 n2 d2) HZ5.out
  go_wp2_with fail
  exact bodyPost_ret (v := .agg #[.int .i64 i, .int .i64 l, .pointer qn, .slice a1 n1 d1, .slice a2 n2 d2]) (by simp only [set5] at y0 y1 y2 y3 y4; simp [results, Tryd.results66, go_sem, y0, y1, y2, y3, y4]) rfl ⟨_, rfl, FIN.out.1, FIN.out.2⟩

theorem dropT_pos2 {T : List St} (mk : Int) (h : ∀ s ∈ T, 0 < s.m) : ∀ s ∈ dropT T mk, 0 < s.m := fun s hs => h s (List.mem_filter.1 hs).1

set_option maxHeartbeats 4000000 in
theorem forget2_any {v : Value} {i l : Int} {L : Bytes} {S : List Sp} {T : List St} (mk : Int) (w : World) (h : Sg w v i l L S T) (hp : ∀ s ∈ T, 0 < s.m) (hmk : i64 mk) (l1 : S.length ≤ 10000) (l2 : T.length ≤ 10000) :
    Calls Tryd.prog 67 #[v, .int .i64 mk] w (GiveSg w i l L (dropS S mk) (dropT T mk)) := by
  obtain ⟨qn, sa, sc, ta, tc, rfl, hR, hS, hT⟩ := h.open_
  have POS : Hid (∀ s ∈ dropT T mk, 0 < s.m) := dropT_pos2 mk hp
  have CM : Hid (∀ w', Below w.heap.size w w' → Calls Tryd.prog 102 #[.agg #[.slice sa S.length sc, .slice ta T.length tc], .int .i64 mk] w' (GivesM w' (dropS S mk) (dropT T mk))) := fun w' hb => Rig.drop_any mk w' (hS.below hb (Nat.le_refl _)) (hT.below hb (Nat.le_refl _)) hmk l1 l2
  have HRR : Hid (∀ w', Below w.heap.size w w' → IsRope w' L (.pointer qn)) := fun w' hb => hR.below hb (Nat.le_refl _)
  obtain ⟨L1, hL1⟩ : ∃ L1, L1 = L := ⟨_, rfl⟩
  rw [← hL1] at HRR ⊢
  generalize dropS S mk = S1 at *
  generalize dropT T mk = T1 at *
  generalize S.length = ls at *
  generalize T.length = lt at *
  obtain ⟨W0, hW0⟩ : ∃ W0, W0 = (w.alloc (.cells #[.int .i64 i, .int .i64 l, .pointer qn, .slice sa ls sc, .slice ta lt tc] 33)).alloc (.cells #[.int .i64 0, .int .i64 0, .pointer none, .slice none 0 0, .slice none 0 0] 33) := ⟨_, rfl⟩
  obtain ⟨b0, r0, z0, l0⟩ := box2 w #[.int .i64 i, .int .i64 l, .pointer qn, .slice sa ls sc, .slice ta lt tc] #[.int .i64 0, .int .i64 0, .pointer none, .slice none 0 0, .slice none 0 0] 33 33
  rw [← hW0] at b0 r0 z0 l0
  have B3 := Lib.hid b0
  have HW0 := Lib.hid hW0
  have HR3 := Lib.hid r0
  have HZ3 : Hid (ZSeg W0 (w.heap.size + 1)) := z0
  have HL3 : Hid (w.heap.size + 1 < W0.heap.size) := row_lt HZ3.out
  clear h hR hS hT b0 r0 z0 l0 hW0 hp hL1
  obtain ⟨c0, c1, c2, c3, c4⟩ := five_cells HR3.out
  obtain ⟨mk1, mk2⟩ := hmk
  go_enter Tryd.func67, Tryd.ntmps67
  go_upto_region 1 with fail
  rw [← HW0.out]
  go_wp2_with fail
  refine (CM.out _ B3.out).mono ?_
  rintro e' w3 ⟨u1, u2, rfl, g1, g2, hb3⟩
  obtain ⟨a1, d1, rfl⟩ := g1.is_slice
  obtain ⟨a2, d2, rfl⟩ := g2.is_slice
  have HR4 : Hid (w3.heap[w.heap.size]? = some (.cells #[.int .i64 i, .int .i64 l, .pointer qn, .slice sa ls sc, .slice ta lt tc] 33 (0, 0))) := (hb3.block _ (by have := HL3.out; omega)).trans HR3.out
  have HZ4 : Hid (ZSeg w3 (w.heap.size + 1)) := HZ3.out.below hb3 HL3.out
  have B4 := Lib.hid (below_more B3.out hb3)
  have HN4 := Lib.hid (HRR.out w3 B4.out)
  have G1 := Lib.hid g1
  have G2 := Lib.hid g2
  clear c0 c1 c2 c3 c4 g1 g2 hb3 CM HR3 HZ3 HL3 HRR
  generalize S1.length = n1 at *
  generalize T1.length = n2 at *
  obtain ⟨c0, c1, c2, c3, c4⟩ := five_cells HR4.out
  have f3 : w3.frozen? ⟨w.heap.size, 3, none⟩ = false := block_frozen HR4.out
  have f4 : w3.frozen? ⟨w.heap.size, 4, none⟩ = false := block_frozen HR4.out
  obtain ⟨W5, hW5⟩ : ∃ W5, W5 = (w3.setCell ⟨w.heap.size, 3, none⟩ (.slice a1 n1 d1)).setCell ⟨w.heap.size, 4, none⟩ (.slice a2 n2 d2) := ⟨_, rfl⟩
  have R4a : (w3.setCell ⟨w.heap.size, 3, none⟩ (.slice a1 n1 d1)).heap[w.heap.size]? = some (.cells #[.int .i64 i, .int .i64 l, .pointer qn, .slice a1 n1 d1, .slice ta lt tc] 33 (0, 0)) := set_block HR4.out
  have HR5 : Hid (W5.heap[w.heap.size]? = some (.cells #[.int .i64 i, .int .i64 l, .pointer qn, .slice a1 n1 d1, .slice a2 n2 d2] 33 (0, 0))) := by show _ = _; rw [hW5]; exact set_block R4a
  have HZ5 : Hid (ZSeg W5 (w.heap.size + 1)) := by
    show ZSeg _ _
    rw [hW5]
    exact (Below.heap_setCell _ _ _ _ (by show w.heap.size + 1 ≠ w.heap.size; omega)).trans ((Below.heap_setCell _ _ _ _ (by show w.heap.size + 1 ≠ w.heap.size; omega)).trans HZ4.out)
  have B5 : Hid (Below w.heap.size w W5) := by show Below _ _ _; rw [hW5]; exact below_put (below_put B4.out (Nat.le_refl _) _) (Nat.le_refl _) _
  have HN5 : Hid (IsRope W5 L1 (.pointer qn)) := by show IsRope _ _ _; rw [hW5]; exact rope_put (rope_put HN4.out HR4.out (by decide)) R4a (by decide)
  have G3 : Hid (Spans W5 (.slice a1 n1 d1) S1) := by show Spans _ _ _; rw [hW5]; exact Fl.put1 (Fl.put1 G1.out c3 (sl_ni _ _ _)) (five_cells R4a).2.2.2.2 (sl_ni _ _ _)
  have G4 : Hid (Sites W5 (.slice a2 n2 d2) T1) := by show Sites _ _ _; rw [hW5]; exact Fl.put1 (Fl.put1 G2.out c3 (sl_ni _ _ _)) (five_cells R4a).2.2.2.2 (sl_ni _ _ _)
  have HW5 := Lib.hid hW5
  clear hW5 R4a HZ4 B4 HN4 G1 G2
  go_upto_region 2 with fail
  rw [← HW5.out]
  clear c0 c1 c2 c3 c4 f3 f4 HW5 HR4
  obtain ⟨c0, c1, c2, c3, c4⟩ := five_cells HR5.out
  obtain ⟨k0, k1, k2, k3, k4, f0, f1, f2, f3, f4⟩ := zseg_cells HZ5.out
  have FIN := Lib.hid (give_sg (w := w) (i := i) (l := l) (Nat.le_add_right _ 1) HZ5.out HN5.out G3.out G4.out POS.out B5.out)
  obtain ⟨y0, y1, y2, y3, y4⟩ := set5_cells (a0 := .int .i64 i) (a1 := .int .i64 l) (a2 := .pointer qn) (a3 := .slice a1 n1 d1) (a4 := .slice a2 n2 d2) HZ5.out
  go_wp2_with fail
  exact bodyPost_ret (v := .agg #[.int .i64 i, .int .i64 l, .pointer qn, .slice a1 n1 d1, .slice a2 n2 d2]) (by simp only [set5] at y0 y1 y2 y3 y4; simp [results, Tryd.results67, go_sem, y0, y1, y2, y3, y4]) rfl ⟨_, rfl, FIN.out.1, FIN.out.2⟩

end Go.Proofs.YtcpdoicbekcpeaaDoor.Seg
