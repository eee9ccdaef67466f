/- Segments: take, Forget, Delete, Untake. -/
import Derived.Test.YtkgdfclpogiemaaGreatDoorQt
import Derived.Deep.RegionWith
set_option linter.unusedVariables false
set_option maxRecDepth 100000
namespace Go.Proofs.YtkgdfclpogiemaaGreatDoor.Seg
open Go.RowKit Go.Lib Go.Proofs.YtkgdfclpogiemaaGreatDoor.Rt Go.Proofs.YtkgdfclpogiemaaGreatDoor.Rig

set_option maxHeartbeats 4000000 in
theorem stake_any {v : Value} {i l : Int} {L : Bytes} {S : List Sp} {T : List St} (p e : Nat) (mk : Int) (w : World) (h : Sg w v i l L S T) (hRS : RS 0 0 (Let.cnt L) S) (hRT : RT (Let.cnt L) T) (hpe : p ≤ e) (hec : e ≤ Let.cnt L) (hmk : i64 mk) (b1 : L.length ≤ 10000) (hlt : T.length ≤ 10000) :
    Calls Tryz.prog 24 #[v, .int .i64 p, .int .i64 e, .int .i64 mk] w (GiveSg w i l (Con.dropL L p e) (pTake S p e) (pTakeT T p e mk)) := by
  obtain ⟨q, sa, sc, ta, tc, rfl, hR, hS, hT⟩ := h.open_
  have hc := Let.cnt_len L
  have hls := RS_len hRS (by omega)
  have POS : Hid (∀ s ∈ pTakeT T p e mk, 0 < s.m) := RT_pos (pTakeT_right hRT (a := p) (b := e) (mk := mk) (by omega) (by omega) (by omega))
  have CP : Hid (∀ w', Below w.heap.size w w' → Calls Tryz.prog 58 #[.pointer q, .int .i64 p, .int .i64 e] w' (Con.Roped w' (Con.dropL L p e))) := fun w' hb => Con.drop_is w' p e (hR.below hb (Nat.le_refl _)) (by omega) (by omega) (by omega) (by omega) (by omega)
  have CM : Hid (∀ w', Below w.heap.size w w' → Calls Tryz.prog 59 #[.agg #[.slice sa S.length sc, .slice ta T.length tc], .int .i64 p, .int .i64 e, .int .i64 mk] w' (GivesM w' (pTake S p e) (pTakeT T p e mk))) := fun w' hb => Rig.take_any (Let.cnt L) p e mk w' (hS.below hb (Nat.le_refl _)) (hT.below hb (Nat.le_refl _)) hRS hRT (by omega) (by omega) (by omega) (by omega) hmk (by omega) hlt
  generalize pTake S p e = S1 at *
  generalize pTakeT T p e mk = T1 at *
  generalize Con.dropL L p e = L1 at *
  generalize S.length = ls at *
  generalize T.length = lt at *
  obtain ⟨W0, hW0⟩ : ∃ W0, W0 = (w.alloc (.cells #[.int .i64 i, .int .i64 l, .pointer q, .slice sa ls sc, .slice ta lt tc] 32)).alloc (.cells #[.int .i64 0, .int .i64 0, .pointer none, .slice none 0 0, .slice none 0 0] 32) := ⟨_, rfl⟩
  obtain ⟨b0, r0, z0, l0⟩ := box2 w #[.int .i64 i, .int .i64 l, .pointer q, .slice sa ls sc, .slice ta lt tc] #[.int .i64 0, .int .i64 0, .pointer none, .slice none 0 0, .slice none 0 0] 32 32
  rw [← hW0] at b0 r0 z0 l0
  have B0 := Lib.hid b0
  have HW0 := Lib.hid hW0
  have HR0 := Lib.hid r0
  have HZ0 : Hid (ZSeg W0 (w.heap.size + 1)) := z0
  have HL0 : Hid (W0.heap.size = w.heap.size + 1 + 1) := l0
  clear h hR hS hT hRS hRT b0 r0 z0 l0 hW0 hls hc b1 hlt hec hpe
  obtain ⟨c0, c1, c2, c3, c4⟩ := five_cells HR0.out
  obtain ⟨mk1, mk2⟩ := hmk
  go_enter Tryz.func24, Tryz.ntmps24
  go_upto_region 1 with fail
  rw [← HW0.out]
  go_wp2_with fail
  refine (CP.out _ B0.out).mono ?_
  rintro e' w1 ⟨vn, rfl, hn, hb1⟩
  obtain ⟨qn, rfl⟩ := rope_ptr hn
  have HR1 : Hid (w1.heap[w.heap.size]? = some (.cells #[.int .i64 i, .int .i64 l, .pointer q, .slice sa ls sc, .slice ta lt tc] 32 (0, 0))) := (hb1.block _ (by have := HL0.out; omega)).trans HR0.out
  have HZ1 : Hid (ZSeg w1 (w.heap.size + 1)) := HZ0.out.below hb1 (by have := HL0.out; omega)
  have B1 := Lib.hid (below_more B0.out hb1)
  have HN1 := Lib.hid hn
  clear c0 c1 c2 c3 c4 hn hb1 CP HZ0 HR0
  obtain ⟨c0, c1, c2, c3, c4⟩ := five_cells HR1.out
  have f2 : w1.frozen? ⟨w.heap.size, 2, none⟩ = false := block_frozen HR1.out
  obtain ⟨W1, hW1⟩ : ∃ W1, W1 = w1.setCell ⟨w.heap.size, 2, none⟩ (.pointer qn) := ⟨_, rfl⟩
  have HR3 : Hid (W1.heap[w.heap.size]? = some (.cells #[.int .i64 i, .int .i64 l, .pointer qn, .slice sa ls sc, .slice ta lt tc] 32 (0, 0))) := by show _ = _; rw [hW1]; exact set_block HR1.out
  have HZ3 : Hid (ZSeg W1 (w.heap.size + 1)) := by show ZSeg _ _; rw [hW1]; exact (Below.heap_setCell _ _ _ _ (by show w.heap.size + 1 ≠ w.heap.size; omega)).trans HZ1.out
  have B3 : Hid (Below w.heap.size w W1) := by show Below _ _ _; rw [hW1]; exact below_put B1.out (Nat.le_refl _) _
  have HN3 : Hid (IsRope W1 L1 (.pointer qn)) := by show IsRope _ _ _; rw [hW1]; exact rope_put HN1.out HR1.out (by decide)
  have HL3 : Hid (w.heap.size + 1 < W1.heap.size) := row_lt HZ3.out
  have HW1 := Lib.hid hW1
  clear hW1
  go_upto_region 2 with fail
  rw [← HW1.out]
  clear c0 c1 c2 c3 c4 f2 HR1 HZ1 HN1 B1 HW1
  obtain ⟨c0, c1, c2, c3, c4⟩ := five_cells HR3.out
  go_wp2_with fail
  refine (CM.out _ B3.out).mono ?_
  rintro e' w3 ⟨u1, u2, rfl, g1, g2, hb3⟩
  obtain ⟨a1, d1, rfl⟩ := g1.is_slice
  obtain ⟨a2, d2, rfl⟩ := g2.is_slice
  have HR4 : Hid (w3.heap[w.heap.size]? = some (.cells #[.int .i64 i, .int .i64 l, .pointer qn, .slice sa ls sc, .slice ta lt tc] 32 (0, 0))) := (hb3.block _ (by have := HL3.out; omega)).trans HR3.out
  have HZ4 : Hid (ZSeg w3 (w.heap.size + 1)) := HZ3.out.below hb3 HL3.out
  have B4 := Lib.hid (below_more B3.out hb3)
  have HN4 := Lib.hid (HN3.out.below hb3 (Nat.le_refl _))
  have G1 := Lib.hid g1
  have G2 := Lib.hid g2
  clear c0 c1 c2 c3 c4 g1 g2 hb3 CM HR3 HZ3 HN3 HL3
  generalize S1.length = n1 at *
  generalize T1.length = n2 at *
  obtain ⟨c0, c1, c2, c3, c4⟩ := five_cells HR4.out
  have f3 : w3.frozen? ⟨w.heap.size, 3, none⟩ = false := block_frozen HR4.out
  have f4 : w3.frozen? ⟨w.heap.size, 4, none⟩ = false := block_frozen HR4.out
  obtain ⟨W5, hW5⟩ : ∃ W5, W5 = (w3.setCell ⟨w.heap.size, 3, none⟩ (.slice a1 n1 d1)).setCell ⟨w.heap.size, 4, none⟩ (.slice a2 n2 d2) := ⟨_, rfl⟩
  have R4a : (w3.setCell ⟨w.heap.size, 3, none⟩ (.slice a1 n1 d1)).heap[w.heap.size]? = some (.cells #[.int .i64 i, .int .i64 l, .pointer qn, .slice a1 n1 d1, .slice ta lt tc] 32 (0, 0)) := set_block HR4.out
  have HR5 : Hid (W5.heap[w.heap.size]? = some (.cells #[.int .i64 i, .int .i64 l, .pointer qn, .slice a1 n1 d1, .slice a2 n2 d2] 32 (0, 0))) := by show _ = _; rw [hW5]; exact set_block R4a
  have HZ5 : Hid (ZSeg W5 (w.heap.size + 1)) := by
    show ZSeg _ _
    rw [hW5]
    exact (Below.heap_setCell _ _ _ _ (by show w.heap.size + 1 ≠ w.heap.size; omega)).trans ((Below.heap_setCell _ _ _ _ (by show w.heap.size + 1 ≠ w.heap.size; omega)).trans HZ4.out)
  have B5 : Hid (Below w.heap.size w W5) := by show Below _ _ _; rw [hW5]; exact below_put (below_put B4.out (Nat.le_refl _) _) (Nat.le_refl _) _
  have HN5 : Hid (IsRope W5 L1 (.pointer qn)) := by show IsRope _ _ _; rw [hW5]; exact rope_put (rope_put HN4.out HR4.out (by decide)) R4a (by decide)
  have G3 : Hid (Spans W5 (.slice a1 n1 d1) S1) := by show Spans _ _ _; rw [hW5]; exact Fl.put1 (Fl.put1 G1.out c3 (sl_ni _ _ _)) (five_cells R4a).2.2.2.2 (sl_ni _ _ _)
  have G4 : Hid (Sites W5 (.slice a2 n2 d2) T1) := by show Sites _ _ _; rw [hW5]; exact Fl.put1 (Fl.put1 G2.out c3 (sl_ni _ _ _)) (five_cells R4a).2.2.2.2 (sl_ni _ _ _)
  have HW5 := Lib.hid hW5
  clear hW5 R4a HZ4 B4 HN4 G1 G2
  go_upto_region 3 with fail
  rw [← HW5.out]
  clear c0 c1 c2 c3 c4 f3 f4 HW5 HR4
  obtain ⟨c0, c1, c2, c3, c4⟩ := five_cells HR5.out
  obtain ⟨k0, k1, k2, k3, k4, f0, f1, f2, f3, f4⟩ := zseg_cells HZ5.out
  have FIN := Lib.hid (give_sg (w := w) (i := i) (l := l) (Nat.le_add_right _ 1) HZ5.out HN5.out G3.out G4.out POS.out B5.out)
  obtain ⟨y0, y1, y2, y3, y4⟩ := set5_cells (a0 := .int .i64 i) (a1 := .int .i64 l) (a2 := .pointer qn) (a3 := .slice a1 n1 d1) (a4 := .slice a2 n2 d2) HZ5.out
  go_wp2_with fail
  exact bodyPost_ret (v := .agg #[.int .i64 i, .int .i64 l, .pointer qn, .slice a1 n1 d1, .slice a2 n2 d2]) (by simp only [set5] at y0 y1 y2 y3 y4; simp [results, Tryz.results24, go_sem, y0, y1, y2, y3, y4]) rfl ⟨_, rfl, FIN.out.1, FIN.out.2⟩

theorem dropT_pos {T : List St} (mk : Int) (h : ∀ s ∈ T, 0 < s.m) : ∀ s ∈ dropT T mk, 0 < s.m := fun s hs => h s (List.mem_filter.1 hs).1

set_option maxHeartbeats 4000000 in
theorem forget_any {v : Value} {i l : Int} {L : Bytes} {S : List Sp} {T : List St} (mk : Int) (w : World) (h : Sg w v i l L S T) (hp : ∀ s ∈ T, 0 < s.m) (hmk : i64 mk) (l1 : S.length ≤ 10000) (l2 : T.length ≤ 10000) :
    Calls Tryz.prog 20 #[v, .int .i64 mk] w (GiveSg w i l L (dropS S mk) (dropT T mk)) := by
  obtain ⟨qn, sa, sc, ta, tc, rfl, hR, hS, hT⟩ := h.open_
  have POS : Hid (∀ s ∈ dropT T mk, 0 < s.m) := dropT_pos mk hp
  have CM : Hid (∀ w', Below w.heap.size w w' → Calls Tryz.prog 55 #[.agg #[.slice sa S.length sc, .slice ta T.length tc], .int .i64 mk] w' (GivesM w' (dropS S mk) (dropT T mk))) := fun w' hb => Rig.drop_any mk w' (hS.below hb (Nat.le_refl _)) (hT.below hb (Nat.le_refl _)) hmk l1 l2
  have HRR : Hid (∀ w', Below w.heap.size w w' → IsRope w' L (.pointer qn)) := fun w' hb => hR.below hb (Nat.le_refl _)
  obtain ⟨L1, hL1⟩ : ∃ L1, L1 = L := ⟨_, rfl⟩
  rw [← hL1] at HRR ⊢
  generalize dropS S mk = S1 at *
  generalize dropT T mk = T1 at *
  generalize S.length = ls at *
  generalize T.length = lt at *
  obtain ⟨W0, hW0⟩ : ∃ W0, W0 = (w.alloc (.cells #[.int .i64 i, .int .i64 l, .pointer qn, .slice sa ls sc, .slice ta lt tc] 32)).alloc (.cells #[.int .i64 0, .int .i64 0, .pointer none, .slice none 0 0, .slice none 0 0] 32) := ⟨_, rfl⟩
  obtain ⟨b0, r0, z0, l0⟩ := box2 w #[.int .i64 i, .int .i64 l, .pointer qn, .slice sa ls sc, .slice ta lt tc] #[.int .i64 0, .int .i64 0, .pointer none, .slice none 0 0, .slice none 0 0] 32 32
  rw [← hW0] at b0 r0 z0 l0
  have B3 := Lib.hid b0
  have HW0 := Lib.hid hW0
  have HR3 := Lib.hid r0
  have HZ3 : Hid (ZSeg W0 (w.heap.size + 1)) := z0
  have HL3 : Hid (w.heap.size + 1 < W0.heap.size) := row_lt HZ3.out
  clear h hR hS hT b0 r0 z0 l0 hW0 hp hL1
  obtain ⟨c0, c1, c2, c3, c4⟩ := five_cells HR3.out
  obtain ⟨mk1, mk2⟩ := hmk
  go_enter Tryz.func20, Tryz.ntmps20
  go_upto_region 1 with fail
  rw [← HW0.out]
  go_wp2_with fail
  refine (CM.out _ B3.out).mono ?_
  rintro e' w3 ⟨u1, u2, rfl, g1, g2, hb3⟩
  obtain ⟨a1, d1, rfl⟩ := g1.is_slice
  obtain ⟨a2, d2, rfl⟩ := g2.is_slice
  have HR4 : Hid (w3.heap[w.heap.size]? = some (.cells #[.int .i64 i, .int .i64 l, .pointer qn, .slice sa ls sc, .slice ta lt tc] 32 (0, 0))) := (hb3.block _ (by have := HL3.out; omega)).trans HR3.out
  have HZ4 : Hid (ZSeg w3 (w.heap.size + 1)) := HZ3.out.below hb3 HL3.out
  have B4 := Lib.hid (below_more B3.out hb3)
  have HN4 := Lib.hid (HRR.out w3 B4.out)
  have G1 := Lib.hid g1
  have G2 := Lib.hid g2
  clear c0 c1 c2 c3 c4 g1 g2 hb3 CM HR3 HZ3 HL3 HRR
  generalize S1.length = n1 at *
  generalize T1.length = n2 at *
  obtain ⟨c0, c1, c2, c3, c4⟩ := five_cells HR4.out
  have f3 : w3.frozen? ⟨w.heap.size, 3, none⟩ = false := block_frozen HR4.out
  have f4 : w3.frozen? ⟨w.heap.size, 4, none⟩ = false := block_frozen HR4.out
  obtain ⟨W5, hW5⟩ : ∃ W5, W5 = (w3.setCell ⟨w.heap.size, 3, none⟩ (.slice a1 n1 d1)).setCell ⟨w.heap.size, 4, none⟩ (.slice a2 n2 d2) := ⟨_, rfl⟩
  have R4a : (w3.setCell ⟨w.heap.size, 3, none⟩ (.slice a1 n1 d1)).heap[w.heap.size]? = some (.cells #[.int .i64 i, .int .i64 l, .pointer qn, .slice a1 n1 d1, .slice ta lt tc] 32 (0, 0)) := set_block HR4.out
  have HR5 : Hid (W5.heap[w.heap.size]? = some (.cells #[.int .i64 i, .int .i64 l, .pointer qn, .slice a1 n1 d1, .slice a2 n2 d2] 32 (0, 0))) := by show _ = _; rw [hW5]; exact set_block R4a
  have HZ5 : Hid (ZSeg W5 (w.heap.size + 1)) := by
    show ZSeg _ _
    rw [hW5]
    exact (Below.heap_setCell _ _ _ _ (by show w.heap.size + 1 ≠ w.heap.size; omega)).trans ((Below.heap_setCell _ _ _ _ (by show w.heap.size + 1 ≠ w.heap.size; omega)).trans HZ4.out)
  have B5 : Hid (Below w.heap.size w W5) := by show Below _ _ _; rw [hW5]; exact below_put (below_put B4.out (Nat.le_refl _) _) (Nat.le_refl _) _
  have HN5 : Hid (IsRope W5 L1 (.pointer qn)) := by show IsRope _ _ _; rw [hW5]; exact rope_put (rope_put HN4.out HR4.out (by decide)) R4a (by decide)
  have G3 : Hid (Spans W5 (.slice a1 n1 d1) S1) := by show Spans _ _ _; rw [hW5]; exact Fl.put1 (Fl.put1 G1.out c3 (sl_ni _ _ _)) (five_cells R4a).2.2.2.2 (sl_ni _ _ _)
  have G4 : Hid (Sites W5 (.slice a2 n2 d2) T1) := by show Sites _ _ _; rw [hW5]; exact Fl.put1 (Fl.put1 G2.out c3 (sl_ni _ _ _)) (five_cells R4a).2.2.2.2 (sl_ni _ _ _)
  have HW5 := Lib.hid hW5
  clear hW5 R4a HZ4 B4 HN4 G1 G2
  go_upto_region 2 with fail
  rw [← HW5.out]
  clear c0 c1 c2 c3 c4 f3 f4 HW5 HR4
  obtain ⟨c0, c1, c2, c3, c4⟩ := five_cells HR5.out
  obtain ⟨k0, k1, k2, k3, k4, f0, f1, f2, f3, f4⟩ := zseg_cells HZ5.out
  have FIN := Lib.hid (give_sg (w := w) (i := i) (l := l) (Nat.le_add_right _ 1) HZ5.out HN5.out G3.out G4.out POS.out B5.out)
  obtain ⟨y0, y1, y2, y3, y4⟩ := set5_cells (a0 := .int .i64 i) (a1 := .int .i64 l) (a2 := .pointer qn) (a3 := .slice a1 n1 d1) (a4 := .slice a2 n2 d2) HZ5.out
  go_wp2_with fail
  exact bodyPost_ret (v := .agg #[.int .i64 i, .int .i64 l, .pointer qn, .slice a1 n1 d1, .slice a2 n2 d2]) (by simp only [set5] at y0 y1 y2 y3 y4; simp [results, Tryz.results20, go_sem, y0, y1, y2, y3, y4]) rfl ⟨_, rfl, FIN.out.1, FIN.out.2⟩

/-- It hands back a segment, and a rope. -/
def GiveDel (w : World) (i l : Int) (L : Bytes) (S : List Sp) (T : List St) (M : Bytes) (e : Ending) (w' : World) : Prop := ∃ v q, e = .returned (.tuple #[v, .pointer q]) ∧ Sg w' v i l L S T ∧ IsRope w' M (.pointer q) ∧ Below w.heap.size w w'

set_option maxHeartbeats 4000000 in
theorem delete_any {v : Value} {i l : Int} {L : Bytes} {S : List Sp} {T : List St} (p e : Nat) (a n mk : Int) (w : World) (h : Sg w v i l L S T) (hRS : RS 0 0 (Let.cnt L) S) (hRT : RT (Let.cnt L) T) (hp : placeI (Let.cnt L) a = p) (he : strTo (Let.cnt L) a n = e) (hpe : p ≤ e) (hec : e ≤ Let.cnt L) (a1 : -9223372036854775808 ≤ a) (a2 : a ≤ 9223372036854775807) (n1 : -9223372036854775808 ≤ n) (n2 : n ≤ 9223372036854775807) (hmk : i64 mk) (b1 : L.length ≤ 10000) (hlt : T.length ≤ 10000) :
    Calls Tryz.prog 6 #[v, .int .i64 a, .int .i64 n, .int .i64 mk] w (GiveDel w i l (Con.dropL L p e) (pTake S p e) (pTakeT T p e mk) (Let.cut L p e)) := by
  have hcl := Let.cnt_len L
  have CS : Hid (∀ w', Below w.heap.size w w' → Calls Tryz.prog 23 #[v, .int .i64 a, .int .i64 n] w' fun e' w'' => e' = .returned (.tuple #[.int .i64 p, .int .i64 e]) ∧ Below w'.heap.size w' w'') := fun w' hb => by
    have := stretch_any a n w' (h.below hb (Nat.le_refl _)) a1 a2 n1 n2 (by omega)
    rwa [hp, he] at this
  have CT : Hid (∀ w', Below w.heap.size w w' → Calls Tryz.prog 24 #[v, .int .i64 p, .int .i64 e, .int .i64 mk] w' (GiveSg w' i l (Con.dropL L p e) (pTake S p e) (pTakeT T p e mk))) := fun w' hb => stake_any p e mk w' (h.below hb (Nat.le_refl _)) hRS hRT hpe hec hmk b1 hlt
  have POS : Hid (∀ s ∈ pTakeT T p e mk, 0 < s.m) := RT_pos (pTakeT_right hRT (a := p) (b := e) (mk := mk) (by omega) (by omega) (by omega))
  obtain ⟨q, sa, sc, ta, tc, rfl, hR, hS, hT⟩ := h.open_
  have CC : Hid (∀ w', Below w.heap.size w w' → Calls Tryz.prog 25 #[.pointer q, .int .i64 p, .int .i64 e] w' (Con.Roped w' (Let.cut L p e))) := fun w' hb => Con.cut_is w' p e (hR.below hb (Nat.le_refl _)) (by omega) (by omega) (by omega) (by omega) (by omega)
  generalize pTake S p e = S1 at *
  generalize pTakeT T p e mk = T1 at *
  generalize Con.dropL L p e = L1 at *
  generalize Let.cut L p e = M1 at *
  generalize S.length = ls at *
  generalize T.length = lt at *
  obtain ⟨W0, hW0⟩ : ∃ W0, W0 = (w.alloc (.cells #[.int .i64 i, .int .i64 l, .pointer q, .slice sa ls sc, .slice ta lt tc] 32)).alloc (.cells #[.int .i64 0, .int .i64 0, .pointer none, .slice none 0 0, .slice none 0 0] 32) := ⟨_, rfl⟩
  obtain ⟨b0, r0, z0, l0⟩ := box2 w #[.int .i64 i, .int .i64 l, .pointer q, .slice sa ls sc, .slice ta lt tc] #[.int .i64 0, .int .i64 0, .pointer none, .slice none 0 0, .slice none 0 0] 32 32
  rw [← hW0] at b0 r0 z0 l0
  have BX : Hid (∀ w', Kp (fun k => k = w.heap.size + 1) W0 w' → Kp (fun k => k = w.heap.size + 1) W0 w' ∧ w'.cell? ⟨w.heap.size, 0, none⟩ = some (.int .i64 i) ∧ w'.cell? ⟨w.heap.size, 1, none⟩ = some (.int .i64 l) ∧ w'.cell? ⟨w.heap.size, 2, none⟩ = some (.pointer q) ∧ w'.cell? ⟨w.heap.size, 3, none⟩ = some (.slice sa ls sc) ∧ w'.cell? ⟨w.heap.size, 4, none⟩ = some (.slice ta lt tc)) := fun w' hk => ⟨hk, five_cells (hk.row r0 (by omega))⟩
  have BZ : Hid (∀ w', Below W0.heap.size W0 w' → ZSeg w' (w.heap.size + 1)) := fun w' hb => ZSeg.below z0 hb (by omega)
  have KB : Hid (∀ w', Kp (fun k => k = w.heap.size + 1) W0 w' → Below w.heap.size w w') := fun w' hk => hk.below b0 (fun k hk' => by omega) (by omega)
  have KR := Lib.hid (Kp.refl (fun k => k = w.heap.size + 1) W0)
  have KB1 := Lib.hid (Below.refl W0.heap.size W0)
  have HW0 := Lib.hid hW0
  obtain ⟨_, c0, c1, c2, c3, c4⟩ := BX.out W0 KR.out
  obtain ⟨mk1, mk2⟩ := hmk
  clear h hR hS hT hRS hRT b0 r0 z0 l0 hW0 hcl b1 hlt hec hpe hp he
  go_enter Tryz.func6, Tryz.ntmps6
  go_upto_region 1 with fail
  rw [← HW0.out]
  go_wp2_with fail
  refine (CS.out _ (KB.out _ KR.out)).mono ?_
  rintro e' w1 ⟨rfl, b1⟩
  have m1 : Below W0.heap.size W0 w1 := b1
  have k1 := KR.out.call b1
  clear c0 c1 c2 c3 c4 b1 CS
  obtain ⟨_, c0, c1, c2, c3, c4⟩ := BX.out w1 k1
  go_upto_region 2 with fail
  go_region_held3 (fun w' => Kp (fun k => k = w.heap.size + 1) W0 w' ∧ w'.cell? ⟨w.heap.size, 0, none⟩ = some (.int .i64 i) ∧ w'.cell? ⟨w.heap.size, 1, none⟩ = some (.int .i64 l) ∧ w'.cell? ⟨w.heap.size, 2, none⟩ = some (.pointer q) ∧ w'.cell? ⟨w.heap.size, 3, none⟩ = some (.slice sa ls sc) ∧ w'.cell? ⟨w.heap.size, 4, none⟩ = some (.slice ta lt tc))
    ((refine BX.out _ ?_; focus ((repeat first | assumption | exact KR.out | apply Kp.drew | apply Kp.drews | apply Kp.putR); done)))
    (first
      | (go_at_call 24; (with_reducible refine (CT.out _ (KB.out _ ?_)).mono ?_); (focus ((repeat first | assumption | exact KR.out | apply Kp.drew | apply Kp.drews | apply Kp.putR); done)); rintro e' w2 ⟨v2, rfl, o2, b2⟩; obtain ⟨q2, x1, y1, x2, y2, rfl, g1, g2, g3⟩ := o2.open_; have m2 := below_more (B := W0.heap.size) (w := W0) (by (repeat first | assumption | exact KB1.out | apply Below.drew | apply below_drews)) b2; have k2 := fun h => Kp.call (R := fun k => k = w.heap.size + 1) (W := W0) h b2; replace k2 := k2 (by (repeat first | assumption | exact KR.out | apply Kp.drew | apply Kp.drews | apply Kp.putR)))
      | (go_at_call 25; (with_reducible refine (CC.out _ (KB.out _ ?_)).mono ?_); (focus ((repeat first | assumption | exact KR.out | apply Kp.drew | apply Kp.drews | apply Kp.putR); done)); rintro e' w3 ⟨v3, rfl, o3, b3⟩; obtain ⟨q3, rfl⟩ := rope_ptr o3; have m3 := below_more (B := W0.heap.size) (w := W0) (by (repeat first | assumption | exact KB1.out | apply Below.drew | apply below_drews)) b3; have k3 := fun h => Kp.call (R := fun k => k = w.heap.size + 1) (W := W0) h b3; replace k3 := k3 (by (repeat first | assumption | exact KR.out | apply Kp.drew | apply Kp.drews | apply Kp.putR)); have z := BZ.out _ m3; obtain ⟨t0, t1, t2, t3, t4, f0, f1, f2, f3, f4⟩ := zseg_cells z))
  have FIN := Lib.hid (give_sg (w := w) (i := i) (l := l) (Nat.le_add_right _ 1) z (g1.below b3 (Nat.le_refl _)) (g2.below b3 (Nat.le_refl _)) (g3.below b3 (Nat.le_refl _)) POS.out (KB.out _ k3))
  have FRP := Lib.hid (rope_kept (w' := set5 w3 (w.heap.size + 1) (.int .i64 i) (.int .i64 l) (.pointer q2) (.slice x1 S1.length y1) (.slice x2 T1.length y2)) o3 z (by decide) (fun b e => set5_other _ _ _ _ _ _ e) (by rw [set5_size]; exact Nat.le_refl _))
  obtain ⟨u0, u1, u2, u3, u4⟩ := set5_cells (a0 := .int .i64 i) (a1 := .int .i64 l) (a2 := .pointer q2) (a3 := .slice x1 S1.length y1) (a4 := .slice x2 T1.length y2) z
  clear g1 g2 g3 b2 b3 o2 o3
  generalize S1.length = n1 at *
  generalize T1.length = n2 at *
  go_wp2_with fail
  exact bodyPost_ret (v := .tuple #[.agg #[.int .i64 i, .int .i64 l, .pointer q2, .slice x1 n1 y1, .slice x2 n2 y2], .pointer q3]) (by simp only [set5] at u0 u1 u2 u3 u4; simp [results, Tryz.results6, go_sem, u0, u1, u2, u3, u4]) rfl ⟨_, _, rfl, FIN.out.1, FRP.out, FIN.out.2⟩

set_option maxHeartbeats 4000000 in
theorem untake_yes {v u : Value} {i l : Int} {L M : Bytes} {S : List Sp} {T : List St} {ps : List Int} (p : Nat) (mk quota : Int) (w : World) (h : Sg w v i l L S T) (hu : IsRope w M u) (hRS : RS 0 0 (Let.cnt L) S) (hRT : RT (Let.cnt L) T) (hps : ofT T mk = (p : Int) :: ps) (hp : p ≤ Let.cnt L) (hmk : i64 mk) (q1 : -9223372036854775808 ≤ quota) (q2 : quota ≤ 9223372036854775807) (b1 : L.length ≤ 5000) (b2 : M.length ≤ 5000) (hlt : T.length ≤ 3000) (hf : fitB L.length M.length quota = true) :
    Calls Tryz.prog 17 #[v, .int .i64 mk, u, .int .i64 quota] w (GiveIns w true i l (Let.put L p M) (dropS (pPut S p (Let.cnt M) 0) mk) (dropT (pPutT T p (Let.cnt M)) mk)) := by
  have hcl := Let.cnt_len L
  have hcm := Let.cnt_len M
  have hls := RS_len hRS (by omega)
  have h2 := pPutT_right hRT (p := p) (k := Let.cnt M) (by omega) (by omega)
  have h1 := pPut_ok (mk := 0) (p := p) (k := Let.cnt M) hRS (by omega) (by omega) (by omega)
  have h3 := RS_len h1.1 (by omega)
  have h4 := pPutT_len5 T p (Let.cnt M)
  have CF : Hid (∀ w', Below w.heap.size w w' → Calls Tryz.prog 49 #[v, u, .int .i64 quota] w' fun e w'' => e = .returned (.bool true) ∧ Below w'.heap.size w' w'') := fun w' hb => by
    have := fits_any quota w' (h.below hb (Nat.le_refl _)) (hu.below hb (Nat.le_refl _)) q1 q2 (by omega) (by omega)
    rwa [hf] at this
  have CP : Hid (∀ w', Below w.heap.size w w' → Calls Tryz.prog 50 #[v, .int .i64 p, u, .int .i64 0] w' (GiveSg w' i l (Let.put L p M) (pPut S p (Let.cnt M) 0) (pPutT T p (Let.cnt M)))) := fun w' hb => sput_any p 0 w' (h.below hb (Nat.le_refl _)) (hu.below hb (Nat.le_refl _)) hRS hRT hp ⟨by omega, by omega⟩ (by omega) (by omega) (by omega)
  have CG : Hid (∀ w' x, Sg w' x i l (Let.put L p M) (pPut S p (Let.cnt M) 0) (pPutT T p (Let.cnt M)) → Calls Tryz.prog 20 #[x, .int .i64 mk] w' (GiveSg w' i l (Let.put L p M) (dropS (pPut S p (Let.cnt M) 0) mk) (dropT (pPutT T p (Let.cnt M)) mk))) := fun w' x hx => forget_any mk w' hx (RT_pos h2) hmk (by omega) (by omega)
  have POS : Hid (∀ s ∈ dropT (pPutT T p (Let.cnt M)) mk, 0 < s.m) := dropT_pos mk (RT_pos h2)
  obtain ⟨q, sa, sc, ta, tc, rfl, hR, hS, hT⟩ := h.open_
  obtain ⟨pu, rfl⟩ := rope_ptr hu
  have CO : Hid (∀ w', Below w.heap.size w w' → Calls Tryz.prog 32 #[.agg #[.slice sa S.length sc, .slice ta T.length tc], .int .i64 mk] w' (GivesOf w' (ofS S mk) ((p : Int) :: ps))) := fun w' hb => by
    have := of_any mk w' (hS.below hb (Nat.le_refl _)) (hT.below hb (Nat.le_refl _)) hmk (by omega) (by omega)
    rwa [hps] at this
  generalize dropS (pPut S p (Let.cnt M) 0) mk = S2 at *
  generalize dropT (pPutT T p (Let.cnt M)) mk = T2 at *
  generalize pPut S p (Let.cnt M) 0 = S1 at *
  generalize pPutT T p (Let.cnt M) = T1 at *
  generalize Let.put L p M = L1 at *
  generalize S.length = ls at *
  generalize T.length = lt at *
  obtain ⟨W0, hW0⟩ : ∃ W0, W0 = (w.alloc (.cells #[.int .i64 i, .int .i64 l, .pointer q, .slice sa ls sc, .slice ta lt tc] 32)).alloc (.cells #[.int .i64 0, .int .i64 0, .pointer none, .slice none 0 0, .slice none 0 0] 32) := ⟨_, rfl⟩
  obtain ⟨b0, r0, z0, l0⟩ := box2 w #[.int .i64 i, .int .i64 l, .pointer q, .slice sa ls sc, .slice ta lt tc] #[.int .i64 0, .int .i64 0, .pointer none, .slice none 0 0, .slice none 0 0] 32 32
  rw [← hW0] at b0 r0 z0 l0
  have BX : Hid (∀ w', Kp (fun k => k = w.heap.size + 1) W0 w' → Kp (fun k => k = w.heap.size + 1) W0 w' ∧ w'.cell? ⟨w.heap.size, 0, none⟩ = some (.int .i64 i) ∧ w'.cell? ⟨w.heap.size, 1, none⟩ = some (.int .i64 l) ∧ w'.cell? ⟨w.heap.size, 2, none⟩ = some (.pointer q) ∧ w'.cell? ⟨w.heap.size, 3, none⟩ = some (.slice sa ls sc) ∧ w'.cell? ⟨w.heap.size, 4, none⟩ = some (.slice ta lt tc)) := fun w' hk => ⟨hk, five_cells (hk.row r0 (by omega))⟩
  have BZ : Hid (∀ w', Below W0.heap.size W0 w' → ZSeg w' (w.heap.size + 1)) := fun w' hb => ZSeg.below z0 hb (by omega)
  have KB : Hid (∀ w', Kp (fun k => k = w.heap.size + 1) W0 w' → Below w.heap.size w w') := fun w' hk => hk.below b0 (fun k hk' => by omega) (by omega)
  have KR := Lib.hid (Kp.refl (fun k => k = w.heap.size + 1) W0)
  have KB1 := Lib.hid (Below.refl W0.heap.size W0)
  have HW0 := Lib.hid hW0
  obtain ⟨_, c0, c1, c2, c3, c4⟩ := BX.out W0 KR.out
  obtain ⟨mk1, mk2⟩ := hmk
  clear h hu hR hS hT hRS hRT b0 r0 z0 l0 hW0 hcl hcm b1 b2 hls h1 h2 h3 h4 hf hps hlt
  go_enter Tryz.func17, Tryz.ntmps17
  go_upto_region 1 with fail
  rw [← HW0.out]
  go_wp2_with fail
  refine (CO.out _ (KB.out _ KR.out)).mono ?_
  rintro e' w1 ⟨v1, v2, rfl, g1, g2, b1⟩
  have m1 : Below W0.heap.size W0 w1 := b1
  have k1 := KR.out.call b1
  obtain ⟨s1, t1, rfl⟩ := g1.is_slice
  obtain ⟨pa, pc, rfl, hpl, hpc, hpi⟩ := g2.open_
  obtain ⟨bb, oo, rfl, hbb, _, cc⟩ := hpi 0 (by simp)
  obtain ⟨np, hnp⟩ : ∃ np, np = ((p : Int) :: ps).length := ⟨_, rfl⟩
  have hnp1 : 1 ≤ np := by rw [hnp]; simp
  rw [← hnp] at hpl ⊢
  have HS : Hid (∀ w', Below w1.heap.size w1 w' → w'.cell? ⟨bb, oo, none⟩ = some (.int .i64 p)) := fun w' hb => by
    have := below_cell hb hbb cc
    exact this
  generalize (ofS S mk).length = nz at *
  have g0 : ((np : Int) == 0) = false := by rw [beq_eq_false_iff_ne]; omega
  have g00 : ¬ ((np : Int) = 0) := by omega
  have gp : 0 < np := by omega
  clear c0 c1 c2 c3 c4 b1 CO g1 g2 hpi cc hnp
  obtain ⟨_, c0, c1, c2, c3, c4⟩ := BX.out w1 k1
  go_upto_region 2 with fail
  go_wp2_with fail
  refine (CF.out _ (KB.out _ k1)).mono ?_
  rintro e' w2 ⟨rfl, b2⟩
  have m2 := below_more m1 b2
  have k2 := k1.call b2
  have cp := HS.out w2 b2
  have hb2 := Nat.lt_of_lt_of_le hbb b2.size
  have HS2 : Hid (∀ w', Below w2.heap.size w2 w' → w'.cell? ⟨bb, oo, none⟩ = some (.int .i64 p)) := fun w' hb => HS.out w' (below_more b2 hb)
  clear c0 c1 c2 c3 c4 CF b2
  obtain ⟨_, c0, c1, c2, c3, c4⟩ := BX.out w2 k2
  go_upto_region 4 with fail
  have km2 := k2
  go_region_with (first
    | (go_at_call 50; (with_reducible refine (CP.out _ (KB.out _ ?_)).mono ?_); (focus ((repeat first | assumption | apply Kp.drew | apply Kp.drews); done)); rintro e' w4 ⟨v4, rfl, o4, b4⟩; obtain ⟨q4, x4, y4, x5, y5, rfl, _, _, _⟩ := o4.open_; have m4 := fun h => below_more (B := W0.heap.size) (w := W0) h b4; replace m4 := m4 (by (repeat first | assumption | apply Below.drew | apply below_drews)); have k4 := fun h => Kp.call (R := fun k => k = w.heap.size + 1) (W := W0) h b4; replace k4 := k4 (by (repeat first | assumption | apply Kp.drew | apply Kp.drews)))
    | (go_at_call 20; (with_reducible refine (CG.out _ _ ?_).mono ?_); (focus (exact o4)); rintro e' w5 ⟨v5, rfl, o5, b5⟩; obtain ⟨q5, x6, y6, x7, y7, rfl, g4, g5, g6⟩ := o5.open_; have m5 := below_more m4 b5; have k5 := k4.call b5; have z := BZ.out _ m5; obtain ⟨t0, t1', t2, t3, t4, f0, f1, f2, f3, f4⟩ := zseg_cells z; have FIN := Lib.hid (give_sg (w := w) (i := i) (l := l) (Nat.le_add_right _ 1) z g4 g5 g6 POS.out (KB.out _ k5)); obtain ⟨u0, u1, u2, u3, u4⟩ := set5_cells (a0 := .int .i64 i) (a1 := .int .i64 l) (a2 := .pointer q5) (a3 := .slice x6 S2.length y6) (a4 := .slice x7 T2.length y7) z))
  all_goals go_wp2_with fail
  all_goals exact bodyPost_ret (v := .tuple #[.agg #[.int .i64 i, .int .i64 l, .pointer q5, .slice x6 S2.length y6, .slice x7 T2.length y7], .bool true]) (by simp only [set5] at u0 u1 u2 u3 u4; simp [results, Tryz.results17, go_sem, u0, u1, u2, u3, u4]) rfl ⟨_, rfl, FIN.out.1, FIN.out.2⟩
end Go.Proofs.YtkgdfclpogiemaaGreatDoor.Seg
