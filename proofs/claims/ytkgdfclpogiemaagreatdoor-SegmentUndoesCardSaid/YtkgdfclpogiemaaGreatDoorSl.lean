/- Segments, the plain text: with, Insert. -/
import Derived.Test.YtkgdfclpogiemaaGreatDoorQt
import Derived.Deep.DeepCutAuto
import Derived.Deep.CutBlock
set_option linter.unusedVariables false
set_option maxRecDepth 100000
namespace Go.Proofs.YtkgdfclpogiemaaGreatDoor.Seg
open Go.RowKit Go.Lib Go.Proofs.YtkgdfclpogiemaaGreatDoor.Rt Go.Proofs.YtkgdfclpogiemaaGreatDoor.Rig

theorem Kp.putNew {R : Nat → Prop} {W w1 : World} {B j : Nat} {u : Value} (hB : W.heap.size ≤ B) (h : Kp R W w1) : Kp R W (w1.setCell ⟨B, j, none⟩ u) :=
  ⟨h.b0.setCell (p := ⟨B, j, none⟩) (Nat.zero_le _) u, fun k hk hR => (Below.heap_setCell _ _ _ _ (fun e => by have e' : k = B := e; omega)).trans (h.blk k hk hR)⟩
theorem RS_at {S : List Sp} {n : Int} (h : RS 0 0 n S) : ∀ j, j < S.length → 0 ≤ (sp S j).f ∧ (sp S j).f ≤ (sp S j).t ∧ (sp S j).t ≤ n := fun j hj => by
  obtain ⟨_, b, c, d⟩ := h.ord.mem (sp S j) (by rw [sp_get hj]; exact List.getElem_mem hj)
  exact ⟨b, by omega, d⟩
theorem RT_at {T : List St} {n : Int} (h : RT n T) : ∀ j, j < T.length → 0 ≤ (st T j).a ∧ (st T j).a ≤ n := fun j hj => by
  obtain ⟨_, b, c⟩ := h.2 (st T j) (mem_st.2 ⟨j, hj, rfl⟩)
  exact ⟨b, c⟩
theorem Kp.set5New {R : Nat → Prop} {W w1 : World} {B : Nat} {a0 a1 a2 a3 a4 : Value} (hB : W.heap.size ≤ B) (h : Kp R W w1) : Kp R W (set5 w1 B a0 a1 a2 a3 a4) := Kp.putNew hB (Kp.putNew hB (Kp.putNew hB (Kp.putNew hB (Kp.putNew hB h))))
theorem zpl_new {w4 w5 : World} (b5 : Below (w4.alloc (.cells #[.int .i64 0, .int .i64 0, .string (ByteArray.mk #[]), .slice none 0 0, .slice none 0 0] 25)).heap.size (w4.alloc (.cells #[.int .i64 0, .int .i64 0, .string (ByteArray.mk #[]), .slice none 0 0, .slice none 0 0] 25)) w5) : ZPl w5 w4.heap.size := (b5.block _ (by simp)).trans (heap_alloc_new _ _)
theorem zpl_alloc (w : World) : ZPl (w.alloc (.cells #[.int .i64 0, .int .i64 0, .string (ByteArray.mk #[]), .slice none 0 0, .slice none 0 0] 25)) w.heap.size := heap_alloc_new _ _
/-- A row of the region's own: made, not yet filled. -/
structure ZN (W0 w : World) (NB : Nat) : Prop where
  z : ZPl w NB
  s : W0.heap.size ≤ NB
theorem ZN.below {W0 w w' : World} {NB : Nat} (h : ZN W0 w NB) (hb : Below w.heap.size w w') : ZN W0 w' NB := ⟨h.z.below hb (row_lt h.z), h.s⟩
theorem zn_new {W0 w4 w5 : World} (hk : Kp (fun _ => False) W0 w4) (b5 : Below (w4.alloc (.cells #[.int .i64 0, .int .i64 0, .string (ByteArray.mk #[]), .slice none 0 0, .slice none 0 0] 25)).heap.size (w4.alloc (.cells #[.int .i64 0, .int .i64 0, .string (ByteArray.mk #[]), .slice none 0 0, .slice none 0 0] 25)) w5) : ZN W0 w5 w4.heap.size := ⟨zpl_new b5, hk.b0.size⟩
theorem zn_newd {W0 w4 w5 : World} (hk : Kp (fun _ => False) W0 w4) (b5 : Below (w4.alloc (.cells #[.int .i64 0, .int .i64 0, .string (ByteArray.mk #[]), .slice none 0 0, .slice none 0 0] 25)).drew.heap.size (w4.alloc (.cells #[.int .i64 0, .int .i64 0, .string (ByteArray.mk #[]), .slice none 0 0, .slice none 0 0] 25)).drew w5) : ZN W0 w5 w4.heap.size := ⟨(b5.block _ (by show w4.heap.size < (w4.alloc _).heap.size; simp)).trans (heap_alloc_new _ _), hk.b0.size⟩
theorem zn_alloc {W0 w : World} (hk : Kp (fun _ => False) W0 w) : ZN W0 (w.alloc (.cells #[.int .i64 0, .int .i64 0, .string (ByteArray.mk #[]), .slice none 0 0, .slice none 0 0] 25)) w.heap.size := ⟨zpl_alloc w, hk.b0.size⟩
def Filled (W0 w : World) (NB : Nat) (i l : Int) (L : Bytes) (S : List Sp) (T : List St) (a3 : Option Addr) (d3 : Nat) (a4 : Option Addr) (d4 : Nat) : Prop :=
  w.heap[NB]? = some (.cells #[.int .i64 i, .int .i64 l, .string (Let.mk L), .slice a3 S.length d3, .slice a4 T.length d4] 25 (0, 0)) ∧ Spans w (.slice a3 S.length d3) S ∧ Sites w (.slice a4 T.length d4) T ∧ Kp (fun _ => False) W0 w ∧ W0.heap.size ≤ NB
theorem fin_row {W0 w : World} {NB : Nat} {i l : Int} {L : Bytes} {S : List Sp} {T : List St} {a3 a4 : Option Addr} {d3 d4 : Nat} (z : ZN W0 w NB) (g3 : Spans w (.slice a3 S.length d3) S) (g4 : Sites w (.slice a4 T.length d4) T) (hp : ∀ s ∈ T, 0 < s.m) (k : Kp (fun _ => False) W0 w) :
    Filled W0 (set5 w NB (.int .i64 i) (.int .i64 l) (.string (Let.mk L)) (.slice a3 S.length d3) (.slice a4 T.length d4)) NB i l L S T a3 d3 a4 d4 :=
  ⟨set5_block z.z, Spans.set5 g3 z.z (str_ni _) (sl_ni _ _ _) (sl_ni _ _ _), Sites.set5 g4 hp z.z (str_ni _) (sl_ni _ _ _) (sl_ni _ _ _), Kp.set5New z.s k, z.s⟩
theorem fin_alloc {W0 w : World} {i l : Int} {L : Bytes} {S : List Sp} {T : List St} {a3 a4 : Option Addr} {d3 d4 : Nat} (g3 : Spans w (.slice a3 S.length d3) S) (g4 : Sites w (.slice a4 T.length d4) T) (k : Kp (fun _ => False) W0 w) :
    Filled W0 (w.alloc (.cells #[.int .i64 i, .int .i64 l, .string (Let.mk L), .slice a3 S.length d3, .slice a4 T.length d4] 25)) w.heap.size i l L S T a3 d3 a4 d4 :=
  ⟨heap_alloc_new _ _, Fl.below g3 ((Below.refl _ _).alloc (Nat.le_refl _) _) (Nat.le_refl _), Fl.below g4 ((Below.refl _ _).alloc (Nat.le_refl _) _) (Nat.le_refl _), k.alloc _, k.b0.size⟩
theorem rput1_any (L M : Bytes) (p : Nat) (w : World) (hl : L.length ≤ 10000) (hm : M.length ≤ 10000) (hp : p ≤ 10000) : Calls Tryz.prog 80 #[.string (Let.mk L), .int .i64 p, .string (Let.mk M)] w fun e w' => e = .returned (.string (Let.mk (Let.put L p M))) ∧ Below w.heap.size w w' := by
  have := Con.rput_any (Let.mk L) (Let.mk M) p w (by rw [Let.mk_size]; unfold maxLen; omega) (by rw [Let.mk_size, Let.mk_size]; omega) (by omega) (by omega)
  rwa [Let.mk_data, Let.mk_data] at this

set_option maxHeartbeats 1600000 in
theorem with5_any {i l : Int} {L : Bytes} {S : List Sp} {T : List St} {s1 s2 sa ta : Option Addr} {n1 n2 x1 x2 ls lt sc tc : Nat} (w : World) (hS : Spans w (.slice sa ls sc) S) (hT : Sites w (.slice ta lt tc) T) (hp : ∀ s ∈ T, 0 < s.m) :
    Calls Tryz.prog 38 #[.agg #[.int .i64 i, .int .i64 l, .string (Let.mk L), .slice s1 n1 x1, .slice s2 n2 x2], .agg #[.slice sa ls sc, .slice ta lt tc]] w (GivePl w i l L S T) := by
  obtain ⟨W0, hW0⟩ : ∃ W0, W0 = ((w.alloc (.cells #[.int .i64 i, .int .i64 l, .string (Let.mk L), .slice s1 n1 x1, .slice s2 n2 x2] 25)).alloc (.cells #[.slice sa ls sc, .slice ta lt tc] 78)).alloc (.cells #[.int .i64 0, .int .i64 0, .string (ByteArray.mk #[]), .slice none 0 0, .slice none 0 0] 25) := ⟨_, rfl⟩
  obtain ⟨b0, r0, r1, z0, l0⟩ := box3 w #[.int .i64 i, .int .i64 l, .string (Let.mk L), .slice s1 n1 x1, .slice s2 n2 x2] #[.slice sa ls sc, .slice ta lt tc] #[.int .i64 0, .int .i64 0, .string (ByteArray.mk #[]), .slice none 0 0, .slice none 0 0] 25 78 25
  rw [← hW0] at b0 r0 r1 z0 l0
  obtain ⟨c0, c1, c2, c3, c4⟩ := five_cells r0
  obtain ⟨f0, f1, f2, f3, f4⟩ := five_free r0
  obtain ⟨e0, e1, _, _⟩ := two_cells r1
  have HW0 := Lib.hid hW0
  obtain ⟨W1, hW1⟩ : ∃ W1, W1 = W0.setCell ⟨w.heap.size, 3, none⟩ (.slice sa ls sc) := ⟨_, rfl⟩
  have rA : W1.heap[w.heap.size]? = some (.cells #[.int .i64 i, .int .i64 l, .string (Let.mk L), .slice sa ls sc, .slice s2 n2 x2] 25 (0, 0)) := by rw [hW1]; exact set_block r0
  have rB : W1.heap[w.heap.size + 1]? = some (.cells #[.slice sa ls sc, .slice ta lt tc] 78 (0, 0)) := by rw [hW1, Below.heap_setCell _ _ _ _ (by show w.heap.size + 1 ≠ w.heap.size; omega)]; exact r1
  have rC : ZPl W1 (w.heap.size + 1 + 1) := by show _ = _; rw [hW1, Below.heap_setCell _ _ _ _ (by show w.heap.size + 1 + 1 ≠ w.heap.size; omega)]; exact z0
  have B1 : Below w.heap.size w W1 := by rw [hW1]; exact below_put b0 (Nat.le_refl _) _
  obtain ⟨W2, hW2⟩ : ∃ W2, W2 = W1.setCell ⟨w.heap.size, 4, none⟩ (.slice ta lt tc) := ⟨_, rfl⟩
  have rD : W2.heap[w.heap.size]? = some (.cells #[.int .i64 i, .int .i64 l, .string (Let.mk L), .slice sa ls sc, .slice ta lt tc] 25 (0, 0)) := by rw [hW2]; exact set_block rA
  have rE : ZPl W2 (w.heap.size + 1 + 1) := by show _ = _; rw [hW2, Below.heap_setCell _ _ _ _ (by show w.heap.size + 1 + 1 ≠ w.heap.size; omega)]; exact rC
  have B2 : Below w.heap.size w W2 := by rw [hW2]; exact below_put B1 (Nat.le_refl _) _
  have FIN := Lib.hid (give_pl (w := w) (i := i) (l := l) (L := L) (show w.heap.size ≤ w.heap.size + 1 + 1 by omega) rE (hS.below B2 (Nat.le_refl _)) (hT.below B2 (Nat.le_refl _)) hp B2)
  obtain ⟨y0, y1, y2, y3, y4⟩ := set5_cells (a0 := .int .i64 i) (a1 := .int .i64 l) (a2 := .string (Let.mk L)) (a3 := .slice sa ls sc) (a4 := .slice ta lt tc) rE
  have HA := Lib.hid rA
  have HB := Lib.hid rB
  have HD := Lib.hid rD
  have HE := Lib.hid rE
  have HW1 := Lib.hid hW1
  have HW2 := Lib.hid hW2
  clear hS hT hp b0 r0 r1 z0 l0 hW0 hW1 hW2 rA rB rC rD rE B1 B2
  generalize Let.mk L = sl at *
  go_enter Tryz.func38, Tryz.ntmps38
  go_upto_region 1 with fail
  rw [← HW0.out]
  go_upto_region 2 with fail
  rw [← HW1.out]
  clear c0 c1 c2 c3 c4 f0 f1 f2 f3 f4 e0 e1
  obtain ⟨c0, c1, c2, c3, c4⟩ := five_cells HA.out
  obtain ⟨f0, f1, f2, f3, f4⟩ := five_free HA.out
  obtain ⟨e0, e1, _, _⟩ := two_cells HB.out
  go_upto_region 3 with fail
  rw [← HW2.out]
  clear c0 c1 c2 c3 c4 f0 f1 f2 f3 f4 e0 e1
  obtain ⟨c0, c1, c2, c3, c4⟩ := five_cells HD.out
  obtain ⟨k0, k1, k2, k3, k4⟩ := five_cells HE.out
  obtain ⟨f0, f1, f2, f3, f4⟩ := five_free HE.out
  go_wp2_with fail
  exact bodyPost_ret (v := .agg #[.int .i64 i, .int .i64 l, .string sl, .slice sa ls sc, .slice ta lt tc]) (by simp only [set5] at y0 y1 y2 y3 y4; simp [results, Tryz.results38, go_sem, y0, y1, y2, y3, y4]) rfl ⟨_, rfl, FIN.out.1, FIN.out.2⟩

end Go.Proofs.YtkgdfclpogiemaaGreatDoor.Seg
