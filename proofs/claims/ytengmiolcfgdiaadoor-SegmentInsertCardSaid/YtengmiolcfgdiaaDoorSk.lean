/- Segments, the plain text: with, Insert. -/
import Derived.Test.YtengmiolcfgdiaaDoorSm
import Derived.Deep.DeepCutAuto
import Derived.Deep.CutBlock
set_option linter.unusedVariables false
set_option maxRecDepth 100000
namespace Go.Proofs.YtengmiolcfgdiaaDoor.Seg
open Go.RowKit Go.Lib Go.Proofs.YtengmiolcfgdiaaDoor.Rt Go.Proofs.YtengmiolcfgdiaaDoor.Rig

theorem Kp.putNew {R : Nat → Prop} {W w1 : World} {B j : Nat} {u : Value} (hB : W.heap.size ≤ B) (h : Kp R W w1) : Kp R W (w1.setCell ⟨B, j, none⟩ u) :=
  ⟨h.b0.setCell (p := ⟨B, j, none⟩) (Nat.zero_le _) u, fun k hk hR => (Below.heap_setCell _ _ _ _ (fun e => by have e' : k = B := e; omega)).trans (h.blk k hk hR)⟩
theorem RS_at {S : List Sp} {n : Int} (h : RS 0 0 n S) : ∀ j, j < S.length → 0 ≤ (sp S j).f ∧ (sp S j).f ≤ (sp S j).t ∧ (sp S j).t ≤ n := fun j hj => by
  obtain ⟨_, b, c, d⟩ := h.ord.mem (sp S j) (by rw [sp_get hj]; exact List.getElem_mem hj)
  exact ⟨b, by omega, d⟩
theorem RT_at {T : List St} {n : Int} (h : RT n T) : ∀ j, j < T.length → 0 ≤ (st T j).a ∧ (st T j).a ≤ n := fun j hj => by
  obtain ⟨_, b, c⟩ := h.2 (st T j) (mem_st.2 ⟨j, hj, rfl⟩)
  exact ⟨b, c⟩
theorem Kp.set5New {R : Nat → Prop} {W w1 : World} {B : Nat} {a0 a1 a2 a3 a4 : Value} (hB : W.heap.size ≤ B) (h : Kp R W w1) : Kp R W (set5 w1 B a0 a1 a2 a3 a4) := Kp.putNew hB (Kp.putNew hB (Kp.putNew hB (Kp.putNew hB (Kp.putNew hB h))))
theorem zpl_new {w4 w5 : World} (b5 : Below (w4.alloc (.cells #[.int .i64 0, .int .i64 0, .string (ByteArray.mk #[]), .slice none 0 0, .slice none 0 0] 25)).heap.size (w4.alloc (.cells #[.int .i64 0, .int .i64 0, .string (ByteArray.mk #[]), .slice none 0 0, .slice none 0 0] 25)) w5) : ZPl w5 w4.heap.size := (b5.block _ (by simp)).trans (heap_alloc_new _ _)
theorem zpl_alloc (w : World) : ZPl (w.alloc (.cells #[.int .i64 0, .int .i64 0, .string (ByteArray.mk #[]), .slice none 0 0, .slice none 0 0] 25)) w.heap.size := heap_alloc_new _ _
/-- A row of the region's own: made, not yet filled. -/
structure ZN (W0 w : World) (NB : Nat) : Prop where
  z : ZPl w NB
  s : W0.heap.size ≤ NB
theorem ZN.below {W0 w w' : World} {NB : Nat} (h : ZN W0 w NB) (hb : Below w.heap.size w w') : ZN W0 w' NB := ⟨h.z.below hb (row_lt h.z), h.s⟩
theorem zn_new {W0 w4 w5 : World} (hk : Kp (fun _ => False) W0 w4) (b5 : Below (w4.alloc (.cells #[.int .i64 0, .int .i64 0, .string (ByteArray.mk #[]), .slice none 0 0, .slice none 0 0] 25)).heap.size (w4.alloc (.cells #[.int .i64 0, .int .i64 0, .string (ByteArray.mk #[]), .slice none 0 0, .slice none 0 0] 25)) w5) : ZN W0 w5 w4.heap.size := ⟨zpl_new b5, hk.b0.size⟩
theorem zn_newd {W0 w4 w5 : World} (hk : Kp (fun _ => False) W0 w4) (b5 : Below (w4.alloc (.cells #[.int .i64 0, .int .i64 0, .string (ByteArray.mk #[]), .slice none 0 0, .slice none 0 0] 25)).drew.heap.size (w4.alloc (.cells #[.int .i64 0, .int .i64 0, .string (ByteArray.mk #[]), .slice none 0 0, .slice none 0 0] 25)).drew w5) : ZN W0 w5 w4.heap.size := ⟨(b5.block _ (by show w4.heap.size < (w4.alloc _).heap.size; simp)).trans (heap_alloc_new _ _), hk.b0.size⟩
theorem zn_alloc {W0 w : World} (hk : Kp (fun _ => False) W0 w) : ZN W0 (w.alloc (.cells #[.int .i64 0, .int .i64 0, .string (ByteArray.mk #[]), .slice none 0 0, .slice none 0 0] 25)) w.heap.size := ⟨zpl_alloc w, hk.b0.size⟩
def Filled (W0 w : World) (NB : Nat) (i l : Int) (L : Bytes) (S : List Sp) (T : List St) (a3 : Option Addr) (d3 : Nat) (a4 : Option Addr) (d4 : Nat) : Prop :=
  w.heap[NB]? = some (.cells #[.int .i64 i, .int .i64 l, .string (Let.mk L), .slice a3 S.length d3, .slice a4 T.length d4] 25 (0, 0)) ∧ Spans w (.slice a3 S.length d3) S ∧ Sites w (.slice a4 T.length d4) T ∧ Kp (fun _ => False) W0 w ∧ W0.heap.size ≤ NB
theorem fin_row {W0 w : World} {NB : Nat} {i l : Int} {L : Bytes} {S : List Sp} {T : List St} {a3 a4 : Option Addr} {d3 d4 : Nat} (z : ZN W0 w NB) (g3 : Spans w (.slice a3 S.length d3) S) (g4 : Sites w (.slice a4 T.length d4) T) (hp : ∀ s ∈ T, 0 < s.m) (k : Kp (fun _ => False) W0 w) :
    Filled W0 (set5 w NB (.int .i64 i) (.int .i64 l) (.string (Let.mk L)) (.slice a3 S.length d3) (.slice a4 T.length d4)) NB i l L S T a3 d3 a4 d4 :=
  ⟨set5_block z.z, Spans.set5 g3 z.z (str_ni _) (sl_ni _ _ _) (sl_ni _ _ _), Sites.set5 g4 hp z.z (str_ni _) (sl_ni _ _ _) (sl_ni _ _ _), Kp.set5New z.s k, z.s⟩
theorem fin_alloc {W0 w : World} {i l : Int} {L : Bytes} {S : List Sp} {T : List St} {a3 a4 : Option Addr} {d3 d4 : Nat} (g3 : Spans w (.slice a3 S.length d3) S) (g4 : Sites w (.slice a4 T.length d4) T) (k : Kp (fun _ => False) W0 w) :
    Filled W0 (w.alloc (.cells #[.int .i64 i, .int .i64 l, .string (Let.mk L), .slice a3 S.length d3, .slice a4 T.length d4] 25)) w.heap.size i l L S T a3 d3 a4 d4 :=
  ⟨heap_alloc_new _ _, Fl.below g3 ((Below.refl _ _).alloc (Nat.le_refl _) _) (Nat.le_refl _), Fl.below g4 ((Below.refl _ _).alloc (Nat.le_refl _) _) (Nat.le_refl _), k.alloc _, k.b0.size⟩
theorem rput1_any (L M : Bytes) (p : Nat) (w : World) (hl : L.length ≤ 10000) (hm : M.length ≤ 10000) (hp : p ≤ 10000) : Calls Tryd.prog 51 #[.string (Let.mk L), .int .i64 p, .string (Let.mk M)] w fun e w' => e = .returned (.string (Let.mk (Let.put L p M))) ∧ Below w.heap.size w w' := by
  have := Con.rput_any (Let.mk L) (Let.mk M) p w (by rw [Let.mk_size]; unfold maxLen; omega) (by rw [Let.mk_size, Let.mk_size]; omega) (by omega) (by omega)
  rwa [Let.mk_data, Let.mk_data] at this

set_option maxHeartbeats 1600000 in
theorem with5_any {i l : Int} {L : Bytes} {S : List Sp} {T : List St} {s1 s2 sa ta : Option Addr} {n1 n2 x1 x2 ls lt sc tc : Nat} (w : World) (hS : Spans w (.slice sa ls sc) S) (hT : Sites w (.slice ta lt tc) T) (hp : ∀ s ∈ T, 0 < s.m) :
    Calls Tryd.prog 49 #[.agg #[.int .i64 i, .int .i64 l, .string (Let.mk L), .slice s1 n1 x1, .slice s2 n2 x2], .agg #[.slice sa ls sc, .slice ta lt tc]] w (GivePl w i l L S T) := by
  obtain ⟨W0, hW0⟩ : ∃ W0, W0 = ((w.alloc (.cells #[.int .i64 i, .int .i64 l, .string (Let.mk L), .slice s1 n1 x1, .slice s2 n2 x2] 25)).alloc (.cells #[.slice sa ls sc, .slice ta lt tc] 69)).alloc (.cells #[.int .i64 0, .int .i64 0, .string (ByteArray.mk #[]), .slice none 0 0, .slice none 0 0] 25) := ⟨_, rfl⟩
  obtain ⟨b0, r0, r1, z0, l0⟩ := box3 w #[.int .i64 i, .int .i64 l, .string (Let.mk L), .slice s1 n1 x1, .slice s2 n2 x2] #[.slice sa ls sc, .slice ta lt tc] #[.int .i64 0, .int .i64 0, .string (ByteArray.mk #[]), .slice none 0 0, .slice none 0 0] 25 69 25
  rw [← hW0] at b0 r0 r1 z0 l0
  obtain ⟨c0, c1, c2, c3, c4⟩ := five_cells r0
  obtain ⟨f0, f1, f2, f3, f4⟩ := five_free r0
  obtain ⟨e0, e1, _, _⟩ := two_cells r1
  have HW0 := Lib.hid hW0
  obtain ⟨W1, hW1⟩ : ∃ W1, W1 = W0.setCell ⟨w.heap.size, 3, none⟩ (.slice sa ls sc) := ⟨_, rfl⟩
  have rA : W1.heap[w.heap.size]? = some (.cells #[.int .i64 i, .int .i64 l, .string (Let.mk L), .slice sa ls sc, .slice s2 n2 x2] 25 (0, 0)) := by rw [hW1]; exact set_block r0
  have rB : W1.heap[w.heap.size + 1]? = some (.cells #[.slice sa ls sc, .slice ta lt tc] 69 (0, 0)) := by rw [hW1, Below.heap_setCell _ _ _ _ (by show w.heap.size + 1 ≠ w.heap.size; omega)]; exact r1
  have rC : ZPl W1 (w.heap.size + 1 + 1) := by show _ = _; rw [hW1, Below.heap_setCell _ _ _ _ (by show w.heap.size + 1 + 1 ≠ w.heap.size; omega)]; exact z0
  have B1 : Below w.heap.size w W1 := by rw [hW1]; exact below_put b0 (Nat.le_refl _) _
  obtain ⟨W2, hW2⟩ : ∃ W2, W2 = W1.setCell ⟨w.heap.size, 4, none⟩ (.slice ta lt tc) := ⟨_, rfl⟩
  have rD : W2.heap[w.heap.size]? = some (.cells #[.int .i64 i, .int .i64 l, .string (Let.mk L), .slice sa ls sc, .slice ta lt tc] 25 (0, 0)) := by rw [hW2]; exact set_block rA
  have rE : ZPl W2 (w.heap.size + 1 + 1) := by show _ = _; rw [hW2, Below.heap_setCell _ _ _ _ (by show w.heap.size + 1 + 1 ≠ w.heap.size; omega)]; exact rC
  have B2 : Below w.heap.size w W2 := by rw [hW2]; exact below_put B1 (Nat.le_refl _) _
  have FIN := Lib.hid (give_pl (w := w) (i := i) (l := l) (L := L) (show w.heap.size ≤ w.heap.size + 1 + 1 by omega) rE (hS.below B2 (Nat.le_refl _)) (hT.below B2 (Nat.le_refl _)) hp B2)
  obtain ⟨y0, y1, y2, y3, y4⟩ := set5_cells (a0 := .int .i64 i) (a1 := .int .i64 l) (a2 := .string (Let.mk L)) (a3 := .slice sa ls sc) (a4 := .slice ta lt tc) rE
  have HA := Lib.hid rA
  have HB := Lib.hid rB
  have HD := Lib.hid rD
  have HE := Lib.hid rE
  have HW1 := Lib.hid hW1
  have HW2 := Lib.hid hW2
  clear hS hT hp b0 r0 r1 z0 l0 hW0 hW1 hW2 rA rB rC rD rE B1 B2
  generalize Let.mk L = sl at *
  go_enter Tryd.func49, Tryd.ntmps49
  go_upto_region 1 with fail
  rw [← HW0.out]
  go_upto_region 2 with fail
  rw [← HW1.out]
  clear c0 c1 c2 c3 c4 f0 f1 f2 f3 f4 e0 e1
  obtain ⟨c0, c1, c2, c3, c4⟩ := five_cells HA.out
  obtain ⟨f0, f1, f2, f3, f4⟩ := five_free HA.out
  obtain ⟨e0, e1, _, _⟩ := two_cells HB.out
  go_upto_region 3 with fail
  rw [← HW2.out]
  clear c0 c1 c2 c3 c4 f0 f1 f2 f3 f4 e0 e1
  obtain ⟨c0, c1, c2, c3, c4⟩ := five_cells HD.out
  obtain ⟨k0, k1, k2, k3, k4⟩ := five_cells HE.out
  obtain ⟨f0, f1, f2, f3, f4⟩ := five_free HE.out
  go_wp2_with fail
  exact bodyPost_ret (v := .agg #[.int .i64 i, .int .i64 l, .string sl, .slice sa ls sc, .slice ta lt tc]) (by simp only [set5] at y0 y1 y2 y3 y4; simp [results, Tryd.results49, go_sem, y0, y1, y2, y3, y4]) rfl ⟨_, rfl, FIN.out.1, FIN.out.2⟩

def GiveInsP (w : World) (ok : Bool) (i l : Int) (L : Bytes) (S : List Sp) (T : List St) (e : Ending) (w' : World) : Prop := ∃ v, e = .returned (.tuple #[v, .bool ok]) ∧ Pl w' v i l L S T ∧ Below w.heap.size w w'

set_option maxHeartbeats 24000000 in
theorem insert5_no {v : Value} {i l : Int} {L M : Bytes} {S : List Sp} {T : List St} (at0 mk quota : Int) (w : World) (h : Pl w v i l L S T) (hp : ∀ s ∈ T, 0 < s.m) (b1 : L.length ≤ 10000) (b2 : M.length ≤ 10000) (hf : fitB L.length M.length quota = false) :
    Calls Tryd.prog 19 #[v, .int .i64 at0, .string (Let.mk M), .int .i64 mk, .int .i64 quota] w (GiveInsP w false i l L S T) := by
  obtain ⟨sa, sc, ta, tc, rfl, hS, hT⟩ := h.open_
  obtain ⟨ls, hls⟩ : ∃ ls, ls = S.length := ⟨_, rfl⟩
  obtain ⟨lt, hlt⟩ : ∃ lt, lt = T.length := ⟨_, rfl⟩
  obtain ⟨W0, hW0⟩ : ∃ W0, W0 = (w.alloc (.cells #[.int .i64 i, .int .i64 l, .string (Let.mk L), .slice sa ls sc, .slice ta lt tc] 25)).alloc (.cells #[.int .i64 0, .int .i64 0, .string (ByteArray.mk #[]), .slice none 0 0, .slice none 0 0] 25) := ⟨_, rfl⟩
  obtain ⟨b0, r0, z0, l0⟩ := box2 w #[.int .i64 i, .int .i64 l, .string (Let.mk L), .slice sa ls sc, .slice ta lt tc] #[.int .i64 0, .int .i64 0, .string (ByteArray.mk #[]), .slice none 0 0, .slice none 0 0] 25 25
  rw [← hW0] at b0 r0 z0 l0
  have HW0 := Lib.hid hW0
  have z1 : IntKind.i64.wrap (((Let.mk L).size : Int) + ((Let.mk M).size : Int)) = ((Let.mk L).size : Int) + ((Let.mk M).size : Int) := IntWalk.i64_in _ (by rw [Let.mk_size, Let.mk_size]; omega)
  have HZ0 : ZPl W0 (w.heap.size + 1) := z0
  have g1 : decide (quota < ((Let.mk L).size : Int) + ((Let.mk M).size : Int)) = true := by
    refine decide_eq_true ?_
    have := of_decide_eq_false hf
    rw [Let.mk_size, Let.mk_size]
    omega
  have g2 : quota < ((Let.mk L).size : Int) + ((Let.mk M).size : Int) := of_decide_eq_true g1
  have FIN := Lib.hid (give_pl (w := w) (i := i) (l := l) (L := L) (Nat.le_add_right _ 1) HZ0 (hS.below b0 (Nat.le_refl _)) (hT.below b0 (Nat.le_refl _)) hp b0)
  rw [← hls, ← hlt] at FIN ⊢
  obtain ⟨y0, y1, y2, y3, y4⟩ := set5_cells (a0 := .int .i64 i) (a1 := .int .i64 l) (a2 := .string (Let.mk L)) (a3 := .slice sa ls sc) (a4 := .slice ta lt tc) HZ0
  obtain ⟨c0, c1, c2, c3, c4⟩ := five_cells r0
  obtain ⟨k0, k1, k2, k3, k4⟩ := five_cells z0
  obtain ⟨f0, f1, f2, f3, f4⟩ := five_free z0
  clear h hS hT hp b0 r0 z0 l0 hW0 b1 b2 hf HZ0 hls hlt
  generalize Let.mk L = sl at *
  generalize Let.mk M = sm at *
  go_enter Tryd.func19, Tryd.ntmps19
  go_upto_region 1 with fail
  rw [← HW0.out]
  go_wp2_with fail
  exact bodyPost_ret (v := .tuple #[.agg #[.int .i64 i, .int .i64 l, .string sl, .slice sa ls sc, .slice ta lt tc], .bool false]) (by simp only [set5] at y0 y1 y2 y3 y4; simp [results, Tryd.results19, go_sem, y0, y1, y2, y3, y4]) rfl ⟨_, rfl, FIN.out.1, FIN.out.2⟩

set_option maxHeartbeats 24000000 in
theorem insert5_yes {v : Value} {i l : Int} {L M : Bytes} {S : List Sp} {T : List St} (p : Nat) (at0 mk quota : Int) (w : World) (h : Pl w v i l L S T) (hRS : RS 0 0 (Let.cnt L) S) (hRT : RT (Let.cnt L) T) (hpl : placeI (Let.cnt L) at0 = p) (a1 : -9223372036854775808 ≤ at0) (a2 : at0 ≤ 9223372036854775807) (hmk : i64 mk) (b1 : L.length ≤ 3000) (b2 : M.length ≤ 3000) (hlt3 : T.length ≤ 3000) (hf : fitB L.length M.length quota = true) :
    Calls Tryd.prog 19 #[v, .int .i64 at0, .string (Let.mk M), .int .i64 mk, .int .i64 quota] w (GiveInsP w true i l (Let.put L p M) (pPut S p (Let.cnt M) mk) (pPutT T p (Let.cnt M))) := by
  obtain ⟨sa, sc, ta, tc, rfl, hS, hT⟩ := h.open_
  have hpc : p ≤ Let.cnt L := by unfold placeI at hpl; omega
  have hcl := Let.cnt_len L
  have hcm := Let.cnt_len M
  have hls2 := RS_len hRS (by omega)
  have CL : Hid (∀ w', Calls Tryd.prog 30 #[.string (Let.mk L)] w' fun e w'' => e = .returned (.int .i64 (Let.cnt L)) ∧ Below w'.heap.size w' w'') := fun w' => count1_any L w' (by omega)
  have CM : Hid (∀ w', Calls Tryd.prog 30 #[.string (Let.mk M)] w' fun e w'' => e = .returned (.int .i64 (Let.cnt M)) ∧ Below w'.heap.size w' w'') := fun w' => count1_any M w' (by omega)
  have CK : Hid (∀ w', Below w.heap.size w w' → Calls Tryd.prog 38 #[.agg #[.int .i64 i, .int .i64 l, .string (Let.mk L), .slice sa S.length sc, .slice ta T.length tc]] w' fun e w'' => e = .returned (.agg #[.slice sa S.length sc, .slice ta T.length tc]) ∧ Below w'.heap.size w' w'') := fun w' hb => marks5_any w' (hS.below hb (Nat.le_refl _)) (hT.below hb (Nat.le_refl _))
  have CP : Hid (∀ w', Below w.heap.size w w' → Calls Tryd.prog 50 #[.agg #[.slice sa S.length sc, .slice ta T.length tc], .int .i64 (Let.cnt L), .int .i64 p, .int .i64 (Let.cnt M), .int .i64 mk] w' (GivesM w' (pPut S p (Let.cnt M) mk) (pPutT T p (Let.cnt M)))) := fun w' hb => by
    have := rput_any (Let.cnt L) p (Let.cnt M) mk w' (hS.below hb (Nat.le_refl _)) (hT.below hb (Nat.le_refl _)) (by omega) hpc (by omega) hmk hlt3 (RS_at hRS) (RT_at hRT)
    rw [put_doc hRS hpc, ← pPutT_doc hRT.1 p (Let.cnt M) (by omega)] at this
    exact this
  have CT : Hid (∀ w', Calls Tryd.prog 51 #[.string (Let.mk L), .int .i64 p, .string (Let.mk M)] w' fun e w'' => e = .returned (.string (Let.mk (Let.put L p M))) ∧ Below w'.heap.size w' w'') := fun w' => rput1_any L M p w' (by omega) (by omega) (by omega)
  have POS : Hid (∀ s ∈ pPutT T p (Let.cnt M), 0 < s.m) := RT_pos (pPutT_right hRT (p := p) (k := Let.cnt M) (by omega) (by omega))
  have HPL : Hid (min (max at0 0) (Let.cnt L : Int) = p) := hpl
  obtain ⟨ls, hls⟩ : ∃ ls, ls = S.length := ⟨_, rfl⟩
  obtain ⟨lt, hlt⟩ : ∃ lt, lt = T.length := ⟨_, rfl⟩
  obtain ⟨W0, hW0⟩ : ∃ W0, W0 = (w.alloc (.cells #[.int .i64 i, .int .i64 l, .string (Let.mk L), .slice sa ls sc, .slice ta lt tc] 25)).alloc (.cells #[.int .i64 0, .int .i64 0, .string (ByteArray.mk #[]), .slice none 0 0, .slice none 0 0] 25) := ⟨_, rfl⟩
  obtain ⟨b0, r0, z0, l0⟩ := box2 w #[.int .i64 i, .int .i64 l, .string (Let.mk L), .slice sa ls sc, .slice ta lt tc] #[.int .i64 0, .int .i64 0, .string (ByteArray.mk #[]), .slice none 0 0, .slice none 0 0] 25 25
  rw [← hW0] at b0 r0 z0 l0
  have HW0 := Lib.hid hW0
  have z1 : IntKind.i64.wrap (((Let.mk L).size : Int) + ((Let.mk M).size : Int)) = ((Let.mk L).size : Int) + ((Let.mk M).size : Int) := IntWalk.i64_in _ (by rw [Let.mk_size, Let.mk_size]; omega)
  have g1 : decide (quota < ((Let.mk L).size : Int) + ((Let.mk M).size : Int)) = false := by
    refine decide_eq_false ?_
    have := of_decide_eq_true hf
    rw [Let.mk_size, Let.mk_size]
    omega
  have g2 : ¬ quota < ((Let.mk L).size : Int) + ((Let.mk M).size : Int) := of_decide_eq_false g1
  simp only [← hls, ← hlt] at CK CP ⊢
  have CW : Hid (∀ w' (x1 x2 : Option Addr) (n1 n2 d1 d2 : Nat), Spans w' (.slice x1 n1 d1) (pPut S p (Let.cnt M) mk) → Sites w' (.slice x2 n2 d2) (pPutT T p (Let.cnt M)) → Calls Tryd.prog 49 #[.agg #[.int .i64 i, .int .i64 l, .string (Let.mk L), .slice sa ls sc, .slice ta lt tc], .agg #[.slice x1 n1 d1, .slice x2 n2 d2]] w' (GivePl w' i l L (pPut S p (Let.cnt M) mk) (pPutT T p (Let.cnt M)))) := fun w' x1 x2 n1 n2 d1 d2 h1 h2 => with5_any w' h1 h2 POS.out
  generalize pPut S p (Let.cnt M) mk = S1 at *
  generalize pPutT T p (Let.cnt M) = T1 at *
  generalize Let.put L p M = L1 at *
  have BX : Hid (∀ w', Kp (fun _ => False) W0 w' → Kp (fun _ => False) W0 w' ∧ w'.cell? ⟨w.heap.size, 0, none⟩ = some (.int .i64 i) ∧ w'.cell? ⟨w.heap.size, 1, none⟩ = some (.int .i64 l) ∧ w'.cell? ⟨w.heap.size, 2, none⟩ = some (.string (Let.mk L)) ∧ w'.cell? ⟨w.heap.size, 3, none⟩ = some (.slice sa ls sc) ∧ w'.cell? ⟨w.heap.size, 4, none⟩ = some (.slice ta lt tc)) := fun w' hk => ⟨hk, five_cells (hk.row r0 (fun h => h))⟩
  have KB : Hid (∀ w', Kp (fun _ => False) W0 w' → Below w.heap.size w w') := fun w' hk => hk.below b0 (fun k _ h => h) (by omega)
  have KZ : Hid (∀ w', Kp (fun _ => False) W0 w' → ZPl w' (w.heap.size + 1)) := fun w' hk => hk.row z0 (fun h => h)
  have KS : Hid (∀ w', Kp (fun _ => False) W0 w' → W0.heap.size ≤ w'.heap.size ∧ w.heap.size + 1 < w'.heap.size) := fun w' hk => ⟨hk.b0.size, by have := hk.b0.size; omega⟩
  have KR := Lib.hid (Kp.refl (fun _ => False) W0)
  obtain ⟨mk1, mk2⟩ := hmk
  obtain ⟨_, c0, c1, c2, c3, c4⟩ := BX.out W0 KR.out
  have hcc : Let.cnt L ≤ 3000 := by omega
  have hkk : Let.cnt M ≤ 3000 := by omega
  generalize Let.cnt L = cl at *
  generalize Let.cnt M = cm at *
  clear h hS hT b0 r0 z0 l0 hW0 b1 b2 hf hls hlt hRS hRT hpl hls2 hcl hcm hlt3
  go_enter Tryd.func19, Tryd.ntmps19
  go_upto_region 1 with fail
  rw [← HW0.out]
  go_wp2_with fail
  refine (CL.out _).mono ?_
  rintro e w1 ⟨rfl, b1⟩
  have k1 := KR.out.call b1
  clear c0 c1 c2 c3 c4 b1 CL
  obtain ⟨_, c0, c1, c2, c3, c4⟩ := BX.out w1 k1
  go_upto_region 5 with fail
  rw [HPL.out]
  go_cut [13] from 30 to 39 (fun x wx => ∃ (NB : Nat) (a3 : Option Addr) (d3 : Nat) (a4 : Option Addr) (d4 : Nat), x = .pointer (some ⟨NB, 0, none⟩) ∧ Hid (Filled W0 wx NB i l L S1 T1 a3 d3 a4 d4))
  case first =>
    go_region_held3 (fun w' => Kp (fun _ => False) W0 w' ∧ w'.cell? ⟨w.heap.size, 0, none⟩ = some (.int .i64 i) ∧ w'.cell? ⟨w.heap.size, 1, none⟩ = some (.int .i64 l) ∧ w'.cell? ⟨w.heap.size, 2, none⟩ = some (.string (Let.mk L)) ∧ w'.cell? ⟨w.heap.size, 3, none⟩ = some (.slice sa ls sc) ∧ w'.cell? ⟨w.heap.size, 4, none⟩ = some (.slice ta lt tc))
      ((refine BX.out _ ?_; focus ((repeat first | assumption | exact KR.out | apply Kp.drew | apply Kp.drews | apply Kp.alloc | (refine Kp.putNew ?_ ?_ ; focus (assumption))); done)))
      (first
        | (go_at_call 38; (with_reducible refine (CK.out _ (KB.out _ ?_)).mono ?_); (focus ((repeat first | assumption | exact KR.out | apply Kp.drew | apply Kp.drews | apply Kp.alloc | (refine Kp.putNew ?_ ?_ ; focus (assumption))); done)); rintro e w2 ⟨rfl, b2⟩; have k2 := fun h => Kp.call (R := fun _ => False) (W := W0) h b2; replace k2 := k2 (by (repeat first | assumption | exact KR.out | apply Kp.drew | apply Kp.drews | apply Kp.alloc | (refine Kp.putNew ?_ ?_ ; focus (assumption)))); first | (have zN := ZN.below zN b2) | (have zN := fun hk => zn_new (W0 := W0) hk b2; replace zN := zN (by (repeat first | assumption | exact KR.out | apply Kp.drew | apply Kp.drews | apply Kp.alloc | (refine Kp.putNew ?_ ?_ ; focus (assumption)))); (try simp only [World.drew] at zN)) | (have zN := fun hk => zn_newd (W0 := W0) hk b2; replace zN := zN (by (repeat first | assumption | exact KR.out | apply Kp.drew | apply Kp.drews | apply Kp.alloc | (refine Kp.putNew ?_ ?_ ; focus (assumption))))) | skip)
        | (go_at_call 30; (with_reducible refine (CM.out _).mono ?_); rintro e w3 ⟨rfl, b3⟩; have k3 := fun h => Kp.call (R := fun _ => False) (W := W0) h b3; replace k3 := k3 (by (repeat first | assumption | exact KR.out | apply Kp.drew | apply Kp.drews | apply Kp.alloc | (refine Kp.putNew ?_ ?_ ; focus (assumption)))); first | (have zN := ZN.below zN b3) | (have zN := fun hk => zn_new (W0 := W0) hk b3; replace zN := zN (by (repeat first | assumption | exact KR.out | apply Kp.drew | apply Kp.drews | apply Kp.alloc | (refine Kp.putNew ?_ ?_ ; focus (assumption)))); (try simp only [World.drew] at zN)) | (have zN := fun hk => zn_newd (W0 := W0) hk b3; replace zN := zN (by (repeat first | assumption | exact KR.out | apply Kp.drew | apply Kp.drews | apply Kp.alloc | (refine Kp.putNew ?_ ?_ ; focus (assumption))))) | skip)
        | (go_at_call 50; (with_reducible refine (CP.out _ (KB.out _ ?_)).mono ?_); (focus ((repeat first | assumption | exact KR.out | apply Kp.drew | apply Kp.drews | apply Kp.alloc | (refine Kp.putNew ?_ ?_ ; focus (assumption))); done)); rintro e w4 ⟨u1, u2, rfl, g1, g2, b4⟩; obtain ⟨a1, d1, rfl⟩ := g1.is_slice; obtain ⟨a2, d2, rfl⟩ := g2.is_slice; have k4 := fun h => Kp.call (R := fun _ => False) (W := W0) h b4; replace k4 := k4 (by (repeat first | assumption | exact KR.out | apply Kp.drew | apply Kp.drews | apply Kp.alloc | (refine Kp.putNew ?_ ?_ ; focus (assumption)))); first | (have zN := ZN.below zN b4) | (have zN := fun hk => zn_new (W0 := W0) hk b4; replace zN := zN (by (repeat first | assumption | exact KR.out | apply Kp.drew | apply Kp.drews | apply Kp.alloc | (refine Kp.putNew ?_ ?_ ; focus (assumption)))); (try simp only [World.drew] at zN)) | (have zN := fun hk => zn_newd (W0 := W0) hk b4; replace zN := zN (by (repeat first | assumption | exact KR.out | apply Kp.drew | apply Kp.drews | apply Kp.alloc | (refine Kp.putNew ?_ ?_ ; focus (assumption))))) | skip)
        | (go_at_call 49; (with_reducible refine (CW.out _ _ _ _ _ _ _ ?_ ?_).mono ?_); (focus (first | exact g1 | exact Fl.below g1 ((Below.refl _ _).alloc (Nat.le_refl _) _) (Nat.le_refl _))); (focus (first | exact g2 | exact Fl.below g2 ((Below.refl _ _).alloc (Nat.le_refl _) _) (Nat.le_refl _))); rintro e w5 ⟨v5, rfl, o5, b5⟩; obtain ⟨a3, d3, a4, d4, rfl, g3, g4⟩ := o5.open_; have k5 := fun h => Kp.call (R := fun _ => False) (W := W0) h b5; replace k5 := k5 (by (repeat first | assumption | exact KR.out | apply Kp.drew | apply Kp.drews | apply Kp.alloc | (refine Kp.putNew ?_ ?_ ; focus (assumption)))); first | (have zN := ZN.below zN b5; have FN := fin_row (i := i) (l := l) (L := L) zN g3 g4 POS.out k5; obtain ⟨x0, x1, x2, x3, x4⟩ := five_cells zN.z; obtain ⟨f0, f1, f2, f3, f4⟩ := five_free zN.z; have s6 := zN.s) | (have zN := fun hk => zn_new (W0 := W0) hk b5; replace zN := zN (by (repeat first | assumption | exact KR.out | apply Kp.drew | apply Kp.drews | apply Kp.alloc | (refine Kp.putNew ?_ ?_ ; focus (assumption)))); (try simp only [World.drew] at zN); have FN := fin_row (i := i) (l := l) (L := L) zN g3 g4 POS.out k5; obtain ⟨x0, x1, x2, x3, x4⟩ := five_cells zN.z; obtain ⟨f0, f1, f2, f3, f4⟩ := five_free zN.z; have s6 := zN.s) | (have FN := fin_alloc (i := i) (l := l) (L := L) g3 g4 k5; have zN := zn_alloc k5; obtain ⟨x0, x1, x2, x3, x4⟩ := five_cells zN.z; obtain ⟨f0, f1, f2, f3, f4⟩ := five_free zN.z; have s6 := zN.s)))
    all_goals go_wp2_with fail
    all_goals go_meet
    all_goals exact ⟨_, _, _, _, _, rfl, FN⟩
  case rest =>
    obtain ⟨NB, a3, d3, a4, d4, rfl, HF⟩ := hcut
    obtain ⟨R6, G3, G4, K6, S4⟩ := HF.out
    replace R6 := Lib.hid R6
    replace G3 := Lib.hid G3
    replace G4 := Lib.hid G4
    replace K6 := Lib.hid K6
    replace S4 := Lib.hid S4
    obtain ⟨n1, hn1⟩ : ∃ n1, n1 = S1.length := ⟨_, rfl⟩
    obtain ⟨n2, hn2⟩ : ∃ n2, n2 = T1.length := ⟨_, rfl⟩
    simp only [← hn1, ← hn2] at R6 G3 G4
    clear HF c0 c1 c2 c3 c4 hn1 hn2 k1
    go_upto_region 6 with fail
    obtain ⟨_, c0, c1, c2, c3, c4⟩ := BX.out wc K6.out
    obtain ⟨x0, x1, x2, x3, x4⟩ := five_cells R6.out
    go_wp2_with fail
    refine (CT.out _).mono ?_
    rintro e w7 ⟨rfl, b7⟩
    have R7 : Hid (w7.heap[NB]? = some (.cells #[.int .i64 i, .int .i64 l, .string (Let.mk L), .slice a3 n1 d3, .slice a4 n2 d4] 25 (0, 0))) := (b7.block _ (row_lt R6.out)).trans R6.out
    have K7 := Lib.hid (K6.out.call b7)
    have G5 : Hid (Spans w7 (.slice a3 n1 d3) S1) := Fl.below G3.out b7 (Nat.le_refl _)
    have G6 : Hid (Sites w7 (.slice a4 n2 d4) T1) := Fl.below G4.out b7 (Nat.le_refl _)
    clear c0 c1 c2 c3 c4 x0 x1 x2 x3 x4 b7 CT R6 K6 G3 G4
    obtain ⟨x0, x1, x2, x3, x4⟩ := five_cells R7.out
    obtain ⟨f0, f1, f2, f3, f4⟩ := five_free R7.out
    obtain ⟨W8, hW8⟩ : ∃ W8, W8 = w7.setCell ⟨NB, 2, none⟩ (.string (Let.mk L1)) := ⟨_, rfl⟩
    have R8 : Hid (W8.heap[NB]? = some (.cells #[.int .i64 i, .int .i64 l, .string (Let.mk L1), .slice a3 n1 d3, .slice a4 n2 d4] 25 (0, 0))) := by show _ = _; rw [hW8]; exact set_block R7.out
    have K8 : Hid (Kp (fun _ => False) W0 W8) := by show Kp _ _ _; rw [hW8]; exact Kp.putNew S4.out K7.out
    have G7 : Hid (Spans W8 (.slice a3 n1 d3) S1) := by show Spans _ _ _; rw [hW8]; exact Fl.put1 G5.out x2 (str_ni _)
    have G8 : Hid (Sites W8 (.slice a4 n2 d4) T1) := by show Sites _ _ _; rw [hW8]; exact Fl.put1 G6.out x2 (str_ni _)
    have HW8 := Lib.hid hW8
    clear hW8
    go_upto_region 7 with fail
    rw [← HW8.out]
    clear x0 x1 x2 x3 x4 f0 f1 f2 f3 f4 R7 K7 G5 G6 HW8
    obtain ⟨x0, x1, x2, x3, x4⟩ := five_cells R8.out
    have ZZ := KZ.out W8 K8.out
    obtain ⟨k0, k1, k2, k3, k4⟩ := five_cells ZZ
    obtain ⟨f0, f1, f2, f3, f4⟩ := five_free ZZ
    have FIN := Lib.hid (give_pl (w := w) (i := i) (l := l) (L := L1) (Nat.le_add_right _ 1) ZZ G7.out G8.out POS.out (KB.out _ K8.out))
    obtain ⟨y0, y1, y2, y3, y4⟩ := set5_cells (a0 := .int .i64 i) (a1 := .int .i64 l) (a2 := .string (Let.mk L1)) (a3 := .slice a3 n1 d3) (a4 := .slice a4 n2 d4) ZZ
    go_wp2_with fail
    exact bodyPost_ret (v := .tuple #[.agg #[.int .i64 i, .int .i64 l, .string (Let.mk L1), .slice a3 n1 d3, .slice a4 n2 d4], .bool true]) (by simp only [set5] at y0 y1 y2 y3 y4; simp [results, Tryd.results19, go_sem, y0, y1, y2, y3, y4]) rfl ⟨_, rfl, FIN.out.1, FIN.out.2⟩
end Go.Proofs.YtengmiolcfgdiaaDoor.Seg
