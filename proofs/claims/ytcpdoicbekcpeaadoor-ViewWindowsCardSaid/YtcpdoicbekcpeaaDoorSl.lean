/- Segments, the plain text: with, Insert. -/
import Derived.Test.YtcpdoicbekcpeaaDoorQt
import Derived.Deep.DeepCutAuto
import Derived.Deep.CutBlock
set_option linter.unusedVariables false
set_option maxRecDepth 100000
namespace Go.Proofs.YtcpdoicbekcpeaaDoor.Seg
open Go.RowKit Go.Lib Go.Proofs.YtcpdoicbekcpeaaDoor.Rt Go.Proofs.YtcpdoicbekcpeaaDoor.Rig

theorem Kp.putNew {R : Nat → Prop} {W w1 : World} {B j : Nat} {u : Value} (hB : W.heap.size ≤ B) (h : Kp R W w1) : Kp R W (w1.setCell ⟨B, j, none⟩ u) :=
  ⟨h.b0.setCell (p := ⟨B, j, none⟩) (Nat.zero_le _) u, fun k hk hR => (Below.heap_setCell _ _ _ _ (fun e => by have e' : k = B := e; omega)).trans (h.blk k hk hR)⟩
theorem RS_at {S : List Sp} {n : Int} (h : RS 0 0 n S) : ∀ j, j < S.length → 0 ≤ (sp S j).f ∧ (sp S j).f ≤ (sp S j).t ∧ (sp S j).t ≤ n := fun j hj => by
  obtain ⟨_, b, c, d⟩ := h.ord.mem (sp S j) (by rw [sp_get hj]; exact List.getElem_mem hj)
  exact ⟨b, by omega, d⟩
theorem RT_at {T : List St} {n : Int} (h : RT n T) : ∀ j, j < T.length → 0 ≤ (st T j).a ∧ (st T j).a ≤ n := fun j hj => by
  obtain ⟨_, b, c⟩ := h.2 (st T j) (mem_st.2 ⟨j, hj, rfl⟩)
  exact ⟨b, c⟩
theorem Kp.set5New {R : Nat → Prop} {W w1 : World} {B : Nat} {a0 a1 a2 a3 a4 : Value} (hB : W.heap.size ≤ B) (h : Kp R W w1) : Kp R W (set5 w1 B a0 a1 a2 a3 a4) := Kp.putNew hB (Kp.putNew hB (Kp.putNew hB (Kp.putNew hB (Kp.putNew hB h))))
theorem zpl_new {w4 w5 : World} (b5 : Below (w4.alloc (.cells #[.int .i64 0, .int .i64 0, .string (ByteArray.mk #[]), .slice none 0 0, .slice none 0 0] 25)).heap.size (w4.alloc (.cells #[.int .i64 0, .int .i64 0, .string (ByteArray.mk #[]), .slice none 0 0, .slice none 0 0] 25)) w5) : ZPl w5 w4.heap.size := (b5.block _ (by simp)).trans (heap_alloc_new _ _)
theorem zpl_alloc (w : World) : ZPl (w.alloc (.cells #[.int .i64 0, .int .i64 0, .string (ByteArray.mk #[]), .slice none 0 0, .slice none 0 0] 25)) w.heap.size := heap_alloc_new _ _
/-- A row of the region's own: made, not yet filled. -/
structure ZN (W0 w : World) (NB : Nat) : Prop where
  z : ZPl w NB
  s : W0.heap.size ≤ NB
theorem ZN.below {W0 w w' : World} {NB : Nat} (h : ZN W0 w NB) (hb : Below w.heap.size w w') : ZN W0 w' NB := ⟨h.z.below hb (row_lt h.z), h.s⟩
theorem zn_new {W0 w4 w5 : World} (hk : Kp (fun _ => False) W0 w4) (b5 : Below (w4.alloc (.cells #[.int .i64 0, .int .i64 0, .string (ByteArray.mk #[]), .slice none 0 0, .slice none 0 0] 25)).heap.size (w4.alloc (.cells #[.int .i64 0, .int .i64 0, .string (ByteArray.mk #[]), .slice none 0 0, .slice none 0 0] 25)) w5) : ZN W0 w5 w4.heap.size := ⟨zpl_new b5, hk.b0.size⟩
theorem zn_newd {W0 w4 w5 : World} (hk : Kp (fun _ => False) W0 w4) (b5 : Below (w4.alloc (.cells #[.int .i64 0, .int .i64 0, .string (ByteArray.mk #[]), .slice none 0 0, .slice none 0 0] 25)).drew.heap.size (w4.alloc (.cells #[.int .i64 0, .int .i64 0, .string (ByteArray.mk #[]), .slice none 0 0, .slice none 0 0] 25)).drew w5) : ZN W0 w5 w4.heap.size := ⟨(b5.block _ (by show w4.heap.size < (w4.alloc _).heap.size; simp)).trans (heap_alloc_new _ _), hk.b0.size⟩
theorem zn_alloc {W0 w : World} (hk : Kp (fun _ => False) W0 w) : ZN W0 (w.alloc (.cells #[.int .i64 0, .int .i64 0, .string (ByteArray.mk #[]), .slice none 0 0, .slice none 0 0] 25)) w.heap.size := ⟨zpl_alloc w, hk.b0.size⟩
def Filled (W0 w : World) (NB : Nat) (i l : Int) (L : Bytes) (S : List Sp) (T : List St) (a3 : Option Addr) (d3 : Nat) (a4 : Option Addr) (d4 : Nat) : Prop :=
  w.heap[NB]? = some (.cells #[.int .i64 i, .int .i64 l, .string (Let.mk L), .slice a3 S.length d3, .slice a4 T.length d4] 25 (0, 0)) ∧ Spans w (.slice a3 S.length d3) S ∧ Sites w (.slice a4 T.length d4) T ∧ Kp (fun _ => False) W0 w ∧ W0.heap.size ≤ NB
theorem fin_row {W0 w : World} {NB : Nat} {i l : Int} {L : Bytes} {S : List Sp} {T : List St} {a3 a4 : Option Addr} {d3 d4 : Nat} (z : ZN W0 w NB) (g3 : Spans w (.slice a3 S.length d3) S) (g4 : Sites w (.slice a4 T.length d4) T) (hp : ∀ s ∈ T, 0 < s.m) (k : Kp (fun _ => False) W0 w) :
    Filled W0 (set5 w NB (.int .i64 i) (.int .i64 l) (.string (Let.mk L)) (.slice a3 S.length d3) (.slice a4 T.length d4)) NB i l L S T a3 d3 a4 d4 :=
  ⟨set5_block z.z, Spans.set5 g3 z.z (str_ni _) (sl_ni _ _ _) (sl_ni _ _ _), Sites.set5 g4 hp z.z (str_ni _) (sl_ni _ _ _) (sl_ni _ _ _), Kp.set5New z.s k, z.s⟩
theorem fin_alloc {W0 w : World} {i l : Int} {L : Bytes} {S : List Sp} {T : List St} {a3 a4 : Option Addr} {d3 d4 : Nat} (g3 : Spans w (.slice a3 S.length d3) S) (g4 : Sites w (.slice a4 T.length d4) T) (k : Kp (fun _ => False) W0 w) :
    Filled W0 (w.alloc (.cells #[.int .i64 i, .int .i64 l, .string (Let.mk L), .slice a3 S.length d3, .slice a4 T.length d4] 25)) w.heap.size i l L S T a3 d3 a4 d4 :=
  ⟨heap_alloc_new _ _, Fl.below g3 ((Below.refl _ _).alloc (Nat.le_refl _) _) (Nat.le_refl _), Fl.below g4 ((Below.refl _ _).alloc (Nat.le_refl _) _) (Nat.le_refl _), k.alloc _, k.b0.size⟩

end Go.Proofs.YtcpdoicbekcpeaaDoor.Seg
