/- Segments: Twin, Piece, Part. -/
import Derived.Test.YtcpdoicbekcpeaaDoorV
import Derived.Deep.RegionHeld3
import Derived.Deep.DeepCutAuto
import Derived.Deep.CutBlock
set_option linter.unusedVariables false
set_option maxRecDepth 100000
namespace Go.Proofs.YtcpdoicbekcpeaaDoor.Seg
open Go.RowKit Go.Lib Go.Proofs.YtcpdoicbekcpeaaDoor.Rt Go.Proofs.YtcpdoicbekcpeaaDoor.Rig

theorem cut1_is {x : Bytes} {va : Value} (w : World) (a b : Int) (ha : IsRope w x va) (hl : x.length ≤ 10000) (a1 : 0 ≤ a) (a2 : a ≤ 10000) (b1 : 0 ≤ b) (b2 : b ≤ 10000) :
    Calls Tryd.prog 90 #[va, .int .i64 a, .int .i64 b] w (Con.Roped w (Let.cut x a b)) := Con.cut_is w a b ha (by omega) (by omega) (by omega) (by omega) (by omega)

set_option maxHeartbeats 4000000 in
theorem twin_any {v : Value} {i l : Int} {L : Bytes} {S : List Sp} {T : List St} (id : Int) (w : World) (h : Sg w v i l L S T) :
    Calls Tryd.prog 86 #[v, .int .i64 id] w (GiveSg w id l L [] []) := by
  obtain ⟨q, sa, sc, ta, tc, rfl, hR, hS, hT⟩ := h.open_
  generalize S.length = ls at *
  generalize T.length = lt at *
  have BB : Hid (Below w.heap.size w w) := Below.refl _ _
  have GR : Hid (IsRope w L (.pointer q)) := hR
  obtain ⟨W1, hW1⟩ : ∃ W1, W1 = w.alloc (.cells #[.int .i64 i, .int .i64 l, .pointer q, .slice sa ls sc, .slice ta lt tc] 33) := ⟨_, rfl⟩
  obtain ⟨hb1, hr1, hl1⟩ := box_at hW1 (rfl : w.heap.size = w.heap.size)
  replace BB : Hid (Below w.heap.size w W1) := below_more BB.out hb1
  replace GR : Hid (IsRope W1 L (.pointer q)) := GR.out.below hb1 (Nat.le_refl _)
  have RS : Hid (W1.heap[w.heap.size]? = some (.cells #[.int .i64 i, .int .i64 l, .pointer q, .slice sa ls sc, .slice ta lt tc] 33 (0, 0))) := hr1
  have HW1 := Lib.hid hW1
  clear hW1 hb1 hr1
  obtain ⟨W2, hW2⟩ : ∃ W2, W2 = W1.alloc (.cells #[.int .i64 0, .int .i64 0, .pointer none, .slice none 0 0, .slice none 0 0] 33) := ⟨_, rfl⟩
  obtain ⟨hb2, hr2, hl2⟩ := box_at hW2 (hl1 : W1.heap.size = w.heap.size + 1)
  replace RS : Hid (W2.heap[w.heap.size]? = some (.cells #[.int .i64 i, .int .i64 l, .pointer q, .slice sa ls sc, .slice ta lt tc] 33 (0, 0))) := (hb2.block _ (row_lt RS.out)).trans RS.out
  replace BB : Hid (Below w.heap.size w W2) := below_more BB.out hb2
  replace GR : Hid (IsRope W2 L (.pointer q)) := GR.out.below hb2 (Nat.le_refl _)
  have RZ : Hid (W2.heap[w.heap.size + 1]? = some (.cells #[.int .i64 0, .int .i64 0, .pointer none, .slice none 0 0, .slice none 0 0] 33 (0, 0))) := hr2
  have HW2 := Lib.hid hW2
  clear hW2 hb2 hr2
  clear h hR hS hT
  obtain ⟨rsc0, rsc1, rsc2, rsc3, rsc4⟩ := five_cells RS.out
  obtain ⟨rzc0, rzc1, rzc2, rzc3, rzc4⟩ := five_cells RZ.out
  obtain ⟨rzf0, rzf1, rzf2, rzf3, rzf4⟩ := five_free RZ.out
  go_enter Tryd.func86, Tryd.ntmps86
  go_upto_region 1 with fail
  rw [← HW1.out, ← HW2.out]
  clear HW1 HW2
  clear hl1 hl2
  have FIN := Lib.hid (give_sg (w := w) (i := id) (l := l) (Nat.le_add_right _ 1) RZ.out GR.out (Spans.nil_ _) (Sites.nil_ _) (by simp) BB.out)
  obtain ⟨y0, y1, y2, y3, y4⟩ := set5_cells (a0 := .int .i64 id) (a1 := .int .i64 l) (a2 := .pointer q) (a3 := .slice none 0 0) (a4 := .slice none 0 0) RZ.out
  go_wp2_with fail
  exact bodyPost_ret (v := .agg #[.int .i64 id, .int .i64 l, .pointer q, .slice none 0 0, .slice none 0 0]) (by simp only [set5] at y0 y1 y2 y3 y4; simp [results, Tryd.results86, go_sem, y0, y1, y2, y3, y4]) rfl ⟨_, rfl, FIN.out.1, FIN.out.2⟩

/-- Three segments are handed back. -/
def GivePart (w : World) (i l mid lab last : Int) (L1 L2 L3 : Bytes) (S1 : List Sp) (T1 : List St) (S3 : List Sp) (T3 : List St) (e : Ending) (w' : World) : Prop := ∃ v1 v2 v3, e = .returned (.tuple #[v1, v2, v3]) ∧ Sg w' v1 i l L1 S1 T1 ∧ Sg w' v2 mid lab L2 [] [] ∧ Sg w' v3 last l L3 S3 T3 ∧ Below w.heap.size w w'

theorem GivePart.drew {w w' : World} {i l mid lab last : Int} {L1 L2 L3 : Bytes} {S1 : List Sp} {T1 : List St} {S3 : List Sp} {T3 : List St} {e : Ending} (h : GivePart w i l mid lab last L1 L2 L3 S1 T1 S3 T3 e w') : GivePart w i l mid lab last L1 L2 L3 S1 T1 S3 T3 e w'.drew := by
  obtain ⟨v1, v2, v3, e, h1, h2, h3, h4⟩ := h
  exact ⟨v1, v2, v3, e, h1.below (Below.refl _ _).drew (Nat.le_refl _), h2.below (Below.refl _ _).drew (Nat.le_refl _), h3.below (Below.refl _ _).drew (Nat.le_refl _), h4.drew⟩

end Go.Proofs.YtcpdoicbekcpeaaDoor.Seg
