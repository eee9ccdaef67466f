/- Segments: SegmentBack's loop: what holds between two rounds. -/
import Derived.Test.YtcpdoicbekcpeaaDoorBl
import Derived.Test.YtcpdoicbekcpeaaDoorDe
import Derived.Test.YtcpdoicbekcpeaaDoorV
set_option linter.unusedVariables false
set_option maxRecDepth 100000
namespace Go.Proofs.YtcpdoicbekcpeaaDoor.Seg
open Go.RowKit Go.Lib Go.Proofs.YtcpdoicbekcpeaaDoor.Rt Go.Proofs.YtcpdoicbekcpeaaDoor.Rig

structure LP (NB : Nat) (W0 : World) (i l dm n0 : Int) (L : Bytes) (j : Nat) (L2 : Bytes) (S2 : List Sp) (T2 : List St) (q a3 : Option Addr) (n3 d3 : Nat) (a4 : Option Addr) (n4 d4 : Nat) (w' : World) : Prop where
  r : w'.heap[NB]? = some (.cells #[.int .i64 i, .int .i64 l, .pointer q, .slice a3 n3 d3, .slice a4 n4 d4] 33 (0, 0))
  o : Sg w' (.agg #[.int .i64 i, .int .i64 l, .pointer q, .slice a3 n3 d3, .slice a4 n4 d4]) i l L2 S2 T2
  bk : BK dm n0 L2 S2 T2
  bl : L2.length ≤ 3000 + 100 * j
  bt : T2.length ≤ 300
  un : j = 0 → unL L2 (ofS S2 dm) = L
  kb : Below W0.heap.size W0 w'
theorem LP.below {NB : Nat} {W0 w w' : World} {i l dm n0 : Int} {L L2 : Bytes} {j : Nat} {S2 : List Sp} {T2 : List St} {q a3 a4 : Option Addr} {n3 d3 n4 d4 : Nat} (h : LP NB W0 i l dm n0 L j L2 S2 T2 q a3 n3 d3 a4 n4 d4 w) (hb : Below w.heap.size w w') : LP NB W0 i l dm n0 L j L2 S2 T2 q a3 n3 d3 a4 n4 d4 w' :=
  ⟨(hb.block _ (row_lt h.r)).trans h.r, h.o.below hb (Nat.le_refl _), h.bk, h.bl, h.bt, h.un, below_more h.kb hb⟩
theorem LP.more {NB : Nat} {W0 w : World} {i l dm n0 : Int} {L L2 : Bytes} {j : Nat} {S2 : List Sp} {T2 : List St} {q a3 a4 : Option Addr} {n3 d3 n4 d4 : Nat} (h : LP NB W0 i l dm n0 L j L2 S2 T2 q a3 n3 d3 a4 n4 d4 w) : LP NB W0 i l dm n0 L (j + 1) L2 S2 T2 q a3 n3 d3 a4 n4 d4 w :=
  ⟨h.r, h.o, h.bk, by have := h.bl; omega, h.bt, fun e => by omega, h.kb⟩
theorem LP.put {NB : Nat} {W0 w5 : World} {i l dm n0 : Int} {L L3 : Bytes} {j : Nat} {S3 : List Sp} {T3 : List St} {x2 x3 x4 : Value} {q5 a7 a8 : Option Addr} {n7 d7 n8 d8 : Nat} (hN : W0.heap.size ≤ NB) (r : w5.heap[NB]? = some (.cells #[.int .i64 i, .int .i64 l, x2, x3, x4] 33 (0, 0))) (m2 : ∀ z, x2 ≠ .int .i64 z) (m3 : ∀ z, x3 ≠ .int .i64 z) (m4 : ∀ z, x4 ≠ .int .i64 z)
    (o : Sg w5 (.agg #[.int .i64 i, .int .i64 l, .pointer q5, .slice a7 n7 d7, .slice a8 n8 d8]) i l L3 S3 T3) (bk : BK dm n0 L3 S3 T3) (bl : L3.length ≤ 3000 + 100 * (j + 1)) (bt : T3.length ≤ 300) (hb : Below W0.heap.size W0 w5) :
    LP NB W0 i l dm n0 L (j + 1) L3 S3 T3 q5 a7 n7 d7 a8 n8 d8 (set5 w5 NB (.int .i64 i) (.int .i64 l) (.pointer q5) (.slice a7 n7 d7) (.slice a8 n8 d8)) := by
  obtain ⟨tp, sv, tv, e, g1, g2, g3⟩ := o
  injection e with e
  simp only [Array.mk.injEq, List.cons.injEq, and_true, true_and] at e
  obtain ⟨rfl, rfl, rfl⟩ := e
  exact ⟨set5_block r, ⟨_, _, _, rfl, rope_kept g1 r (by decide) (fun b e => set5_other _ _ _ _ _ _ e) (by rw [set5_size]; exact Nat.le_refl _), Fl.set5same g2 r m2 m3 m4, Fl.set5same g3 r m2 m3 m4⟩, bk, bl, bt, fun e => by omega, set5_below _ _ _ _ _ hb hN⟩
end Go.Proofs.YtcpdoicbekcpeaaDoor.Seg
