/- Sheets: rows of segments, rows of plain segments; what they mean. -/
import Derived.Test.YtcpdoicbekcpeaaDoorRk
import Derived.Test.YtcpdoicbekcpeaaDoorQs
set_option linter.unusedVariables false
set_option maxRecDepth 100000
namespace Go.Proofs.YtcpdoicbekcpeaaDoor.She
open Go.RowKit Go.Lib Go.Proofs.YtcpdoicbekcpeaaDoor.Rk Go.Proofs.YtcpdoicbekcpeaaDoor.Rt Go.Proofs.YtcpdoicbekcpeaaDoor.Rig Go.Proofs.YtcpdoicbekcpeaaDoor.Seg

/-- A segment: what it is. -/
structure G5 where
  i : Int
  l : Int
  L : Bytes
  S : List Sp
  T : List St
/-- The five cells of a segment of the program. -/
def SgC (w : World) (x : List Value) (g : G5) : Prop := ∃ tp sv tv, x = [.int .i64 g.i, .int .i64 g.l, tp, sv, tv] ∧ Sg w (.agg #[.int .i64 g.i, .int .i64 g.l, tp, sv, tv]) g.i g.l g.L g.S g.T
theorem SgC.below {w w' : World} {x : List Value} {g : G5} (h : SgC w x g) (hb : Below w.heap.size w w') : SgC w' x g := by
  obtain ⟨tp, sv, tv, e, h⟩ := h
  exact ⟨tp, sv, tv, e, h.below hb (Nat.le_refl _)⟩
/-- .. of a plain one. -/
def PlC (w : World) (x : List Value) (g : G5) : Prop := ∃ sv tv, x = [.int .i64 g.i, .int .i64 g.l, .string (Let.mk g.L), sv, tv] ∧ Pl w (.agg #[.int .i64 g.i, .int .i64 g.l, .string (Let.mk g.L), sv, tv]) g.i g.l g.L g.S g.T
theorem PlC.below {w w' : World} {x : List Value} {g : G5} (h : PlC w x g) (hb : Below w.heap.size w w') : PlC w' x g := by
  obtain ⟨sv, tv, e, h⟩ := h
  exact ⟨sv, tv, e, h.below hb (Nat.le_refl _)⟩
/-- A list of segments; of plain ones. -/
def Sgs (w : World) (s : Value) (G : List G5) : Prop := Rk.Rows 5 SgC w s G
def Pls (w : World) (s : Value) (G : List G5) : Prop := Rk.Rows 5 PlC w s G
theorem Sgs.below {w w' : World} {s : Value} {G : List G5} (h : Sgs w s G) (hb : Below w.heap.size w w') : Sgs w' s G := Rk.Rows.below (R := SgC) (fun h hb => SgC.below h hb) h hb
theorem Pls.below {w w' : World} {s : Value} {G : List G5} (h : Pls w s G) (hb : Below w.heap.size w w') : Pls w' s G := Rk.Rows.below (R := PlC) (fun h hb => PlC.below h hb) h hb
theorem Sgs.get {w : World} {a : Option Addr} {n cap : Nat} {G : List G5} (h : Sgs w (.slice a n cap) G) {j : Nat} (hj : j < G.length) :
    ∃ b off q sa sc ta tc, a = some ⟨b, off, none⟩ ∧ b < w.heap.size ∧ Sg w (.agg #[.int .i64 G[j].i, .int .i64 G[j].l, .pointer q, .slice sa G[j].S.length sc, .slice ta G[j].T.length tc]) G[j].i G[j].l G[j].L G[j].S G[j].T ∧
      w.cell? ⟨b, off + j * 5, none⟩ = some (.int .i64 G[j].i) ∧ w.cell? ⟨b, off + j * 5 + 1, none⟩ = some (.int .i64 G[j].l) ∧ w.cell? ⟨b, off + j * 5 + 2, none⟩ = some (.pointer q) ∧ w.cell? ⟨b, off + j * 5 + 3, none⟩ = some (.slice sa G[j].S.length sc) ∧ w.cell? ⟨b, off + j * 5 + 4, none⟩ = some (.slice ta G[j].T.length tc) := by
  obtain ⟨b, off, x, h1, h2, _, ⟨tp, sv, tv, rfl, hv⟩, hc⟩ := Rk.Rows.get h hj
  obtain ⟨q, sa, sc, ta, tc, e, _, _, _⟩ := hv.open_
  injection e with e
  simp only [Array.mk.injEq, List.cons.injEq, and_true, true_and] at e
  obtain ⟨rfl, rfl, rfl⟩ := e
  exact ⟨b, off, q, sa, sc, ta, tc, h1, h2, hv, hc 0 _ rfl, hc 1 _ rfl, hc 2 _ rfl, hc 3 _ rfl, hc 4 _ rfl⟩
theorem Pls.get {w : World} {a : Option Addr} {n cap : Nat} {G : List G5} (h : Pls w (.slice a n cap) G) {j : Nat} (hj : j < G.length) :
    ∃ b off sa sc ta tc, a = some ⟨b, off, none⟩ ∧ b < w.heap.size ∧ Pl w (.agg #[.int .i64 G[j].i, .int .i64 G[j].l, .string (Let.mk G[j].L), .slice sa G[j].S.length sc, .slice ta G[j].T.length tc]) G[j].i G[j].l G[j].L G[j].S G[j].T ∧
      w.cell? ⟨b, off + j * 5, none⟩ = some (.int .i64 G[j].i) ∧ w.cell? ⟨b, off + j * 5 + 1, none⟩ = some (.int .i64 G[j].l) ∧ w.cell? ⟨b, off + j * 5 + 2, none⟩ = some (.string (Let.mk G[j].L)) ∧ w.cell? ⟨b, off + j * 5 + 3, none⟩ = some (.slice sa G[j].S.length sc) ∧ w.cell? ⟨b, off + j * 5 + 4, none⟩ = some (.slice ta G[j].T.length tc) := by
  obtain ⟨b, off, x, h1, h2, _, ⟨sv, tv, rfl, hv⟩, hc⟩ := Rk.Rows.get h hj
  obtain ⟨sa, sc, ta, tc, e, _, _⟩ := hv.open_
  injection e with e
  simp only [Array.mk.injEq, List.cons.injEq, and_true, true_and] at e
  obtain ⟨rfl, rfl⟩ := e
  exact ⟨b, off, sa, sc, ta, tc, h1, h2, hv, hc 0 _ rfl, hc 1 _ rfl, hc 2 _ rfl, hc 3 _ rfl, hc 4 _ rfl⟩
/-- A sheet's value. -/
def Sh (w : World) (v : Value) (f : Bool) (G : List G5) : Prop := ∃ s, v = .agg #[.bool f, s] ∧ Sgs w s G
theorem Sh.below {w w' : World} {v : Value} {f : Bool} {G : List G5} (h : Sh w v f G) (hb : Below w.heap.size w w') : Sh w' v f G := by
  obtain ⟨s, e, h⟩ := h
  exact ⟨s, e, h.below hb⟩
theorem Sh.open_ {w : World} {v : Value} {f : Bool} {G : List G5} (h : Sh w v f G) : ∃ a c, v = .agg #[.bool f, .slice a G.length c] ∧ Sgs w (.slice a G.length c) G := by
  obtain ⟨s, rfl, h⟩ := h
  obtain ⟨a, c, rfl⟩ := Rk.Rows.is_slice h
  exact ⟨a, c, rfl, h⟩
end Go.Proofs.YtcpdoicbekcpeaaDoor.She
