/- Segments: blocks that a region makes and fills; three results stored at once. -/
import Derived.Test.YtcpdoicbekcpeaaDoorQt
import Derived.Laws.Tables
import Derived.Great.BuildSlice
import Derived.StillTailTactics
set_option linter.unusedVariables false
set_option maxRecDepth 100000
namespace Go.Proofs.YtcpdoicbekcpeaaDoor.Seg
open Go.RowKit Go.Lib Go.Proofs.YtcpdoicbekcpeaaDoor.Rt Go.Proofs.YtcpdoicbekcpeaaDoor.Rig

theorem RSat {S : List Sp} {n : Int} (h : RS 0 0 n S) : ∀ j, j < S.length → 0 ≤ (sp S j).f ∧ (sp S j).f ≤ (sp S j).t ∧ (sp S j).t ≤ n := fun j hj => by
  obtain ⟨_, b, c, d⟩ := h.ord.mem (sp S j) (by rw [sp_get hj]; exact List.getElem_mem hj)
  exact ⟨b, by omega, d⟩
theorem RTat {T : List St} {n : Int} (h : RT n T) : ∀ j, j < T.length → 0 ≤ (st T j).a ∧ (st T j).a ≤ n := fun j hj => by
  obtain ⟨_, b, c⟩ := h.2 (st T j) (mem_st.2 ⟨j, hj, rfl⟩)
  exact ⟨b, c⟩
theorem five_free1 {w : World} {B : Nat} {cs : Array Value} {ty : TypeId} (z : w.heap[B]? = some (.cells cs ty (0, 0))) : w.frozen? ⟨B, 0, none⟩ = false ∧ w.frozen? ⟨B, 1, none⟩ = false ∧ w.frozen? ⟨B, 2, none⟩ = false ∧ w.frozen? ⟨B, 3, none⟩ = false ∧ w.frozen? ⟨B, 4, none⟩ = false := five_free z
/-- A block that an alloc makes, its number N. -/
theorem box_at {w W : World} {cs : Array Value} {ty : TypeId} {N : Nat} (h : W = w.alloc (.cells cs ty)) (hN : w.heap.size = N) : Below w.heap.size w W ∧ W.heap[N]? = some (.cells cs ty (0, 0)) ∧ W.heap.size = N + 1 := by
  subst h
  subst hN
  exact box1 w cs ty
/-- A block of a region's own: made, not yet filled. -/
structure ZR (cs : Array Value) (ty : TypeId) (W w : World) (NB : Nat) : Prop where
  z : w.heap[NB]? = some (.cells cs ty (0, 0))
  s : W.heap.size ≤ NB
theorem ZR.below {cs : Array Value} {ty : TypeId} {W w w' : World} {NB : Nat} (h : ZR cs ty W w NB) (hb : Below w.heap.size w w') : ZR cs ty W w' NB := ⟨(hb.block _ (row_lt h.z)).trans h.z, h.s⟩
theorem zr_new {cs : Array Value} {ty : TypeId} {W w4 w5 : World} (hk : Below W.heap.size W w4) (b5 : Below (w4.alloc (.cells cs ty)).heap.size (w4.alloc (.cells cs ty)) w5) : ZR cs ty W w5 w4.heap.size := ⟨(b5.block _ (by simp)).trans (heap_alloc_new _ _), hk.size⟩
theorem zr_newd {cs : Array Value} {ty : TypeId} {W w4 w5 : World} (hk : Below W.heap.size W w4) (b5 : Below (w4.alloc (.cells cs ty)).drew.heap.size (w4.alloc (.cells cs ty)).drew w5) : ZR cs ty W w5 w4.heap.size := ⟨(b5.block _ (by show w4.heap.size < (w4.alloc _).heap.size; simp)).trans (heap_alloc_new _ _), hk.size⟩
theorem zr_alloc {cs : Array Value} {ty : TypeId} {W w : World} (hk : Below W.heap.size W w) : ZR cs ty W (w.alloc (.cells cs ty)) w.heap.size := ⟨heap_alloc_new _ _, hk.size⟩
/-- A block of segments is filled. -/
def FilS (W w : World) (NB : Nat) (i l : Int) (L : Bytes) (S : List Sp) (T : List St) (q a3 : Option Addr) (n3 d3 : Nat) (a4 : Option Addr) (n4 d4 : Nat) : Prop :=
  w.heap[NB]? = some (.cells #[.int .i64 i, .int .i64 l, .pointer q, .slice a3 n3 d3, .slice a4 n4 d4] 33 (0, 0)) ∧ Sg w (.agg #[.int .i64 i, .int .i64 l, .pointer q, .slice a3 n3 d3, .slice a4 n4 d4]) i l L S T ∧ Below W.heap.size W w ∧ W.heap.size ≤ NB
theorem fil_sg {W w : World} {NB : Nat} {i l : Int} {L : Bytes} {S : List Sp} {T : List St} {q a3 a4 : Option Addr} {n3 d3 n4 d4 : Nat} (z : ZR #[.int .i64 0, .int .i64 0, .pointer none, .slice none 0 0, .slice none 0 0] 33 W w NB) (g2 : IsRope w L (.pointer q)) (g3 : Spans w (.slice a3 n3 d3) S) (g4 : Sites w (.slice a4 n4 d4) T) (hp : ∀ s ∈ T, 0 < s.m) (k : Below W.heap.size W w) :
    FilS W (set5 w NB (.int .i64 i) (.int .i64 l) (.pointer q) (.slice a3 n3 d3) (.slice a4 n4 d4)) NB i l L S T q a3 n3 d3 a4 n4 d4 :=
  ⟨set5_block z.z, (give_sg (w := W) (i := i) (l := l) z.s z.z g2 g3 g4 hp k).1, (give_sg (w := W) (i := i) (l := l) z.s z.z g2 g3 g4 hp k).2, z.s⟩
theorem fil_sga {W w : World} {i l : Int} {L : Bytes} {S : List Sp} {T : List St} {q a3 a4 : Option Addr} {n3 d3 n4 d4 : Nat} (g2 : IsRope w L (.pointer q)) (g3 : Spans w (.slice a3 n3 d3) S) (g4 : Sites w (.slice a4 n4 d4) T) (k : Below W.heap.size W w) :
    FilS W (w.alloc (.cells #[.int .i64 i, .int .i64 l, .pointer q, .slice a3 n3 d3, .slice a4 n4 d4] 33)) w.heap.size i l L S T q a3 n3 d3 a4 n4 d4 :=
  ⟨heap_alloc_new _ _, ⟨_, _, _, rfl, Con.IsRope.below g2 ((Below.refl _ _).alloc (Nat.le_refl _) _) (Nat.le_refl _), Fl.below g3 ((Below.refl _ _).alloc (Nat.le_refl _) _) (Nat.le_refl _), Fl.below g4 ((Below.refl _ _).alloc (Nat.le_refl _) _) (Nat.le_refl _)⟩, k.alloc k.size _, k.size⟩
/-- A block of plain values is filled. -/
def FilP (W w : World) (NB : Nat) (i l : Int) (L : Bytes) (S : List Sp) (T : List St) (a3 : Option Addr) (n3 d3 : Nat) (a4 : Option Addr) (n4 d4 : Nat) : Prop :=
  w.heap[NB]? = some (.cells #[.int .i64 i, .int .i64 l, .string (Let.mk L), .slice a3 n3 d3, .slice a4 n4 d4] 25 (0, 0)) ∧ Pl w (.agg #[.int .i64 i, .int .i64 l, .string (Let.mk L), .slice a3 n3 d3, .slice a4 n4 d4]) i l L S T ∧ Below W.heap.size W w ∧ W.heap.size ≤ NB
theorem fil_pl {W w : World} {NB : Nat} {i l : Int} {L : Bytes} {S : List Sp} {T : List St} {a3 a4 : Option Addr} {n3 d3 n4 d4 : Nat} (z : ZR #[.int .i64 0, .int .i64 0, .string (ByteArray.mk #[]), .slice none 0 0, .slice none 0 0] 25 W w NB) (g3 : Spans w (.slice a3 n3 d3) S) (g4 : Sites w (.slice a4 n4 d4) T) (hp : ∀ s ∈ T, 0 < s.m) (k : Below W.heap.size W w) :
    FilP W (set5 w NB (.int .i64 i) (.int .i64 l) (.string (Let.mk L)) (.slice a3 n3 d3) (.slice a4 n4 d4)) NB i l L S T a3 n3 d3 a4 n4 d4 :=
  ⟨set5_block z.z, (give_pl (w := W) (i := i) (l := l) (L := L) z.s z.z g3 g4 hp k).1, (give_pl (w := W) (i := i) (l := l) (L := L) z.s z.z g3 g4 hp k).2, z.s⟩
theorem fil_pla {W w : World} {i l : Int} {L : Bytes} {S : List Sp} {T : List St} {a3 a4 : Option Addr} {n3 d3 n4 d4 : Nat} (g3 : Spans w (.slice a3 n3 d3) S) (g4 : Sites w (.slice a4 n4 d4) T) (k : Below W.heap.size W w) :
    FilP W (w.alloc (.cells #[.int .i64 i, .int .i64 l, .string (Let.mk L), .slice a3 n3 d3, .slice a4 n4 d4] 25)) w.heap.size i l L S T a3 n3 d3 a4 n4 d4 :=
  ⟨heap_alloc_new _ _, ⟨_, _, rfl, Fl.below g3 ((Below.refl _ _).alloc (Nat.le_refl _) _) (Nat.le_refl _), Fl.below g4 ((Below.refl _ _).alloc (Nat.le_refl _) _) (Nat.le_refl _)⟩, k.alloc k.size _, k.size⟩
theorem pl_parts {w : World} {i l : Int} {L : Bytes} {S : List Sp} {T : List St} {a3 a4 : Option Addr} {n3 d3 n4 d4 : Nat} (h : Pl w (.agg #[.int .i64 i, .int .i64 l, .string (Let.mk L), .slice a3 n3 d3, .slice a4 n4 d4]) i l L S T) : Spans w (.slice a3 n3 d3) S ∧ Sites w (.slice a4 n4 d4) T := by
  obtain ⟨sv, tv, e, h2, h3⟩ := h
  injection e with e
  simp only [Array.mk.injEq, List.cons.injEq, and_true, true_and] at e
  obtain ⟨rfl, rfl⟩ := e
  exact ⟨h2, h3⟩
theorem nil_sg (w : World) {i l : Int} {L : Bytes} {q : Option Addr} (g : IsRope w L (.pointer q)) : Sg w (.agg #[.int .i64 i, .int .i64 l, .pointer q, .slice none 0 0, .slice none 0 0]) i l L [] [] := ⟨_, _, _, rfl, g, Spans.nil_ _, Sites.nil_ _⟩
theorem nil_pl (w : World) (i l : Int) (L : Bytes) : Pl w (.agg #[.int .i64 i, .int .i64 l, .string (Let.mk L), .slice none 0 0, .slice none 0 0]) i l L [] [] := ⟨_, _, rfl, Spans.nil_ _, Sites.nil_ _⟩

/-- Three blocks of five cells are stored, in whatever order. -/
structure Put3 (ty : TypeId) (zs : Array Value) (B1 B2 B3 : Nat) (r1 r2 r3 : Array Value) (W w : World) : Prop where
  h1 : w.heap[B1]? = some (.cells r1 ty (0, 0))
  h2 : w.heap[B2]? = some (.cells r2 ty (0, 0))
  h3 : w.heap[B3]? = some (.cells r3 ty (0, 0))
  k : ∀ Q : World → Prop, Q W → (∀ (w0 : World) (B : Nat) (a0 a1 a2 a3 a4 : Value), B = B1 ∨ B = B2 ∨ B = B3 → w0.heap[B]? = some (.cells zs ty (0, 0)) → Q w0 → Q (set5 w0 B a0 a1 a2 a3 a4)) → Q w
theorem put3_any {ty : TypeId} {x0 x1 x2 x3 x4 a0 a1 a2 a3 a4 b0 b1 b2 b3 b4 c0 c1 c2 c3 c4 : Value} {A B C : Nat} {W : World} (hA : W.heap[A]? = some (.cells #[x0, x1, x2, x3, x4] ty (0, 0))) (hB : W.heap[B]? = some (.cells #[x0, x1, x2, x3, x4] ty (0, 0))) (hC : W.heap[C]? = some (.cells #[x0, x1, x2, x3, x4] ty (0, 0))) (nAB : A ≠ B) (nAC : A ≠ C) (nBC : B ≠ C) :
    let w := set5 (set5 (set5 W A a0 a1 a2 a3 a4) B b0 b1 b2 b3 b4) C c0 c1 c2 c3 c4
    w.heap[A]? = some (.cells #[a0, a1, a2, a3, a4] ty (0, 0)) ∧ w.heap[B]? = some (.cells #[b0, b1, b2, b3, b4] ty (0, 0)) ∧ w.heap[C]? = some (.cells #[c0, c1, c2, c3, c4] ty (0, 0)) ∧
      ∀ Q : World → Prop, Q W → (∀ (w0 : World) (D : Nat) (u0 u1 u2 u3 u4 : Value), D = A ∨ D = B ∨ D = C → w0.heap[D]? = some (.cells #[x0, x1, x2, x3, x4] ty (0, 0)) → Q w0 → Q (set5 w0 D u0 u1 u2 u3 u4)) → Q w := by
  intro w
  have e1 : (set5 W A a0 a1 a2 a3 a4).heap[B]? = some (.cells #[x0, x1, x2, x3, x4] ty (0, 0)) := by rw [set5_other _ _ _ _ _ _ (Ne.symm nAB)]; exact hB
  have e2 : (set5 (set5 W A a0 a1 a2 a3 a4) B b0 b1 b2 b3 b4).heap[C]? = some (.cells #[x0, x1, x2, x3, x4] ty (0, 0)) := by rw [set5_other _ _ _ _ _ _ (Ne.symm nBC), set5_other _ _ _ _ _ _ (Ne.symm nAC)]; exact hC
  refine ⟨?_, ?_, set5_block e2, fun Q h0 hs => hs _ C _ _ _ _ _ (.inr (.inr rfl)) e2 (hs _ B _ _ _ _ _ (.inr (.inl rfl)) e1 (hs _ A _ _ _ _ _ (.inl rfl) hA h0))⟩
  · show (set5 (set5 (set5 W A a0 a1 a2 a3 a4) B b0 b1 b2 b3 b4) C c0 c1 c2 c3 c4).heap[A]? = _
    rw [set5_other _ _ _ _ _ _ nAC, set5_other _ _ _ _ _ _ nAB]
    exact set5_block hA
  · show (set5 (set5 (set5 W A a0 a1 a2 a3 a4) B b0 b1 b2 b3 b4) C c0 c1 c2 c3 c4).heap[B]? = _
    rw [set5_other _ _ _ _ _ _ nBC]
    exact set5_block e1
theorem p123 {ty : TypeId} {x0 x1 x2 x3 x4 a0 a1 a2 a3 a4 b0 b1 b2 b3 b4 c0 c1 c2 c3 c4 : Value} {A B C : Nat} {W : World} (hA : W.heap[A]? = some (.cells #[x0, x1, x2, x3, x4] ty (0, 0))) (hB : W.heap[B]? = some (.cells #[x0, x1, x2, x3, x4] ty (0, 0))) (hC : W.heap[C]? = some (.cells #[x0, x1, x2, x3, x4] ty (0, 0))) (nAB : A ≠ B) (nAC : A ≠ C) (nBC : B ≠ C) : Put3 ty #[x0, x1, x2, x3, x4] A B C #[a0, a1, a2, a3, a4] #[b0, b1, b2, b3, b4] #[c0, c1, c2, c3, c4] W (set5 (set5 (set5 W A a0 a1 a2 a3 a4) B b0 b1 b2 b3 b4) C c0 c1 c2 c3 c4) := by
  obtain ⟨h1, h2, h3, h4⟩ := put3_any (a0 := a0) (a1 := a1) (a2 := a2) (a3 := a3) (a4 := a4) (b0 := b0) (b1 := b1) (b2 := b2) (b3 := b3) (b4 := b4) (c0 := c0) (c1 := c1) (c2 := c2) (c3 := c3) (c4 := c4) hA hB hC nAB nAC nBC
  exact ⟨h1, h2, h3, h4⟩
theorem p132 {ty : TypeId} {x0 x1 x2 x3 x4 a0 a1 a2 a3 a4 b0 b1 b2 b3 b4 c0 c1 c2 c3 c4 : Value} {A B C : Nat} {W : World} (hA : W.heap[A]? = some (.cells #[x0, x1, x2, x3, x4] ty (0, 0))) (hB : W.heap[B]? = some (.cells #[x0, x1, x2, x3, x4] ty (0, 0))) (hC : W.heap[C]? = some (.cells #[x0, x1, x2, x3, x4] ty (0, 0))) (nAB : A ≠ B) (nAC : A ≠ C) (nBC : B ≠ C) : Put3 ty #[x0, x1, x2, x3, x4] A B C #[a0, a1, a2, a3, a4] #[b0, b1, b2, b3, b4] #[c0, c1, c2, c3, c4] W (set5 (set5 (set5 W A a0 a1 a2 a3 a4) C c0 c1 c2 c3 c4) B b0 b1 b2 b3 b4) := by
  obtain ⟨h1, h2, h3, h4⟩ := put3_any (a0 := a0) (a1 := a1) (a2 := a2) (a3 := a3) (a4 := a4) (b0 := c0) (b1 := c1) (b2 := c2) (b3 := c3) (b4 := c4) (c0 := b0) (c1 := b1) (c2 := b2) (c3 := b3) (c4 := b4) hA hC hB nAC nAB nBC.symm
  exact ⟨h1, h3, h2, fun Q q0 hs => h4 Q q0 fun w0 D u0 u1 u2 u3 u4 hd => hs w0 D u0 u1 u2 u3 u4 (by omega)⟩
theorem p213 {ty : TypeId} {x0 x1 x2 x3 x4 a0 a1 a2 a3 a4 b0 b1 b2 b3 b4 c0 c1 c2 c3 c4 : Value} {A B C : Nat} {W : World} (hA : W.heap[A]? = some (.cells #[x0, x1, x2, x3, x4] ty (0, 0))) (hB : W.heap[B]? = some (.cells #[x0, x1, x2, x3, x4] ty (0, 0))) (hC : W.heap[C]? = some (.cells #[x0, x1, x2, x3, x4] ty (0, 0))) (nAB : A ≠ B) (nAC : A ≠ C) (nBC : B ≠ C) : Put3 ty #[x0, x1, x2, x3, x4] A B C #[a0, a1, a2, a3, a4] #[b0, b1, b2, b3, b4] #[c0, c1, c2, c3, c4] W (set5 (set5 (set5 W B b0 b1 b2 b3 b4) A a0 a1 a2 a3 a4) C c0 c1 c2 c3 c4) := by
  obtain ⟨h1, h2, h3, h4⟩ := put3_any (a0 := b0) (a1 := b1) (a2 := b2) (a3 := b3) (a4 := b4) (b0 := a0) (b1 := a1) (b2 := a2) (b3 := a3) (b4 := a4) (c0 := c0) (c1 := c1) (c2 := c2) (c3 := c3) (c4 := c4) hB hA hC nAB.symm nBC nAC
  exact ⟨h2, h1, h3, fun Q q0 hs => h4 Q q0 fun w0 D u0 u1 u2 u3 u4 hd => hs w0 D u0 u1 u2 u3 u4 (by omega)⟩
theorem p231 {ty : TypeId} {x0 x1 x2 x3 x4 a0 a1 a2 a3 a4 b0 b1 b2 b3 b4 c0 c1 c2 c3 c4 : Value} {A B C : Nat} {W : World} (hA : W.heap[A]? = some (.cells #[x0, x1, x2, x3, x4] ty (0, 0))) (hB : W.heap[B]? = some (.cells #[x0, x1, x2, x3, x4] ty (0, 0))) (hC : W.heap[C]? = some (.cells #[x0, x1, x2, x3, x4] ty (0, 0))) (nAB : A ≠ B) (nAC : A ≠ C) (nBC : B ≠ C) : Put3 ty #[x0, x1, x2, x3, x4] A B C #[a0, a1, a2, a3, a4] #[b0, b1, b2, b3, b4] #[c0, c1, c2, c3, c4] W (set5 (set5 (set5 W B b0 b1 b2 b3 b4) C c0 c1 c2 c3 c4) A a0 a1 a2 a3 a4) := by
  obtain ⟨h1, h2, h3, h4⟩ := put3_any (a0 := b0) (a1 := b1) (a2 := b2) (a3 := b3) (a4 := b4) (b0 := c0) (b1 := c1) (b2 := c2) (b3 := c3) (b4 := c4) (c0 := a0) (c1 := a1) (c2 := a2) (c3 := a3) (c4 := a4) hB hC hA nBC nAB.symm nAC.symm
  exact ⟨h3, h1, h2, fun Q q0 hs => h4 Q q0 fun w0 D u0 u1 u2 u3 u4 hd => hs w0 D u0 u1 u2 u3 u4 (by omega)⟩
theorem p312 {ty : TypeId} {x0 x1 x2 x3 x4 a0 a1 a2 a3 a4 b0 b1 b2 b3 b4 c0 c1 c2 c3 c4 : Value} {A B C : Nat} {W : World} (hA : W.heap[A]? = some (.cells #[x0, x1, x2, x3, x4] ty (0, 0))) (hB : W.heap[B]? = some (.cells #[x0, x1, x2, x3, x4] ty (0, 0))) (hC : W.heap[C]? = some (.cells #[x0, x1, x2, x3, x4] ty (0, 0))) (nAB : A ≠ B) (nAC : A ≠ C) (nBC : B ≠ C) : Put3 ty #[x0, x1, x2, x3, x4] A B C #[a0, a1, a2, a3, a4] #[b0, b1, b2, b3, b4] #[c0, c1, c2, c3, c4] W (set5 (set5 (set5 W C c0 c1 c2 c3 c4) A a0 a1 a2 a3 a4) B b0 b1 b2 b3 b4) := by
  obtain ⟨h1, h2, h3, h4⟩ := put3_any (a0 := c0) (a1 := c1) (a2 := c2) (a3 := c3) (a4 := c4) (b0 := a0) (b1 := a1) (b2 := a2) (b3 := a3) (b4 := a4) (c0 := b0) (c1 := b1) (c2 := b2) (c3 := b3) (c4 := b4) hC hA hB nAC.symm nBC.symm nAB
  exact ⟨h2, h3, h1, fun Q q0 hs => h4 Q q0 fun w0 D u0 u1 u2 u3 u4 hd => hs w0 D u0 u1 u2 u3 u4 (by omega)⟩
theorem p321 {ty : TypeId} {x0 x1 x2 x3 x4 a0 a1 a2 a3 a4 b0 b1 b2 b3 b4 c0 c1 c2 c3 c4 : Value} {A B C : Nat} {W : World} (hA : W.heap[A]? = some (.cells #[x0, x1, x2, x3, x4] ty (0, 0))) (hB : W.heap[B]? = some (.cells #[x0, x1, x2, x3, x4] ty (0, 0))) (hC : W.heap[C]? = some (.cells #[x0, x1, x2, x3, x4] ty (0, 0))) (nAB : A ≠ B) (nAC : A ≠ C) (nBC : B ≠ C) : Put3 ty #[x0, x1, x2, x3, x4] A B C #[a0, a1, a2, a3, a4] #[b0, b1, b2, b3, b4] #[c0, c1, c2, c3, c4] W (set5 (set5 (set5 W C c0 c1 c2 c3 c4) B b0 b1 b2 b3 b4) A a0 a1 a2 a3 a4) := by
  obtain ⟨h1, h2, h3, h4⟩ := put3_any (a0 := c0) (a1 := c1) (a2 := c2) (a3 := c3) (a4 := c4) (b0 := b0) (b1 := b1) (b2 := b2) (b3 := b3) (b4 := b4) (c0 := a0) (c1 := a1) (c2 := a2) (c3 := a3) (c4 := a4) hC hB hA nBC.symm nAC.symm nAB.symm
  exact ⟨h3, h2, h1, fun Q q0 hs => h4 Q q0 fun w0 D u0 u1 u2 u3 u4 hd => hs w0 D u0 u1 u2 u3 u4 (by omega)⟩
theorem set5_row {w : World} {B : Nat} {x0 x1 x2 x3 x4 a0 a1 a2 a3 a4 : Value} {ty : TypeId} (r : w.heap[B]? = some (.cells #[x0, x1, x2, x3, x4] ty (0, 0))) : set5 w B a0 a1 a2 a3 a4 = w.setRow B #[a0, a1, a2, a3, a4] := by
  unfold set5
  have h0 := set_block (i := 0) (u := a0) r
  have h1 := set_block (i := 1) (u := a1) h0
  have h2 := set_block (i := 2) (u := a2) h1
  have h3 := set_block (i := 3) (u := a3) h2
  rw [setCell_eq_setRow _ B 4 _ ty (0, 0) a4 h3, setCell_eq_setRow _ B 3 _ ty (0, 0) a3 h2, setRow_setRow, setCell_eq_setRow _ B 2 _ ty (0, 0) a2 h1, setRow_setRow, setCell_eq_setRow _ B 1 _ ty (0, 0) a1 h0, setRow_setRow, setCell_eq_setRow _ B 0 _ ty (0, 0) a0 r, setRow_setRow]
  rfl
theorem put3_rows {ty : TypeId} {x0 x1 x2 x3 x4 a0 a1 a2 a3 a4 b0 b1 b2 b3 b4 c0 c1 c2 c3 c4 : Value} {A B C : Nat} {W : World} (hA : W.heap[A]? = some (.cells #[x0, x1, x2, x3, x4] ty (0, 0))) (hB : W.heap[B]? = some (.cells #[x0, x1, x2, x3, x4] ty (0, 0))) (hC : W.heap[C]? = some (.cells #[x0, x1, x2, x3, x4] ty (0, 0))) (nAB : A ≠ B) (nAC : A ≠ C) (nBC : B ≠ C) : Put3 ty #[x0, x1, x2, x3, x4] A B C #[a0, a1, a2, a3, a4] #[b0, b1, b2, b3, b4] #[c0, c1, c2, c3, c4] W (((W.setRow A #[a0, a1, a2, a3, a4]).setRow B #[b0, b1, b2, b3, b4]).setRow C #[c0, c1, c2, c3, c4]) := by
  have e1 : (W.setRow A #[a0, a1, a2, a3, a4]).heap[B]? = some (.cells #[x0, x1, x2, x3, x4] ty (0, 0)) := by rw [setRow_other _ _ _ _ (Ne.symm nAB)]; exact hB
  have e2 : ((W.setRow A #[a0, a1, a2, a3, a4]).setRow B #[b0, b1, b2, b3, b4]).heap[C]? = some (.cells #[x0, x1, x2, x3, x4] ty (0, 0)) := by rw [setRow_other _ _ _ _ (Ne.symm nBC), setRow_other _ _ _ _ (Ne.symm nAC)]; exact hC
  rw [← set5_row e2, ← set5_row e1, ← set5_row hA]
  exact p123 hA hB hC nAB nAC nBC
theorem Put3.sg {B1 B2 B3 : Nat} {r1 r2 r3 : Array Value} {W w : World} (p : Put3 33 #[.int .i64 0, .int .i64 0, .pointer none, .slice none 0 0, .slice none 0 0] B1 B2 B3 r1 r2 r3 W w) {v : Value} {i l : Int} {L : Bytes} {S : List Sp} {T : List St} (h : Sg W v i l L S T) (hp : ∀ s ∈ T, 0 < s.m) : Sg w v i l L S T := by
  obtain ⟨tp, sv, tv, e, h1, h2, h3⟩ := h
  exact ⟨tp, sv, tv, e, p.k (fun w => IsRope w L tp) h1 (fun w0 B a0 a1 a2 a3 a4 _ z q => rope_kept q z (by decide) (fun b e => set5_other _ _ _ _ _ _ e) (by rw [set5_size]; exact Nat.le_refl _)), p.k (fun w => Spans w sv S) h2 (fun w0 B a0 a1 a2 a3 a4 _ z q => Spans.set5 q z (ptr_ni _) (sl_ni _ _ _) (sl_ni _ _ _)), p.k (fun w => Sites w tv T) h3 (fun w0 B a0 a1 a2 a3 a4 _ z q => Sites.set5 q hp z (ptr_ni _) (sl_ni _ _ _) (sl_ni _ _ _))⟩
theorem Put3.pl {B1 B2 B3 : Nat} {r1 r2 r3 : Array Value} {W w : World} (p : Put3 25 #[.int .i64 0, .int .i64 0, .string (ByteArray.mk #[]), .slice none 0 0, .slice none 0 0] B1 B2 B3 r1 r2 r3 W w) {v : Value} {i l : Int} {L : Bytes} {S : List Sp} {T : List St} (h : Pl W v i l L S T) (hp : ∀ s ∈ T, 0 < s.m) : Pl w v i l L S T := by
  obtain ⟨sv, tv, e, h2, h3⟩ := h
  exact ⟨sv, tv, e, p.k (fun w => Spans w sv S) h2 (fun w0 B a0 a1 a2 a3 a4 _ z q => Spans.set5 q z (str_ni _) (sl_ni _ _ _) (sl_ni _ _ _)), p.k (fun w => Sites w tv T) h3 (fun w0 B a0 a1 a2 a3 a4 _ z q => Sites.set5 q hp z (str_ni _) (sl_ni _ _ _) (sl_ni _ _ _))⟩
theorem Put3.below {ty : TypeId} {zs : Array Value} {B1 B2 B3 base : Nat} {r1 r2 r3 : Array Value} {w0 W w : World} (p : Put3 ty zs B1 B2 B3 r1 r2 r3 W w) (h : Below base w0 W) (e1 : base ≤ B1) (e2 : base ≤ B2) (e3 : base ≤ B3) : Below base w0 w :=
  p.k (fun w => Below base w0 w) h (fun w1 B a0 a1 a2 a3 a4 hB _ q => set5_below _ _ _ _ _ q (by omega))
def R3 (B : Nat) : Nat → Prop := fun k => k = B ∨ k = B + 1 ∨ k = B + 1 + 1
theorem two_only {w : World} {B : Nat} {x y : Value} {ty : TypeId} (z : w.heap[B]? = some (.cells #[x, y] ty (0, 0))) : w.cell? ⟨B, 0, none⟩ = some x ∧ w.cell? ⟨B, 1, none⟩ = some y := ⟨(two_cells z).1, (two_cells z).2.1⟩
theorem Kp.r3a {W w1 : World} {B j : Nat} {u : Value} (h : Kp (R3 B) W w1) : Kp (R3 B) W (w1.setCell ⟨B, j, none⟩ u) := h.put (.inl rfl) u
theorem Kp.r3b {W w1 : World} {B j : Nat} {u : Value} (h : Kp (R3 B) W w1) : Kp (R3 B) W (w1.setCell ⟨B + 1, j, none⟩ u) := h.put (.inr (.inl rfl)) u
theorem Kp.r3c {W w1 : World} {B j : Nat} {u : Value} (h : Kp (R3 B) W w1) : Kp (R3 B) W (w1.setCell ⟨B + 1 + 1, j, none⟩ u) := h.put (.inr (.inr rfl)) u
theorem Kp.r3 {W w1 : World} {B C j : Nat} {u : Value} (h : Kp (R3 B) W w1) (hC : C = B ∨ C = B + 1 ∨ C = B + 1 + 1) : Kp (R3 B) W (w1.setCell ⟨C, j, none⟩ u) := h.put hC u
theorem r3_not {B k : Nat} (h : B + 1 + 1 < k) : ¬ R3 B k := fun e => by unfold R3 at e; omega
theorem bodyPost_gen {P : Program} {fn : Func} {R : Ending → World → Prop} {e : Exit} {a : Act} {w : World} (Q : World → Prop) (h : Q w) (k : ∀ w', Q w' → bodyPost P fn R e a w') : bodyPost P fn R e a w := k w h
end Go.Proofs.YtcpdoicbekcpeaaDoor.Seg
