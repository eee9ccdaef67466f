/- Undo: a variable that a region makes and fills with a stack. -/
import Derived.Test.YtoejjicgnhndfaaDoorUw
import Derived.Test.YtoejjicgnhndfaaDoorUv
set_option linter.unusedVariables false
set_option linter.unusedSimpArgs false
set_option maxRecDepth 100000
namespace Go.Proofs.YtoejjicgnhndfaaDoor.Und
open Go.RowKit Go.Lib Go.Proofs.YtoejjicgnhndfaaDoor.Rk Go.Proofs.YtoejjicgnhndfaaDoor.Rig

/-- A variable that the region has made, not yet filled. -/
structure ZQ (W w : World) (NB : Nat) : Prop where
  z : w.heap[NB]? = some (.cells #[.slice none 0 0] 84 (0, 0))
  s : W.heap.size ≤ NB
theorem ZQ.below {W w w' : World} {NB : Nat} (h : ZQ W w NB) (hb : Below w.heap.size w w') : ZQ W w' NB := ⟨ukeep hb (urow_lt h.z) h.z, h.s⟩
theorem ZQ.belowd {W w w' : World} {NB : Nat} (h : ZQ W w NB) (hb : Below w.drew.heap.size w.drew w') : ZQ W w' NB := ⟨ukeep hb (urow_lt h.z) h.z, h.s⟩
theorem zq_new {W w4 w5 : World} (hk : Below W.heap.size W w4) (b5 : Below (w4.alloc (.cells #[.slice none 0 0] 84)).heap.size (w4.alloc (.cells #[.slice none 0 0] 84)) w5) : ZQ W w5 w4.heap.size := ⟨ukeep b5 (by simp) (heap_alloc_new _ _), hk.size⟩
theorem zq_newd {W w4 w5 : World} (hk : Below W.heap.size W w4) (b5 : Below (w4.alloc (.cells #[.slice none 0 0] 84)).drew.heap.size (w4.alloc (.cells #[.slice none 0 0] 84)).drew w5) : ZQ W w5 w4.heap.size := ⟨ukeep b5 (by show w4.heap.size < (w4.alloc _).heap.size; simp) (heap_alloc_new _ _), hk.size⟩
theorem ThV.set {w : World} {v u : Value} {y : U} {B j : Nat} {cs : Array Value} {ty : TypeId} (h : ThV w v y) (r : w.heap[B]? = some (.cells cs ty (0, 0))) (hty : ty ≠ 142) : ThV (w.setCell ⟨B, j, none⟩ u) v y :=
  h.grown (ugrown_set w B j u) (fun b hb e => by
    injection e with e
    subst e
    obtain ⟨cs', hc⟩ := hb
    rw [r] at hc
    injection hc with hc
    injection hc with _ q
    exact hty q)
theorem OutV.set {w : World} {o u : Value} {O : Option U} {B j : Nat} {cs : Array Value} {ty : TypeId} (h : OutV w o O) (r : w.heap[B]? = some (.cells cs ty (0, 0))) (hty : ty ≠ 142) : OutV (w.setCell ⟨B, j, none⟩ u) o O := by
  cases O with
  | none => exact h
  | some z => exact ThV.set h r hty
theorem OutV.below {w w' : World} {o : Value} {O : Option U} (h : OutV w o O) (hb : Below w.heap.size w w') : OutV w' o O := by
  cases O with
  | none => exact h
  | some z => exact ThV.below h hb (Nat.le_refl _)
/-- .. filled. -/
def FilQ (W w : World) (NB : Nat) (s o : Value) (A : List U) (O : Option U) : Prop :=
  w.heap[NB]? = some (.cells #[s] 84 (0, 0)) ∧ Stk w s A ∧ OutV w o O ∧ Below W.heap.size W w
theorem FilQ.drew {W w : World} {NB : Nat} {s o : Value} {A : List U} {O : Option U} (h : FilQ W w NB s o A O) : FilQ W w.drew NB s o A O := ⟨h.1, h.2.1.below (Below.refl _ _).drew, h.2.2.1.below (Below.refl _ _).drew, h.2.2.2.drew⟩
theorem fil_set {W w : World} {NB : Nat} {a : Option Addr} {n c : Nat} {o : Value} {A : List U} {O : Option U} (z : ZQ W w NB) (hs : Stk w (.slice a n c) A) (ho : OutV w o O) (k : Below W.heap.size W w) : FilQ W (w.setCell ⟨NB, 0, none⟩ (.slice a n c)) NB (.slice a n c) o A O :=
  ⟨uset_block (i := 0) z.z, hs.set z.z (by decide), ho.set z.z (by decide), k.setCell (p := ⟨NB, 0, none⟩) z.s _⟩
theorem fil_new {W w : World} {a : Option Addr} {n c : Nat} {o : Value} {A : List U} {O : Option U} (hs : Stk w (.slice a n c) A) (ho : OutV w o O) (k : Below W.heap.size W w) : FilQ W (w.alloc (.cells #[.slice a n c] 84)) w.heap.size (.slice a n c) o A O :=
  ⟨heap_alloc_new _ _, hs.below ((Below.refl _ _).alloc (Nat.le_refl _) _), ho.below ((Below.refl _ _).alloc (Nat.le_refl _) _), k.alloc k.size _⟩
end Go.Proofs.YtoejjicgnhndfaaDoor.Und
