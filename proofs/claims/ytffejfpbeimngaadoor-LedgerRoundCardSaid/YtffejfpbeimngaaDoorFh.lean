/- Frame: the walk of FrameCut. -/
import Derived.Test.YtffejfpbeimngaaDoorFg
import Derived.WalkSmall
import Derived.IntWalk
set_option linter.unusedVariables false
set_option linter.unusedSimpArgs false
namespace Go.Proofs.YtffejfpbeimngaaDoor.Frm
open Go.RowKit Go.Lib Go.Proofs.YtffejfpbeimngaaDoor.Bx

/-- A row of ints that is read. -/
def cellsI (xs : List Int) : List (List Value) := xs.map fun x => [Value.int .i64 x]
theorem cellsI_len (xs : List Int) : (cellsI xs).length = xs.length := List.length_map _
def in64 (x : Int) : Prop := -9223372036854775808 ≤ x ∧ x ≤ 9223372036854775807
def IntR (w : World) (v : Value) (xs : List Int) : Prop := Rk.RowK 1 w v (cellsI xs) ∧ ∀ x ∈ xs, in64 x
theorem infoI : (Tryd.prog.info? 3).map (fun i => (i.zero, i.size, i.bytes)) = some (some (.int .i64 0), 1, 8) := by kernel_rfl
theorem cellsI_app (X Y : List Int) : cellsI (X ++ Y) = cellsI X ++ cellsI Y := List.map_append
theorem cellsI_one (X : List Int) : ∀ z ∈ cellsI X, ∀ q ∈ z, q.oneCell' = true := fun z hz q hq => by
  obtain ⟨x, _, rfl⟩ := List.mem_map.1 hz
  simp only [List.mem_singleton] at hq
  subst hq
  rfl
theorem cellsT_one (X : List (List UInt8)) : ∀ z ∈ cellsT X, ∀ q ∈ z, q.oneCell' = true := fun z hz q hq => by
  obtain ⟨x, _, rfl⟩ := List.mem_map.1 hz
  simp only [List.mem_singleton] at hq
  subst hq
  rfl
theorem own_none (e : TypeId) (w : World) : Rk.OwnK e 1 w.heap.size (w.alloc (.cells #[] e)) (.slice (some ⟨w.heap.size, 0, none⟩) 0 0) [] :=
  ⟨fun _ h => by simp at h, rfl, .inr ⟨w.heap.size, 0, #[], rfl, Nat.le_refl _, heap_alloc_new _ _, Nat.le_refl _, Nat.zero_le _, rfl, rfl⟩⟩
def zi (zs : List Int) (i : Nat) : Int := zs.getD i 0
theorem zi_at {zs : List Int} {i : Nat} (h : i < zs.length) : zi zs i = zs[i] := by
  unfold zi
  rw [List.getD_eq_getElem?_getD, List.getElem?_eq_getElem h]
  rfl
theorem row_int {w : World} {a : Option Addr} {n cap : Nat} {zs : List Int} (h : Rk.RowK 1 w (.slice a n cap) (cellsI zs)) {j : Nat} (hj : j < zs.length) : ∃ b off, a = some ⟨b, off, none⟩ ∧ b < w.heap.size ∧ w.cell? ⟨b, off + j, none⟩ = some (.int .i64 (zi zs j)) := by
  obtain ⟨_, a', cap', e, h1, h2, h3⟩ := h
  injection e with e1 e2 e3
  subst e1
  rcases h3 with h3 | ⟨b, off, rfl, hb, hc⟩
  · have : zs.length = 0 := by rw [← cellsI_len, h3]; rfl
    omega
  · have hc' := hc j (by rw [cellsI_len]; exact hj) 0
    unfold cellsI at hc'
    simp only [List.getElem_map, Nat.mul_one, Nat.add_zero] at hc'
    exact ⟨b, off, rfl, hb, by rw [zi_at hj]; exact hc' _ rfl⟩
/-- What is told when C has been taken in, and D is left. -/
def Inv (most : Int) (l C D R : List UInt8) (G : List (List UInt8)) : Prop := C ++ D = l ∧ sp most C = (G, R, true)
theorem inv_start (most : Int) (l : List UInt8) : Inv most l [] l [] [] := ⟨rfl, sp_short (by decide)⟩
theorem Inv.next {most : Int} {l C D R : List UInt8} {G : List (List UInt8)} (h : Inv most l C D R G) (m : Nat) : ((sp most (R ++ D.take m)).2.2 = true → Inv most l (C ++ D.take m) (D.drop m) (sp most (R ++ D.take m)).2.1 (G ++ (sp most (R ++ D.take m)).1)) ∧ ((sp most (R ++ D.take m)).2.2 = false → sp most l = (G ++ (sp most (R ++ D.take m)).1, (sp most (R ++ D.take m)).2.1, false)) := by
  obtain ⟨h1, h2⟩ := h
  have g := sp_app most C.length C (D.take m) (Nat.le_refl _)
  rw [h2] at g
  have g1 := g.1 rfl
  have hl : (C ++ D.take m) ++ D.drop m = l := by rw [List.append_assoc, List.take_append_drop, h1]
  generalize sp most (R ++ D.take m) = t at *
  obtain ⟨t1, t2, t3⟩ := t
  have g2 : sp most (C ++ D.take m) = (G ++ t1, t2, t3) := g1
  refine ⟨fun e => ⟨hl, ?_⟩, fun e => ?_⟩
  · rw [g2]
    have e : t3 = true := e
    rw [e]
  · have g3 := sp_app most (C ++ D.take m).length (C ++ D.take m) (D.drop m) (Nat.le_refl _)
    rw [g2] at g3
    unfold Goes at g3
    rw [hl] at g3
    obtain ⟨g4, g5⟩ := g3.2 e
    rw [g5]
    have g4 : t2 = [] := g4
    rw [g4]
theorem Inv.len {most : Int} {l C D R : List UInt8} {G : List (List UInt8)} (h : Inv most l C D R G) : 3 * G.length + R.length + D.length ≤ l.length := by
  obtain ⟨h1, h2⟩ := h
  have := sp_rest most C.length C (Nat.le_refl _)
  rw [h2] at this
  rw [← h1, List.length_append]
  simp only at this
  omega
theorem Inv.all {most : Int} {l C R : List UInt8} {G : List (List UInt8)} (h : Inv most l C [] R G) : sp most l = (G, R, true) := by
  obtain ⟨h1, h2⟩ := h
  rw [← h1, List.append_nil, h2]
end Go.Proofs.YtffejfpbeimngaaDoor.Frm
