/- Salt: the digest in memory. -/
import Derived.Test.YtffepndeegbdoaaGreatDoorPsp
set_option linter.unusedVariables false
set_option linter.unusedSimpArgs false
set_option maxRecDepth 100000
namespace Go.Proofs.YtffepndeegbdoaaGreatDoor.Slt
open Go.RowKit Go.Lib Go.Proofs.YtffepndeegbdoaaGreatDoor.Bx

def digL (H B : List Nat) (n : Nat) : List Value := (H.map fun x => Value.int .u32 (x : Nat)) ++ ((B.map fun x => Value.int .u8 (x : Nat)) ++ [.int .u64 (n : Nat)])
def digC (H B : List Nat) (n : Nat) : Array Value := (digL H B n).toArray
/-- A digest in block g: eight numbers, a block of 64 bytes, how many bytes came. -/
def Dig (g : Nat) (w : World) (H B : List Nat) (n : Nat) : Prop := H.length = 8 ∧ B.length = 64 ∧ w.heap[g]? = some (.cells (digC H B n) 77 (0, 0))
theorem Dig.lt {g : Nat} {w : World} {H B : List Nat} {n : Nat} (h : Dig g w H B n) : g < w.heap.size := (Array.getElem?_eq_some_iff.1 h.2.2).1
theorem Dig.kept {g : Nat} {w w' : World} {H B : List Nat} {n : Nat} (h : Dig g w H B n) (he : w'.heap[g]? = w.heap[g]?) : Dig g w' H B n := ⟨h.1, h.2.1, he.trans h.2.2⟩
theorem Dig.below {g : Nat} {w w' : World} {H B : List Nat} {n : Nat} (h : Dig g w H B n) (b : Below w.heap.size w w') : Dig g w' H B n := h.kept (b.block _ h.lt)
theorem dig_h {H B : List Nat} {n i : Nat} (h8 : H.length = 8) (hi : i < 8) : (digL H B n)[i]? = some (.int .u32 (H.getD i 0 : Nat)) := by
  unfold digL
  rw [List.getElem?_append_left (by rw [List.length_map]; omega), List.getElem?_map, List.getD_eq_getElem?_getD, List.getElem?_eq_getElem (by omega)]
  rfl
theorem dig_b {H B : List Nat} {n i : Nat} (h8 : H.length = 8) (hb : B.length = 64) (hi : i < 64) : (digL H B n)[8 + i]? = some (.int .u8 (B.getD i 0 : Nat)) := by
  unfold digL
  rw [List.getElem?_append_right (by rw [List.length_map]; omega), List.length_map, h8, show 8 + i - 8 = i by omega, List.getElem?_append_left (by rw [List.length_map]; omega), List.getElem?_map, List.getD_eq_getElem?_getD, List.getElem?_eq_getElem (by omega)]
  rfl
theorem dig_n {H B : List Nat} {n : Nat} (h8 : H.length = 8) (hb : B.length = 64) : (digL H B n)[72]? = some (.int .u64 (n : Nat)) := by
  unfold digL
  rw [List.getElem?_append_right (by rw [List.length_map]; omega), List.length_map, h8, List.getElem?_append_right (by rw [List.length_map]; omega), List.length_map, hb]
  rfl
theorem Dig.cell {g : Nat} {w : World} {H B : List Nat} {n : Nat} (h : Dig g w H B n) (i : Nat) : w.cell? ⟨g, i, none⟩ = (digL H B n)[i]? := by
  rw [cell_of_row _ _ _ _ _ _ h.2.2]
  exact List.getElem?_toArray ..
theorem Dig.h {g : Nat} {w : World} {H B : List Nat} {n : Nat} (h : Dig g w H B n) {i : Nat} (hi : i < 8) : w.cell? ⟨g, i, none⟩ = some (.int .u32 (H.getD i 0 : Nat)) := by
  rw [h.cell, dig_h h.1 hi]
theorem Dig.b {g : Nat} {w : World} {H B : List Nat} {n : Nat} (h : Dig g w H B n) {i : Nat} (hi : i < 64) : w.cell? ⟨g, 8 + i, none⟩ = some (.int .u8 (B.getD i 0 : Nat)) := by
  rw [h.cell, dig_b h.1 h.2.1 hi]
theorem Dig.n {g : Nat} {w : World} {H B : List Nat} {n : Nat} (h : Dig g w H B n) : w.cell? ⟨g, 72, none⟩ = some (.int .u64 (n : Nat)) := by
  rw [h.cell, dig_n h.1 h.2.1]
theorem Dig.free {g : Nat} {w : World} {H B : List Nat} {n : Nat} (h : Dig g w H B n) (i : Nat) : w.frozen? ⟨g, i, none⟩ = false := free_at h.2.2
theorem Dig.set_h {g : Nat} {w : World} {H B : List Nat} {n : Nat} (h : Dig g w H B n) {i : Nat} (hi : i < 8) (x : Nat) : Dig g (w.setCell ⟨g, i, none⟩ (.int .u32 (x : Nat))) (H.set i x) B n := by
  refine ⟨by rw [List.length_set]; exact h.1, h.2.1, ?_⟩
  rw [set_block h.2.2]
  unfold digC digL
  rw [List.setIfInBounds_toArray, List.set_append_left _ _ (by rw [List.length_map, h.1]; exact hi), List.map_set]
theorem Dig.set_b {g : Nat} {w : World} {H B : List Nat} {n : Nat} (h : Dig g w H B n) {i : Nat} (hi : i < 64) (x : Nat) : Dig g (w.setCell ⟨g, 8 + i, none⟩ (.int .u8 (x : Nat))) H (B.set i x) n := by
  refine ⟨h.1, by rw [List.length_set]; exact h.2.1, ?_⟩
  rw [set_block h.2.2]
  unfold digC digL
  rw [List.setIfInBounds_toArray, List.set_append_right _ _ (by rw [List.length_map, h.1]; omega), List.length_map, h.1, show 8 + i - 8 = i by omega, List.set_append_left _ _ (by rw [List.length_map, h.2.1]; exact hi), List.map_set]
theorem Dig.set_n {g : Nat} {w : World} {H B : List Nat} {n : Nat} (h : Dig g w H B n) (x : Nat) : Dig g (w.setCell ⟨g, 72, none⟩ (.int .u64 (x : Nat))) H B x := by
  refine ⟨h.1, h.2.1, ?_⟩
  rw [set_block h.2.2]
  unfold digC digL
  rw [List.setIfInBounds_toArray, List.set_append_right _ _ (by rw [List.length_map, h.1]; omega), List.length_map, h.1, List.set_append_right _ _ (by rw [List.length_map, h.2.1]; omega), List.length_map, h.2.1]
  rfl

/-- An array that is loaded out of the middle of a block. -/
theorem run_loadVar_off {P : Program} (w : World) (g off : Nat) (ty : TypeId) (cs : List Value) (d : TypeDesc) (hc : ∀ j v, cs[j]? = some v → w.cell? ⟨g, off + j, none⟩ = some v)
    (hu : P.underlying ty = some d) (hd : (match d with | .struct _ | .array _ _ => true | _ => false) = true) (hi : (P.info? ty).map (·.size) = some cs.length) :
    (loadVar ty ⟨g, off, none⟩).run P w = .ok (.agg cs.toArray) w := by
  have hl : (loadCells ⟨g, off, none⟩ cs.length).run P w = .ok cs.toArray w :=
    run_loadCells_list (P := P) w ⟨g, off, none⟩ cs (fun j v hv => by
      have hadd : (⟨g, off, none⟩ : Addr).add j = ⟨g, off + j, none⟩ := by unfold Addr.add; split <;> simp_all
      rw [hadd]
      exact hc j v hv)
  cases hq : P.info? ty with
  | none => simp [hq] at hi
  | some i =>
    have hs : i.size = cs.length := by simpa [hq] using hi
    have hagg : (isAgg ty).run P w = .ok true w := by
      unfold isAgg
      rw [Sem.run_bind, run_underlying hu w]
      cases d <;> simp_all
    simp [loadVar, Sem.run_bind, hagg, sizeOf, typeInfo, hq, hs, hl]
theorem wpList_load_off {P : Program} {ops : Array Oper} {rest : List Oper} {o : Oper} {a : Act} {w : World} {Q : Exit → Act → World → Prop} (hgd : o.guard = none) (ty : TypeId) (x : Operand) (ho : o.op = .load ty x)
    (g off : Nat) (hx : a.eval x = .pointer (some ⟨g, off, none⟩)) (cs : List Value) (d : TypeDesc) (hc : ∀ j v, cs[j]? = some v → w.cell? ⟨g, off + j, none⟩ = some v)
    (hu : P.underlying ty = some d) (hd : (match d with | .struct _ | .array _ _ => true | _ => false) = true) (hi : (P.info? ty).map (·.size) = some cs.length)
    (h : wpList P ops Q rest (a.put o.dst (.agg cs.toArray)) w) : wpList P ops Q (o :: rest) a w :=
  wpList_plain hgd fun K hK => by
    unfold Oper.wp execOp
    simp only [ho, hx, Instr.loadAt, Instr.sureAddr, Sem.run_bind, Sem.run_pure, Result.andThen_ok, run_loadVar_off w g off ty cs d hc hu hd hi]
    exact hK _ _ h
theorem infoB : (Tryz.prog.info? 74).map (·.size) = some 64 := by kernel_rfl
theorem toC_list (k : IntKind) (l : List Nat) : (l.map fun x => Value.int k (x : Nat)).toArray = toC k l := rfl
theorem Dig.load_b {g : Nat} {w : World} {H B : List Nat} {n : Nat} (h : Dig g w H B n) : ∀ j v, (B.map fun x => Value.int .u8 (x : Nat))[j]? = some v → w.cell? ⟨g, 8 + j, none⟩ = some v := fun j v hv => by
  have hj : j < B.length := by
    have := (List.getElem?_eq_some_iff.1 hv).1
    rwa [List.length_map] at this
  rw [h.b (by rw [h.2.1] at hj; exact hj), ← hv, List.getElem?_map, List.getElem?_eq_getElem hj, List.getD_eq_getElem?_getD, List.getElem?_eq_getElem hj]
  rfl

/-- The roots, as the program's text lays them. -/
def Roots (w : World) : Prop := ∀ t, t < 64 → w.cell? ⟨0, t, none⟩ = some (.int .u32 (K0.getD t 0 : Nat))
theorem Roots.below {w w' : World} {A : Nat} (h : Roots w) (b : Below A w w') (hA : 0 < A) : Roots w' := fun t ht => vcell b hA (h t ht)
end Go.Proofs.YtffepndeegbdoaaGreatDoor.Slt
