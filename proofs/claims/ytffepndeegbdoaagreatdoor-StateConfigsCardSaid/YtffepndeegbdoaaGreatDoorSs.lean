/- Salt: Seal of the plain text. -/
import Derived.Test.YtffepndeegbdoaaGreatDoorSx
import Derived.Deep.RegionLaw
set_option linter.unusedVariables false
set_option linter.unusedSimpArgs false
set_option maxRecDepth 100000
namespace Go.Proofs.YtffepndeegbdoaaGreatDoor.Slt
open Go.RowKit Go.Lib Go.Proofs.YtffepndeegbdoaaGreatDoor.Bx

theorem map_inj {α β : Type} {f : α → β} (hf : ∀ a b, f a = f b → a = b) : ∀ l m : List α, l.map f = m.map f → l = m
  | [], [], _ => rfl
  | [], b :: m, h => by simp at h
  | a :: l, [], h => by simp at h
  | a :: l, b :: m, h => by
    simp only [List.map_cons, List.cons.injEq] at h
    rw [hf a b h.1, map_inj hf l m h.2]
theorem row_two {e : TypeId} {b : Nat} {w : World} {x y : Value} (h : w.heap[b]? = some (.cells #[x, y] e (0, 0))) : Rk.RowK 1 w (.slice (some ⟨b, 0, none⟩) 2 2) [[x], [y]] := by
  refine ⟨fun z hz => ?_, some ⟨b, 0, none⟩, 2, rfl, Nat.le_refl _, by unfold maxLen; omega, .inr ⟨b, 0, rfl, (Array.getElem?_eq_some_iff.1 h).1, fun j hj i u hu => ?_⟩⟩
  · simp only [List.mem_cons, List.not_mem_nil, or_false] at hz
    rcases hz with rfl | rfl <;> rfl
  · rw [cell_of_row _ _ _ _ _ _ h]
    have hj : j < 2 := hj
    match j, hj with
    | 0, _ =>
      match i, hu with
      | 0, hu => exact hu
      | i + 1, hu => simp at hu
    | 1, _ =>
      match i, hu with
      | 0, hu => exact hu
      | i + 1, hu => simp at hu
def ofN (l : List Nat) : ByteArray := ⟨(l.map UInt8.ofNat).toArray⟩
theorem ofN_nat {l : List Nat} (h : B8 l) : bytesN (ofN l) = l := by
  show (l.map UInt8.ofNat).map UInt8.toNat = l
  rw [List.map_map]
  apply List.ext_getElem (by simp)
  intro i h1 h2
  rw [List.getElem_map]
  have := h i
  rw [List.getD_eq_getElem?_getD, List.getElem?_eq_getElem h2] at this
  simp only [Option.getD_some] at this
  show (UInt8.ofNat _).toNat = _
  rw [UInt8.toNat_ofNat', Nat.mod_eq_of_lt this]
theorem byte_at (t : ByteArray) {i : Nat} (hi : i < t.size) : (t[i]'hi).toNat = (bytesN t).getD i 0 := by
  have h1 : i < t.data.toList.length := hi
  unfold bytesN
  rw [List.getD_eq_getElem?_getD, List.getElem?_map, List.getElem?_eq_getElem h1]
  rfl
theorem index_at (w : World) (t : ByteArray) (k : IntKind) {i : Nat} (hi : i < t.size) : (Instr.index 9 (.string t) (.int k (i : Nat))).run Tryz.prog w = .ok (.int .u8 ((bytesN t).getD i 0 : Nat)) w := by
  rw [run_index_string w 9 t k (i : Int) Tryz.underlying9, dif_pos ⟨by omega, by omega⟩, ← byte_at t hi]
  rfl
def digitsB : ByteArray := ⟨#[48, 49, 50, 51, 52, 53, 54, 55, 56, 57, 97, 98, 99, 100, 101, 102]⟩
theorem digits_at : ∀ y, y < 16 → (bytesN digitsB).getD y 0 = digit y := by decide
theorem digit_lt : ∀ y, y < 16 → digit y < 256 := by decide
theorem hex_ok {D : List Nat} (h : B8 D) : B8 (hexL D) := B8.of fun x hx => by
  unfold hexL at hx
  obtain ⟨y, hy, hx⟩ := List.mem_flatMap.1 hx
  obtain ⟨j, hj, rfl⟩ := List.getElem_of_mem hy
  have h8 := h j
  rw [List.getD_eq_getElem?_getD, List.getElem?_eq_getElem hj] at h8
  simp only [Option.getD_some] at h8
  simp only [List.mem_cons, List.not_mem_nil, or_false] at hx
  rcases hx with rfl | rfl
  · exact digit_lt _ (by omega)
  · exact digit_lt _ (by omega)
theorem bytesN_inj {s t : ByteArray} (h : bytesN s = bytesN t) : s = t := by
  have e : s.data.toList = t.data.toList := map_inj (fun a b h => UInt8.toNat_inj.1 h) _ _ h
  cases s
  cases t
  congr
  exact Array.toList_inj.1 e
theorem sum_len (l : List Nat) : (sumL l).length = 32 := by
  unfold sumL
  rw [flat4_len, blocks_len]
theorem hex_take {D : List Nat} {i : Nat} (hi : i < D.length) : hexL (D.take (i + 1)) = hexL (D.take i) ++ [digit (D.getD i 0 / 16), digit (D.getD i 0 % 16)] := by
  unfold hexL
  rw [List.take_succ_eq_append_getElem hi, List.flatMap_append, List.getD_eq_getElem?_getD, List.getElem?_eq_getElem hi]
  simp
theorem hex_len (l : List Nat) : (hexL l).length = 2 * l.length := by
  unfold hexL
  induction l with
  | nil => rfl
  | cons x l ih =>
    rw [List.flatMap_cons, List.length_append, ih, List.length_cons]
    simp only [List.length_cons, List.length_nil]
    omega
theorem bytesN_lt (s : ByteArray) : B8 (bytesN s) := B8.of fun x hx => by
  unfold bytesN at hx
  obtain ⟨y, _, rfl⟩ := List.mem_map.1 hx
  exact y.toNat_lt
end Go.Proofs.YtffepndeegbdoaaGreatDoor.Slt
