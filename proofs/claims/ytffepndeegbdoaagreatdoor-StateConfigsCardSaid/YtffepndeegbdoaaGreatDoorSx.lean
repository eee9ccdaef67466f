/- Salt: what Sum of the plain text wants beside its walk. -/
import Derived.Test.YtffepndeegbdoaaGreatDoorSr
import Derived.Test.YtffepndeegbdoaaGreatDoorTq
import Derived.Deep.RegionHeld3
set_option linter.unusedVariables false
set_option linter.unusedSimpArgs false
set_option maxRecDepth 100000
namespace Go.Proofs.YtffepndeegbdoaaGreatDoor.Slt
open Go.RowKit Go.Lib Go.Proofs.YtffepndeegbdoaaGreatDoor.Bx

def bytesN (s : ByteArray) : List Nat := s.data.toList.map UInt8.toNat
theorem bytesN_len (s : ByteArray) : (bytesN s).length = s.size := by unfold bytesN; rw [List.length_map]; rfl
def u8s (l : List Nat) : List Value := l.map fun x => .int .u8 (x : Nat)
theorem u8s_app (a b : List Nat) : u8s (a ++ b) = u8s a ++ u8s b := List.map_append ..
theorem u8s_len (l : List Nat) : (u8s l).length = l.length := List.length_map ..
theorem conv_u8s (s : ByteArray) : (s.data.toList.map fun b => Value.int .u8 (b.toNat : Int)) = u8s (bytesN s) := by
  unfold u8s bytesN
  rw [List.map_map]
  rfl
theorem infoU8 : (Tryz.prog.info? 5).map (fun i => (i.zero, i.size, i.bytes)) = some (some (.int .u8 0), 1, 1) := by kernel_rfl
theorem bytesN_app (a b : ByteArray) : bytesN (a ++ b) = bytesN a ++ bytesN b := by
  unfold bytesN
  rw [← List.map_append]
  congr 1
theorem lenB_succ (n k : Nat) : lenB n (k + 1) = lenB n k ++ [n * 8 / 2 ^ (8 * (7 - k)) % 256] := by
  unfold lenB
  rw [List.range_succ, List.map_append]
  rfl
theorem OwnN.at_ {k : IntKind} {e : TypeId} {base : Nat} {w : World} {v : Value} {l : List Nat} (h : OwnN k e base w v l) (h0 : 0 < l.length) : ∃ g cap, v = .slice (some ⟨g, 0, none⟩) l.length cap ∧ base ≤ g ∧ g < w.heap.size ∧ l.length ≤ cap ∧ cap ≤ maxLen ∧ ∀ j, j < l.length → w.cell? ⟨g, j, none⟩ = some (.int k (l.getD j 0 : Nat)) := by
  obtain ⟨a, cap, e1, h1, h2, h3⟩ := h.nums
  rcases h.2.2 with ⟨_, h0'⟩ | ⟨g, cap', cur, e2, hb, hg, _⟩
  · rw [List.length_map] at h0'; omega
  · rw [e1, List.length_map] at e2
    injection e2 with e2 _ e3
    subst e2
    refine ⟨g, cap, e1, hb, (Array.getElem?_eq_some_iff.1 hg).1, h1, h2, fun j hj => ?_⟩
    obtain ⟨b, off, e4, _, hc⟩ := h3 j hj
    injection e4 with e4
    injection e4 with e4 e5
    subst e4 e5
    rw [Nat.zero_add] at hc
    rw [hc, List.getD_eq_getElem?_getD, List.getElem?_eq_getElem hj]
    rfl
theorem made32 {w : World} {base n : Nat} {e : TypeId} {g : Nat} (h : w.ownsRow base e 1 (.slice (some ⟨g, 0, none⟩) n n) n (madeCells #[.int .u32 0] n).toList) : w.heap[g]? = some (.cells (toC .u32 (List.replicate n 0)) e (0, 0)) := by
  rcases h.2 with ⟨e1, _⟩ | ⟨g', cap, cur, e1, hb, hg, hle, hm, hsz, htake⟩
  · cases e1
  · injection e1 with e1 e2 e3
    injection e1 with e1
    injection e1 with e1 _ _
    subst e1 e3
    rw [hg]
    congr 2
    have h1 : cur.toList = List.replicate n (.int .u32 0) := by
      rw [Nat.mul_one] at htake hsz
      rw [List.take_of_length_le (by rw [Array.length_toList, hsz]; exact Nat.le_refl _)] at htake
      rw [htake, toList_madeCells_one]
    unfold toC
    rw [List.map_replicate]
    show cur = (List.replicate n (Value.int .u32 0)).toArray
    rw [← h1]
theorem B8.of {l : List Nat} (h : ∀ x ∈ l, x < 256) : B8 l := fun i => by
  rw [List.getD_eq_getElem?_getD]
  cases e : l[i]? with
  | none => exact (by decide)
  | some y => exact h y (List.mem_of_getElem? e)
theorem pad_ok (s : ByteArray) : B8 (padL (bytesN s)) := B8.of fun x hx => by
  unfold padL lenB bytesN at hx
  simp only [List.mem_append, List.mem_map, List.mem_singleton, List.mem_replicate] at hx
  rcases hx with ((⟨y, _, rfl⟩ | rfl) | ⟨_, rfl⟩) | ⟨y, _, rfl⟩
  · exact y.toNat_lt
  · decide
  · decide
  · exact Nat.mod_lt _ (by decide)
theorem word_bits {y0 y1 y2 y3 : Nat} (x0 : y0 < 256) (x1 : y1 < 256) (x2 : y2 < 256) (x3 : y3 < 256) : bits .or .u32 (bits .or .u32 (bits .or .u32 ((y0 : Int) * 16777216) ((y1 : Int) * 65536)) ((y2 : Int) * 256)) (y3 : Int) = ((((y0 * 16777216 ||| y1 * 65536) ||| y2 * 256) ||| y3 : Nat) : Int) := by
  have e1 : (y0 : Int) * 16777216 = ((y0 * 16777216 : Nat) : Int) := by rw [Int.natCast_mul]; rfl
  have e2 : (y1 : Int) * 65536 = ((y1 * 65536 : Nat) : Int) := by rw [Int.natCast_mul]; rfl
  have e3 : (y2 : Int) * 256 = ((y2 * 256 : Nat) : Int) := by rw [Int.natCast_mul]; rfl
  have l1 : y0 * 16777216 ||| y1 * 65536 < 4294967296 := lt_or32 (by omega) (by omega)
  have l2 : (y0 * 16777216 ||| y1 * 65536) ||| y2 * 256 < 4294967296 := lt_or32 l1 (by omega)
  rw [e1, e2, e3, or32 (by omega) (by omega), or32 l1 (by omega), or32 l2 (by omega)]
theorem own_empty {e : TypeId} {k base nb : Nat} {w : World} (hb : base ≤ nb) (h : w.heap[nb]? = some (.cells #[] e (0, 0))) : Rk.OwnK e k base w (.slice (some ⟨nb, 0, none⟩) 0 0) [] :=
  ⟨fun _ h => by simp at h, by simp, .inr ⟨nb, 0, #[], rfl, hb, h, Nat.le_refl _, by unfold maxLen; omega, by simp, by simp⟩⟩
theorem Row8.rowk {hb : Nat} {w : World} {H : List Nat} {cap : Nat} (h : Row8 hb w H) (h8 : 8 ≤ cap) (hm : cap ≤ maxLen) : Rk.RowK 1 w (.slice (some ⟨hb, 0, none⟩) 8 cap) (H.map fun x => [.int .u32 (x : Nat)]) := by
  refine ⟨fun x hx => ?_, some ⟨hb, 0, none⟩, cap, by rw [List.length_map, h.1], by rw [List.length_map, h.1]; exact h8, hm, .inr ⟨hb, 0, rfl, h.lt, fun j hj i u hu => ?_⟩⟩
  · obtain ⟨y, _, rfl⟩ := List.mem_map.1 hx
    rfl
  · rw [List.length_map] at hj
    rw [List.getElem_map] at hu
    match i, hu with
    | 0, hu =>
      simp only [List.getElem?_cons_zero, Option.some.injEq] at hu
      subst hu
      rw [Nat.zero_add, Nat.mul_one, Nat.add_zero, h.cell (by rw [h.1] at hj; exact hj), List.getD_eq_getElem?_getD, List.getElem?_eq_getElem hj]
      rfl
    | i + 1, hu => simp at hu
theorem grown_trans {a b c : World} {row : Option Nat} (h : a.grownBy b row) (k : b.grownBy c row) : a.grownBy c row :=
  ⟨k.os.trans h.os, k.tape.trans h.tape, k.output.trans h.output, Nat.le_trans h.size k.size, fun i hi hn => (k.block i (Nat.lt_of_lt_of_le hi h.size) hn).trans (h.block i hi hn)⟩
def four (x : Nat) : List UInt8 := [UInt8.ofNat (x / 16777216 % 256), UInt8.ofNat (x / 65536 % 256), UInt8.ofNat (x / 256 % 256), UInt8.ofNat (x % 256)]
theorem of_nat (x : Nat) : (UInt8.ofNat (x % 256)).toNat = x % 256 := by
  rw [UInt8.toNat_ofNat']
  exact Nat.mod_eq_of_lt (Nat.mod_lt _ (by decide))
theorem four_nat (x : Nat) : bytesN ⟨(four x).toArray⟩ = bytes4 x := by
  show [(UInt8.ofNat (x / 16777216 % 256)).toNat, (UInt8.ofNat (x / 65536 % 256)).toNat, (UInt8.ofNat (x / 256 % 256)).toNat, (UInt8.ofNat (x % 256)).toNat] = _
  rw [of_nat, of_nat, of_nat, of_nat]
  rfl
theorem conv4 (w : World) (x : Nat) (hx : x < 4294967296) : (convert 117 9 (.slice (some ⟨w.heap.size, 0, none⟩) 4 4)).run Tryz.prog (w.alloc (.cells #[.int .u8 ((x : Int) / 16777216), .int .u8 ((x : Int) / 65536 % 256), .int .u8 ((x : Int) / 256 % 256), .int .u8 ((x : Int) % 256)] 5)).drew = .ok (.string ⟨(four x).toArray⟩) (w.alloc (.cells #[.int .u8 ((x : Int) / 16777216), .int .u8 ((x : Int) / 65536 % 256), .int .u8 ((x : Int) / 256 % 256), .int .u8 ((x : Int) % 256)] 5)).drew := by
  have hb := heap_alloc_new w (.cells #[.int .u8 ((x : Int) / 16777216), .int .u8 ((x : Int) / 65536 % 256), .int .u8 ((x : Int) / 256 % 256), .int .u8 ((x : Int) % 256)] 5)
  refine run_convert_bytes_back _ 117 9 5 ⟨w.heap.size, 0, none⟩ 4 (four x) Tryz.underlying117 Tryz.underlying5 Tryz.underlying9 (fun j hj => ?_)
  have hadd : ∀ j, (⟨w.heap.size, 0, none⟩ : Addr).add j = ⟨w.heap.size, j, none⟩ := fun j => by unfold Addr.add; split <;> simp_all
  rw [hadd]
  show (w.alloc _).cell? _ = _
  rw [cell_of_row _ _ _ _ _ _ hb]
  have hj4 : j < 4 := hj
  match j, hj4 with
  | 0, _ =>
    show some (Value.int .u8 ((x : Int) / 16777216)) = some (.int .u8 ((UInt8.ofNat (x / 16777216 % 256)).toNat : Int))
    rw [of_nat]
    congr 2
    omega
  | 1, _ =>
    show some (Value.int .u8 ((x : Int) / 65536 % 256)) = some (.int .u8 ((UInt8.ofNat (x / 65536 % 256)).toNat : Int))
    rw [of_nat]
    congr 2
  | 2, _ =>
    show some (Value.int .u8 ((x : Int) / 256 % 256)) = some (.int .u8 ((UInt8.ofNat (x / 256 % 256)).toNat : Int))
    rw [of_nat]
    congr 2
  | 3, _ =>
    show some (Value.int .u8 ((x : Int) % 256)) = some (.int .u8 ((UInt8.ofNat (x % 256)).toNat : Int))
    rw [of_nat]
    congr 2
theorem flat4_len (l : List Nat) : (l.flatMap bytes4).length = 4 * l.length := by
  induction l with
  | nil => rfl
  | cons x l ih =>
    rw [List.flatMap_cons, List.length_append, ih, List.length_cons]
    show 4 + 4 * l.length = _
    omega
theorem flat4_take {H : List Nat} {i : Nat} (hi : i < H.length) : (H.take (i + 1)).flatMap bytes4 = (H.take i).flatMap bytes4 ++ bytes4 (H.getD i 0) := by
  rw [List.take_succ_eq_append_getElem hi, List.flatMap_append, List.getD_eq_getElem?_getD, List.getElem?_eq_getElem hi]
  simp
theorem u8s_get {l : List Nat} {j : Nat} (hj : j < (u8s l).length) : (u8s l)[j] = .int .u8 (l.getD j 0 : Nat) := by
  unfold u8s at hj ⊢
  rw [List.length_map] at hj
  rw [List.getElem_map, List.getD_eq_getElem?_getD, List.getElem?_eq_getElem hj]
  rfl
end Go.Proofs.YtffepndeegbdoaaGreatDoor.Slt
