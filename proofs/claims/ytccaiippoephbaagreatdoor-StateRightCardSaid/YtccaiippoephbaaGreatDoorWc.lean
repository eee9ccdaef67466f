/- Salt: bounds of SHA-256's numbers; a row of eight numbers that is written in place. -/
import Derived.Test.YtccaiippoephbaaGreatDoorWb
import Derived.Test.YtccaiippoephbaaGreatDoorWa
import Derived.Lib.ConvBytes
import Derived.Laws.AppendOwn
import Derived.Deep.RegionHeld3
import Derived.Deep.RegionLaw
import Derived.OpenShut
import Derived.Lib.Strings
import Derived.BigQuiet
set_option linter.unusedVariables false
set_option linter.unusedSimpArgs false
set_option maxRecDepth 100000
namespace Go.Proofs.YtccaiippoephbaaGreatDoor.Slt
open Go.RowKit Go.Lib Go.Proofs.YtccaiippoephbaaGreatDoor.Bx

def B32 (l : List Nat) : Prop := ∀ i, l.getD i 0 < 4294967296
theorem add32_lt (a b : Nat) : add32 a b < 4294967296 := Nat.mod_lt _ (by decide)
theorem B32.set {l : List Nat} (h : B32 l) (i : Nat) {x : Nat} (hx : x < 4294967296) : B32 (l.set i x) := fun j => by
  rw [getD_set]
  split
  · exact hx
  · exact h j
theorem B32.of {l : List Nat} (h : ∀ x ∈ l, x < 4294967296) : B32 l := fun i => by
  rw [List.getD_eq_getElem?_getD]
  cases e : l[i]? with
  | none => exact (by decide)
  | some y => exact h y (List.mem_of_getElem? e)
theorem sched_len (b : List Nat) (a : Nat) : ∀ t, (sched b a t).length = 64
  | 0 => by simp [sched]
  | t + 1 => by rw [sched, List.length_set]; exact sched_len b a t
def B8 (b : List Nat) : Prop := ∀ i, b.getD i 0 < 256
theorem word_lt {b : List Nat} (h : B8 b) (i : Nat) : wordN b i < 4294967296 := by
  unfold wordN
  have h0 := h i
  have h1 := h (i + 1)
  have h2 := h (i + 2)
  have h3 := h (i + 3)
  exact lt_or32 (lt_or32 (lt_or32 (by omega) (by omega)) (by omega)) (by omega)
theorem sched_ok {b : List Nat} (h : B8 b) (a : Nat) : ∀ t, B32 (sched b a t)
  | 0 => fun i => by
    show (List.replicate 64 0).getD i 0 < _
    rw [List.getD_eq_getElem?_getD, List.getElem?_replicate]
    split <;> simp
  | t + 1 => by
    rw [sched]
    refine (sched_ok h a t).set t ?_
    split
    · exact word_lt h _
    · exact add32_lt _ _
theorem rounds_len (w : List Nat) {v : List Nat} (h : v.length = 8) : ∀ t, (rounds w v t).length = 8
  | 0 => h
  | t + 1 => by rw [rounds]; rfl
theorem rounds_ok (w : List Nat) {v : List Nat} (h : B32 v) : ∀ t, B32 (rounds w v t)
  | 0 => h
  | t + 1 => by
    rw [rounds]
    have ih := rounds_ok w h t
    refine B32.of fun x hx => ?_
    simp only [stepV, List.mem_cons, List.not_mem_nil, or_false] at hx
    rcases hx with rfl | rfl | rfl | rfl | rfl | rfl | rfl | rfl
    · exact add32_lt _ _
    · exact ih _
    · exact ih _
    · exact ih _
    · exact add32_lt _ _
    · exact ih _
    · exact ih _
    · exact ih _
def upd8 (H V : List Nat) : Nat → List Nat
  | 0 => H
  | i + 1 => (upd8 H V i).set i (add32 ((upd8 H V i).getD i 0) (V.getD i 0))
theorem upd8_ok {H V : List Nat} (h : B32 H) : ∀ i, B32 (upd8 H V i)
  | 0 => h
  | i + 1 => by rw [upd8]; exact (upd8_ok h i).set i (add32_lt _ _)
theorem upd8_all {H V : List Nat} (h : H.length = 8) (h' : V.length = 8) : upd8 H V 8 = List.zipWith add32 H V := by
  match H, h, V, h' with
  | [a0, a1, a2, a3, a4, a5, a6, a7], _, [b0, b1, b2, b3, b4, b5, b6, b7], _ => rfl
theorem H0_ok : B32 H0 := B32.of (by decide)
theorem blocks_len (b : List Nat) : ∀ k, (blocks b k).length = 8
  | 0 => rfl
  | k + 1 => by
    rw [blocks, block, List.length_zipWith, rounds_len _ (blocks_len b k), blocks_len b k]
    rfl
theorem blocks_ok (b : List Nat) : ∀ k, B32 (blocks b k)
  | 0 => H0_ok
  | k + 1 => by
    rw [blocks, block, ← upd8_all (blocks_len b k) (rounds_len _ (blocks_len b k) _)]
    exact upd8_ok (blocks_ok b k) 8
theorem grown_refl (w : World) (row : Option Nat) : w.grownBy w row := ⟨rfl, rfl, rfl, Nat.le_refl _, fun _ _ _ => rfl⟩
theorem grown_below {W w1 w2 : World} {row : Option Nat} (h : W.grownBy w1 row) (b : Below w1.heap.size w1 w2) : W.grownBy w2 row :=
  ⟨b.os.trans h.os, b.tape.trans h.tape, b.output.trans h.output, Nat.le_trans h.size b.size, fun k hk hn => (b.block k (Nat.lt_of_lt_of_le hk h.size)).trans (h.block k hk hn)⟩
theorem grown_put {W w1 : World} {hb j : Nat} {u : Value} (h : W.grownBy w1 (some hb)) : W.grownBy (w1.setCell ⟨hb, j, none⟩ u) (some hb) := by
  have b0 : Below 0 w1 (w1.setCell ⟨hb, j, none⟩ u) := (Below.refl 0 w1).setCell (p := ⟨hb, j, none⟩) (Nat.zero_le _) u
  exact ⟨b0.os.trans h.os, b0.tape.trans h.tape, b0.output.trans h.output, Nat.le_trans h.size b0.size, fun k hk hn => (Below.heap_setCell _ _ _ _ (fun e => hn (by rw [e]))).trans (h.block k hk hn)⟩
theorem grown_cell {W w1 : World} {hb q o : Nat} {x : Value} (h : W.grownBy w1 (some hb)) (hq : q < W.heap.size) (hne : q ≠ hb) (hc : W.cell? ⟨q, o, none⟩ = some x) : w1.cell? ⟨q, o, none⟩ = some x := by
  unfold World.cell? at hc ⊢
  simp only at hc ⊢
  rw [h.block q hq (by simpa using hne)]
  exact hc
theorem grown_to {base : Nat} {w0 W w1 : World} {hb : Nat} (hw : Below base w0 W) (h : W.grownBy w1 (some hb)) (hb0 : base ≤ hb) (hs : base ≤ W.heap.size) : Below base w0 w1 :=
  ⟨h.os.trans hw.os, h.tape.trans hw.tape, h.output.trans hw.output, Nat.le_trans hw.size h.size, fun k hk => (h.block k (by omega) (by simp; omega)).trans (hw.block k hk)⟩
end Go.Proofs.YtccaiippoephbaaGreatDoor.Slt
/- Salt: sums and bits of 32-bit numbers. -/
set_option linter.unusedVariables false
set_option linter.unusedSimpArgs false
namespace Go.Proofs.YtccaiippoephbaaGreatDoor.Slt
open Go.RowKit Go.Lib Go.Proofs.YtccaiippoephbaaGreatDoor.Bx

theorem wrap32 (n : Nat) : IntKind.u32.wrap ((n : Nat) : Int) = ((n % 4294967296 : Nat) : Int) := by
  show (n : Int) % 4294967296 = _
  rw [Int.natCast_emod]
  rfl
theorem wadd32 (a b : Nat) : IntKind.u32.wrap ((a : Int) + (b : Int)) = ((add32 a b : Nat) : Int) := by
  rw [← Int.natCast_add, wrap32]
  rfl
theorem madd32 (a b : Nat) : ((a : Int) + (b : Int)) % 4294967296 = ((add32 a b : Nat) : Int) := wadd32 a b
theorem div_cast (a : Nat) {i : Int} {m : Nat} (h : i = (m : Nat)) : (a : Int) / i = ((a / m : Nat) : Int) := by
  rw [h, Int.natCast_ediv]
theorem div_lt32 {x : Nat} (hx : x < 4294967296) (n : Nat) : x / n < 4294967296 := Nat.lt_of_le_of_lt (Nat.div_le_self _ _) hx
theorem small0_bits {x : Nat} (hx : x < 4294967296) : bits .xor .u32 (bits .xor .u32 ((turnN x 7 : Nat) : Int) ((turnN x 18 : Nat) : Int)) ((x : Int) / 8) = ((small0 x : Nat) : Int) := by
  rw [show (x : Int) / 8 = ((x / 8 : Nat) : Int) from div_cast x rfl, xor32 (turnN_lt hx) (turnN_lt hx), xor32 (lt_xor32 (turnN_lt hx) (turnN_lt hx)) (div_lt32 hx 8)]
  rfl
theorem small1_bits {x : Nat} (hx : x < 4294967296) : bits .xor .u32 (bits .xor .u32 ((turnN x 17 : Nat) : Int) ((turnN x 19 : Nat) : Int)) ((x : Int) / 1024) = ((small1 x : Nat) : Int) := by
  rw [show (x : Int) / 1024 = ((x / 1024 : Nat) : Int) from div_cast x rfl, xor32 (turnN_lt hx) (turnN_lt hx), xor32 (lt_xor32 (turnN_lt hx) (turnN_lt hx)) (div_lt32 hx 1024)]
  rfl
theorem big1_bits {x : Nat} (hx : x < 4294967296) : bits .xor .u32 (bits .xor .u32 ((turnN x 6 : Nat) : Int) ((turnN x 11 : Nat) : Int)) ((turnN x 25 : Nat) : Int) = ((big1 x : Nat) : Int) := by
  rw [xor32 (turnN_lt hx) (turnN_lt hx), xor32 (lt_xor32 (turnN_lt hx) (turnN_lt hx)) (turnN_lt hx)]
  rfl
theorem big0_bits {x : Nat} (hx : x < 4294967296) : bits .xor .u32 (bits .xor .u32 ((turnN x 2 : Nat) : Int) ((turnN x 13 : Nat) : Int)) ((turnN x 22 : Nat) : Int) = ((big0 x : Nat) : Int) := by
  rw [xor32 (turnN_lt hx) (turnN_lt hx), xor32 (lt_xor32 (turnN_lt hx) (turnN_lt hx)) (turnN_lt hx)]
  rfl
theorem maj_bits {a b c : Nat} (ha : a < 4294967296) (hb : b < 4294967296) (hc : c < 4294967296) : bits .or .u32 (bits .or .u32 (bits .and .u32 (a : Int) (b : Int)) (bits .and .u32 (a : Int) (c : Int))) (bits .and .u32 (b : Int) (c : Int)) = ((((a &&& b) ||| (a &&& c)) ||| (b &&& c) : Nat) : Int) := by
  rw [and32 ha hb, and32 ha hc, and32 hb hc, or32 (lt_and32 hb) (lt_and32 hc), or32 (lt_or32 (lt_and32 hb) (lt_and32 hc)) (lt_and32 hc)]
theorem not_lt32 {x : Nat} (hx : x < 4294967296) : not32 x < 4294967296 := lt_xor32 (by decide) hx
theorem not_bits {x : Nat} (hx : x < 4294967296) : bits .xor .u32 IntKind.u32.max (x : Int) = ((not32 x : Nat) : Int) := xor32 (a := 4294967295) (by decide) hx
theorem cho_bits {e f g : Nat} (he : e < 4294967296) (hf : f < 4294967296) (hg : g < 4294967296) : bits .or .u32 (bits .and .u32 (e : Int) (f : Int)) (bits .and .u32 ((not32 e : Nat) : Int) (g : Int)) = (((e &&& f) ||| (not32 e &&& g) : Nat) : Int) := by
  rw [and32 he hf, and32 (not_lt32 he) hg, or32 (lt_and32 hf) (lt_and32 hg)]
theorem two_bits {v0 v1 v2 : Nat} (h0 : v0 < 4294967296) (h1 : v1 < 4294967296) (h2 : v2 < 4294967296) :
    IntKind.u32.wrap (bits .xor .u32 (bits .xor .u32 ((turnN v0 2 : Nat) : Int) ((turnN v0 13 : Nat) : Int)) ((turnN v0 22 : Nat) : Int) + bits .or .u32 (bits .or .u32 (bits .and .u32 (v0 : Int) (v1 : Int)) (bits .and .u32 (v0 : Int) (v2 : Int))) (bits .and .u32 (v1 : Int) (v2 : Int))) = ((add32 (big0 v0) (((v0 &&& v1) ||| (v0 &&& v2)) ||| (v1 &&& v2)) : Nat) : Int) := by
  rw [big0_bits h0, maj_bits h0 h1 h2, wadd32]
end Go.Proofs.YtccaiippoephbaaGreatDoor.Slt
/- Salt: what Sum of the plain text wants beside its walk. -/
set_option linter.unusedVariables false
set_option linter.unusedSimpArgs false
set_option maxRecDepth 100000
namespace Go.Proofs.YtccaiippoephbaaGreatDoor.Slt
open Go.RowKit Go.Lib Go.Proofs.YtccaiippoephbaaGreatDoor.Bx

def bytesN (s : ByteArray) : List Nat := s.data.toList.map UInt8.toNat
theorem bytesN_len (s : ByteArray) : (bytesN s).length = s.size := by unfold bytesN; rw [List.length_map]; rfl
theorem infoU8 : (Tryz.prog.info? 5).map (fun i => (i.zero, i.size, i.bytes)) = some (some (.int .u8 0), 1, 1) := by kernel_rfl
theorem lenB_succ (n k : Nat) : lenB n (k + 1) = lenB n k ++ [n * 8 / 2 ^ (8 * (7 - k)) % 256] := by
  unfold lenB
  rw [List.range_succ, List.map_append]
  rfl
theorem OwnN.at_ {k : IntKind} {e : TypeId} {base : Nat} {w : World} {v : Value} {l : List Nat} (h : OwnN k e base w v l) (h0 : 0 < l.length) : ∃ g cap, v = .slice (some ⟨g, 0, none⟩) l.length cap ∧ base ≤ g ∧ g < w.heap.size ∧ l.length ≤ cap ∧ cap ≤ maxLen ∧ ∀ j, j < l.length → w.cell? ⟨g, j, none⟩ = some (.int k (l.getD j 0 : Nat)) := by
  obtain ⟨a, cap, e1, h1, h2, h3⟩ := h.nums
  rcases h.2.2 with ⟨_, h0'⟩ | ⟨g, cap', cur, e2, hb, hg, _⟩
  · rw [List.length_map] at h0'; omega
  · rw [e1, List.length_map] at e2
    injection e2 with e2 _ e3
    subst e2
    refine ⟨g, cap, e1, hb, (Array.getElem?_eq_some_iff.1 hg).1, h1, h2, fun j hj => ?_⟩
    obtain ⟨b, off, e4, _, hc⟩ := h3 j hj
    injection e4 with e4
    injection e4 with e4 e5
    subst e4 e5
    rw [Nat.zero_add] at hc
    rw [hc, List.getD_eq_getElem?_getD, List.getElem?_eq_getElem hj]
    rfl
theorem B8.of {l : List Nat} (h : ∀ x ∈ l, x < 256) : B8 l := fun i => by
  rw [List.getD_eq_getElem?_getD]
  cases e : l[i]? with
  | none => exact (by decide)
  | some y => exact h y (List.mem_of_getElem? e)
theorem own_empty {e : TypeId} {k base nb : Nat} {w : World} (hb : base ≤ nb) (h : w.heap[nb]? = some (.cells #[] e (0, 0))) : Rk.OwnK e k base w (.slice (some ⟨nb, 0, none⟩) 0 0) [] :=
  ⟨fun _ h => by simp at h, by simp, .inr ⟨nb, 0, #[], rfl, hb, h, Nat.le_refl _, by unfold maxLen; omega, by simp, by simp⟩⟩
theorem grown_trans {a b c : World} {row : Option Nat} (h : a.grownBy b row) (k : b.grownBy c row) : a.grownBy c row :=
  ⟨k.os.trans h.os, k.tape.trans h.tape, k.output.trans h.output, Nat.le_trans h.size k.size, fun i hi hn => (k.block i (Nat.lt_of_lt_of_le hi h.size) hn).trans (h.block i hi hn)⟩
theorem flat4_len (l : List Nat) : (l.flatMap bytes4).length = 4 * l.length := by
  induction l with
  | nil => rfl
  | cons x l ih =>
    rw [List.flatMap_cons, List.length_append, ih, List.length_cons]
    show 4 + 4 * l.length = _
    omega
theorem flat4_take {H : List Nat} {i : Nat} (hi : i < H.length) : (H.take (i + 1)).flatMap bytes4 = (H.take i).flatMap bytes4 ++ bytes4 (H.getD i 0) := by
  rw [List.take_succ_eq_append_getElem hi, List.flatMap_append, List.getD_eq_getElem?_getD, List.getElem?_eq_getElem hi]
  simp
end Go.Proofs.YtccaiippoephbaaGreatDoor.Slt
/- Salt: Seal of the plain text. -/
set_option linter.unusedVariables false
set_option linter.unusedSimpArgs false
set_option maxRecDepth 100000
namespace Go.Proofs.YtccaiippoephbaaGreatDoor.Slt
open Go.RowKit Go.Lib Go.Proofs.YtccaiippoephbaaGreatDoor.Bx

def ofN (l : List Nat) : ByteArray := ⟨(l.map UInt8.ofNat).toArray⟩
theorem ofN_nat {l : List Nat} (h : B8 l) : bytesN (ofN l) = l := by
  show (l.map UInt8.ofNat).map UInt8.toNat = l
  rw [List.map_map]
  apply List.ext_getElem (by simp)
  intro i h1 h2
  rw [List.getElem_map]
  have := h i
  rw [List.getD_eq_getElem?_getD, List.getElem?_eq_getElem h2] at this
  simp only [Option.getD_some] at this
  show (UInt8.ofNat _).toNat = _
  rw [UInt8.toNat_ofNat', Nat.mod_eq_of_lt this]
theorem byte_at (t : ByteArray) {i : Nat} (hi : i < t.size) : (t[i]'hi).toNat = (bytesN t).getD i 0 := by
  have h1 : i < t.data.toList.length := hi
  unfold bytesN
  rw [List.getD_eq_getElem?_getD, List.getElem?_map, List.getElem?_eq_getElem h1]
  rfl
theorem index_at (w : World) (t : ByteArray) (k : IntKind) {i : Nat} (hi : i < t.size) : (Instr.index 9 (.string t) (.int k (i : Nat))).run Tryz.prog w = .ok (.int .u8 ((bytesN t).getD i 0 : Nat)) w := by
  rw [run_index_string w 9 t k (i : Int) Tryz.underlying9, dif_pos ⟨by omega, by omega⟩, ← byte_at t hi]
  rfl
def digitsB : ByteArray := ⟨#[48, 49, 50, 51, 52, 53, 54, 55, 56, 57, 97, 98, 99, 100, 101, 102]⟩
theorem digits_at : ∀ y, y < 16 → (bytesN digitsB).getD y 0 = digit y := by decide
theorem digit_lt : ∀ y, y < 16 → digit y < 256 := by decide
theorem hex_ok {D : List Nat} (h : B8 D) : B8 (hexL D) := B8.of fun x hx => by
  unfold hexL at hx
  obtain ⟨y, hy, hx⟩ := List.mem_flatMap.1 hx
  obtain ⟨j, hj, rfl⟩ := List.getElem_of_mem hy
  have h8 := h j
  rw [List.getD_eq_getElem?_getD, List.getElem?_eq_getElem hj] at h8
  simp only [Option.getD_some] at h8
  simp only [List.mem_cons, List.not_mem_nil, or_false] at hx
  rcases hx with rfl | rfl
  · exact digit_lt _ (by omega)
  · exact digit_lt _ (by omega)
theorem hex_len (l : List Nat) : (hexL l).length = 2 * l.length := by
  unfold hexL
  induction l with
  | nil => rfl
  | cons x l ih =>
    rw [List.flatMap_cons, List.length_append, ih, List.length_cons]
    simp only [List.length_cons, List.length_nil]
    omega
theorem bytesN_lt (s : ByteArray) : B8 (bytesN s) := B8.of fun x hx => by
  unfold bytesN at hx
  obtain ⟨y, _, rfl⟩ := List.mem_map.1 hx
  exact y.toNat_lt
end Go.Proofs.YtccaiippoephbaaGreatDoor.Slt
/- Salt: seal of the plain text; users. -/
set_option linter.unusedVariables false
set_option linter.unusedSimpArgs false
set_option maxRecDepth 100000
namespace Go.Proofs.YtccaiippoephbaaGreatDoor.Slt
open Go.RowKit Go.Lib Go.Proofs.YtccaiippoephbaaGreatDoor.Bx

def isHex (x : Nat) : Bool := (decide (48 ≤ x) && decide (x ≤ 57)) || (decide (97 ≤ x) && decide (x ≤ 102))
def sealB (l : List Nat) : Bool := l.all isHex && decide (l.length = 64)
theorem seal_no {l : List Nat} {i : Nat} (hi : i < l.length) (h : isHex (l.getD i 0) = false) : sealB l = false := by
  unfold sealB
  have : l.all isHex = false := by
    rw [Bool.eq_false_iff]
    intro h'
    rw [List.all_eq_true] at h'
    rw [List.getD_eq_getElem?_getD, List.getElem?_eq_getElem hi] at h
    have := h' _ (List.getElem_mem hi)
    simp only [Option.getD_some] at h
    rw [h] at this
    cases this
  rw [this]
  rfl
theorem seal_yes {l : List Nat} (h : ∀ i, i < l.length → isHex (l.getD i 0) = true) : sealB l = decide (l.length = 64) := by
  unfold sealB
  have : l.all isHex = true := by
    rw [List.all_eq_true]
    intro x hx
    obtain ⟨j, hj, rfl⟩ := List.getElem_of_mem hx
    have := h j hj
    rw [List.getD_eq_getElem?_getD, List.getElem?_eq_getElem hj] at this
    exact this
  rw [this]
  rfl
set_option maxHeartbeats 8000000 in
theorem rsealb_any (s : ByteArray) (w : World) (hs : s.size ≤ 100000) : Calls Tryz.prog 67 #[.string s] w fun e w' => e = .returned (.bool (sealB (bytesN s))) ∧ Below w.heap.size w w' := by
  obtain ⟨n, hn⟩ : ∃ n, n = s.size := ⟨_, rfl⟩
  have HL : Hid ((bytesN s).length = n) := by show _ = _; rw [bytesN_len, hn]
  have HXI : Hid (∀ i, i < n → ∀ w, (Instr.index 9 (.string s) (.int .i64 (i : Nat))).run Tryz.prog w = .ok (.int .u8 ((bytesN s).getD i 0 : Nat)) w) := fun i hi w => index_at w s .i64 (by omega)
  have HNO : Hid (∀ i, i < n → isHex ((bytesN s).getD i 0) = false → sealB (bytesN s) = false) := fun i hi h => seal_no (by rw [HL.out]; exact hi) h
  have HYE : Hid ((∀ i, i < n → isHex ((bytesN s).getD i 0) = true) → sealB (bytesN s) = decide (n = 64)) := fun h => by
    rw [seal_yes (fun i hi => h i (by rw [HL.out] at hi; exact hi)), HL.out]
  obtain ⟨l, hl⟩ : ∃ l, l = bytesN s := ⟨_, rfl⟩
  rw [← hl] at HXI HNO HYE ⊢
  rw [← hn] at hs
  have hsn : s.size = n := hn.symm
  clear hl hn HL
  go_enter Tryz.func67, Tryz.ntmps67
  go_wp2_with fail
  go_loopg [3] n (fun g i_ wr => ∃ (i : Nat), i ≤ n ∧ n - i ≤ g ∧ i_ = .int .i64 i ∧ Hid (∀ j, j < i → isHex (l.getD j 0) = true) ∧ Below w.heap.size w wr)
  case atStart => exact ⟨0, by omega, by omega, rfl, fun j hj => absurd hj (by omega), Below.refl _ _⟩
  case round =>
    obtain ⟨i, hi, hg, rfl, HH, hbel⟩ := hrel
    have HB := Lib.hid hbel
    by_cases hin : i < n
    · have iw : ((i : Nat) : Int) < (n : Int) := by omega
      have n0 : (0 : Int) ≤ (i : Int) := by omega
      have XI := HXI.out i hin
      have HN := Lib.hid (HNO.out i hin)
      have HH2 : Hid (isHex (l.getD i 0) = true → ∀ j, j < i + 1 → isHex (l.getD j 0) = true) := fun h j hj => by
        by_cases e : j = i
        · subst e; exact h
        · exact HH.out j (by omega)
      generalize l.getD i 0 = x at *
      have HV : Hid (isHex x = ((decide (48 ≤ x) && decide (x ≤ 57)) || (decide (97 ≤ x) && decide (x ≤ 102)))) := rfl
      clear hbel
      by_cases h1 : 48 ≤ x
      · have d1 : decide ((48 : Int) ≤ (x : Int)) = true := decide_eq_true (by omega)
        have k1 : (48 : Int) ≤ (x : Int) := by omega
        by_cases h2 : x ≤ 57
        · have d2 : decide ((x : Int) ≤ 57) = true := decide_eq_true (by omega)
          have k2 : (x : Int) ≤ 57 := by omega
          have hv : isHex x = true := by rw [HV.out]; simp [h1, h2]
          have HH3 := Lib.hid (HH2.out hv)
          clear HH2 HN
          go_wp2_with fail
          go_roundg (n - (i + 1))
          case measure => omega
          case rel => exact ⟨i + 1, by omega, Nat.le_refl _, by go_num, HH3, HB.out⟩
        · have d2 : decide ((x : Int) ≤ 57) = false := decide_eq_false (by omega)
          have k2 : ¬ (x : Int) ≤ 57 := by omega
          by_cases h3 : 97 ≤ x
          · have d3 : decide ((97 : Int) ≤ (x : Int)) = true := decide_eq_true (by omega)
            have k3 : (97 : Int) ≤ (x : Int) := by omega
            by_cases h4 : x ≤ 102
            · have d4 : decide ((x : Int) ≤ 102) = true := decide_eq_true (by omega)
              have k4 : (x : Int) ≤ 102 := by omega
              have hv : isHex x = true := by rw [HV.out]; simp [h3, h4]
              have HH3 := Lib.hid (HH2.out hv)
              clear HH2 HN
              go_wp2_with fail
              go_roundg (n - (i + 1))
              case measure => omega
              case rel => exact ⟨i + 1, by omega, Nat.le_refl _, by go_num, HH3, HB.out⟩
            · have d4 : decide ((x : Int) ≤ 102) = false := decide_eq_false (by omega)
              have k4 : ¬ (x : Int) ≤ 102 := by omega
              have hr := HN.out (by rw [HV.out]; simp [h2, h4])
              clear HH2 HN
              go_wp2_with fail
              go_ret
              exact ⟨by first | rfl | (rw [hr]; rfl) | (rw [hr]; done), HB.out⟩
          · have d3 : decide ((97 : Int) ≤ (x : Int)) = false := decide_eq_false (by omega)
            have k3 : ¬ (97 : Int) ≤ (x : Int) := by omega
            have hr := HN.out (by rw [HV.out]; simp [h2, h3])
            clear HH2 HN
            go_wp2_with fail
            go_ret
            exact ⟨by first | rfl | (rw [hr]; rfl) | (rw [hr]; done), HB.out⟩
      · have d1 : decide ((48 : Int) ≤ (x : Int)) = false := decide_eq_false (by omega)
        have k1 : ¬ (48 : Int) ≤ (x : Int) := by omega
        have d3 : decide ((97 : Int) ≤ (x : Int)) = false := decide_eq_false (by omega)
        have k3 : ¬ (97 : Int) ≤ (x : Int) := by omega
        have hr := HN.out (by rw [HV.out]; simp [h1]; omega)
        clear HH2 HN
        go_wp2_with fail
        go_ret
        exact ⟨by first | rfl | (rw [hr]; rfl) | (rw [hr]; done), HB.out⟩
    · obtain rfl : i = n := by omega
      have iw : ¬ ((i : Int) < (i : Int)) := by omega
      have hr := HYE.out HH.out
      have hr2 : Hid (sealB l = decide ((i : Int) = 64)) := by
        show _ = _
        rw [hr]
        exact decide_eq_decide.2 ⟨fun h => by omega, fun h => by omega⟩
      clear hbel hr
      go_wp2_with fail
      go_ret
      exact ⟨by rw [hr2.out]; first | rfl | (congr 2; done), HB.out⟩
end Go.Proofs.YtccaiippoephbaaGreatDoor.Slt
/- Salt: users; Right of the plain text. -/
set_option linter.unusedVariables false
set_option linter.unusedSimpArgs false
set_option maxRecDepth 100000
namespace Go.Proofs.YtccaiippoephbaaGreatDoor.Slt
open Go.RowKit Go.Lib Go.Proofs.YtccaiippoephbaaGreatDoor.Bx

structure Us where
  n : ByteArray
  s : ByteArray
  l : ByteArray
def UsP (w : World) (x : List Value) (y : Us) : Prop := x = [.string y.n, .string y.s, .string y.l] ∧ y.n.size ≤ 140737488355328 ∧ y.s.size ≤ 140737488355328 ∧ y.l.size ≤ 140737488355328
def Users (w : World) (v : Value) (A : List Us) : Prop := Rk.Rows 3 UsP w v A
theorem Users.below {w w' : World} {v : Value} {A : List Us} (h : Users w v A) (hb : Below w.heap.size w w') : Users w' v A := Rk.Rows.below (R := UsP) (fun h _ => h) h hb
theorem Users.is_slice {w : World} {v : Value} {A : List Us} (h : Users w v A) : ∃ a cap, v = .slice a A.length cap ∧ A.length ≤ cap ∧ cap ≤ maxLen := by
  obtain ⟨a, cap, rfl⟩ := Rk.Rows.is_slice h
  exact ⟨a, cap, rfl, (Rk.Rows.len h).2⟩
def us (A : List Us) (i : Nat) : Us := A.getD i ⟨ByteArray.empty, ByteArray.empty, ByteArray.empty⟩
theorem Users.get {w : World} {a : Option Addr} {n cap : Nat} {A : List Us} (h : Users w (.slice a n cap) A) {j : Nat} (hj : j < A.length) :
    ∃ b off, a = some ⟨b, off, none⟩ ∧ b < w.heap.size ∧ w.cell? ⟨b, off + j * 3, none⟩ = some (.string (us A j).n) ∧ w.cell? ⟨b, off + j * 3 + 1, none⟩ = some (.string (us A j).s) ∧ w.cell? ⟨b, off + j * 3 + 2, none⟩ = some (.string (us A j).l) ∧ (us A j).n.size ≤ 140737488355328 ∧ (us A j).s.size ≤ 140737488355328 ∧ (us A j).l.size ≤ 140737488355328 := by
  obtain ⟨b, off, x, rfl, hb, hl, hx, hc⟩ := Rk.Rows.get h hj
  have e : us A j = A[j] := by unfold us; rw [List.getD_eq_getElem?_getD, List.getElem?_eq_getElem hj]; rfl
  rw [e]
  obtain ⟨rfl, h1, h2, h3⟩ := hx
  exact ⟨b, off, rfl, hb, hc 0 _ rfl, hc 1 _ rfl, hc 2 _ rfl, h1, h2, h3⟩
section
open Go.ChangeShapes Go.WideShapes Go.Deep
variable {H : Type} {enc : TypeId × Value → H}
theorem cellsOf_string : Tryz.prog.cellsOf 9 = 1 := by kernel_rfl
theorem us_of {W : World} {m : Nat} {x : DataW H × List MemPlace} {cs : List Value} (hl : cs.length = 3) (ht : DataW.trod enc Tryz.prog W 0 (fun _ => true) true m 42 cs = some x) (hw : ∀ n ∈ x.1.weights Tryz.prog 42, n ≤ 140737488355328) : ∃ y : Us, UsP W cs y := by
  obtain ⟨xs, m, _, hx, _, hxl, hg⟩ := DataW.trod_struct Tryz.underlying42 ht
  match cs, hl with
  | [c0, c1, c2], _ =>
    have hxs : xs.length = 3 := hxl
    match xs, hxs with
    | [x0, x1, x2], _ =>
      have g0 : DataW.trod enc Tryz.prog W 0 (fun _ => true) true m 9 (([c0, c1, c2].drop 0).take (Tryz.prog.cellsOf 9)) = some x0 := hg 0 _ rfl
      have g1 : DataW.trod enc Tryz.prog W 0 (fun _ => true) true m 9 (([c0, c1, c2].drop 1).take (Tryz.prog.cellsOf 9)) = some x1 := hg 1 _ rfl
      have g2 : DataW.trod enc Tryz.prog W 0 (fun _ => true) true m 9 (([c0, c1, c2].drop 2).take (Tryz.prog.cellsOf 9)) = some x2 := hg 2 _ rfl
      rw [cellsOf_string] at g0 g1 g2
      obtain ⟨a0, e0, ex0, w0⟩ := DataW.trod_string Tryz.underlying9 g0
      obtain ⟨a1, e1, ex1, w1⟩ := DataW.trod_string Tryz.underlying9 g1
      obtain ⟨a2, e2, ex2, w2⟩ := DataW.trod_string Tryz.underlying9 g2
      simp at e0 e1 e2
      subst e0 e1 e2
      have hwt : ∀ (j : Nat) (s : ByteArray) (d : DataW H), [x0.1, x1.1, x2.1][j]? = some d → [9, 9, 9][j]? = some 9 → d = .lit (.string s.data.toList) → s.size ≤ 140737488355328 := fun j s d h1 h2 h3 => by
        refine hw s.data.toList.length ?_
        rw [hx]
        simp only [DataW.weights, Tryz.underlying42]
        refine DataW.weights_mem_each (j := j) (t := 9) (d := d) h2 h1 _ ?_
        rw [h3]
        simp [DataW.weights]
      exact ⟨⟨a0, a1, a2⟩, rfl, hwt 0 a0 _ rfl rfl (by rw [ex0]), hwt 1 a1 _ rfl rfl (by rw [ex1]), hwt 2 a2 _ rfl rfl (by rw [ex2])⟩
end
def badU (y : Us) : Bool := decide (y.n.size = 0) || decide (20 < y.n.size) || decide (20 < y.s.size) || !sealB (bytesN y.l)
def okAt (A : List Us) (i : Nat) : Bool := !badU (us A i) && (List.range i).all fun k => !decide ((us A k).n = (us A i).n)
def rightU (A : List Us) : Bool := decide (1 ≤ A.length) && decide (A.length ≤ 8) && (List.range A.length).all (okAt A)
theorem right_no {A : List Us} {i : Nat} (hi : i < A.length) (h : okAt A i = false) : rightU A = false := by
  unfold rightU
  have : (List.range A.length).all (okAt A) = false := by
    rw [Bool.eq_false_iff]
    intro h'
    rw [List.all_eq_true] at h'
    have := h' i (List.mem_range.2 hi)
    rw [h] at this
    cases this
  rw [this, Bool.and_false]
theorem right_yes {A : List Us} (h1 : 1 ≤ A.length) (h8 : A.length ≤ 8) (h : ∀ i, i < A.length → okAt A i = true) : rightU A = true := by
  unfold rightU
  rw [decide_eq_true h1, decide_eq_true h8, List.all_eq_true.2 (fun i hi => h i (List.mem_range.1 hi))]
  rfl
theorem ok_bad {A : List Us} {i : Nat} (h : badU (us A i) = true) : okAt A i = false := by unfold okAt; rw [h]; rfl
theorem ok_same {A : List Us} {i k : Nat} (hk : k < i) (h : (us A k).n = (us A i).n) : okAt A i = false := by
  unfold okAt
  have : (List.range i).all (fun k => !decide ((us A k).n = (us A i).n)) = false := by
    rw [Bool.eq_false_iff]
    intro h'
    rw [List.all_eq_true] at h'
    have := h' k (List.mem_range.2 hk)
    rw [decide_eq_true h] at this
    cases this
  rw [this, Bool.and_false]
theorem ok_yes {A : List Us} {i : Nat} (h : badU (us A i) = false) (h' : ∀ k, k < i → (us A k).n ≠ (us A i).n) : okAt A i = true := by
  unfold okAt
  rw [h, List.all_eq_true.2 (fun k hk => by rw [decide_eq_false (h' k (List.mem_range.1 hk))]; rfl)]
  rfl
theorem str_empty (s : ByteArray) : s.toList.isEmpty = decide (s.size = 0) := by
  rw [Lib.toList_data]
  show s.data.toList.isEmpty = decide (s.data.toList.length = 0)
  cases s.data.toList with
  | nil => rfl
  | cons a l => simp
theorem str_eq (s t : ByteArray) : (s.toList == t.toList) = decide (s = t) := by
  rw [Lib.toList_data, Lib.toList_data]
  by_cases h : s = t
  · subst h; simp
  · rw [decide_eq_false h]
    simp only [beq_eq_false_iff_ne, ne_eq]
    intro e
    exact h (by cases s; cases t; congr; exact Array.toList_inj.1 e)
end Go.Proofs.YtccaiippoephbaaGreatDoor.Slt
