/- Salt: times, limbs of the plain text. -/
import Derived.Test.YtffepndeegbdoaaGreatDoorSn
import Derived.OwnWalk
import Derived.Deep.RegionHeld3
set_option linter.unusedVariables false
set_option linter.unusedSimpArgs false
set_option maxRecDepth 100000
namespace Go.Proofs.YtffepndeegbdoaaGreatDoor.Slt
open Go.RowKit Go.Lib Go.Proofs.YtffepndeegbdoaaGreatDoor.Bx

theorem infoU64 : (Tryz.prog.info? 75).map (fun i => (i.zero, i.size, i.bytes)) = some (some (.int .u64 0), 1, 8) := by kernel_rfl
theorem made_block {w : World} {base n : Nat} {e : TypeId} {g : Nat} (h : w.ownsRow base e 1 (.slice (some ⟨g, 0, none⟩) n n) n (madeCells #[.int .u64 0] n).toList) : w.heap[g]? = some (.cells (toC .u64 (List.replicate n 0)) e (0, 0)) := by
  rcases h.2 with ⟨e1, _⟩ | ⟨g', cap, cur, e1, hb, hg, hle, hm, hsz, htake⟩
  · cases e1
  · injection e1 with e1 e2 e3
    injection e1 with e1
    injection e1 with e1 _ _
    subst e1 e3
    rw [hg]
    congr 2
    have h1 : cur.toList = List.replicate n (.int .u64 0) := by
      rw [Nat.mul_one] at htake hsz
      rw [List.take_of_length_le (by rw [Array.length_toList, hsz]; exact Nat.le_refl _)] at htake
      rw [htake, toList_madeCells_one]
    unfold toC
    rw [List.map_replicate]
    show cur = (List.replicate n (Value.int .u64 0)).toArray
    rw [← h1]
def GiveN (k : IntKind) (l : List Nat) (w : World) (e : Ending) (w' : World) : Prop := ∃ v, e = .returned v ∧ Nums k w' v l ∧ Below w.heap.size w w'
end Go.Proofs.YtffepndeegbdoaaGreatDoor.Slt
/- Salt: limbs, above, root of the plain text. -/
set_option linter.unusedVariables false
set_option linter.unusedSimpArgs false
set_option maxRecDepth 100000
namespace Go.Proofs.YtffepndeegbdoaaGreatDoor.Slt
open Go.RowKit Go.Lib Go.Proofs.YtffepndeegbdoaaGreatDoor.Bx

def limbsL (x : Nat) : List Nat := [x % 65536, x / 65536 % 65536, x / 4294967296]
def powL (l : List Nat) : Nat → List Nat
  | 0 => l
  | k + 1 => timesL (powL l k) l
/-- The highest limbs' number, and whether there is something below, of the limbs from the highest on. -/
def topL (m : List Nat) (p2 : Nat) : Nat → Nat × Bool
  | 0 => (0, false)
  | k + 1 => if p2 ≤ m.length - 1 - k then ((topL m p2 k).1 * 65536 + m.getD (m.length - 1 - k) 0, (topL m p2 k).2) else ((topL m p2 k).1, (topL m p2 k).2 || decide (0 < m.getD (m.length - 1 - k) 0))
def aboveL (x power p : Nat) : Bool :=
  decide (p < (topL (powL (limbsL x) (power - 1)) (2 * power) (powL (limbsL x) (power - 1)).length).1) || (decide ((topL (powL (limbsL x) (power - 1)) (2 * power) (powL (limbsL x) (power - 1)).length).1 = p) && (topL (powL (limbsL x) (power - 1)) (2 * power) (powL (limbsL x) (power - 1)).length).2)
theorem limbs_ok {x : Nat} (h : x < 281474976710656) : Limb (limbsL x) := fun i => by
  unfold limbsL
  match i with
  | 0 => show x % 65536 < _; omega
  | 1 => show x / 65536 % 65536 < _; omega
  | 2 => show x / 4294967296 < _; omega
  | i + 3 => show (0 : Nat) < _; omega
theorem times_ok {a b : List Nat} (ha : Limb a) (hb : Limb b) : Limb (timesL a b) := (outT_ok ha hb a.length).1
theorem times_len (a b : List Nat) : (timesL a b).length = a.length + b.length := outT_len a b a.length
theorem pow_ok {l : List Nat} (h : Limb l) : ∀ k, Limb (powL l k)
  | 0 => h
  | k + 1 => times_ok (pow_ok h k) h
theorem pow_len (l : List Nat) : ∀ k, (powL l k).length = (k + 1) * l.length
  | 0 => by rw [powL, Nat.zero_add, Nat.one_mul]
  | k + 1 => by
    show (timesL (powL l k) l).length = _
    rw [times_len, pow_len l k, Nat.succ_mul (k + 1)]
theorem top_lt {m : List Nat} (h : Limb m) {p2 : Nat} : ∀ k, k ≤ m.length - p2 → (topL m p2 k).1 < 65536 ^ k
  | 0, _ => by show 0 < 1; decide
  | k + 1, hk => by
    have ih := top_lt h (p2 := p2) k (by omega)
    unfold topL
    rw [if_pos (by omega)]
    have := h (m.length - 1 - k)
    show (topL m p2 k).1 * 65536 + _ < _
    rw [Nat.pow_succ]
    generalize 65536 ^ k = P at *
    omega
theorem top_stay {m : List Nat} {p2 : Nat} : ∀ k, m.length - p2 ≤ k → k ≤ m.length → (topL m p2 k).1 = (topL m p2 (m.length - p2)).1
  | 0, h, _ => by rw [Nat.le_zero.1 h]
  | k + 1, h, h2 => by
    by_cases e : m.length - p2 = k + 1
    · rw [e]
    · rw [← top_stay k (by omega) (by omega)]
      conv => lhs; unfold topL
      rw [if_neg (by omega)]
theorem top_le {m : List Nat} (h : Limb m) {p2 : Nat} (hp : m.length - p2 ≤ 3) {k : Nat} (hk : k ≤ m.length) : (topL m p2 k).1 < 281474976710656 := by
  by_cases e : k ≤ m.length - p2
  · refine Nat.lt_of_lt_of_le (top_lt h k e) (Nat.le_trans (Nat.pow_le_pow_right (by decide) (show k ≤ 3 by omega)) (by decide))
  · rw [top_stay k (by omega) hk]
    exact Nat.lt_of_lt_of_le (top_lt h _ (Nat.le_refl _)) (Nat.le_trans (Nat.pow_le_pow_right (by decide) hp) (by decide))
theorem top_small {m : List Nat} (h : Limb m) {p2 : Nat} (hp : m.length - p2 ≤ 3) {k : Nat} (hk : k < m.length) (hi : p2 ≤ m.length - 1 - k) : (topL m p2 k).1 < 4294967296 :=
  Nat.lt_of_lt_of_le (top_lt h k (by omega)) (Nat.le_trans (Nat.pow_le_pow_right (by decide) (show k ≤ 2 by omega)) (by decide))

end Go.Proofs.YtffepndeegbdoaaGreatDoor.Slt
/- Salt: root, primes, Table of the plain text. -/
set_option linter.unusedVariables false
set_option linter.unusedSimpArgs false
set_option maxRecDepth 100000
namespace Go.Proofs.YtffepndeegbdoaaGreatDoor.Slt
open Go.RowKit Go.Lib Go.Proofs.YtffepndeegbdoaaGreatDoor.Bx

def rootL (p power : Nat) : Nat → Nat → Nat → Nat
  | 0, low, _ => low
  | f + 1, low, high => if 1 < high - low then (if aboveL ((low + high) / 2) power p = true then rootL p power f low ((low + high) / 2) else rootL p power f ((low + high) / 2) high) else low
def rootN (p power : Nat) : Nat := rootL p power 40 0 1099511627776 % 4294967296
def primes64 : List Nat := [2, 3, 5, 7, 11, 13, 17, 19, 23, 29, 31, 37, 41, 43, 47, 53, 59, 61, 67, 71, 73, 79, 83, 89, 97, 101, 103, 107, 109, 113, 127, 131, 137, 139, 149, 151, 157, 163, 167, 173, 179, 181, 191, 193, 197, 199, 211, 223, 227, 229, 233, 239, 241, 251, 257, 263, 269, 271, 277, 281, 283, 293, 307, 311]
/-- Those that were found ahead of j + 2. -/
def found (j : Nat) : List Nat := primes64.filter fun q => decide (q < j + 2)
theorem found_all : ∀ j, j < 310 → (found j).all (fun q => !((j + 2) % q == 0)) = decide (j + 2 ∈ primes64) := by decide +kernel
theorem found_next : ∀ j, j < 310 → found (j + 1) = found j ++ (if j + 2 ∈ primes64 then [j + 2] else []) := by decide +kernel
theorem found_take : ∀ j, j < 311 → found j = primes64.take (found j).length := by decide +kernel
theorem found_end : (found 310).length = 64 := by decide +kernel
theorem found_len {j : Nat} (hj : j < 311) : (found j).length ≤ 64 := by
  have h := congrArg List.length (found_take j hj)
  rw [List.length_take] at h
  have e : primes64.length = 64 := by decide
  omega
theorem found_pos {j : Nat} {q : Nat} (h : q ∈ found j) : 0 < q ∧ q < j + 2 := by
  unfold found at h
  rw [List.mem_filter] at h
  have h2 : ∀ x ∈ primes64, 0 < x := by decide
  exact ⟨h2 q h.1, of_decide_eq_true h.2⟩
theorem infoI64 : (Tryz.prog.info? 3).map (fun i => (i.zero, i.size, i.bytes)) = some (some (.int .i64 0), 1, 8) := by kernel_rfl
def OwnN (k : IntKind) (e : TypeId) (base : Nat) (w : World) (v : Value) (l : List Nat) : Prop := Rk.OwnK e 1 base w v (l.map fun x => [.int k (x : Nat)])
theorem OwnN.nums {k : IntKind} {e : TypeId} {base : Nat} {w : World} {v : Value} {l : List Nat} (h : OwnN k e base w v l) : Nums k w v l := by
  obtain ⟨_, a, cap, e1, h1, h2, h3⟩ := Rk.OwnK.row h
  rw [List.length_map] at e1 h1
  refine ⟨a, cap, e1, h1, h2, fun j hj => ?_⟩
  rcases h3 with h3 | ⟨b, off, rfl, hb, hc⟩
  · have : l.length = 0 := by rw [← List.length_map (f := fun x => [Value.int k (x : Nat)]), h3]; rfl
    omega
  · have := hc j (by rw [List.length_map]; exact hj) 0
    simp only [List.getElem_map, Nat.mul_one, Nat.add_zero] at this
    exact ⟨b, off, rfl, hb, this _ rfl⟩
theorem OwnN.is_slice {k : IntKind} {e : TypeId} {base : Nat} {w : World} {v : Value} {l : List Nat} (h : OwnN k e base w v l) : ∃ a cap, v = .slice a l.length cap := by
  obtain ⟨a, cap, e, _⟩ := h.nums
  exact ⟨a, cap, e⟩
theorem all_take_succ (f : Nat → Bool) (l : List Nat) {i : Nat} (hi : i < l.length) : (l.take (i + 1)).all f = ((l.take i).all f && f l[i]) := by
  rw [List.take_succ_eq_append_getElem hi, List.all_append]
  simp
end Go.Proofs.YtffepndeegbdoaaGreatDoor.Slt
/- Salt: Table of the plain text. -/
set_option linter.unusedVariables false
set_option linter.unusedSimpArgs false
set_option maxRecDepth 100000
namespace Go.Proofs.YtffepndeegbdoaaGreatDoor.Slt
open Go.RowKit Go.Lib Go.Proofs.YtffepndeegbdoaaGreatDoor.Bx

def tableL (n power : Nat) : List Nat := (primes64.take n).map (rootN · power)
theorem infoU32 : (Tryz.prog.info? 72).map (fun i => (i.zero, i.size, i.bytes)) = some (some (.int .u32 0), 1, 4) := by kernel_rfl
theorem rootN_lt (p power : Nat) : rootN p power < 4294967296 := Nat.mod_lt _ (by decide)
theorem OwnN.lower {k : IntKind} {e : TypeId} {base base' : Nat} {w : World} {v : Value} {l : List Nat} (h : OwnN k e base w v l) (hb : base' ≤ base) : OwnN k e base' w v l := by
  refine ⟨h.1, h.2.1, ?_⟩
  rcases h.2.2 with h0 | ⟨g, cap, cur, h1, h2, h3⟩
  · exact .inl h0
  · exact .inr ⟨g, cap, cur, h1, Nat.le_trans hb h2, h3⟩
/-- A row of the call's own. -/
def GiveO (l : List Nat) (w : World) (e : Ending) (w' : World) : Prop := ∃ v, e = .returned v ∧ OwnN .u32 72 w.heap.size w' v l ∧ Below w.heap.size w w'
end Go.Proofs.YtffepndeegbdoaaGreatDoor.Slt
