/- Ledger: records in a ring of plates, as lists of bytes. No program is spoken of here. -/
import Derived.Test.YtffejfpbeimngaaDoorGi
import Derived.Test.YtffejfpbeimngaaDoorLp
import Derived.Test.YtffejfpbeimngaaDoorLw
import Derived.Lib.TrimByte
set_option linter.unusedVariables false
set_option linter.unusedSimpArgs false
namespace Go.Proofs.YtffejfpbeimngaaDoor.Ldg
open Go.Lib Go.Proofs.YtffejfpbeimngaaDoor.Frm Go.Proofs.YtffejfpbeimngaaDoor.Wds

/-- A head's bytes. -/
def headL (number : Nat) (m : Nat) : List UInt8 := 72 :: (numL number ++ (pairL m ++ List.replicate 117 0))
theorem pair_len (n : Nat) : (pairL n).length = 2 := rfl
theorem headL_len (number m : Nat) : (headL number m).length = 128 := by
  unfold headL
  rw [List.length_cons, List.length_append, List.length_append, num_len, pair_len, List.length_replicate]
def lenOf (h : List UInt8) : Nat := (h.getD 9 0).toNat * 256 + (h.getD 10 0).toNat
theorem lenOf_le (h : List UInt8) : lenOf h ≤ 65535 := by
  unfold lenOf
  have := (h.getD 9 0).toNat_lt
  have := (h.getD 10 0).toNat_lt
  omega
def isHead (h : List UInt8) (number : Nat) : Bool := decide (number < 1099511627776) && (decide (0 < lenOf h) && decide (h = headL number (lenOf h)))
/-- The place of the ith plate behind a head at p. -/
def plc (n p i : Nat) : Nat := (p + 1 + i) % n
def cat (c : Nat → List UInt8) (n p k : Nat) : List UInt8 := (List.range k).flatMap fun i => (c (plc n p i)).drop 1
def bods (c : Nat → List UInt8) (n p k : Nat) : Bool := (List.range k).all fun i => decide ((c (plc n p i)).getD 0 0 = 66)
def zeros (l : List UInt8) : Bool := l.all fun x => decide (x = 0)
def textOf (c : Nat → List UInt8) (n p m : Nat) : Option (List UInt8) := if (bods c n p (bodN m) && zeros ((cat c n p (bodN m)).drop m)) = true then some ((cat c n p (bodN m)).take m) else none
def recOf (c : Nat → List UInt8) (n p number room : Nat) : Option (List UInt8) :=
  if (isHead (c p) number && decide (1 + bodN (lenOf (c p)) ≤ room)) = true then textOf c n p (lenOf (c p)) else none
def recs (c : Nat → List UInt8) (n : Nat) : Nat → Nat → Nat → Nat → List (List UInt8)
  | 0, _, _, _ => []
  | f + 1, p, number, room => match recOf c n p number room with
    | none => []
    | some s => s :: recs c n f ((p + platesN s.length) % n) (number + 1) (room - platesN s.length)
def recsR (c : Nat → List UInt8) (n p number room : Nat) : List (List UInt8) := recs c n room p number room

theorem cat_len {c : Nat → List UInt8} {n p : Nat} (hn : 0 < n) (hc : ∀ i, i < n → (c i).length = 128) : ∀ k, (cat c n p k).length = 127 * k
  | 0 => rfl
  | k + 1 => by
    unfold cat
    rw [List.range_succ, List.flatMap_append, List.length_append, show ((List.range k).flatMap fun i => (c (plc n p i)).drop 1).length = 127 * k from cat_len hn hc k]
    simp only [List.flatMap_cons, List.flatMap_nil, List.append_nil, List.length_drop]
    rw [hc (plc n p k) (Nat.mod_lt _ hn)]
    omega
theorem cat_next (c : Nat → List UInt8) (n p k : Nat) : cat c n p (k + 1) = cat c n p k ++ (c (plc n p k)).drop 1 := by
  unfold cat
  rw [List.range_succ, List.flatMap_append]
  simp
theorem bods_next (c : Nat → List UInt8) (n p k : Nat) : bods c n p (k + 1) = (bods c n p k && decide ((c (plc n p k)).getD 0 0 = 66)) := by
  unfold bods
  rw [List.range_succ, List.all_append]
  simp
theorem bods_at {c : Nat → List UInt8} {n p k i : Nat} (hi : i < k) (h : (c (plc n p i)).getD 0 0 ≠ 66) : bods c n p k = false := by
  unfold bods
  rw [List.all_eq_false]
  exact ⟨i, List.mem_range.2 hi, by simpa using h⟩
theorem bod_le (m : Nat) : m ≤ 127 * bodN m := by unfold bodN; omega
theorem bod_pos {m : Nat} (h : 0 < m) : 1 ≤ bodN m := by unfold bodN; omega
theorem plates_pos {m : Nat} (h : 0 < m) (h2 : m ≤ 65535) : platesN m = 1 + bodN m := if_neg (by omega)
theorem text_some {c : Nat → List UInt8} {n p m : Nat} {s : List UInt8} (hn : 0 < n) (hc : ∀ i, i < n → (c i).length = 128) (h : textOf c n p m = some s) : s.length = m := by
  unfold textOf at h
  split at h
  · injection h with h
    subst h
    rw [List.length_take, cat_len hn hc]
    have := bod_le m
    omega
  · cases h
theorem rec_some {c : Nat → List UInt8} {n p number room : Nat} {s : List UInt8} (hn : 0 < n) (hc : ∀ i, i < n → (c i).length = 128) (h : recOf c n p number room = some s) : number < 1099511627776 ∧ s.length = lenOf (c p) ∧ 0 < s.length ∧ s.length ≤ 65535 ∧ platesN s.length = 1 + bodN (lenOf (c p)) ∧ platesN s.length ≤ room := by
  unfold recOf at h
  split at h
  · rename_i h0
    simp only [isHead, Bool.and_eq_true, decide_eq_true_eq] at h0
    have e := text_some hn hc h
    have := lenOf_le (c p)
    have ep : platesN s.length = 1 + bodN (lenOf (c p)) := by rw [e]; exact plates_pos h0.1.2.1 this
    exact ⟨h0.1.1, e, by omega, by omega, ep, by omega⟩
  · cases h
theorem rec_room {c : Nat → List UInt8} {n p number : Nat} : recOf c n p number 0 = none := by
  unfold recOf
  rw [if_neg]
  simp
theorem recs_fuel {c : Nat → List UInt8} {n : Nat} (hn : 0 < n) (hc : ∀ i, i < n → (c i).length = 128) : ∀ f g p number room, room ≤ f → room ≤ g → recs c n f p number room = recs c n g p number room
  | 0, 0, _, _, _, _, _ => rfl
  | 0, g + 1, p, number, room, h, _ => by
    have : room = 0 := by omega
    subst this
    show [] = _
    unfold recs
    rw [rec_room]
  | f + 1, 0, p, number, room, _, h => by
    have : room = 0 := by omega
    subst this
    show _ = []
    unfold recs
    rw [rec_room]
  | f + 1, g + 1, p, number, room, h1, h2 => by
    unfold recs
    cases h : recOf c n p number room with
    | none => rfl
    | some s =>
      obtain ⟨_, _, q3, _, q5, q6⟩ := rec_some hn hc h
      show _ :: _ = _ :: _
      rw [recs_fuel hn hc f g _ _ _ (by omega) (by omega)]
theorem recsR_none {c : Nat → List UInt8} {n p number room : Nat} (h : recOf c n p number room = none) : recsR c n p number room = [] := by
  unfold recsR
  cases room with
  | zero => rfl
  | succ r => unfold recs; rw [h]
theorem recsR_some {c : Nat → List UInt8} {n p number room : Nat} {s : List UInt8} (hn : 0 < n) (hc : ∀ i, i < n → (c i).length = 128) (h : recOf c n p number room = some s) : recsR c n p number room = s :: recsR c n ((p + platesN s.length) % n) (number + 1) (room - platesN s.length) := by
  obtain ⟨_, _, q3, _, q5, q6⟩ := rec_some hn hc h
  unfold recsR
  cases room with
  | zero => omega
  | succ r =>
    have e : recs c n (r + 1) p number (r + 1) = s :: recs c n r ((p + platesN s.length) % n) (number + 1) (r + 1 - platesN s.length) := by rw [recs, h]
    rw [e, recs_fuel hn hc r (r + 1 - platesN s.length) _ _ _ (by omega) (Nat.le_refl _)]

/-! a head's bytes, one by one -/
theorem val_snoc (l : List UInt8) (x : UInt8) : valN (l ++ [x]) = valN l * 256 + x.toNat := by
  unfold valN
  rw [List.foldl_append]
  rfl
theorem val_grows : ∀ (l : List UInt8) (s : Nat), s ≤ l.foldl (fun a b => a * 256 + b.toNat) s
  | [], s => Nat.le_refl s
  | x :: l, s => Nat.le_trans (by omega) (val_grows l (s * 256 + x.toNat))
theorem val_take (l : List UInt8) (j : Nat) : valN (l.take j) ≤ valN l := by
  have h : valN l = (l.drop j).foldl (fun a b => a * 256 + b.toNat) (valN (l.take j)) := by
    unfold valN
    rw [← List.foldl_append, List.take_append_drop]
  rw [h]
  exact val_grows _ _
/-- The number that a head tells. -/
def numOf (h : List UInt8) (j : Nat) : Nat := valN ((h.drop 1).take j)
theorem numOf_zero (h : List UInt8) : numOf h 0 = 0 := by simp [numOf, valN]
theorem numOf_next {h : List UInt8} {j : Nat} (hj : 1 + j < h.length) : numOf h (j + 1) = numOf h j * 256 + (h.getD (1 + j) 0).toNat := by
  unfold numOf
  rw [List.take_add_one, List.getElem?_drop, List.getElem?_eq_getElem hj, Option.toList_some, val_snoc, List.getD_eq_getElem?_getD, List.getElem?_eq_getElem hj]
  rfl
theorem numOf_le (h : List UInt8) {j : Nat} (hj : j ≤ 8) : numOf h j ≤ numOf h 8 := by
  unfold numOf
  have e : (h.drop 1).take j = ((h.drop 1).take 8).take j := by rw [List.take_take, Nat.min_eq_left hj]
  rw [e]
  exact val_take _ _
theorem head_num {number m : Nat} (hn : number < 1099511627776) : numOf (headL number m) 8 = number := by
  unfold numOf headL
  rw [List.drop_one, List.tail_cons, List.take_append_of_le_length (by rw [num_len]; exact Nat.le_refl _), List.take_of_length_le (by rw [num_len]; exact Nat.le_refl _), val_num]
  have := u64_int number
  omega
theorem head_first (number m : Nat) : (headL number m).getD 0 0 = 72 := rfl
theorem head_len {number m : Nat} (hm : m ≤ 65535) : lenOf (headL number m) = m := by
  unfold lenOf headL
  have e9 : (72 :: (numL number ++ (pairL m ++ List.replicate 117 0))).getD 9 0 = UInt8.ofNat (m / 256) := rfl
  have e10 : (72 :: (numL number ++ (pairL m ++ List.replicate 117 0))).getD 10 0 = UInt8.ofNat (m % 256) := rfl
  rw [e9, e10, UInt8.toNat_ofNat', UInt8.toNat_ofNat', Nat.mod_eq_of_lt (a := m / 256) (by omega), Nat.mod_eq_of_lt (a := m % 256) (by omega)]
  omega
theorem head_zero (number m : Nat) {i : Nat} (h1 : 11 ≤ i) : (headL number m).getD i 0 = 0 := by
  have e : headL number m = (72 :: (numL number ++ pairL m)) ++ List.replicate 117 0 := by unfold headL; simp
  have el : (72 :: (numL number ++ pairL m)).length = 11 := by rw [List.length_cons, List.length_append, num_len, pair_len]
  rw [e, List.getD_eq_getElem?_getD, List.getElem?_append_right (by omega), List.getElem?_replicate]
  split <;> rfl
theorem head_of {h : List UInt8} {number : Nat} (hl : h.length = 128) (h0 : h.getD 0 0 = 72) (hv : numOf h 8 = number) (hn : number < 1099511627776) (hz : ∀ i, 11 ≤ i → i < 128 → h.getD i 0 = 0) : h = headL number (lenOf h) := by
  match h, hl, h0 with
  | x0 :: x1 :: x2 :: x3 :: x4 :: x5 :: x6 :: x7 :: x8 :: x9 :: x10 :: r, hl, h0 =>
    have e0 : x0 = 72 := h0
    have e1 : numOf (x0 :: x1 :: x2 :: x3 :: x4 :: x5 :: x6 :: x7 :: x8 :: x9 :: x10 :: r) 8 = valN [x1, x2, x3, x4, x5, x6, x7, x8] := rfl
    have e2 := num_val (t := [x1, x2, x3, x4, x5, x6, x7, x8]) rfl
    have e3 : back (valN [x1, x2, x3, x4, x5, x6, x7, x8]) = (number : Int) := by
      rw [← e1, hv]
      unfold back
      rw [Nat.mod_eq_of_lt (by omega), if_pos (by omega)]
    rw [e3] at e2
    have e4 : lenOf (x0 :: x1 :: x2 :: x3 :: x4 :: x5 :: x6 :: x7 :: x8 :: x9 :: x10 :: r) = x9.toNat * 256 + x10.toNat := rfl
    have e5 : pairL (x9.toNat * 256 + x10.toNat) = [x9, x10] := by
      have h9 := x9.toNat_lt
      have h10 := x10.toNat_lt
      unfold pairL
      rw [show (x9.toNat * 256 + x10.toNat) / 256 = x9.toNat by omega, show (x9.toNat * 256 + x10.toNat) % 256 = x10.toNat by omega, UInt8.ofNat_toNat, UInt8.ofNat_toNat]
    have e6 : r = List.replicate 117 0 := by
      rw [List.eq_replicate_iff]
      have hr : r.length = 117 := by simp only [List.length_cons] at hl; omega
      refine ⟨hr, fun b hb => ?_⟩
      obtain ⟨i, hi, rfl⟩ := List.getElem_of_mem hb
      have := hz (11 + i) (by omega) (by omega)
      rw [List.getD_eq_getElem?_getD] at this
      have e : (x0 :: x1 :: x2 :: x3 :: x4 :: x5 :: x6 :: x7 :: x8 :: x9 :: x10 :: r)[11 + i]? = r[i]? := by
        rw [show 11 + i = i + 1 + 1 + 1 + 1 + 1 + 1 + 1 + 1 + 1 + 1 + 1 by omega]
        simp
      rw [e, List.getElem?_eq_getElem hi] at this
      exact this
    rw [e4]
    unfold headL
    rw [e2, e5, ← e6, e0]
    rfl
theorem isHead_is {h : List UInt8} {number : Nat} (k : isHead h number = true) : number < 1099511627776 ∧ 0 < lenOf h ∧ h = headL number (lenOf h) := by
  simpa [isHead] using k
theorem isHead_of {h : List UInt8} {number : Nat} (h1 : number < 1099511627776) (h2 : 0 < lenOf h) (h3 : h = headL number (lenOf h)) : isHead h number = true := by
  unfold isHead
  rw [decide_eq_true h1, decide_eq_true h2, decide_eq_true h3]
  rfl
theorem isHead_no {h : List UInt8} {number : Nat} (k : ¬ (number < 1099511627776 ∧ 0 < lenOf h ∧ h = headL number (lenOf h))) : isHead h number = false := by
  cases e : isHead h number with
  | false => rfl
  | true => exact absurd (isHead_is e) k
theorem no_first {h : List UInt8} {number : Nat} (k : h.getD 0 0 ≠ 72) : isHead h number = false := isHead_no fun ⟨_, _, e⟩ => k (by rw [e]; exact head_first _ _)
theorem no_big {h : List UInt8} {number j : Nat} (hj : j ≤ 8) (k : 1099511627776 ≤ numOf h j) : isHead h number = false := isHead_no fun ⟨a, _, e⟩ => by
  have h1 := numOf_le h hj
  rw [e, head_num a] at h1
  rw [e] at k
  omega
theorem no_num {h : List UInt8} {number : Nat} (k : numOf h 8 ≠ number) : isHead h number = false := isHead_no fun ⟨a, _, e⟩ => k (by rw [e]; exact head_num a)
theorem no_zero {h : List UInt8} {number i : Nat} (h1 : 11 ≤ i) (k : h.getD i 0 ≠ 0) : isHead h number = false := isHead_no fun ⟨a, _, e⟩ => k (by rw [e]; exact head_zero _ _ h1)
theorem rec_no {c : Nat → List UInt8} {n p number room : Nat} (h : isHead (c p) number = false) : recOf c n p number room = none := by
  unfold recOf
  rw [h, if_neg (by simp)]
theorem rec_full {c : Nat → List UInt8} {n p number room : Nat} (h : room < 1 + bodN (lenOf (c p))) : recOf c n p number room = none := by
  unfold recOf
  rw [decide_eq_false (by omega), if_neg (by simp)]
theorem rec_text {c : Nat → List UInt8} {n p number room : Nat} (h : isHead (c p) number = true) (h2 : 1 + bodN (lenOf (c p)) ≤ room) : recOf c n p number room = textOf c n p (lenOf (c p)) := by
  unfold recOf
  rw [h, decide_eq_true h2]
  rfl
theorem text_bod {c : Nat → List UInt8} {n p m : Nat} (h : bods c n p (bodN m) = false) : textOf c n p m = none := by
  unfold textOf
  rw [h]
  rfl
theorem text_tail {c : Nat → List UInt8} {n p m : Nat} (h : zeros ((cat c n p (bodN m)).drop m) = false) : textOf c n p m = none := by
  unfold textOf
  rw [h, Bool.and_false]
  rfl
theorem text_yes {c : Nat → List UInt8} {n p m : Nat} (h1 : bods c n p (bodN m) = true) (h2 : zeros ((cat c n p (bodN m)).drop m) = true) : textOf c n p m = some ((cat c n p (bodN m)).take m) := by
  unfold textOf
  rw [h1, h2]
  rfl
theorem zeros_at {l : List UInt8} {i : Nat} (hi : i < l.length) (h : l.getD i 0 ≠ 0) : zeros l = false := by
  unfold zeros
  rw [List.all_eq_false]
  refine ⟨l[i], List.getElem_mem hi, ?_⟩
  rw [List.getD_eq_getElem?_getD, List.getElem?_eq_getElem hi] at h
  simpa using h
theorem zeros_all {l : List UInt8} (h : ∀ i, i < l.length → l.getD i 0 = 0) : zeros l = true := by
  unfold zeros
  rw [List.all_eq_true]
  intro x hx
  obtain ⟨i, hi, rfl⟩ := List.getElem_of_mem hx
  have := h i hi
  rw [List.getD_eq_getElem?_getD, List.getElem?_eq_getElem hi] at this
  simpa using this
end Go.Proofs.YtffejfpbeimngaaDoor.Ldg
