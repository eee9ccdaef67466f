/- Ledger: what the plates of a ring hold behind a record that was appended. No program is spoken of here. -/
import Derived.Test.YtffejfpbeimngaaDoorLa
set_option linter.unusedVariables false
set_option linter.unusedSimpArgs false
namespace Go.Proofs.YtffejfpbeimngaaDoor.Ldg
open Go.Lib Go.Proofs.YtffejfpbeimngaaDoor.Frm Go.Proofs.YtffejfpbeimngaaDoor.Wds

def pad (l : List UInt8) : List UInt8 := l ++ List.replicate (128 - l.length) 0
def bodyP (s : List UInt8) (i : Nat) : List UInt8 := (s.drop (127 * i)).take 127
def plateP (s : List UInt8) (i : Nat) : List UInt8 := 66 :: bodyP s i
theorem bodyP_len (s : List UInt8) (i : Nat) : (bodyP s i).length = min 127 (s.length - 127 * i) := by
  unfold bodyP
  rw [List.length_take, List.length_drop]
theorem plateP_le (s : List UInt8) (i : Nat) : (plateP s i).length ≤ 128 := by
  unfold plateP
  rw [List.length_cons, bodyP_len]
  omega
theorem pad_len {l : List UInt8} (h : l.length ≤ 128) : (pad l).length = 128 := by
  unfold pad
  rw [List.length_append, List.length_replicate]
  omega
def put {α : Type} (c : Nat → α) (q : Nat) (x : α) : Nat → α := fun j => if j = q then x else c j
theorem put_same {α : Type} (c : Nat → α) (q : Nat) (x : α) : put c q x q = x := if_pos rfl
theorem put_other {α : Type} (c : Nat → α) {q j : Nat} (x : α) (h : j ≠ q) : put c q x j = c j := if_neg h
def putBody (c : Nat → List UInt8) (n p : Nat) (s : List UInt8) : Nat → Nat → List UInt8
  | 0 => c
  | i + 1 => put (putBody c n p s i) (plc n p i) (pad (plateP s i))
def putRec (c : Nat → List UInt8) (n p number : Nat) (s : List UInt8) : Nat → List UInt8 := put (putBody c n p s (bodN s.length)) p (headL number s.length)
theorem plc_lt {n p i : Nat} (hn : 0 < n) : plc n p i < n := Nat.mod_lt _ hn
theorem mod_cases {n a : Nat} (h : a < n + n) (hn : 0 < n) : (a < n ∧ a % n = a) ∨ (n ≤ a ∧ a % n = a - n) := by
  by_cases e : a < n
  · exact .inl ⟨e, Nat.mod_eq_of_lt e⟩
  · refine .inr ⟨by omega, ?_⟩
    rw [Nat.mod_eq_sub_mod (by omega), Nat.mod_eq_of_lt (by omega)]
theorem plc_ne {n p i : Nat} (hp : p < n) (hi : 1 + i < n) : plc n p i ≠ p := by
  unfold plc
  rcases mod_cases (n := n) (a := p + 1 + i) (by omega) (by omega) with ⟨_, e⟩ | ⟨_, e⟩ <;> omega
theorem plc_inj {n p i j : Nat} (hp : p < n) (hi : 1 + i < n) (hj : 1 + j < n) (hij : i ≠ j) : plc n p i ≠ plc n p j := by
  unfold plc
  rcases mod_cases (n := n) (a := p + 1 + i) (by omega) (by omega) with ⟨_, e⟩ | ⟨_, e⟩ <;> rcases mod_cases (n := n) (a := p + 1 + j) (by omega) (by omega) with ⟨_, e'⟩ | ⟨_, e'⟩ <;> omega
theorem putBody_at {c : Nat → List UInt8} {n p : Nat} {s : List UInt8} (hp : p < n) : ∀ k, k < n → ∀ i, i < k → putBody c n p s k (plc n p i) = pad (plateP s i)
  | 0, _, i, h => absurd h (by omega)
  | k + 1, hk, i, h => by
    show put _ _ _ _ = _
    by_cases e : i = k
    · subst e
      exact put_same _ _ _
    · rw [put_other _ _ (plc_inj hp (by omega) (by omega) e)]
      exact putBody_at hp k (by omega) i (by omega)
theorem putBody_len {c : Nat → List UInt8} {n p : Nat} {s : List UInt8} (hc : ∀ q, q < n → (c q).length = 128) : ∀ k q, q < n → (putBody c n p s k q).length = 128
  | 0, q, h => hc q h
  | k + 1, q, h => by
    show List.length (put _ _ _ _) = _
    by_cases e : q = plc n p k
    · rw [e, put_same]
      exact pad_len (plateP_le s k)
    · rw [put_other _ _ e]
      exact putBody_len hc k q h
theorem putRec_len {c : Nat → List UInt8} {n p number : Nat} {s : List UInt8} (hc : ∀ q, q < n → (c q).length = 128) (q : Nat) (h : q < n) : (putRec c n p number s q).length = 128 := by
  unfold putRec
  by_cases e : q = p
  · rw [e, put_same]
    exact headL_len _ _
  · rw [put_other _ _ e]
    exact putBody_len hc _ q h
/-- The record's bytes, and zeros behind them. -/
def fullS (s : List UInt8) : List UInt8 := s ++ List.replicate (127 * bodN s.length - s.length) 0
theorem fullS_len (s : List UInt8) : (fullS s).length = 127 * bodN s.length := by
  unfold fullS
  rw [List.length_append, List.length_replicate]
  have := bod_le s.length
  omega
theorem part_is (s : List UInt8) {i : Nat} (hi : i < bodN s.length) : (pad (plateP s i)).drop 1 = ((fullS s).drop (127 * i)).take 127 := by
  have h1 : 127 * i < s.length := by unfold bodN at hi; omega
  have h2 : bodN s.length = (s.length + 126) / 127 := rfl
  have e1 : (pad (plateP s i)).drop 1 = bodyP s i ++ List.replicate (127 - (bodyP s i).length) 0 := by
    unfold pad plateP
    rw [List.length_cons, List.cons_append, List.drop_one, List.tail_cons]
    congr 2
    omega
  have e2 : (fullS s).drop (127 * i) = s.drop (127 * i) ++ List.replicate (127 * bodN s.length - s.length) 0 := by
    unfold fullS
    rw [List.drop_append_of_le_length (by omega)]
  rw [e1, e2, List.take_append, bodyP_len, List.take_replicate, List.length_drop]
  unfold bodyP
  congr 2
  omega
theorem cat_put {c' : Nat → List UInt8} {n p : Nat} {s : List UInt8} (h : ∀ i, i < bodN s.length → c' (plc n p i) = pad (plateP s i)) : ∀ k, k ≤ bodN s.length → cat c' n p k = (fullS s).take (127 * k)
  | 0, _ => by simp [cat]
  | k + 1, hk => by
    rw [cat_next, cat_put h k (by omega), h k (by omega), part_is s (by omega), show 127 * (k + 1) = 127 * k + 127 by omega, List.take_add]
theorem bods_put {c' : Nat → List UInt8} {n p : Nat} {s : List UInt8} (h : ∀ i, i < bodN s.length → c' (plc n p i) = pad (plateP s i)) : bods c' n p (bodN s.length) = true := by
  unfold bods
  rw [List.all_eq_true]
  intro i hi
  rw [h i (List.mem_range.1 hi)]
  rfl
theorem zeros_rep (k : Nat) : zeros (List.replicate k 0) = true := zeros_all fun i hi => by
  rw [List.length_replicate] at hi
  rw [List.getD_eq_getElem?_getD, List.getElem?_replicate_of_lt hi]
  rfl
theorem rec_put {c : Nat → List UInt8} {n p number room : Nat} {s : List UInt8} (hp : p < n) (h0 : 0 < s.length) (h1 : s.length ≤ 65535) (hn : number < 1099511627776) (hk : 1 + bodN s.length ≤ n) (hr : 1 + bodN s.length ≤ room) : recOf (putRec c n p number s) n p number room = some s := by
  have eh : putRec c n p number s p = headL number s.length := put_same _ _ _
  have el : lenOf (putRec c n p number s p) = s.length := by rw [eh]; exact head_len h1
  have hb : ∀ i, i < bodN s.length → putRec c n p number s (plc n p i) = pad (plateP s i) := fun i hi => by
    unfold putRec
    rw [put_other _ _ (plc_ne hp (by omega))]
    exact putBody_at hp _ (by omega) i hi
  have hc := cat_put hb _ (Nat.le_refl _)
  rw [← fullS_len, List.take_length] at hc
  rw [rec_text (isHead_of hn (by rw [el]; exact h0) (by rw [el, eh])) (by rw [el]; exact hr), el]
  have e2 : (fullS s).drop s.length = List.replicate (127 * bodN s.length - s.length) 0 := by
    unfold fullS
    rw [List.drop_append_of_le_length (Nat.le_refl _), List.drop_length, List.nil_append]
  have e3 : (fullS s).take s.length = s := by
    unfold fullS
    rw [List.take_append_of_le_length (Nat.le_refl _), List.take_length]
  rw [text_yes (bods_put hb) (by rw [hc, e2]; exact zeros_rep _), hc, e3]
/-- No plate of the ring is a head of this number, or of one above. -/
def NoHead (c : Nat → List UInt8) (n number : Nat) : Prop := ∀ q, q < n → ∀ m, number ≤ m → isHead (c q) m = false
theorem noHead_put {c : Nat → List UInt8} {n p number : Nat} {s : List UInt8} (h : NoHead c n number) : NoHead (putRec c n p number s) n (number + 1) := by
  have hb : ∀ k, NoHead (putBody c n p s k) n number := fun k => by
    induction k with
    | zero => exact h
    | succ k ih =>
      intro q hq m hm
      show isHead (put _ _ _ _) m = false
      by_cases e : q = plc n p k
      · rw [e, put_same]
        exact no_first (show (66 : UInt8) ≠ 72 by decide)
      · rw [put_other _ _ e]
        exact ih q hq m hm
  intro q hq m hm
  unfold putRec
  by_cases e : q = p
  · rw [e, put_same]
    by_cases hm2 : number < 1099511627776
    · exact no_num (by rw [head_num hm2]; omega)
    · exact isHead_no fun ⟨a, _, _⟩ => by omega
  · rw [put_other _ _ e]
    exact hb _ q hq m (by omega)
/-- Behind a record that was appended there is just that one. -/
theorem recs_put {c : Nat → List UInt8} {n p number : Nat} {s : List UInt8} (hc : ∀ q, q < n → (c q).length = 128) (hp : p < n) (h0 : 0 < s.length) (h1 : s.length ≤ 65535) (hn : number < 1099511627776) (hk : 1 + bodN s.length ≤ n) (h : NoHead c n number) : recsR (putRec c n p number s) n p number n = [s] := by
  rw [recsR_some (by omega) (putRec_len hc) (rec_put hp h0 h1 hn hk hk), recsR_none]
  exact rec_no (noHead_put h _ (Nat.mod_lt _ (by omega)) _ (Nat.le_refl _))
end Go.Proofs.YtffejfpbeimngaaDoor.Ldg
