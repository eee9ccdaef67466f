/- Plain lists alone: right texts (no byte alone), their letters' places behind a cut and a put. No program is spoken of here. -/
import Derived.Test.YtengmiolcfgdiaaDoorLet
set_option linter.unusedVariables false
namespace Go.Proofs.YtengmiolcfgdiaaDoor.Let
open Go.Lib

theorem dN_more (n n' b0 b1 b2 b3 c1 c2 c3 : Nat) (hn : n ≤ n') (h1 : 1 < n → c1 = b1) (h2 : 2 < n → c2 = b2) (h3 : 3 < n → c3 = b3) (hok : ¬ ((decodeN n b0 b1 b2 b3).1 = 65533 ∧ (decodeN n b0 b1 b2 b3).2 = 1)) :
    decodeN n' b0 c1 c2 c3 = decodeN n b0 b1 b2 b3 := by
  unfold decodeN at hok ⊢
  by_cases a0 : b0 < 128
  · rw [if_pos a0, if_pos a0]
  rw [if_neg a0] at hok ⊢
  rw [if_neg a0]
  by_cases a1 : b0 / 32 = 6 ∧ (1 < n ∧ b1 / 64 = 2)
  · obtain rfl := h1 a1.2.1
    rw [if_pos a1, if_pos ⟨a1.1, by omega, a1.2.2⟩]
  rw [if_neg a1] at hok ⊢
  by_cases a2 : b0 / 16 = 14 ∧ (1 < n ∧ b1 / 64 = 2) ∧ (2 < n ∧ b2 / 64 = 2)
  · obtain rfl := h1 a2.2.1.1
    obtain rfl := h2 a2.2.2.1
    rw [if_pos a2, if_neg (by omega), if_pos ⟨a2.1, ⟨by omega, a2.2.1.2⟩, by omega, a2.2.2.2⟩]
  rw [if_neg a2] at hok ⊢
  by_cases a3 : b0 / 8 = 30 ∧ (1 < n ∧ b1 / 64 = 2) ∧ (2 < n ∧ b2 / 64 = 2) ∧ (3 < n ∧ b3 / 64 = 2)
  · obtain rfl := h1 a3.2.1.1
    obtain rfl := h2 a3.2.2.1.1
    obtain rfl := h3 a3.2.2.2.1
    rw [if_pos a3, if_neg (by omega), if_neg (by omega), if_pos ⟨a3.1, ⟨by omega, a3.2.1.2⟩, ⟨by omega, a3.2.2.1.2⟩, by omega, a3.2.2.2.2⟩]
  · rw [if_neg a3] at hok
    exact absurd ⟨rfl, rfl⟩ hok

theorem dN_less (n m b0 b1 b2 b3 c1 c2 c3 : Nat) (hm : m ≤ n) (h1 : 1 < m → c1 = b1) (h2 : 2 < m → c2 = b2) (h3 : 3 < m → c3 = b3) (hw : (decodeN n b0 b1 b2 b3).2 ≤ m) (hok : ¬ ((decodeN n b0 b1 b2 b3).1 = 65533 ∧ (decodeN n b0 b1 b2 b3).2 = 1)) :
    decodeN m b0 c1 c2 c3 = decodeN n b0 b1 b2 b3 := by
  unfold decodeN at hok hw ⊢
  by_cases a0 : b0 < 128
  · rw [if_pos a0, if_pos a0]
  rw [if_neg a0] at hok hw ⊢
  rw [if_neg a0]
  by_cases a1 : b0 / 32 = 6 ∧ (1 < n ∧ b1 / 64 = 2)
  · rw [if_pos a1] at hok hw ⊢
    by_cases g : b0 % 32 * 64 + b1 % 64 ≥ 128
    · rw [if_pos g] at hw ⊢
      have hw' : 2 ≤ m := by simpa using hw
      obtain rfl := h1 (by omega)
      rw [if_pos ⟨a1.1, by omega, a1.2.2⟩, if_pos g]
    · rw [if_neg g] at hok
      exact absurd ⟨rfl, rfl⟩ hok
  rw [if_neg a1] at hok hw ⊢
  by_cases a2 : b0 / 16 = 14 ∧ (1 < n ∧ b1 / 64 = 2) ∧ (2 < n ∧ b2 / 64 = 2)
  · rw [if_pos a2] at hok hw ⊢
    split at hw
    · rename_i g
      have hw' : 3 ≤ m := by simpa using hw
      obtain rfl := h1 (by omega)
      obtain rfl := h2 (by omega)
      rw [if_neg (by omega), if_pos ⟨a2.1, ⟨by omega, a2.2.1.2⟩, by omega, a2.2.2.2⟩]
    · rename_i g
      rw [if_neg g] at hok
      exact absurd ⟨rfl, rfl⟩ hok
  rw [if_neg a2] at hok hw ⊢
  by_cases a3 : b0 / 8 = 30 ∧ (1 < n ∧ b1 / 64 = 2) ∧ (2 < n ∧ b2 / 64 = 2) ∧ (3 < n ∧ b3 / 64 = 2)
  · rw [if_pos a3] at hok hw ⊢
    split at hw
    · rename_i g
      have hw' : 4 ≤ m := by simpa using hw
      obtain rfl := h1 (by omega)
      obtain rfl := h2 (by omega)
      obtain rfl := h3 (by omega)
      rw [if_neg (by omega), if_neg (by omega), if_pos ⟨a3.1, ⟨by omega, a3.2.1.2⟩, ⟨by omega, a3.2.2.1.2⟩, by omega, a3.2.2.2.2⟩]
    · rename_i g
      rw [if_neg g] at hok
      exact absurd ⟨rfl, rfl⟩ hok
  · rw [if_neg a3] at hok
    exact absurd ⟨rfl, rfl⟩ hok

def bad (l : List UInt8) : Prop := (decodeL l).1 = 65533 ∧ (decodeL l).2 = 1

theorem getD_app {x y : List UInt8} {k : Nat} (h : k < x.length) : (x ++ y).getD k 0 = x.getD k 0 := by
  rw [List.getD_eq_getElem?_getD, List.getD_eq_getElem?_getD, List.getElem?_append_left h]
theorem getD_take' {x : List UInt8} {m k : Nat} (h : k < m) : (x.take m).getD k 0 = x.getD k 0 := by
  rw [List.getD_eq_getElem?_getD, List.getD_eq_getElem?_getD, List.getElem?_take, if_pos h]

theorem dl_app {x y : List UInt8} (hx : x ≠ []) (hok : ¬ bad x) : decodeL (x ++ y) = decodeL x := by
  have hl : 0 < x.length := List.length_pos_iff.2 hx
  unfold bad at hok
  rw [decodeL_N x] at hok ⊢
  rw [decodeL_N, getD_app hl]
  exact dN_more _ _ _ _ _ _ _ _ _ (by rw [List.length_append]; omega) (fun h => by rw [getD_app h]) (fun h => by rw [getD_app h]) (fun h => by rw [getD_app h]) hok

theorem dl_take {x : List UInt8} {m : Nat} (hm0 : 0 < m) (hw : (decodeL x).2 ≤ m) (hml : m ≤ x.length) (hok : ¬ bad x) : decodeL (x.take m) = decodeL x := by
  unfold bad at hok
  rw [decodeL_N x] at hok hw ⊢
  rw [decodeL_N, getD_take' hm0, List.length_take, Nat.min_eq_left hml]
  exact dN_less _ _ _ _ _ _ _ _ _ hml (fun h => by rw [getD_take' h]) (fun h => by rw [getD_take' h]) (fun h => by rw [getD_take' h]) hw hok

/-- A right text. -/
def right (l : List UInt8) : Bool := validD l
theorem right_nil : right [] = true := rfl
theorem right_step (l : List UInt8) (h : l ≠ []) : right l = true ↔ ¬ bad l ∧ right (l.drop (decodeL l).2) = true := by
  unfold right bad
  rw [validD_step l h]
  by_cases hb : (decodeL l).1 = 65533 ∧ (decodeL l).2 = 1
  · rw [if_pos hb]
    constructor
    · intro h
      cases h
    · intro h
      exact absurd hb h.1
  · rw [if_neg hb]
    constructor
    · intro h
      exact ⟨hb, h⟩
    · intro h
      exact h.2

/-- An induction over the letters of a text. -/
theorem by_letters {C : List UInt8 → Prop} (h0 : C []) (h1 : ∀ l, l ≠ [] → C (l.drop (decodeL l).2) → C l) : ∀ l, C l := by
  intro l
  suffices h : ∀ n (l : List UInt8), l.length ≤ n → C l from h _ l (Nat.le_refl _)
  intro n
  induction n with
  | zero =>
    intro l h
    have : l = [] := List.eq_nil_of_length_eq_zero (by omega)
    subst this
    exact h0
  | succ n ih =>
    intro l h
    by_cases hne : l = []
    · subst hne
      exact h0
    · have hw := dl_pos l
      have hl : 0 < l.length := List.length_pos_iff.2 hne
      exact h1 l hne (ih _ (by rw [List.length_drop]; omega))

theorem drop_app {x y : List UInt8} {n : Nat} (h : n ≤ x.length) : (x ++ y).drop n = x.drop n ++ y := by
  rw [List.drop_append_of_le_length h]

theorem lets_app (y : List UInt8) : ∀ x, right x = true → lets (x ++ y) = lets x ++ lets y := by
  apply by_letters
  · intro _
    simp [lets_nil]
  · intro x hx ih hr
    obtain ⟨hb, hr'⟩ := (right_step x hx).1 hr
    have hne : x ++ y ≠ [] := by simp [hx]
    rw [lets_step _ hne, dl_app hx hb, drop_app (dl_le x hx), ih hr', lets_step x hx, List.cons_append]
theorem cnt_app {x y : List UInt8} (h : right x = true) : cnt (x ++ y) = cnt x + cnt y := by
  unfold cnt
  rw [lets_app y x h, List.length_append]

theorem right_app (y : List UInt8) : ∀ x, right x = true → (right (x ++ y) = true ↔ right y = true) := by
  apply by_letters
  · intro _
    simp
  · intro x hx ih hr
    obtain ⟨hb, hr'⟩ := (right_step x hx).1 hr
    have hne : x ++ y ≠ [] := by simp [hx]
    rw [right_step _ hne, dl_app hx hb, drop_app (dl_le x hx), ih hr']
    constructor
    · intro h
      exact h.2
    · intro h
      refine ⟨?_, h⟩
      unfold bad at hb ⊢
      rw [dl_app hx hb]
      exact hb

theorem byt_app_left (y : List UInt8) : ∀ x, right x = true → ∀ k, k ≤ cnt x → byt k (x ++ y) = byt k x := by
  apply by_letters
  · intro _ k hk
    have : k = 0 := by
      have h : k ≤ 0 := hk
      omega
    subst this
    rfl
  · intro x hx ih hr k hk
    obtain ⟨hb, hr'⟩ := (right_step x hx).1 hr
    have hne : x ++ y ≠ [] := by simp [hx]
    cases k with
    | zero => rfl
    | succ k =>
      rw [cnt_step x hx] at hk
      rw [byt_step _ _ hne, byt_step _ _ hx, dl_app hx hb, drop_app (dl_le x hx), ih hr' k (by omega)]
theorem byt_app_right (y : List UInt8) : ∀ x, right x = true → ∀ j, byt (cnt x + j) (x ++ y) = x.length + byt j y := by
  apply by_letters
  · intro _ j
    simp [cnt_nil]
  · intro x hx ih hr j
    obtain ⟨hb, hr'⟩ := (right_step x hx).1 hr
    have hne : x ++ y ≠ [] := by simp [hx]
    have hd := dl_le x hx
    rw [cnt_step x hx, show 1 + cnt (x.drop (decodeL x).2) + j = (cnt (x.drop (decodeL x).2) + j) + 1 by omega, byt_step _ _ hne, dl_app hx hb, drop_app hd, ih hr' j, List.length_drop]
    omega

/-- The two parts of a right text at a letter's place. -/
theorem right_take : ∀ (k : Nat) (l : List UInt8), right l = true → right (l.take (byt k l)) = true ∧ cnt (l.take (byt k l)) = min k (cnt l)
  | 0, l, _ => by simp [byt, right_nil, cnt_nil]
  | k + 1, l, h => by
    by_cases hne : l = []
    · subst hne
      simp [byt, right_nil, cnt_nil]
    · obtain ⟨hb, hr'⟩ := (right_step l hne).1 h
      obtain ⟨i1, i2⟩ := right_take k _ hr'
      have hd := dl_le l hne
      have hw := dl_pos l
      have hl := byt_le k (l.drop (decodeL l).2)
      rw [List.length_drop] at hl
      have hbs := byt_step k l hne
      have hm : (decodeL l).2 ≤ byt (k + 1) l := by omega
      have hml : byt (k + 1) l ≤ l.length := byt_le _ _
      have e1 : decodeL (l.take (byt (k + 1) l)) = decodeL l := dl_take (by omega) hm hml hb
      have e2 : (l.take (byt (k + 1) l)).drop (decodeL l).2 = (l.drop (decodeL l).2).take (byt k (l.drop (decodeL l).2)) := by
        rw [hbs, List.drop_take]
        congr 1
        omega
      have hne2 : l.take (byt (k + 1) l) ≠ [] := by
        intro e
        have := congrArg List.length e
        rw [List.length_take, List.length_nil] at this
        omega
      constructor
      · rw [right_step _ hne2, e1, e2]
        refine ⟨?_, i1⟩
        unfold bad at hb ⊢
        rw [e1]
        exact hb
      · rw [cnt_step _ hne2, e1, e2, i2, cnt_step l hne]
        omega
theorem right_drop (k : Nat) (l : List UInt8) (h : right l = true) : right (l.drop (byt k l)) = true := by
  have h1 := right_app (l.drop (byt k l)) _ (right_take k l h).1
  rw [List.take_append_drop] at h1
  exact h1.1 h

/-- What is put at a place is cut there again; the rest is as it was. -/
theorem put_back {s t : List UInt8} (hs : right s = true) (ht : right t = true) (a : Int) (k : Nat) (hk : k = min a.toNat (cnt s)) :
    cut (put s a t) (k : Int) ((k : Int) + cnt t) = t ∧ cut (put s a t) 0 k ++ cut (put s a t) ((k : Int) + cnt t) ((cnt s : Int) + cnt t) = s ∧ cnt (put s a t) = cnt s + cnt t := by
  obtain ⟨r1, c1⟩ := right_take a.toNat s hs
  have r2 := right_drop a.toNat s hs
  have hsum : s.take (byt a.toNat s) ++ s.drop (byt a.toNat s) = s := List.take_append_drop _ _
  have hcs : cnt (s.take (byt a.toNat s)) + cnt (s.drop (byt a.toNat s)) = cnt s := by rw [← cnt_app r1, hsum]
  unfold put
  generalize s.take (byt a.toNat s) = x at *
  generalize s.drop (byt a.toNat s) = z at *
  have hkx : k = cnt x := by omega
  have b0 : byt 0 (x ++ t ++ z) = 0 := rfl
  have b1 : byt (cnt x) (x ++ t ++ z) = x.length := by
    rw [List.append_assoc, byt_app_left _ x r1 _ (Nat.le_refl _), byt_cnt]
  have b2 : byt (cnt x + cnt t) (x ++ t ++ z) = x.length + t.length := by
    rw [List.append_assoc, byt_app_right _ x r1, byt_app_left _ t ht _ (Nat.le_refl _), byt_cnt]
  have r3 : right (x ++ (t ++ z)) = true := (right_app _ x r1).2 ((right_app _ t ht).2 r2)
  have cx : cnt (x ++ t ++ z) = cnt x + (cnt t + cnt z) := by rw [List.append_assoc, cnt_app r1, cnt_app ht]
  have b3 : byt (cnt s + cnt t) (x ++ t ++ z) = (x ++ t ++ z).length := byt_all (by omega)
  refine ⟨?_, ?_, by omega⟩
  · unfold cut
    rw [show ((k : Int) + (cnt t : Int)).toNat = cnt x + cnt t by omega, show (k : Int).toNat = cnt x by omega, b1, b2]
    rw [List.append_assoc, List.take_length_add_append, List.drop_left, List.take_left]
  · unfold cut
    rw [show ((k : Int) + (cnt t : Int)).toNat = cnt x + cnt t by omega, show (k : Int).toNat = cnt x by omega, show (0 : Int).toNat = 0 from rfl, show ((cnt s : Int) + (cnt t : Int)).toNat = cnt s + cnt t by omega, b0, b1, b2, b3]
    rw [List.take_length, List.drop_zero, ← hsum]
    congr 1
    · rw [List.append_assoc, List.take_left]
    · rw [← List.length_append, List.drop_left]
end Go.Proofs.YtengmiolcfgdiaaDoor.Let
