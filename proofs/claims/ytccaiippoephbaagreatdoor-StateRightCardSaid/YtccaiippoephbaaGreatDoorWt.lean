/- Plain lists alone: the letters of a text (a list of bytes), the byte place of a letter, what a range of letters is. No program is spoken of here. -/
import Derived.Lib.TrimUEq
import Derived.Lib.ValidLaws
set_option maxRecDepth 100000
set_option linter.unusedVariables false
namespace Go.Proofs.YtccaiippoephbaaGreatDoor.Let
open Go.Lib

theorem dl_pos (l : List UInt8) : 1 ≤ (decodeL l).2 := decodeL_width l

theorem dl_le (l : List UInt8) (h : l ≠ []) : (decodeL l).2 ≤ l.length := by
  have hl : 0 < l.length := List.length_pos_iff.2 h
  rw [decodeL_N]
  unfold decodeN
  repeat' split
  all_goals simp only []
  all_goals omega

/-- The letters, by fuel. -/
def letsF : Nat → List UInt8 → List Nat
  | 0, _ => []
  | n + 1, l => if l = [] then [] else (decodeL l).1 :: letsF n (l.drop (decodeL l).2)
def lets (l : List UInt8) : List Nat := letsF l.length l

theorem letsF_nil : ∀ n, letsF n [] = []
  | 0 => rfl
  | _ + 1 => by simp [letsF]

theorem letsF_fuel : ∀ (n m : Nat) (l : List UInt8), l.length ≤ n → l.length ≤ m → letsF n l = letsF m l
  | 0, m, l, hn, _ => by
    have : l = [] := List.eq_nil_of_length_eq_zero (by omega)
    subst this
    rw [letsF_nil, letsF_nil]
  | n + 1, 0, l, _, hm => by
    have : l = [] := List.eq_nil_of_length_eq_zero (by omega)
    subst this
    rw [letsF_nil, letsF_nil]
  | n + 1, m + 1, l, hn, hm => by
    unfold letsF
    by_cases hne : l = []
    · simp [hne]
    · have hw := dl_pos l
      have hl : 0 < l.length := List.length_pos_iff.2 hne
      rw [if_neg hne, if_neg hne, letsF_fuel n m (l.drop (decodeL l).2) (by rw [List.length_drop]; omega) (by rw [List.length_drop]; omega)]

theorem lets_nil : lets [] = [] := rfl

theorem lets_step (l : List UInt8) (h : l ≠ []) : lets l = (decodeL l).1 :: lets (l.drop (decodeL l).2) := by
  have hl : 0 < l.length := List.length_pos_iff.2 h
  have hw := dl_pos l
  obtain ⟨n, hn⟩ : ∃ n, l.length = n + 1 := ⟨l.length - 1, by omega⟩
  unfold lets
  rw [hn]
  show (if l = [] then [] else _) = _
  rw [if_neg h, letsF_fuel n (l.drop (decodeL l).2).length _ (by rw [List.length_drop]; omega) (Nat.le_refl _)]

def cnt (l : List UInt8) : Nat := (lets l).length
theorem cnt_nil : cnt [] = 0 := rfl
theorem cnt_step (l : List UInt8) (h : l ≠ []) : cnt l = 1 + cnt (l.drop (decodeL l).2) := by
  unfold cnt
  rw [lets_step l h, List.length_cons]
  omega

theorem cnt_le : ∀ (n : Nat) (l : List UInt8), l.length ≤ n → cnt l ≤ l.length
  | 0, l, h => by
    have : l = [] := List.eq_nil_of_length_eq_zero (by omega)
    subst this
    exact Nat.le_refl _
  | n + 1, l, h => by
    by_cases hne : l = []
    · subst hne
      exact Nat.le_refl _
    · have hl : 0 < l.length := List.length_pos_iff.2 hne
      have hw := dl_pos l
      have hd := dl_le l hne
      have ih := cnt_le n (l.drop (decodeL l).2) (by rw [List.length_drop]; omega)
      rw [List.length_drop] at ih
      rw [cnt_step l hne]
      omega
theorem cnt_len (l : List UInt8) : cnt l ≤ l.length := cnt_le l.length l (Nat.le_refl _)
/-- How many bytes are ahead of letter number k. -/
def byt : Nat → List UInt8 → Nat
  | 0, _ => 0
  | k + 1, l => if l = [] then 0 else (decodeL l).2 + byt k (l.drop (decodeL l).2)

theorem byt_zero (l : List UInt8) : byt 0 l = 0 := rfl
theorem byt_step (k : Nat) (l : List UInt8) (h : l ≠ []) : byt (k + 1) l = (decodeL l).2 + byt k (l.drop (decodeL l).2) := by
  simp [byt, h]
theorem byt_le : ∀ (k : Nat) (l : List UInt8), byt k l ≤ l.length
  | 0, l => Nat.zero_le _
  | k + 1, l => by
    by_cases h : l = []
    · subst h
      simp [byt]
    · have ih := byt_le k (l.drop (decodeL l).2)
      have hd := dl_le l h
      rw [List.length_drop] at ih
      rw [byt_step k l h]
      omega

/-- One letter more. -/
theorem byt_succ : ∀ (k : Nat) (l : List UInt8), byt k l < l.length → byt (k + 1) l = byt k l + (decodeL (l.drop (byt k l))).2
  | 0, l, h => by
    have hne : l ≠ [] := by
      intro e
      subst e
      simp [byt] at h
    rw [byt_step 0 l hne]
    simp [byt]
  | k + 1, l, h => by
    have hne : l ≠ [] := by
      intro e
      subst e
      simp [byt] at h
    have hd := dl_le l hne
    rw [byt_step k l hne] at h ⊢
    rw [byt_step (k + 1) l hne]
    have ih := byt_succ k (l.drop (decodeL l).2) (by rw [List.length_drop]; omega)
    rw [ih, List.drop_drop]
    omega

theorem byt_end : ∀ (k : Nat) (l : List UInt8), l.length ≤ byt k l → byt (k + 1) l = byt k l
  | 0, l, h => by
    have : l = [] := List.eq_nil_of_length_eq_zero (by simpa [byt] using h)
    subst this
    rfl
  | k + 1, l, h => by
    by_cases hne : l = []
    · subst hne
      simp [byt]
    · have hd := dl_le l hne
      rw [byt_step k l hne] at h ⊢
      rw [byt_step (k + 1) l hne, byt_end k (l.drop (decodeL l).2) (by rw [List.length_drop]; omega)]

theorem byt_mono_succ (k : Nat) (l : List UInt8) : byt k l ≤ byt (k + 1) l := by
  by_cases h : byt k l < l.length
  · rw [byt_succ k l h]
    omega
  · rw [byt_end k l (by omega)]
    exact Nat.le_refl _
theorem byt_mono {a b : Nat} (h : a ≤ b) (l : List UInt8) : byt a l ≤ byt b l := by
  induction h with
  | refl => exact Nat.le_refl _
  | step _ ih => exact Nat.le_trans ih (byt_mono_succ _ _)

/-- The letters behind place k. -/
theorem lets_drop : ∀ (k : Nat) (l : List UInt8), lets (l.drop (byt k l)) = (lets l).drop k
  | 0, l => by simp [byt]
  | k + 1, l => by
    by_cases hne : l = []
    · subst hne
      simp [byt, lets_nil]
    · rw [byt_step k l hne, ← List.drop_drop, lets_drop k, lets_step l hne, List.drop_succ_cons]

theorem byt_cnt (l : List UInt8) : byt (cnt l) l = l.length := by
  suffices h : ∀ n (l : List UInt8), l.length ≤ n → byt (cnt l) l = l.length from h _ l (Nat.le_refl _)
  intro n
  induction n with
  | zero =>
    intro l h
    have : l = [] := List.eq_nil_of_length_eq_zero (by omega)
    subst this
    rfl
  | succ n ih =>
    intro l h
    by_cases hne : l = []
    · subst hne
      rfl
    · have hd := dl_le l hne
      have hw := dl_pos l
      rw [cnt_step l hne, Nat.add_comm, byt_step _ l hne, ih _ (by rw [List.length_drop]; omega), List.length_drop]
      omega
theorem byt_all {k : Nat} {l : List UInt8} (h : cnt l ≤ k) : byt k l = l.length := by
  have h1 := byt_mono h l
  rw [byt_cnt] at h1
  have := byt_le k l
  omega
theorem byt_lt {k : Nat} {l : List UInt8} (h : k < cnt l) : byt k l < l.length := by
  apply Nat.lt_of_not_le
  intro hc
  have he : byt k l = l.length := Nat.le_antisymm (byt_le k l) hc
  have hd := lets_drop k l
  rw [he, List.drop_length, lets_nil] at hd
  have : ((lets l).drop k).length = 0 := by rw [← hd]; rfl
  rw [List.length_drop] at this
  unfold cnt at h
  omega

theorem byt_lt_iff (k : Nat) (l : List UInt8) : byt k l < l.length ↔ k < cnt l := by
  constructor
  · intro h
    apply Nat.lt_of_not_le
    intro hc
    have := byt_all hc
    omega
  · exact byt_lt

/-- A string of a list of bytes. -/
def mk (l : List UInt8) : ByteArray := ⟨l.toArray⟩
theorem mk_data (l : List UInt8) : (mk l).data.toList = l := by simp [mk]
theorem mk_size (l : List UInt8) : (mk l).size = l.length := by simp [mk, ByteArray.size]
theorem mk_self (s : ByteArray) : mk s.data.toList = s := by cases s; simp [mk]
theorem mk_extract (s : ByteArray) (a b : Nat) : s.extract a b = mk ((s.data.toList.take b).drop a) := by
  have h : (s.extract a b).data.toList = (s.data.toList.take b).drop a := by
    rw [ByteArray.data_extract, Array.toList_extract, List.extract_eq_take_drop, List.drop_take]
  rw [← mk_self (s.extract a b), h]
def put (l : List UInt8) (a : Int) (t : List UInt8) : List UInt8 := l.take (byt a.toNat l) ++ t ++ l.drop (byt a.toNat l)

end Go.Proofs.YtccaiippoephbaaGreatDoor.Let
/- Plain lists alone: right texts (no byte alone), their letters' places behind a cut and a put. No program is spoken of here. -/
set_option maxRecDepth 100000
set_option linter.unusedVariables false
namespace Go.Proofs.YtccaiippoephbaaGreatDoor.Let
open Go.Lib

theorem dN_more (n n' b0 b1 b2 b3 c1 c2 c3 : Nat) (hn : n ≤ n') (h1 : 1 < n → c1 = b1) (h2 : 2 < n → c2 = b2) (h3 : 3 < n → c3 = b3) (hok : ¬ ((decodeN n b0 b1 b2 b3).1 = 65533 ∧ (decodeN n b0 b1 b2 b3).2 = 1)) :
    decodeN n' b0 c1 c2 c3 = decodeN n b0 b1 b2 b3 := by
  unfold decodeN at hok ⊢
  by_cases a0 : b0 < 128
  · rw [if_pos a0, if_pos a0]
  rw [if_neg a0] at hok ⊢
  rw [if_neg a0]
  by_cases a1 : b0 / 32 = 6 ∧ (1 < n ∧ b1 / 64 = 2)
  · obtain rfl := h1 a1.2.1
    rw [if_pos a1, if_pos ⟨a1.1, by omega, a1.2.2⟩]
  rw [if_neg a1] at hok ⊢
  by_cases a2 : b0 / 16 = 14 ∧ (1 < n ∧ b1 / 64 = 2) ∧ (2 < n ∧ b2 / 64 = 2)
  · obtain rfl := h1 a2.2.1.1
    obtain rfl := h2 a2.2.2.1
    rw [if_pos a2, if_neg (by omega), if_pos ⟨a2.1, ⟨by omega, a2.2.1.2⟩, by omega, a2.2.2.2⟩]
  rw [if_neg a2] at hok ⊢
  by_cases a3 : b0 / 8 = 30 ∧ (1 < n ∧ b1 / 64 = 2) ∧ (2 < n ∧ b2 / 64 = 2) ∧ (3 < n ∧ b3 / 64 = 2)
  · obtain rfl := h1 a3.2.1.1
    obtain rfl := h2 a3.2.2.1.1
    obtain rfl := h3 a3.2.2.2.1
    rw [if_pos a3, if_neg (by omega), if_neg (by omega), if_pos ⟨a3.1, ⟨by omega, a3.2.1.2⟩, ⟨by omega, a3.2.2.1.2⟩, by omega, a3.2.2.2.2⟩]
  · rw [if_neg a3] at hok
    exact absurd ⟨rfl, rfl⟩ hok

theorem dN_less (n m b0 b1 b2 b3 c1 c2 c3 : Nat) (hm : m ≤ n) (h1 : 1 < m → c1 = b1) (h2 : 2 < m → c2 = b2) (h3 : 3 < m → c3 = b3) (hw : (decodeN n b0 b1 b2 b3).2 ≤ m) (hok : ¬ ((decodeN n b0 b1 b2 b3).1 = 65533 ∧ (decodeN n b0 b1 b2 b3).2 = 1)) :
    decodeN m b0 c1 c2 c3 = decodeN n b0 b1 b2 b3 := by
  unfold decodeN at hok hw ⊢
  by_cases a0 : b0 < 128
  · rw [if_pos a0, if_pos a0]
  rw [if_neg a0] at hok hw ⊢
  rw [if_neg a0]
  by_cases a1 : b0 / 32 = 6 ∧ (1 < n ∧ b1 / 64 = 2)
  · rw [if_pos a1] at hok hw ⊢
    by_cases g : b0 % 32 * 64 + b1 % 64 ≥ 128
    · rw [if_pos g] at hw ⊢
      have hw' : 2 ≤ m := by simpa using hw
      obtain rfl := h1 (by omega)
      rw [if_pos ⟨a1.1, by omega, a1.2.2⟩, if_pos g]
    · rw [if_neg g] at hok
      exact absurd ⟨rfl, rfl⟩ hok
  rw [if_neg a1] at hok hw ⊢
  by_cases a2 : b0 / 16 = 14 ∧ (1 < n ∧ b1 / 64 = 2) ∧ (2 < n ∧ b2 / 64 = 2)
  · rw [if_pos a2] at hok hw ⊢
    split at hw
    · rename_i g
      have hw' : 3 ≤ m := by simpa using hw
      obtain rfl := h1 (by omega)
      obtain rfl := h2 (by omega)
      rw [if_neg (by omega), if_pos ⟨a2.1, ⟨by omega, a2.2.1.2⟩, by omega, a2.2.2.2⟩]
    · rename_i g
      rw [if_neg g] at hok
      exact absurd ⟨rfl, rfl⟩ hok
  rw [if_neg a2] at hok hw ⊢
  by_cases a3 : b0 / 8 = 30 ∧ (1 < n ∧ b1 / 64 = 2) ∧ (2 < n ∧ b2 / 64 = 2) ∧ (3 < n ∧ b3 / 64 = 2)
  · rw [if_pos a3] at hok hw ⊢
    split at hw
    · rename_i g
      have hw' : 4 ≤ m := by simpa using hw
      obtain rfl := h1 (by omega)
      obtain rfl := h2 (by omega)
      obtain rfl := h3 (by omega)
      rw [if_neg (by omega), if_neg (by omega), if_pos ⟨a3.1, ⟨by omega, a3.2.1.2⟩, ⟨by omega, a3.2.2.1.2⟩, by omega, a3.2.2.2.2⟩]
    · rename_i g
      rw [if_neg g] at hok
      exact absurd ⟨rfl, rfl⟩ hok
  · rw [if_neg a3] at hok
    exact absurd ⟨rfl, rfl⟩ hok

def bad (l : List UInt8) : Prop := (decodeL l).1 = 65533 ∧ (decodeL l).2 = 1

theorem getD_app {x y : List UInt8} {k : Nat} (h : k < x.length) : (x ++ y).getD k 0 = x.getD k 0 := by
  rw [List.getD_eq_getElem?_getD, List.getD_eq_getElem?_getD, List.getElem?_append_left h]
theorem getD_take' {x : List UInt8} {m k : Nat} (h : k < m) : (x.take m).getD k 0 = x.getD k 0 := by
  rw [List.getD_eq_getElem?_getD, List.getD_eq_getElem?_getD, List.getElem?_take, if_pos h]

theorem dl_app {x y : List UInt8} (hx : x ≠ []) (hok : ¬ bad x) : decodeL (x ++ y) = decodeL x := by
  have hl : 0 < x.length := List.length_pos_iff.2 hx
  unfold bad at hok
  rw [decodeL_N x] at hok ⊢
  rw [decodeL_N, getD_app hl]
  exact dN_more _ _ _ _ _ _ _ _ _ (by rw [List.length_append]; omega) (fun h => by rw [getD_app h]) (fun h => by rw [getD_app h]) (fun h => by rw [getD_app h]) hok

theorem dl_take {x : List UInt8} {m : Nat} (hm0 : 0 < m) (hw : (decodeL x).2 ≤ m) (hml : m ≤ x.length) (hok : ¬ bad x) : decodeL (x.take m) = decodeL x := by
  unfold bad at hok
  rw [decodeL_N x] at hok hw ⊢
  rw [decodeL_N, getD_take' hm0, List.length_take, Nat.min_eq_left hml]
  exact dN_less _ _ _ _ _ _ _ _ _ hml (fun h => by rw [getD_take' h]) (fun h => by rw [getD_take' h]) (fun h => by rw [getD_take' h]) hw hok

/-- A right text. -/
def right (l : List UInt8) : Bool := validD l
theorem right_nil : right [] = true := rfl
theorem right_step (l : List UInt8) (h : l ≠ []) : right l = true ↔ ¬ bad l ∧ right (l.drop (decodeL l).2) = true := by
  unfold right bad
  rw [validD_step l h]
  by_cases hb : (decodeL l).1 = 65533 ∧ (decodeL l).2 = 1
  · rw [if_pos hb]
    constructor
    · intro h
      cases h
    · intro h
      exact absurd hb h.1
  · rw [if_neg hb]
    constructor
    · intro h
      exact ⟨hb, h⟩
    · intro h
      exact h.2

/-- An induction over the letters of a text. -/
theorem by_letters {C : List UInt8 → Prop} (h0 : C []) (h1 : ∀ l, l ≠ [] → C (l.drop (decodeL l).2) → C l) : ∀ l, C l := by
  intro l
  suffices h : ∀ n (l : List UInt8), l.length ≤ n → C l from h _ l (Nat.le_refl _)
  intro n
  induction n with
  | zero =>
    intro l h
    have : l = [] := List.eq_nil_of_length_eq_zero (by omega)
    subst this
    exact h0
  | succ n ih =>
    intro l h
    by_cases hne : l = []
    · subst hne
      exact h0
    · have hw := dl_pos l
      have hl : 0 < l.length := List.length_pos_iff.2 hne
      exact h1 l hne (ih _ (by rw [List.length_drop]; omega))

theorem drop_app {x y : List UInt8} {n : Nat} (h : n ≤ x.length) : (x ++ y).drop n = x.drop n ++ y := by
  rw [List.drop_append_of_le_length h]

theorem lets_app (y : List UInt8) : ∀ x, right x = true → lets (x ++ y) = lets x ++ lets y := by
  apply by_letters
  · intro _
    simp [lets_nil]
  · intro x hx ih hr
    obtain ⟨hb, hr'⟩ := (right_step x hx).1 hr
    have hne : x ++ y ≠ [] := by simp [hx]
    rw [lets_step _ hne, dl_app hx hb, drop_app (dl_le x hx), ih hr', lets_step x hx, List.cons_append]
theorem cnt_app {x y : List UInt8} (h : right x = true) : cnt (x ++ y) = cnt x + cnt y := by
  unfold cnt
  rw [lets_app y x h, List.length_append]

theorem right_app (y : List UInt8) : ∀ x, right x = true → (right (x ++ y) = true ↔ right y = true) := by
  apply by_letters
  · intro _
    simp
  · intro x hx ih hr
    obtain ⟨hb, hr'⟩ := (right_step x hx).1 hr
    have hne : x ++ y ≠ [] := by simp [hx]
    rw [right_step _ hne, dl_app hx hb, drop_app (dl_le x hx), ih hr']
    constructor
    · intro h
      exact h.2
    · intro h
      refine ⟨?_, h⟩
      unfold bad at hb ⊢
      rw [dl_app hx hb]
      exact hb

theorem byt_app_left (y : List UInt8) : ∀ x, right x = true → ∀ k, k ≤ cnt x → byt k (x ++ y) = byt k x := by
  apply by_letters
  · intro _ k hk
    have : k = 0 := by
      have h : k ≤ 0 := hk
      omega
    subst this
    rfl
  · intro x hx ih hr k hk
    obtain ⟨hb, hr'⟩ := (right_step x hx).1 hr
    have hne : x ++ y ≠ [] := by simp [hx]
    cases k with
    | zero => rfl
    | succ k =>
      rw [cnt_step x hx] at hk
      rw [byt_step _ _ hne, byt_step _ _ hx, dl_app hx hb, drop_app (dl_le x hx), ih hr' k (by omega)]
/-- The two parts of a right text at a letter's place. -/
theorem right_take : ∀ (k : Nat) (l : List UInt8), right l = true → right (l.take (byt k l)) = true ∧ cnt (l.take (byt k l)) = min k (cnt l)
  | 0, l, _ => by simp [byt, right_nil, cnt_nil]
  | k + 1, l, h => by
    by_cases hne : l = []
    · subst hne
      simp [byt, right_nil, cnt_nil]
    · obtain ⟨hb, hr'⟩ := (right_step l hne).1 h
      obtain ⟨i1, i2⟩ := right_take k _ hr'
      have hd := dl_le l hne
      have hw := dl_pos l
      have hl := byt_le k (l.drop (decodeL l).2)
      rw [List.length_drop] at hl
      have hbs := byt_step k l hne
      have hm : (decodeL l).2 ≤ byt (k + 1) l := by omega
      have hml : byt (k + 1) l ≤ l.length := byt_le _ _
      have e1 : decodeL (l.take (byt (k + 1) l)) = decodeL l := dl_take (by omega) hm hml hb
      have e2 : (l.take (byt (k + 1) l)).drop (decodeL l).2 = (l.drop (decodeL l).2).take (byt k (l.drop (decodeL l).2)) := by
        rw [hbs, List.drop_take]
        congr 1
        omega
      have hne2 : l.take (byt (k + 1) l) ≠ [] := by
        intro e
        have := congrArg List.length e
        rw [List.length_take, List.length_nil] at this
        omega
      constructor
      · rw [right_step _ hne2, e1, e2]
        refine ⟨?_, i1⟩
        unfold bad at hb ⊢
        rw [e1]
        exact hb
      · rw [cnt_step _ hne2, e1, e2, i2, cnt_step l hne]
        omega
theorem right_drop (k : Nat) (l : List UInt8) (h : right l = true) : right (l.drop (byt k l)) = true := by
  have h1 := right_app (l.drop (byt k l)) _ (right_take k l h).1
  rw [List.take_append_drop] at h1
  exact h1.1 h

end Go.Proofs.YtccaiippoephbaaGreatDoor.Let
/- Plain trees alone: a rope as a tree of parts; what is made of two trees; heights that differ by one at most. No program is spoken of here. -/
set_option maxRecDepth 100000
set_option linter.unusedVariables false
namespace Go.Proofs.YtccaiippoephbaaGreatDoor.Tree
open Go.Lib Go.Proofs.YtccaiippoephbaaGreatDoor.Let

inductive T
  | nil
  | leaf (s : List UInt8)
  | node (l r : T)

def T.txt : T → List UInt8
  | .nil => []
  | .leaf s => s
  | .node l r => l.txt ++ r.txt
def T.ht : T → Nat
  | .nil => 0
  | .leaf _ => 0
  | .node l r => max l.ht r.ht + 1
def T.parts : T → List (List UInt8)
  | .nil => []
  | .leaf s => [s]
  | .node l r => l.parts ++ r.parts
def T.cn : T → Nat
  | .nil => 0
  | .leaf s => cnt s
  | .node l r => l.cn + r.cn
def T.by : T → Nat
  | .nil => 0
  | .leaf s => s.length
  | .node l r => l.by + r.by
def T.L : T → T
  | .node l _ => l
  | _ => .nil
def T.R : T → T
  | .node _ r => r
  | _ => .nil

def okp (s : List UInt8) : Prop := s ≠ [] ∧ s.length ≤ 64 ∧ right s = true
def T.ok : T → Prop
  | .nil => False
  | .leaf s => okp s
  | .node l r => l.ok ∧ r.ok ∧ l.ht ≤ r.ht + 1 ∧ r.ht ≤ l.ht + 1
/-- A rope: nothing, or a tree as it may be. -/
def T.okn (t : T) : Prop := t = .nil ∨ t.ok

theorem T.by_txt : ∀ t : T, t.by = t.txt.length
  | .nil => rfl
  | .leaf s => rfl
  | .node l r => by simp only [T.by, T.txt, List.length_append, T.by_txt l, T.by_txt r]
theorem T.ok_right : ∀ {t : T}, t.ok → right t.txt = true
  | .leaf s, h => h.2.2
  | .node l r, h => (right_app _ _ (T.ok_right h.1)).2 (T.ok_right h.2.1)
theorem T.cn_txt : ∀ {t : T}, t.ok → t.cn = cnt t.txt
  | .leaf s, _ => rfl
  | .node l r, h => by
    simp only [T.cn, T.txt]
    rw [cnt_app (T.ok_right h.1), T.cn_txt h.1, T.cn_txt h.2.1]
theorem T.cn_txtn {t : T} (h : t.okn) : t.cn = cnt t.txt := by
  rcases h with rfl | h
  · rfl
  · exact T.cn_txt h
theorem T.ok_ne : ∀ {t : T}, t.ok → t.txt ≠ []
  | .leaf s, h => h.1
  | .node l r, h => by
    simp only [T.txt]
    intro e
    exact T.ok_ne h.1 (List.append_eq_nil_iff.1 e).1
theorem T.ok_by {t : T} (h : t.ok) : 0 < t.by := by
  rw [T.by_txt]
  exact List.length_pos_iff.2 (T.ok_ne h)
theorem T.cn_by : ∀ t : T, t.cn ≤ t.by
  | .nil => Nat.le_refl _
  | .leaf s => cnt_len s
  | .node l r => by
    have := T.cn_by l
    have := T.cn_by r
    simp only [T.cn, T.by]
    omega
theorem T.most : ∀ t : T, t.parts.length ≤ 2 ^ t.ht
  | .nil => Nat.zero_le _
  | .leaf s => Nat.le_refl _
  | .node l r => by
    have i1 := T.most l
    have i2 := T.most r
    simp only [T.ht, T.parts, List.length_append]
    have m1 : 2 ^ l.ht ≤ 2 ^ max l.ht r.ht := Nat.pow_le_pow_right (by omega) (by omega)
    have m2 : 2 ^ r.ht ≤ 2 ^ max l.ht r.ht := Nat.pow_le_pow_right (by omega) (by omega)
    rw [Nat.pow_succ]
    omega
theorem T.ht_by : ∀ {t : T}, t.ok → t.ht < t.by
  | .leaf s, h => by
    have := T.ok_by (t := .leaf s) h
    exact this
  | .node l r, h => by
    have i1 := T.ht_by h.1
    have i2 := T.ht_by h.2.1
    simp only [T.ht, T.by]
    omega
theorem T.node_of_ht {t : T} (h : 0 < t.ht) : t = .node t.L t.R := by
  cases t with
  | nil => simp [T.ht] at h
  | leaf => simp [T.ht] at h
  | node => rfl
theorem T.R_lt {t : T} (h : 0 < t.ht) : t.R.ht < t.ht := by
  rw [T.node_of_ht h]
  simp only [T.R, T.ht]
  omega
theorem T.L_lt {t : T} (h : 0 < t.ht) : t.L.ht < t.ht := by
  rw [T.node_of_ht h]
  simp only [T.L, T.ht]
  omega

/-- Of two sides whose heights differ by 2 at most. -/
def bal (a b : T) : T :=
  if a.ht + 1 < b.ht ∧ b.R.ht < b.L.ht then .node (.node a b.L.L) (.node b.L.R b.R)
  else if a.ht + 1 < b.ht then .node (.node a b.L) b.R
  else if b.ht + 1 < a.ht ∧ a.L.ht < a.R.ht then .node (.node a.L a.R.L) (.node a.R.R b)
  else if b.ht + 1 < a.ht then .node a.L (.node a.R b)
  else .node a b

instance (t : T) : Decidable (t = .nil) := by
  cases t
  · exact isTrue rfl
  · exact isFalse (fun h => by cases h)
  · exact isFalse (fun h => by cases h)

/-- All parts of both, as they are. -/
def link (a b : T) : T :=
  if a = .nil then b
  else if b = .nil then a
  else if h1 : b.ht + 1 < a.ht then bal a.L (link a.R b)
  else if h2 : a.ht + 1 < b.ht then bal (link a b.L) b.R
  else .node a b
termination_by a.ht + b.ht
decreasing_by
  · have := T.R_lt (t := a) (by omega)
    omega
  · have := T.L_lt (t := b) (by omega)
    omega

theorem ok_not_nil {t : T} (h : t.ok) : t ≠ .nil := by
  rintro rfl
  exact h

end Go.Proofs.YtccaiippoephbaaGreatDoor.Tree
/- Plain numbers alone: the reference's reading of one letter is the decoder's. No program is spoken of here. -/
set_option maxRecDepth 100000
set_option linter.unusedVariables false
namespace Go.Proofs.YtccaiippoephbaaGreatDoor.Let
open Go.Lib

/-- What stands behind the bytes: the value may be, or not. -/
def finS (n low v : Int) : Int × Int := if v < low ∨ 1114111 < v ∨ (55296 ≤ v ∧ v < 57344) then (1, 65533) else (n, v)

theorem dN_ascii (n b0 b1 b2 b3 : Nat) (h : b0 < 128) : decodeN n b0 b1 b2 b3 = (b0, 1) := by
  unfold decodeN
  rw [if_pos h]
theorem dN_lead (n b0 b1 b2 b3 : Nat) (h : (128 ≤ b0 ∧ b0 < 192) ∨ (248 ≤ b0 ∧ b0 < 256)) : decodeN n b0 b1 b2 b3 = (65533, 1) := by
  unfold decodeN
  rw [if_neg (by omega), if_neg (by omega), if_neg (by omega), if_neg (by omega)]
theorem dN_short2 (n b0 b1 b2 b3 : Nat) (h : 192 ≤ b0 ∧ b0 < 224) (hn : n < 2 ∨ b1 < 128 ∨ 192 ≤ b1) (h1 : b1 < 256) : decodeN n b0 b1 b2 b3 = (65533, 1) := by
  unfold decodeN
  rw [if_neg (by omega), if_neg (by omega), if_neg (by omega), if_neg (by omega)]
theorem dN_short3 (n b0 b1 b2 b3 : Nat) (h : 224 ≤ b0 ∧ b0 < 240) (hn : n < 3 ∨ b1 < 128 ∨ 192 ≤ b1 ∨ b2 < 128 ∨ 192 ≤ b2) (h1 : b1 < 256) (h2 : b2 < 256) : decodeN n b0 b1 b2 b3 = (65533, 1) := by
  unfold decodeN
  rw [if_neg (by omega), if_neg (by omega), if_neg (by omega), if_neg (by omega)]
theorem dN_short4 (n b0 b1 b2 b3 : Nat) (h : 240 ≤ b0 ∧ b0 < 248) (hn : n < 4 ∨ b1 < 128 ∨ 192 ≤ b1 ∨ b2 < 128 ∨ 192 ≤ b2 ∨ b3 < 128 ∨ 192 ≤ b3) (h1 : b1 < 256) (h2 : b2 < 256) (h3 : b3 < 256) : decodeN n b0 b1 b2 b3 = (65533, 1) := by
  unfold decodeN
  rw [if_neg (by omega), if_neg (by omega), if_neg (by omega), if_neg (by omega)]
theorem dN_two (n b0 b1 b2 b3 : Nat) (h : 192 ≤ b0 ∧ b0 < 224) (hn : 2 ≤ n) (h1 : 128 ≤ b1 ∧ b1 < 192) :
    (((decodeN n b0 b1 b2 b3).2 : Int), ((decodeN n b0 b1 b2 b3).1 : Int)) = finS 2 128 (((b0 : Int) - 192) * 64 + b1 - 128) := by
  unfold decodeN finS
  rw [if_neg (by omega), if_pos (by omega)]
  by_cases hc : b0 % 32 * 64 + b1 % 64 ≥ 128
  · rw [if_pos hc, if_neg (by omega)]
    simp only [Prod.mk.injEq]
    omega
  · rw [if_neg hc, if_pos (by omega)]
    rfl
theorem dN_three (n b0 b1 b2 b3 : Nat) (h : 224 ≤ b0 ∧ b0 < 240) (hn : 3 ≤ n) (h1 : 128 ≤ b1 ∧ b1 < 192) (h2 : 128 ≤ b2 ∧ b2 < 192) :
    (((decodeN n b0 b1 b2 b3).2 : Int), ((decodeN n b0 b1 b2 b3).1 : Int)) = finS 3 2048 ((((b0 : Int) - 224) * 64 + b1 - 128) * 64 + b2 - 128) := by
  unfold decodeN finS
  rw [if_neg (by omega), if_neg (by omega), if_pos (by omega)]
  by_cases hc : b0 % 16 * 4096 + b1 % 64 * 64 + b2 % 64 ≥ 2048 ∧ (b0 % 16 * 4096 + b1 % 64 * 64 + b2 % 64 < 55296 ∨ (57344 ≤ b0 % 16 * 4096 + b1 % 64 * 64 + b2 % 64 ∧ b0 % 16 * 4096 + b1 % 64 * 64 + b2 % 64 ≤ 1114111))
  · rw [if_pos hc, if_neg (by omega)]
    simp only [Prod.mk.injEq]
    omega
  · rw [if_neg hc, if_pos (by omega)]
    rfl
theorem dN_four (n b0 b1 b2 b3 : Nat) (h : 240 ≤ b0 ∧ b0 < 248) (hn : 4 ≤ n) (h1 : 128 ≤ b1 ∧ b1 < 192) (h2 : 128 ≤ b2 ∧ b2 < 192) (h3 : 128 ≤ b3 ∧ b3 < 192) :
    (((decodeN n b0 b1 b2 b3).2 : Int), ((decodeN n b0 b1 b2 b3).1 : Int)) = finS 4 65536 (((((b0 : Int) - 240) * 64 + b1 - 128) * 64 + b2 - 128) * 64 + b3 - 128) := by
  unfold decodeN finS
  rw [if_neg (by omega), if_neg (by omega), if_neg (by omega), if_pos (by omega)]
  by_cases hc : b0 % 8 * 262144 + b1 % 64 * 4096 + b2 % 64 * 64 + b3 % 64 ≥ 65536 ∧ (b0 % 8 * 262144 + b1 % 64 * 4096 + b2 % 64 * 64 + b3 % 64 < 55296 ∨ (57344 ≤ b0 % 8 * 262144 + b1 % 64 * 4096 + b2 % 64 * 64 + b3 % 64 ∧ b0 % 8 * 262144 + b1 % 64 * 4096 + b2 % 64 * 64 + b3 % 64 ≤ 1114111))
  · rw [if_pos hc, if_neg (by omega)]
    simp only [Prod.mk.injEq]
    omega
  · rw [if_neg hc, if_pos (by omega)]
    rfl
end Go.Proofs.YtccaiippoephbaaGreatDoor.Let
