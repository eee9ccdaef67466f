/- Plain lists alone: the letters of a text (a list of bytes), the byte place of a letter, what a range of letters is. No program is spoken of here. -/
import Derived.Lib.TrimUEq
import Derived.Lib.ValidLaws
set_option linter.unusedVariables false
namespace Go.Proofs.YtengmiolcfgdiaaDoor.Let
open Go.Lib

theorem dl_pos (l : List UInt8) : 1 ≤ (decodeL l).2 := decodeL_width l

theorem dl_le (l : List UInt8) (h : l ≠ []) : (decodeL l).2 ≤ l.length := by
  have hl : 0 < l.length := List.length_pos_iff.2 h
  rw [decodeL_N]
  unfold decodeN
  repeat' split
  all_goals simp only []
  all_goals omega

theorem dl_rune (l : List UInt8) : (decodeL l).1 ≤ 1114111 := decodeL_rune l

/-- The letters, by fuel. -/
def letsF : Nat → List UInt8 → List Nat
  | 0, _ => []
  | n + 1, l => if l = [] then [] else (decodeL l).1 :: letsF n (l.drop (decodeL l).2)
def lets (l : List UInt8) : List Nat := letsF l.length l

theorem letsF_nil : ∀ n, letsF n [] = []
  | 0 => rfl
  | _ + 1 => by simp [letsF]

theorem letsF_fuel : ∀ (n m : Nat) (l : List UInt8), l.length ≤ n → l.length ≤ m → letsF n l = letsF m l
  | 0, m, l, hn, _ => by
    have : l = [] := List.eq_nil_of_length_eq_zero (by omega)
    subst this
    rw [letsF_nil, letsF_nil]
  | n + 1, 0, l, _, hm => by
    have : l = [] := List.eq_nil_of_length_eq_zero (by omega)
    subst this
    rw [letsF_nil, letsF_nil]
  | n + 1, m + 1, l, hn, hm => by
    unfold letsF
    by_cases hne : l = []
    · simp [hne]
    · have hw := dl_pos l
      have hl : 0 < l.length := List.length_pos_iff.2 hne
      rw [if_neg hne, if_neg hne, letsF_fuel n m (l.drop (decodeL l).2) (by rw [List.length_drop]; omega) (by rw [List.length_drop]; omega)]

theorem lets_nil : lets [] = [] := rfl

theorem lets_step (l : List UInt8) (h : l ≠ []) : lets l = (decodeL l).1 :: lets (l.drop (decodeL l).2) := by
  have hl : 0 < l.length := List.length_pos_iff.2 h
  have hw := dl_pos l
  obtain ⟨n, hn⟩ : ∃ n, l.length = n + 1 := ⟨l.length - 1, by omega⟩
  unfold lets
  rw [hn]
  show (if l = [] then [] else _) = _
  rw [if_neg h, letsF_fuel n (l.drop (decodeL l).2).length _ (by rw [List.length_drop]; omega) (Nat.le_refl _)]

def cnt (l : List UInt8) : Nat := (lets l).length
theorem cnt_nil : cnt [] = 0 := rfl
theorem cnt_step (l : List UInt8) (h : l ≠ []) : cnt l = 1 + cnt (l.drop (decodeL l).2) := by
  unfold cnt
  rw [lets_step l h, List.length_cons]
  omega

theorem cnt_le : ∀ (n : Nat) (l : List UInt8), l.length ≤ n → cnt l ≤ l.length
  | 0, l, h => by
    have : l = [] := List.eq_nil_of_length_eq_zero (by omega)
    subst this
    exact Nat.le_refl _
  | n + 1, l, h => by
    by_cases hne : l = []
    · subst hne
      exact Nat.le_refl _
    · have hl : 0 < l.length := List.length_pos_iff.2 hne
      have hw := dl_pos l
      have hd := dl_le l hne
      have ih := cnt_le n (l.drop (decodeL l).2) (by rw [List.length_drop]; omega)
      rw [List.length_drop] at ih
      rw [cnt_step l hne]
      omega
theorem cnt_len (l : List UInt8) : cnt l ≤ l.length := cnt_le l.length l (Nat.le_refl _)
theorem lets_len (l : List UInt8) : (lets l).length ≤ l.length := cnt_len l

/-- How many bytes are ahead of letter number k. -/
def byt : Nat → List UInt8 → Nat
  | 0, _ => 0
  | k + 1, l => if l = [] then 0 else (decodeL l).2 + byt k (l.drop (decodeL l).2)

theorem byt_zero (l : List UInt8) : byt 0 l = 0 := rfl
theorem byt_nil : ∀ k, byt k [] = 0
  | 0 => rfl
  | _ + 1 => by simp [byt]
theorem byt_step (k : Nat) (l : List UInt8) (h : l ≠ []) : byt (k + 1) l = (decodeL l).2 + byt k (l.drop (decodeL l).2) := by
  simp [byt, h]
theorem byt_le : ∀ (k : Nat) (l : List UInt8), byt k l ≤ l.length
  | 0, l => Nat.zero_le _
  | k + 1, l => by
    by_cases h : l = []
    · subst h
      simp [byt]
    · have ih := byt_le k (l.drop (decodeL l).2)
      have hd := dl_le l h
      rw [List.length_drop] at ih
      rw [byt_step k l h]
      omega

/-- One letter more. -/
theorem byt_succ : ∀ (k : Nat) (l : List UInt8), byt k l < l.length → byt (k + 1) l = byt k l + (decodeL (l.drop (byt k l))).2
  | 0, l, h => by
    have hne : l ≠ [] := by
      intro e
      subst e
      simp [byt] at h
    rw [byt_step 0 l hne]
    simp [byt]
  | k + 1, l, h => by
    have hne : l ≠ [] := by
      intro e
      subst e
      simp [byt] at h
    have hd := dl_le l hne
    rw [byt_step k l hne] at h ⊢
    rw [byt_step (k + 1) l hne]
    have ih := byt_succ k (l.drop (decodeL l).2) (by rw [List.length_drop]; omega)
    rw [ih, List.drop_drop]
    omega

theorem byt_end : ∀ (k : Nat) (l : List UInt8), l.length ≤ byt k l → byt (k + 1) l = byt k l
  | 0, l, h => by
    have : l = [] := List.eq_nil_of_length_eq_zero (by simpa [byt] using h)
    subst this
    rfl
  | k + 1, l, h => by
    by_cases hne : l = []
    · subst hne
      simp [byt]
    · have hd := dl_le l hne
      rw [byt_step k l hne] at h ⊢
      rw [byt_step (k + 1) l hne, byt_end k (l.drop (decodeL l).2) (by rw [List.length_drop]; omega)]

theorem byt_mono_succ (k : Nat) (l : List UInt8) : byt k l ≤ byt (k + 1) l := by
  by_cases h : byt k l < l.length
  · rw [byt_succ k l h]
    omega
  · rw [byt_end k l (by omega)]
    exact Nat.le_refl _
theorem byt_mono {a b : Nat} (h : a ≤ b) (l : List UInt8) : byt a l ≤ byt b l := by
  induction h with
  | refl => exact Nat.le_refl _
  | step _ ih => exact Nat.le_trans ih (byt_mono_succ _ _)

/-- Ahead of all: the place of letter k grows by one at least. -/
theorem byt_ge : ∀ (k : Nat) (l : List UInt8), byt k l < l.length → k ≤ byt k l
  | 0, _, _ => Nat.zero_le _
  | k + 1, l, h => by
    have hm := byt_mono_succ k l
    have ih := byt_ge k l (by omega)
    rw [byt_succ k l (by omega)] at h ⊢
    have := dl_pos (l.drop (byt k l))
    omega

/-- The letters behind place k. -/
theorem lets_drop : ∀ (k : Nat) (l : List UInt8), lets (l.drop (byt k l)) = (lets l).drop k
  | 0, l => by simp [byt]
  | k + 1, l => by
    by_cases hne : l = []
    · subst hne
      simp [byt, lets_nil]
    · rw [byt_step k l hne, ← List.drop_drop, lets_drop k, lets_step l hne, List.drop_succ_cons]

theorem byt_cnt (l : List UInt8) : byt (cnt l) l = l.length := by
  suffices h : ∀ n (l : List UInt8), l.length ≤ n → byt (cnt l) l = l.length from h _ l (Nat.le_refl _)
  intro n
  induction n with
  | zero =>
    intro l h
    have : l = [] := List.eq_nil_of_length_eq_zero (by omega)
    subst this
    rfl
  | succ n ih =>
    intro l h
    by_cases hne : l = []
    · subst hne
      rfl
    · have hd := dl_le l hne
      have hw := dl_pos l
      rw [cnt_step l hne, Nat.add_comm, byt_step _ l hne, ih _ (by rw [List.length_drop]; omega), List.length_drop]
      omega
theorem byt_all {k : Nat} {l : List UInt8} (h : cnt l ≤ k) : byt k l = l.length := by
  have h1 := byt_mono h l
  rw [byt_cnt] at h1
  have := byt_le k l
  omega
theorem byt_lt {k : Nat} {l : List UInt8} (h : k < cnt l) : byt k l < l.length := by
  apply Nat.lt_of_not_le
  intro hc
  have he : byt k l = l.length := Nat.le_antisymm (byt_le k l) hc
  have hd := lets_drop k l
  rw [he, List.drop_length, lets_nil] at hd
  have : ((lets l).drop k).length = 0 := by rw [← hd]; rfl
  rw [List.length_drop] at this
  unfold cnt at h
  omega

theorem byt_lt_iff (k : Nat) (l : List UInt8) : byt k l < l.length ↔ k < cnt l := by
  constructor
  · intro h
    apply Nat.lt_of_not_le
    intro hc
    have := byt_all hc
    omega
  · exact byt_lt

/-- A string of a list of bytes. -/
def mk (l : List UInt8) : ByteArray := ⟨l.toArray⟩
theorem mk_data (l : List UInt8) : (mk l).data.toList = l := by simp [mk]
theorem mk_size (l : List UInt8) : (mk l).size = l.length := by simp [mk, ByteArray.size]
theorem mk_self (s : ByteArray) : mk s.data.toList = s := by cases s; simp [mk]
theorem mk_extract (s : ByteArray) (a b : Nat) : s.extract a b = mk ((s.data.toList.take b).drop a) := by
  have h : (s.extract a b).data.toList = (s.data.toList.take b).drop a := by
    rw [ByteArray.data_extract, Array.toList_extract, List.extract_eq_take_drop, List.drop_take]
  rw [← mk_self (s.extract a b), h]
theorem mk_append (s t : ByteArray) : s ++ t = mk (s.data.toList ++ t.data.toList) := by
  have h : (s ++ t).data.toList = s.data.toList ++ t.data.toList := by simp
  rw [← mk_self (s ++ t), h]
theorem mk_inj {a b : List UInt8} (h : mk a = mk b) : a = b := by
  have := congrArg (fun s : ByteArray => s.data.toList) h
  simpa [mk] using this
/-- The bytes of the letters of a range. -/
def cut (l : List UInt8) (a b : Int) : List UInt8 := (l.take (byt b.toNat l)).drop (byt a.toNat l)
def put (l : List UInt8) (a : Int) (t : List UInt8) : List UInt8 := l.take (byt a.toNat l) ++ t ++ l.drop (byt a.toNat l)

theorem cut_empty {l : List UInt8} {a b : Int} (h : b ≤ a) : cut l a b = [] := by
  unfold cut
  apply List.drop_eq_nil_of_le
  rw [List.length_take]
  have := byt_mono (show b.toNat ≤ a.toNat by omega) l
  omega

end Go.Proofs.YtengmiolcfgdiaaDoor.Let
