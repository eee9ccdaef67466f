/- Plain trees alone: a rope as a tree of parts; what is made of two trees; heights that differ by one at most. No program is spoken of here. -/
import Derived.Test.YtengmiolcfgdiaaDoorApp
set_option linter.unusedVariables false
namespace Go.Proofs.YtengmiolcfgdiaaDoor.Tree
open Go.Lib Go.Proofs.YtengmiolcfgdiaaDoor.Let

inductive T
  | nil
  | leaf (s : List UInt8)
  | node (l r : T)

def T.txt : T → List UInt8
  | .nil => []
  | .leaf s => s
  | .node l r => l.txt ++ r.txt
def T.ht : T → Nat
  | .nil => 0
  | .leaf _ => 0
  | .node l r => max l.ht r.ht + 1
def T.parts : T → List (List UInt8)
  | .nil => []
  | .leaf s => [s]
  | .node l r => l.parts ++ r.parts
def T.cn : T → Nat
  | .nil => 0
  | .leaf s => cnt s
  | .node l r => l.cn + r.cn
def T.by : T → Nat
  | .nil => 0
  | .leaf s => s.length
  | .node l r => l.by + r.by
def T.L : T → T
  | .node l _ => l
  | _ => .nil
def T.R : T → T
  | .node _ r => r
  | _ => .nil

def okp (s : List UInt8) : Prop := s ≠ [] ∧ s.length ≤ 64 ∧ right s = true
def T.ok : T → Prop
  | .nil => False
  | .leaf s => okp s
  | .node l r => l.ok ∧ r.ok ∧ l.ht ≤ r.ht + 1 ∧ r.ht ≤ l.ht + 1
/-- A rope: nothing, or a tree as it may be. -/
def T.okn (t : T) : Prop := t = .nil ∨ t.ok

theorem T.by_txt : ∀ t : T, t.by = t.txt.length
  | .nil => rfl
  | .leaf s => rfl
  | .node l r => by simp only [T.by, T.txt, List.length_append, T.by_txt l, T.by_txt r]
theorem T.ok_right : ∀ {t : T}, t.ok → right t.txt = true
  | .leaf s, h => h.2.2
  | .node l r, h => (right_app _ _ (T.ok_right h.1)).2 (T.ok_right h.2.1)
theorem T.okn_right {t : T} (h : t.okn) : right t.txt = true := by
  rcases h with rfl | h
  · rfl
  · exact T.ok_right h
theorem T.cn_txt : ∀ {t : T}, t.ok → t.cn = cnt t.txt
  | .leaf s, _ => rfl
  | .node l r, h => by
    simp only [T.cn, T.txt]
    rw [cnt_app (T.ok_right h.1), T.cn_txt h.1, T.cn_txt h.2.1]
theorem T.cn_txtn {t : T} (h : t.okn) : t.cn = cnt t.txt := by
  rcases h with rfl | h
  · rfl
  · exact T.cn_txt h
theorem T.ok_ne : ∀ {t : T}, t.ok → t.txt ≠ []
  | .leaf s, h => h.1
  | .node l r, h => by
    simp only [T.txt]
    intro e
    exact T.ok_ne h.1 (List.append_eq_nil_iff.1 e).1
theorem T.ok_by {t : T} (h : t.ok) : 0 < t.by := by
  rw [T.by_txt]
  exact List.length_pos_iff.2 (T.ok_ne h)
theorem cnt_pos {l : List UInt8} (h : l ≠ []) : 0 < cnt l := by
  rw [cnt_step l h]
  omega
theorem T.ok_cn {t : T} (h : t.ok) : 0 < t.cn := by
  rw [T.cn_txt h]
  exact cnt_pos (T.ok_ne h)
theorem T.cn_by : ∀ t : T, t.cn ≤ t.by
  | .nil => Nat.le_refl _
  | .leaf s => cnt_len s
  | .node l r => by
    have := T.cn_by l
    have := T.cn_by r
    simp only [T.cn, T.by]
    omega
theorem T.parts_txt : ∀ t : T, t.parts.flatten = t.txt
  | .nil => rfl
  | .leaf s => by simp [T.parts, T.txt]
  | .node l r => by simp only [T.parts, T.txt, List.flatten_append, T.parts_txt l, T.parts_txt r]
theorem T.parts_ok : ∀ {t : T}, t.ok → ∀ p ∈ t.parts, okp p
  | .leaf s, h => by
    intro p hp
    simp only [T.parts, List.mem_singleton] at hp
    subst hp
    exact h
  | .node l r, h => by
    intro p hp
    simp only [T.parts, List.mem_append] at hp
    rcases hp with hp | hp
    · exact T.parts_ok h.1 p hp
    · exact T.parts_ok h.2.1 p hp

/-- The fewest leaves. -/
def fib : Nat → Nat × Nat
  | 0 => (1, 2)
  | n + 1 => ((fib n).2, (fib n).1 + (fib n).2)
theorem fib_pos : ∀ n, 1 ≤ (fib n).1 ∧ (fib n).1 ≤ (fib n).2
  | 0 => by simp [fib]
  | n + 1 => by
    have := fib_pos n
    simp only [fib]
    omega
theorem fib_mono1 (n : Nat) : (fib n).1 ≤ (fib (n + 1)).1 := (fib_pos n).2
theorem fib_mono {a b : Nat} (h : a ≤ b) : (fib a).1 ≤ (fib b).1 := by
  induction h with
  | refl => exact Nat.le_refl _
  | step _ ih => exact Nat.le_trans ih (fib_mono1 _)
theorem fib_two (n : Nat) : (fib (n + 2)).1 = (fib n).1 + (fib (n + 1)).1 := by simp only [fib]
theorem T.fewest : ∀ {t : T}, t.ok → (fib t.ht).1 ≤ t.parts.length
  | .leaf s, _ => Nat.le_refl _
  | .node l r, h => by
    obtain ⟨h1, h2, h3, h4⟩ := h
    have i1 := T.fewest h1
    have i2 := T.fewest h2
    simp only [T.ht, T.parts, List.length_append]
    by_cases hlt : l.ht = r.ht
    · rw [hlt, Nat.max_self]
      rw [hlt] at i1
      have h5 : (fib (r.ht + 1)).1 ≤ (fib r.ht).1 + (fib r.ht).1 := by
        cases hr : r.ht with
        | zero => simp [fib]
        | succ n =>
          rw [fib_two]
          have := fib_mono1 n
          omega
      omega
    · by_cases hl : l.ht < r.ht
      · have e : r.ht = l.ht + 1 := by omega
        rw [e] at i2 ⊢
        rw [show max l.ht (l.ht + 1) = l.ht + 1 by omega, fib_two]
        omega
      · have e : l.ht = r.ht + 1 := by omega
        rw [e] at i1 ⊢
        rw [show max (r.ht + 1) r.ht = r.ht + 1 by omega, fib_two]
        omega
theorem T.most : ∀ t : T, t.parts.length ≤ 2 ^ t.ht
  | .nil => Nat.zero_le _
  | .leaf s => Nat.le_refl _
  | .node l r => by
    have i1 := T.most l
    have i2 := T.most r
    simp only [T.ht, T.parts, List.length_append]
    have m1 : 2 ^ l.ht ≤ 2 ^ max l.ht r.ht := Nat.pow_le_pow_right (by omega) (by omega)
    have m2 : 2 ^ r.ht ≤ 2 ^ max l.ht r.ht := Nat.pow_le_pow_right (by omega) (by omega)
    rw [Nat.pow_succ]
    omega
theorem T.ht_by : ∀ {t : T}, t.ok → t.ht < t.by
  | .leaf s, h => by
    have := T.ok_by (t := .leaf s) h
    exact this
  | .node l r, h => by
    have i1 := T.ht_by h.1
    have i2 := T.ht_by h.2.1
    simp only [T.ht, T.by]
    omega
theorem T.ht_byn {t : T} (h : t.okn) : t.ht ≤ t.by := by
  rcases h with rfl | h
  · exact Nat.le_refl _
  · exact Nat.le_of_lt (T.ht_by h)
theorem fib_40 : 1000000 < (fib 40).1 := by decide +kernel
theorem T.ht_small {t : T} (h : t.okn) (hb : t.by ≤ 1000000) : t.ht < 40 := by
  rcases h with rfl | h
  · exact Nat.zero_lt_succ _
  · apply Nat.lt_of_not_le
    intro h4
    have h1 := T.fewest h
    have h2 := fib_mono h4
    have h3 := fib_40
    have h5 : t.parts.length ≤ t.by := by
      clear h1 h2 h3 h4 hb
      revert h
      induction t with
      | nil => intro h; exact absurd h id
      | leaf s =>
        intro h
        have := T.ok_by (t := .leaf s) h
        exact this
      | node l r il ir =>
        intro h
        have := il h.1
        have := ir h.2.1
        simp only [T.parts, T.by, List.length_append]
        omega
    omega

theorem T.node_of_ht {t : T} (h : 0 < t.ht) : t = .node t.L t.R := by
  cases t with
  | nil => simp [T.ht] at h
  | leaf => simp [T.ht] at h
  | node => rfl
theorem T.R_lt {t : T} (h : 0 < t.ht) : t.R.ht < t.ht := by
  rw [T.node_of_ht h]
  simp only [T.R, T.ht]
  omega
theorem T.L_lt {t : T} (h : 0 < t.ht) : t.L.ht < t.ht := by
  rw [T.node_of_ht h]
  simp only [T.L, T.ht]
  omega

theorem L_node (l r : T) : (T.node l r).L = l := rfl
theorem R_node (l r : T) : (T.node l r).R = r := rfl
theorem ht_node (l r : T) : (T.node l r).ht = max l.ht r.ht + 1 := rfl

/-- Of two sides whose heights differ by 2 at most. -/
def bal (a b : T) : T :=
  if a.ht + 1 < b.ht ∧ b.R.ht < b.L.ht then .node (.node a b.L.L) (.node b.L.R b.R)
  else if a.ht + 1 < b.ht then .node (.node a b.L) b.R
  else if b.ht + 1 < a.ht ∧ a.L.ht < a.R.ht then .node (.node a.L a.R.L) (.node a.R.R b)
  else if b.ht + 1 < a.ht then .node a.L (.node a.R b)
  else .node a b

/-- What a tree made of two is. -/
structure Of (t a b : T) : Prop where
  ok : t.ok
  txt : t.txt = a.txt ++ b.txt
  lo : max a.ht b.ht ≤ t.ht
  hi : t.ht ≤ max a.ht b.ht + 1

theorem bal1 {a b : T} (h1 : a.ht + 1 < b.ht) (h2 : b.R.ht < b.L.ht) : bal a b = .node (.node a b.L.L) (.node b.L.R b.R) := by
  unfold bal
  rw [if_pos (And.intro h1 h2)]
theorem bal2 {a b : T} (h1 : a.ht + 1 < b.ht) (h2 : ¬ b.R.ht < b.L.ht) : bal a b = .node (.node a b.L) b.R := by
  unfold bal
  rw [if_neg (fun h => h2 h.2), if_pos h1]
theorem bal3 {a b : T} (h1 : b.ht + 1 < a.ht) (h2 : a.L.ht < a.R.ht) : bal a b = .node (.node a.L a.R.L) (.node a.R.R b) := by
  unfold bal
  rw [if_neg (by omega), if_neg (by omega), if_pos (And.intro h1 h2)]
theorem bal4 {a b : T} (h1 : b.ht + 1 < a.ht) (h2 : ¬ a.L.ht < a.R.ht) : bal a b = .node a.L (.node a.R b) := by
  unfold bal
  rw [if_neg (by omega), if_neg (by omega), if_neg (fun h => h2 h.2), if_pos h1]
theorem bal5 {a b : T} (h1 : ¬ b.ht + 1 < a.ht) (h2 : ¬ a.ht + 1 < b.ht) : bal a b = .node a b := by
  unfold bal
  rw [if_neg (by omega), if_neg (by omega), if_neg (by omega), if_neg (by omega)]

theorem bal_of {a b : T} (ha : a.ok) (hb : b.ok) (h1 : a.ht ≤ b.ht + 2) (h2 : b.ht ≤ a.ht + 2) : Of (bal a b) a b := by
  by_cases c1 : a.ht + 1 < b.ht
  · by_cases c2 : b.R.ht < b.L.ht
    · rw [bal1 c1 c2]
      obtain ⟨l, r, rfl⟩ : ∃ l r, b = .node l r := ⟨_, _, T.node_of_ht (by omega)⟩
      simp only [L_node, R_node] at c2
      obtain ⟨x, y, rfl⟩ : ∃ x y, l = .node x y := ⟨_, _, T.node_of_ht (by omega)⟩
      obtain ⟨⟨hx, hy, p1, p2⟩, hr, q1, q2⟩ := hb
      simp only [L_node, R_node, ht_node] at *
      refine ⟨⟨⟨ha, hx, ?_, ?_⟩, ⟨hy, hr, ?_, ?_⟩, ?_, ?_⟩, ?_, ?_, ?_⟩ <;> first | omega | (simp only [T.txt, List.append_assoc]; done) | (simp only [T.ht]; omega)
    · rw [bal2 c1 c2]
      obtain ⟨l, r, rfl⟩ : ∃ l r, b = .node l r := ⟨_, _, T.node_of_ht (by omega)⟩
      obtain ⟨hl, hr, q1, q2⟩ := hb
      simp only [L_node, R_node, ht_node] at *
      refine ⟨⟨⟨ha, hl, ?_, ?_⟩, hr, ?_, ?_⟩, ?_, ?_, ?_⟩ <;> first | omega | (simp only [T.txt, List.append_assoc]; done) | (simp only [T.ht]; omega)
  · by_cases c3 : b.ht + 1 < a.ht
    · by_cases c2 : a.L.ht < a.R.ht
      · rw [bal3 c3 c2]
        obtain ⟨l, r, rfl⟩ : ∃ l r, a = .node l r := ⟨_, _, T.node_of_ht (by omega)⟩
        simp only [L_node, R_node] at c2
        obtain ⟨x, y, rfl⟩ : ∃ x y, r = .node x y := ⟨_, _, T.node_of_ht (by omega)⟩
        obtain ⟨hl, ⟨hx, hy, p1, p2⟩, q1, q2⟩ := ha
        simp only [L_node, R_node, ht_node] at *
        refine ⟨⟨⟨hl, hx, ?_, ?_⟩, ⟨hy, hb, ?_, ?_⟩, ?_, ?_⟩, ?_, ?_, ?_⟩ <;> first | omega | (simp only [T.txt, List.append_assoc]; done) | (simp only [T.ht]; omega)
      · rw [bal4 c3 c2]
        obtain ⟨l, r, rfl⟩ : ∃ l r, a = .node l r := ⟨_, _, T.node_of_ht (by omega)⟩
        obtain ⟨hl, hr, q1, q2⟩ := ha
        simp only [L_node, R_node, ht_node] at *
        refine ⟨⟨hl, ⟨hr, hb, ?_, ?_⟩, ?_, ?_⟩, ?_, ?_, ?_⟩ <;> first | omega | (simp only [T.txt, List.append_assoc]; done) | (simp only [T.ht]; omega)
    · rw [bal5 c3 c1]
      refine ⟨⟨ha, hb, ?_, ?_⟩, ?_, ?_, ?_⟩ <;> first | omega | rfl | (simp only [T.ht]; omega)

theorem bal_flat {a b : T} (h1 : a.ht ≤ b.ht + 1) (h2 : b.ht ≤ a.ht + 1) : (bal a b).ht = max a.ht b.ht + 1 := by
  rw [bal5 (by omega) (by omega)]
  rfl

theorem T.ok_L {t : T} (h : t.ok) (hp : 0 < t.ht) : t.L.ok ∧ t.R.ok ∧ t.L.ht ≤ t.R.ht + 1 ∧ t.R.ht ≤ t.L.ht + 1 ∧ t.txt = t.L.txt ++ t.R.txt ∧ t.ht = max t.L.ht t.R.ht + 1 := by
  obtain ⟨l, r, rfl⟩ : ∃ l r, t = .node l r := ⟨_, _, T.node_of_ht hp⟩
  exact ⟨h.1, h.2.1, h.2.2.1, h.2.2.2, rfl, rfl⟩

instance (t : T) : Decidable (t = .nil) := by
  cases t
  · exact isTrue rfl
  · exact isFalse (fun h => by cases h)
  · exact isFalse (fun h => by cases h)

/-- All parts of both, as they are. -/
def link (a b : T) : T :=
  if a = .nil then b
  else if b = .nil then a
  else if h1 : b.ht + 1 < a.ht then bal a.L (link a.R b)
  else if h2 : a.ht + 1 < b.ht then bal (link a b.L) b.R
  else .node a b
termination_by a.ht + b.ht
decreasing_by
  · have := T.R_lt (t := a) (by omega)
    omega
  · have := T.L_lt (t := b) (by omega)
    omega

theorem ok_not_nil {t : T} (h : t.ok) : t ≠ .nil := by
  rintro rfl
  exact h

theorem link_of : ∀ (n : Nat) {a b : T}, a.ht + b.ht ≤ n → a.ok → b.ok → Of (link a b) a b := by
  intro n
  induction n with
  | zero =>
    intro a b hn ha hb
    rw [link, if_neg (ok_not_nil ha), if_neg (ok_not_nil hb), dif_neg (by omega), dif_neg (by omega)]
    refine ⟨⟨ha, hb, by omega, by omega⟩, rfl, ?_, ?_⟩ <;> simp only [T.ht] <;> omega
  | succ n ih =>
    intro a b hn ha hb
    rw [link, if_neg (ok_not_nil ha), if_neg (ok_not_nil hb)]
    by_cases c1 : b.ht + 1 < a.ht
    · rw [dif_pos c1]
      obtain ⟨o1, o2, o3, o4, o5, o6⟩ := T.ok_L ha (by omega)
      have i := ih (a := a.R) (b := b) (by omega) o2 hb
      have il := i.lo
      have ih := i.hi
      have B := bal_of (a := a.L) (b := link a.R b) o1 i.ok (by omega) (by omega)
      have bl := B.lo
      have bh := B.hi
      refine ⟨B.ok, ?_, ?_, ?_⟩
      · rw [B.txt, i.txt, o5, List.append_assoc]
      · by_cases hq : (link a.R b).ht ≤ a.L.ht + 1
        · have := bal_flat (a := a.L) (b := link a.R b) (by omega) hq
          omega
        · omega
      · omega
    · rw [dif_neg c1]
      by_cases c2 : a.ht + 1 < b.ht
      · rw [dif_pos c2]
        obtain ⟨o1, o2, o3, o4, o5, o6⟩ := T.ok_L hb (by omega)
        have i := ih (a := a) (b := b.L) (by omega) ha o1
        have il := i.lo
        have ih := i.hi
        have B := bal_of (a := link a b.L) (b := b.R) i.ok o2 (by omega) (by omega)
        have bl := B.lo
        have bh := B.hi
        refine ⟨B.ok, ?_, ?_, ?_⟩
        · rw [B.txt, i.txt, o5, List.append_assoc]
        · by_cases hq : (link a b.L).ht ≤ b.R.ht + 1
          · have := bal_flat (a := link a b.L) (b := b.R) hq (by omega)
            omega
          · omega
        · omega
      · rw [dif_neg c2]
        refine ⟨⟨ha, hb, by omega, by omega⟩, rfl, ?_, ?_⟩ <;> simp only [T.ht] <;> omega
end Go.Proofs.YtengmiolcfgdiaaDoor.Tree
