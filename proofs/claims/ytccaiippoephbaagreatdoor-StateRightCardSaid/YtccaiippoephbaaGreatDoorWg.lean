/- Plain lists alone: labels, which are right, who may what. No program is spoken of here. -/
import Derived.Below
import Derived.Lib.Hide
set_option linter.unusedVariables false
namespace Go.Proofs.YtccaiippoephbaaGreatDoor.Rt

/-- A label: its parent, its owner, who reads, who writes. -/
structure Lb where
  p : Int
  o : Int
  r : List Int
  s : List Int

def Lb.z : Lb := ⟨0, 0, [], []⟩
def lb (L : List Lb) (i : Nat) : Lb := L.getD i Lb.z
def at_ (l : List Int) (i : Nat) : Int := l.getD i 0

def prev (l : List Int) (j : Nat) : Int := if j = 0 then -1 else at_ l (j - 1)
theorem prev_zero (l : List Int) : prev l 0 = -1 := rfl
theorem prev_succ (l : List Int) (j : Nat) : prev l (j + 1) = at_ l j := by simp [prev]
def okAt (l : List Int) (u : Int) (j : Nat) : Prop := prev l j < at_ l j ∧ at_ l j < u
instance (l : List Int) (u : Int) (j : Nat) : Decidable (okAt l u j) := by unfold okAt; infer_instance
def rises (l : List Int) (u : Int) : Prop := ∀ j, j < l.length → okAt l u j
instance (l : List Int) (u : Int) : Decidable (rises l u) := by unfold rises; infer_instance
def risB (l : List Int) (u : Int) : Bool := decide (rises l u)

theorem risB_false {l : List Int} {u : Int} {k : Nat} (hk : k < l.length) (h : ¬ okAt l u k) : risB l u = false := by
  unfold risB
  exact decide_eq_false fun hc => h (hc k hk)
theorem risB_true {l : List Int} {u : Int} (h : ∀ j, j < l.length → okAt l u j) : risB l u = true := decide_eq_true h

/-- As far as all is well, each is a user. -/
theorem okAt_pos {l : List Int} {u : Int} : ∀ (j : Nat), (∀ i, i ≤ j → okAt l u i) → 0 ≤ at_ l j
  | 0, h => by
    have := (h 0 (Nat.le_refl _)).1
    rw [prev_zero] at this
    omega
  | j + 1, h => by
    have := (h (j + 1) (Nat.le_refl _)).1
    rw [prev_succ] at this
    have := okAt_pos j (fun i hi => h i (by omega))
    omega

def lbOk (L : List Lb) (u : Int) (i : Nat) : Prop :=
  -1 ≤ (lb L i).p ∧ (lb L i).p < (i : Int) ∧ 0 ≤ (lb L i).o ∧ (lb L i).o < u ∧ risB (lb L i).r u = true ∧ risB (lb L i).s u = true
instance (L : List Lb) (u : Int) (j : Nat) : Decidable (lbOk L u j) := by unfold lbOk; infer_instance
def rightP (L : List Lb) (u : Int) : Prop := 1 ≤ L.length ∧ L.length ≤ 12 ∧ ∀ j, j < L.length → lbOk L u j
instance (L : List Lb) (u : Int) : Decidable (rightP L u) := by unfold rightP; infer_instance
def rightB (L : List Lb) (u : Int) : Bool := decide (rightP L u)
theorem rightB_false {L : List Lb} {u : Int} {k : Nat} (hk : k < L.length) (h : ¬ lbOk L u k) : rightB L u = false := by
  unfold rightB
  exact decide_eq_false fun hc => h (hc.2.2 k hk)
theorem rightB_len {L : List Lb} {u : Int} (h : ¬ (1 ≤ L.length ∧ L.length ≤ 12)) : rightB L u = false := by
  unfold rightB
  exact decide_eq_false fun hc => h ⟨hc.1, hc.2.1⟩
theorem rightB_true {L : List Lb} {u : Int} (h1 : 1 ≤ L.length) (h2 : L.length ≤ 12) (h : ∀ j, j < L.length → lbOk L u j) : rightB L u = true := decide_eq_true ⟨h1, h2, h⟩
def two : List Lb := [⟨-1, 0, [0], [0]⟩, ⟨0, 0, [0, 2], [0]⟩]

/-- Few labels, of few users each. -/
def smallAt (L : List Lb) (i : Nat) : Prop := (lb L i).r.length ≤ 100 ∧ (lb L i).s.length ≤ 100
instance (L : List Lb) (j : Nat) : Decidable (smallAt L j) := by unfold smallAt; infer_instance
def smallP (L : List Lb) : Prop := L.length ≤ 100 ∧ ∀ j, j < L.length → smallAt L j
instance (L : List Lb) : Decidable (smallP L) := by unfold smallP; infer_instance
def smallB (L : List Lb) : Bool := decide (smallP L)
theorem smallB_false {L : List Lb} {k : Nat} (hk : k < L.length) (h : ¬ smallAt L k) : smallB L = false := by
  unfold smallB
  exact decide_eq_false fun hc => h (hc.2 k hk)

/-! ### Who may -/

def hasB (l : List Int) (x : Int) : Bool := decide (∃ j, j < l.length ∧ at_ l j = x)
theorem hasB_false {l : List Int} {x : Int} (h : ∀ j, j < l.length → at_ l j ≠ x) : hasB l x = false := by
  unfold hasB
  exact decide_eq_false fun ⟨j, h1, h2⟩ => h j h1 h2
theorem hasB_true {l : List Int} {x : Int} {k : Nat} (hk : k < l.length) (h : at_ l k = x) : hasB l x = true := decide_eq_true ⟨k, hk, h⟩

def Lb.own (x : Lb) (w : Bool) : List Int := if w then x.s else x.r
def mayF (L : List Lb) (u : Int) (w : Bool) : Nat → Nat → Bool
  | 0, _ => false
  | f + 1, k => hasB ((lb L k).own w) u && (if (lb L k).p < 0 ∨ (k : Int) ≤ (lb L k).p then true else mayF L u w f (lb L k).p.toNat)
def mayK (L : List Lb) (u : Int) (w : Bool) (k : Nat) : Bool := mayF L u w (k + 1) k
def mayB (L : List Lb) (u : Int) (i : Int) (w : Bool) : Bool := if 0 ≤ i ∧ i < (L.length : Int) then mayK L u w i.toNat else false
end Go.Proofs.YtccaiippoephbaaGreatDoor.Rt
/- Plain lists alone: what a grant makes of labels. No program is spoken of here. -/
set_option linter.unusedVariables false
namespace Go.Proofs.YtccaiippoephbaaGreatDoor.Rt

/-- Users: rising, each below n. -/
def Us (xs : List Int) (n : Int) : Prop := xs.Pairwise (· < ·) ∧ ∀ x ∈ xs, 0 ≤ x ∧ x < n

theorem at_get {xs : List Int} {j : Nat} (h : j < xs.length) : at_ xs j = xs[j] := by
  unfold at_
  rw [List.getD_eq_getElem?_getD, List.getElem?_eq_getElem h]
  rfl

/-- With u, or without. -/
def setL (xs : List Int) (u : Int) (on : Bool) : List Int := xs.filter (· < u) ++ ((if on then [u] else []) ++ xs.filter (u < ·))

theorem split_us : ∀ (xs : List Int) (u : Int), xs.Pairwise (· < ·) → xs = xs.filter (· < u) ++ ((if xs.contains u then [u] else []) ++ xs.filter (u < ·)) ∧ xs.take (xs.countP (· < u)) = xs.filter (· < u)
  | [], u, _ => by simp
  | x :: xs, u, h => by
    obtain ⟨h1, h2⟩ := List.pairwise_cons.1 h
    obtain ⟨i1, i2⟩ := split_us xs u h2
    by_cases hx : x < u
    · have hne : ¬ u = x := by omega
      constructor
      · have e : (x :: xs).contains u = xs.contains u := by simp [hne]
        rw [e, List.filter_cons_of_pos (by simpa using hx), List.filter_cons_of_neg (by simp; omega), List.cons_append]
        exact congrArg (x :: ·) i1
      · rw [List.countP_cons_of_pos (by simpa using hx), List.take_succ_cons, i2, List.filter_cons_of_pos (by simpa using hx)]
    · have hall : ∀ y ∈ xs, u < y := fun y hy => by have := h1 y hy; omega
      have f1 : xs.filter (· < u) = [] := List.filter_eq_nil_iff.2 (fun y hy => by have := hall y hy; simp; omega)
      have f2 : xs.filter (u < ·) = xs := List.filter_eq_self.2 (fun y hy => by simpa using hall y hy)
      have c0 : xs.countP (· < u) = 0 := by rw [List.countP_eq_length_filter, f1]; rfl
      constructor
      · rw [List.filter_cons_of_neg (by simpa using hx), f1, List.nil_append]
        by_cases hu : u = x
        · subst hu
          rw [List.filter_cons_of_neg (by simp), f2]
          simp
        · have hn : ¬ u ∈ xs := fun hm => by have := hall u hm; omega
          rw [List.filter_cons_of_pos (by simp; omega), f2]
          simp [hu, hn]
      · rw [List.countP_cons_of_neg (by simpa using hx), c0, List.filter_cons_of_neg (by simpa using hx), f1]
        rfl

theorem hasB_contains (xs : List Int) (u : Int) : hasB xs u = xs.contains u := by
  unfold hasB
  rw [Bool.eq_iff_iff, decide_eq_true_iff, List.contains_iff_mem]
  constructor
  · rintro ⟨j, hj, rfl⟩
    rw [at_get hj]
    exact List.getElem_mem hj
  · intro h
    obtain ⟨j, hj, rfl⟩ := List.getElem_of_mem h
    exact ⟨j, hj, at_get hj⟩

/-- What the plain text builds. -/
def inK (xs : List Int) (u : Int) (on : Bool) (k : Nat) : Prop := on = true ∧ u < at_ xs k ∧ (k = 0 ∨ at_ xs (k - 1) < u)
instance (xs : List Int) (u : Int) (on : Bool) (k : Nat) : Decidable (inK xs u on k) := by unfold inK; infer_instance
def outN (xs : List Int) (u : Int) (on : Bool) : Nat → List Int
  | 0 => []
  | k + 1 => outN xs u on k ++ ((if inK xs u on k then [u] else []) ++ (if on = true ∨ at_ xs k ≠ u then [at_ xs k] else []))
def endK (xs : List Int) (u : Int) (on : Bool) : Prop := on = true ∧ (xs.length = 0 ∨ at_ xs (xs.length - 1) < u)
instance (xs : List Int) (u : Int) (on : Bool) : Decidable (endK xs u on) := by unfold endK; infer_instance
def withL (xs : List Int) (u : Int) (on : Bool) : List Int := outN xs u on xs.length ++ (if endK xs u on then [u] else [])
theorem outN_len (xs : List Int) (u : Int) (on : Bool) : ∀ k, (outN xs u on k).length ≤ 2 * k
  | 0 => Nat.le_refl _
  | k + 1 => by
    have := outN_len xs u on k
    unfold outN
    rw [List.length_append, List.length_append]
    have a : (if inK xs u on k then [u] else []).length ≤ 1 := by split <;> simp
    have b : (if on = true ∨ at_ xs k ≠ u then [at_ xs k] else []).length ≤ 1 := by split <;> simp
    omega
theorem take_at {xs : List Int} {k : Nat} (h : k < xs.length) : xs.take (k + 1) = xs.take k ++ [at_ xs k] := by
  rw [List.take_succ_eq_append_getElem h, at_get h]
theorem pw_at {xs : List Int} (h : xs.Pairwise (· < ·)) {i j : Nat} (hij : i < j) (hj : j < xs.length) : at_ xs i < at_ xs j := by
  rw [at_get hj, at_get (by omega)]
  exact (List.pairwise_iff_getElem).1 h i j _ _ hij
theorem mem_take_at {xs : List Int} {k : Nat} {y : Int} (hy : y ∈ xs.take k) : ∃ j, j < k ∧ j < xs.length ∧ at_ xs j = y := by
  obtain ⟨j, hj, rfl⟩ := List.getElem_of_mem hy
  rw [List.length_take] at hj
  refine ⟨j, by omega, by omega, ?_⟩
  rw [List.getElem_take, at_get (by omega)]
/-- All of the first k are below u? -/
theorem all_lt {xs : List Int} (h : xs.Pairwise (· < ·)) {u : Int} {k : Nat} (hk : k ≤ xs.length) (hl : k = 0 ∨ at_ xs (k - 1) < u) : ∀ y ∈ xs.take k, y < u := by
  intro y hy
  obtain ⟨j, h1, h2, rfl⟩ := mem_take_at hy
  rcases hl with rfl | hl
  · omega
  · by_cases e : j = k - 1
    · subst e; exact hl
    · have := pw_at h (show j < k - 1 by omega) (by omega)
      omega
def midL (ys : List Int) (u : Int) : List Int := ys.filter (· < u) ++ ((if ys.any (fun y => u ≤ y) then [u] else []) ++ ys.filter (u < ·))
theorem mid_lt {ys : List Int} {u : Int} (h : ∀ y ∈ ys, y < u) : midL ys u = ys := by
  have f1 : ys.filter (· < u) = ys := List.filter_eq_self.2 (fun y hy => by simpa using h y hy)
  have f2 : ys.filter (u < ·) = [] := List.filter_eq_nil_iff.2 (fun y hy => by have := h y hy; simp; omega)
  have f3 : ys.any (fun y => u ≤ y) = false := by rw [List.any_eq_false]; intro y hy; have := h y hy; simp; omega
  unfold midL
  rw [f1, f2, f3]
  simp
theorem outN_on {xs : List Int} (h : xs.Pairwise (· < ·)) (u : Int) : ∀ k, k ≤ xs.length → outN xs u true k = midL (xs.take k) u
  | 0, _ => by simp [outN, midL]
  | k + 1, hk => by
    have ih := outN_on h u k (by omega)
    unfold outN
    rw [ih, if_pos (show (true = true ∨ at_ xs k ≠ u) from .inl rfl)]
    by_cases hl : k = 0 ∨ at_ xs (k - 1) < u
    · have hall := all_lt h (by omega) hl
      rw [mid_lt hall]
      have f1 : (xs.take k).filter (· < u) = xs.take k := List.filter_eq_self.2 (fun y hy => by simpa using hall y hy)
      have f2 : (xs.take k).filter (u < ·) = [] := List.filter_eq_nil_iff.2 (fun y hy => by have := hall y hy; simp; omega)
      have f3 : (xs.take k).any (fun y => u ≤ y) = false := by rw [List.any_eq_false]; intro y hy; have := hall y hy; simp; omega
      unfold midL
      rw [take_at (by omega), List.filter_append, List.filter_append, List.any_append, f1, f2, f3, Bool.false_or, List.nil_append]
      by_cases hx : u < at_ xs k
      · rw [if_pos (show inK xs u true k from ⟨rfl, hx, hl⟩)]
        have g1 : [at_ xs k].filter (· < u) = [] := List.filter_eq_nil_iff.2 (fun y hy => by simp at hy ⊢; omega)
        have g2 : [at_ xs k].filter (u < ·) = [at_ xs k] := List.filter_eq_self.2 (fun y hy => by simp at hy ⊢; omega)
        have g3 : [at_ xs k].any (fun y => u ≤ y) = true := by simp; omega
        rw [g1, g2, g3]
        simp
      · rw [if_neg (show ¬ inK xs u true k from fun hc => hx hc.2.1)]
        by_cases he : at_ xs k = u
        · rw [he]
          simp
        · have g1 : [at_ xs k].filter (· < u) = [at_ xs k] := List.filter_eq_self.2 (fun y hy => by simp at hy ⊢; omega)
          have g2 : [at_ xs k].filter (u < ·) = [] := List.filter_eq_nil_iff.2 (fun y hy => by simp at hy ⊢; omega)
          have g3 : [at_ xs k].any (fun y => u ≤ y) = false := by simp; omega
          rw [g1, g2, g3]
          simp
    · have hk0 : ¬ k = 0 := fun e => hl (.inl e)
      have hge : u ≤ at_ xs (k - 1) := by omega
      have hgt : u < at_ xs k := by have := pw_at h (show k - 1 < k by omega) (by omega); omega
      have hmem : at_ xs (k - 1) ∈ xs.take k := by
        rw [show k = (k - 1) + 1 by omega, take_at (by omega)]
        simp
      have f3 : (xs.take k).any (fun y => u ≤ y) = true := by rw [List.any_eq_true]; exact ⟨_, hmem, by simpa using hge⟩
      rw [if_neg (show ¬ inK xs u true k from fun hc => hl hc.2.2)]
      unfold midL
      have g1 : [at_ xs k].filter (· < u) = [] := List.filter_eq_nil_iff.2 (fun y hy => by simp at hy ⊢; omega)
      have g2 : [at_ xs k].filter (u < ·) = [at_ xs k] := List.filter_eq_self.2 (fun y hy => by simp at hy ⊢; omega)
      rw [take_at (by omega), List.filter_append, List.filter_append, List.any_append, f3, g1, g2, Bool.true_or]
      simp [List.append_assoc]
theorem outN_off {xs : List Int} (u : Int) : ∀ k, k ≤ xs.length → outN xs u false k = (xs.take k).filter (fun y => decide (y ≠ u))
  | 0, _ => by simp [outN]
  | k + 1, hk => by
    unfold outN
    rw [outN_off u k (by omega), if_neg (show ¬ inK xs u false k from fun hc => by cases hc.1), List.nil_append, take_at (by omega), List.filter_append]
    congr 1
    by_cases he : at_ xs k = u
    · rw [if_neg (by simp [he])]
      simp [he]
    · rw [if_pos (.inr he)]
      simp [he]
theorem filter_ne : ∀ (xs : List Int) (u : Int), xs.Pairwise (· < ·) → xs.filter (fun y => decide (y ≠ u)) = xs.filter (· < u) ++ xs.filter (u < ·) := by
  intro xs u h
  obtain ⟨h1, _⟩ := split_us xs u h
  have a1 : (xs.filter (· < u)).filter (fun y => decide (y ≠ u)) = xs.filter (· < u) := List.filter_eq_self.2 (fun y hy => by simp at hy ⊢; omega)
  have a2 : (xs.filter (u < ·)).filter (fun y => decide (y ≠ u)) = xs.filter (u < ·) := List.filter_eq_self.2 (fun y hy => by simp at hy ⊢; omega)
  have a3 : (if xs.contains u then [u] else []).filter (fun y => decide (y ≠ u)) = [] := by split <;> simp
  calc xs.filter (fun y => decide (y ≠ u)) = (xs.filter (· < u) ++ ((if xs.contains u then [u] else []) ++ xs.filter (u < ·))).filter (fun y => decide (y ≠ u)) := by rw [← h1]
    _ = _ := by rw [List.filter_append, List.filter_append, a1, a2, a3, List.nil_append]
theorem with_set {xs : List Int} (h : xs.Pairwise (· < ·)) (u : Int) (on : Bool) : withL xs u on = setL xs u on := by
  unfold withL
  cases on with
  | false =>
    rw [if_neg (show ¬ endK xs u false from fun hc => by cases hc.1), outN_off u _ (Nat.le_refl _), List.take_length, List.append_nil, filter_ne xs u h]
    unfold setL
    simp
  | true =>
    rw [outN_on h u _ (Nat.le_refl _), List.take_length]
    by_cases he : xs.length = 0 ∨ at_ xs (xs.length - 1) < u
    · rw [if_pos (show endK xs u true from ⟨rfl, he⟩)]
      have hall := all_lt h (Nat.le_refl _) he
      rw [List.take_length] at hall
      rw [mid_lt hall]
      unfold setL
      have f1 : xs.filter (· < u) = xs := List.filter_eq_self.2 (fun y hy => by simpa using hall y hy)
      have f2 : xs.filter (u < ·) = [] := List.filter_eq_nil_iff.2 (fun y hy => by have := hall y hy; simp; omega)
      rw [f1, f2]
      simp
    · rw [if_neg (show ¬ endK xs u true from fun hc => he hc.2), List.append_nil]
      have f3 : xs.any (fun y => u ≤ y) = true := by
        rw [List.any_eq_true]
        refine ⟨at_ xs (xs.length - 1), ?_, by simp; omega⟩
        rw [at_get (by omega)]
        exact List.getElem_mem _
      unfold midL setL
      rw [f3]

/-! ### Labels -/
def Lb.set (x : Lb) (u : Int) (wr on : Bool) : Lb := if wr then ⟨x.p, x.o, x.r, setL x.s u on⟩ else ⟨x.p, x.o, setL x.r u on, x.s⟩
end Go.Proofs.YtccaiippoephbaaGreatDoor.Rt
/- Plain lists alone: spans, sites, the letters' marks, as the plain text of the document's answer builds them. No program is spoken of here. -/
set_option maxRecDepth 100000
set_option linter.unusedVariables false
namespace Go.Proofs.YtccaiippoephbaaGreatDoor.Rt

/-- A span: its mark, from where, to where. -/
structure Sp where
  m : Int
  f : Int
  t : Int
deriving DecidableEq
/-- A site: its mark, where. -/
structure St where
  m : Int
  a : Int
deriving DecidableEq
def Sp.z : Sp := ⟨0, 0, 0⟩
def St.z : St := ⟨0, 0⟩
def sp (S : List Sp) (i : Nat) : Sp := S.getD i Sp.z
def st (T : List St) (i : Nat) : St := T.getD i St.z
theorem sp_get {S : List Sp} {j : Nat} (h : j < S.length) : sp S j = S[j] := by
  unfold sp
  rw [List.getD_eq_getElem?_getD, List.getElem?_eq_getElem h]
  rfl
theorem st_get {T : List St} {j : Nat} (h : j < T.length) : st T j = T[j] := by
  unfold st
  rw [List.getD_eq_getElem?_getD, List.getElem?_eq_getElem h]
  rfl
def enc3 (s : Sp) : List Int := [s.m, s.f, s.t]
def enc2 (s : St) : List Int := [s.m, s.a]
def fl3 (S : List Sp) : List Int := S.flatMap enc3
def fl2 (T : List St) : List Int := T.flatMap enc2
theorem fl3_len (S : List Sp) : (fl3 S).length = S.length * 3 := by
  unfold fl3
  induction S with
  | nil => rfl
  | cons s S ih => rw [List.flatMap_cons, List.length_append, ih, List.length_cons]; show 3 + _ = _; omega
theorem fl2_len (S : List St) : (fl2 S).length = S.length * 2 := by
  unfold fl2
  induction S with
  | nil => rfl
  | cons s S ih => rw [List.flatMap_cons, List.length_append, ih, List.length_cons]; show 2 + _ = _; omega
theorem fl3_at : ∀ (S : List Sp) (j : Nat), j < S.length → at_ (fl3 S) (j * 3) = (sp S j).m ∧ at_ (fl3 S) (j * 3 + 1) = (sp S j).f ∧ at_ (fl3 S) (j * 3 + 2) = (sp S j).t
  | [], j, h => by simp at h
  | s :: S, 0, h => ⟨rfl, rfl, rfl⟩
  | s :: S, j + 1, h => by
    have ih := fl3_at S j (by simpa using h)
    have e : fl3 (s :: S) = s.m :: s.f :: s.t :: fl3 S := rfl
    have g : ∀ i, at_ (s.m :: s.f :: s.t :: fl3 S) (i + 3) = at_ (fl3 S) i := fun i => rfl
    have q : sp (s :: S) (j + 1) = sp S j := rfl
    rw [e, q, show (j + 1) * 3 = j * 3 + 3 by omega, show j * 3 + 3 + 1 = j * 3 + 1 + 3 by omega, show j * 3 + 3 + 2 = j * 3 + 2 + 3 by omega, g, g, g]
    exact ih
theorem fl2_at : ∀ (S : List St) (j : Nat), j < S.length → at_ (fl2 S) (j * 2) = (st S j).m ∧ at_ (fl2 S) (j * 2 + 1) = (st S j).a
  | [], j, h => by simp at h
  | s :: S, 0, h => ⟨rfl, rfl⟩
  | s :: S, j + 1, h => by
    have ih := fl2_at S j (by simpa using h)
    have e : fl2 (s :: S) = s.m :: s.a :: fl2 S := rfl
    have g : ∀ i, at_ (s.m :: s.a :: fl2 S) (i + 2) = at_ (fl2 S) i := fun i => rfl
    have q : st (s :: S) (j + 1) = st S j := rfl
    rw [e, q, show (j + 1) * 2 = j * 2 + 2 by omega, show j * 2 + 2 + 1 = j * 2 + 1 + 2 by omega, g, g]
    exact ih

/-! ### Right -/
def spOk (S : List Sp) (n : Int) (i : Nat) : Prop :=
  0 < (sp S i).m ∧ 0 ≤ (sp S i).f ∧ (sp S i).f < (sp S i).t ∧ (sp S i).t ≤ n ∧ (0 < i → (sp S (i - 1)).t ≤ (sp S i).f ∧ ((sp S i).f = (sp S (i - 1)).t → (sp S i).m ≠ (sp S (i - 1)).m))
instance (S : List Sp) (n : Int) (i : Nat) : Decidable (spOk S n i) := by unfold spOk; infer_instance
def stOk (T : List St) (n : Int) (i : Nat) : Prop :=
  0 < (st T i).m ∧ 0 ≤ (st T i).a ∧ (st T i).a ≤ n ∧ (0 < i → (st T (i - 1)).a ≤ (st T i).a ∧ ((st T i).a = (st T (i - 1)).a → (st T (i - 1)).m < (st T i).m))
instance (T : List St) (n : Int) (i : Nat) : Decidable (stOk T n i) := by unfold stOk; infer_instance
def mrightP (S : List Sp) (T : List St) (n : Int) : Prop := (∀ j, j < S.length → spOk S n j) ∧ (∀ j, j < T.length → stOk T n j)
instance (S : List Sp) (T : List St) (n : Int) : Decidable (mrightP S T n) := by unfold mrightP; infer_instance
def mrightB (S : List Sp) (T : List St) (n : Int) : Bool := decide (mrightP S T n)
theorem mright_sp {S : List Sp} {T : List St} {n : Int} {k : Nat} (hk : k < S.length) (h : ¬ spOk S n k) : mrightB S T n = false := by
  unfold mrightB
  exact decide_eq_false fun hc => h (hc.1 k hk)
theorem mright_st {S : List Sp} {T : List St} {n : Int} {k : Nat} (hk : k < T.length) (h : ¬ stOk T n k) : mrightB S T n = false := by
  unfold mrightB
  exact decide_eq_false fun hc => h (hc.2 k hk)

/-! ### Letters, runs, sites -/
def lastAt (S : List Sp) (x : Int) : Int := S.foldl (fun a s => if s.f ≤ x ∧ x < s.t then s.m else a) 0
/-- Does site x stand behind s? -/
def gtS (x s : St) : Prop := s.a < x.a ∨ x.a = s.a ∧ s.m < x.m
instance (x s : St) : Decidable (gtS x s) := by unfold gtS; infer_instance
def dnS (T : List St) (s : St) (k : Nat) : Prop := ∃ j, j < k ∧ gtS (st T j) s
instance (T : List St) (s : St) (k : Nat) : Decidable (dnS T s k) := by unfold dnS; infer_instance
def outS (T : List St) (s : St) : Nat → List St
  | 0 => []
  | k + 1 => (outS T s k ++ (if ¬ dnS T s k ∧ gtS (st T k) s then [s] else [])) ++ [st T k]
def siteL (T : List St) (s : St) : List St := if s ∈ T then T else outS T s T.length ++ (if dnS T s T.length then [] else [s])
theorem dnS_succ {T : List St} {s : St} {k : Nat} : dnS T s (k + 1) ↔ dnS T s k ∨ gtS (st T k) s := by
  unfold dnS
  constructor
  · rintro ⟨j, h1, h2⟩
    by_cases e : j = k
    · subst e; exact .inr h2
    · exact .inl ⟨j, by omega, h2⟩
  · rintro (⟨j, h1, h2⟩ | h)
    · exact ⟨j, by omega, h2⟩
    · exact ⟨k, by omega, h⟩
end Go.Proofs.YtccaiippoephbaaGreatDoor.Rt
