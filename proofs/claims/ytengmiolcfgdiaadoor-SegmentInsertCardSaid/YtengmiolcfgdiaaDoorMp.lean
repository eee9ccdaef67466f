/- Plain lists alone: spans, sites, the letters' marks, as the plain text of the document's answer builds them. No program is spoken of here. -/
import Derived.Test.YtengmiolcfgdiaaDoorRu
set_option linter.unusedVariables false
namespace Go.Proofs.YtengmiolcfgdiaaDoor.Rt

/-- A span: its mark, from where, to where. -/
structure Sp where
  m : Int
  f : Int
  t : Int
deriving DecidableEq
/-- A site: its mark, where. -/
structure St where
  m : Int
  a : Int
deriving DecidableEq
def Sp.z : Sp := ⟨0, 0, 0⟩
def St.z : St := ⟨0, 0⟩
def sp (S : List Sp) (i : Nat) : Sp := S.getD i Sp.z
def st (T : List St) (i : Nat) : St := T.getD i St.z
theorem sp_get {S : List Sp} {j : Nat} (h : j < S.length) : sp S j = S[j] := by
  unfold sp
  rw [List.getD_eq_getElem?_getD, List.getElem?_eq_getElem h]
  rfl
theorem st_get {T : List St} {j : Nat} (h : j < T.length) : st T j = T[j] := by
  unfold st
  rw [List.getD_eq_getElem?_getD, List.getElem?_eq_getElem h]
  rfl
def enc3 (s : Sp) : List Int := [s.m, s.f, s.t]
def enc2 (s : St) : List Int := [s.m, s.a]
def fl3 (S : List Sp) : List Int := S.flatMap enc3
def fl2 (T : List St) : List Int := T.flatMap enc2
theorem fl3_len (S : List Sp) : (fl3 S).length = S.length * 3 := by
  unfold fl3
  induction S with
  | nil => rfl
  | cons s S ih => rw [List.flatMap_cons, List.length_append, ih, List.length_cons]; show 3 + _ = _; omega
theorem fl2_len (S : List St) : (fl2 S).length = S.length * 2 := by
  unfold fl2
  induction S with
  | nil => rfl
  | cons s S ih => rw [List.flatMap_cons, List.length_append, ih, List.length_cons]; show 2 + _ = _; omega
theorem fl3_app (S R : List Sp) : fl3 (S ++ R) = fl3 S ++ fl3 R := List.flatMap_append
theorem fl2_app (S R : List St) : fl2 (S ++ R) = fl2 S ++ fl2 R := List.flatMap_append
theorem fl3_at : ∀ (S : List Sp) (j : Nat), j < S.length → at_ (fl3 S) (j * 3) = (sp S j).m ∧ at_ (fl3 S) (j * 3 + 1) = (sp S j).f ∧ at_ (fl3 S) (j * 3 + 2) = (sp S j).t
  | [], j, h => by simp at h
  | s :: S, 0, h => ⟨rfl, rfl, rfl⟩
  | s :: S, j + 1, h => by
    have ih := fl3_at S j (by simpa using h)
    have e : fl3 (s :: S) = s.m :: s.f :: s.t :: fl3 S := rfl
    have g : ∀ i, at_ (s.m :: s.f :: s.t :: fl3 S) (i + 3) = at_ (fl3 S) i := fun i => rfl
    have q : sp (s :: S) (j + 1) = sp S j := rfl
    rw [e, q, show (j + 1) * 3 = j * 3 + 3 by omega, show j * 3 + 3 + 1 = j * 3 + 1 + 3 by omega, show j * 3 + 3 + 2 = j * 3 + 2 + 3 by omega, g, g, g]
    exact ih
theorem fl2_at : ∀ (S : List St) (j : Nat), j < S.length → at_ (fl2 S) (j * 2) = (st S j).m ∧ at_ (fl2 S) (j * 2 + 1) = (st S j).a
  | [], j, h => by simp at h
  | s :: S, 0, h => ⟨rfl, rfl⟩
  | s :: S, j + 1, h => by
    have ih := fl2_at S j (by simpa using h)
    have e : fl2 (s :: S) = s.m :: s.a :: fl2 S := rfl
    have g : ∀ i, at_ (s.m :: s.a :: fl2 S) (i + 2) = at_ (fl2 S) i := fun i => rfl
    have q : st (s :: S) (j + 1) = st S j := rfl
    rw [e, q, show (j + 1) * 2 = j * 2 + 2 by omega, show j * 2 + 2 + 1 = j * 2 + 1 + 2 by omega, g, g]
    exact ih

/-! ### Right -/
def spOk (S : List Sp) (n : Int) (i : Nat) : Prop :=
  0 < (sp S i).m ∧ 0 ≤ (sp S i).f ∧ (sp S i).f < (sp S i).t ∧ (sp S i).t ≤ n ∧ (0 < i → (sp S (i - 1)).t ≤ (sp S i).f ∧ ((sp S i).f = (sp S (i - 1)).t → (sp S i).m ≠ (sp S (i - 1)).m))
instance (S : List Sp) (n : Int) (i : Nat) : Decidable (spOk S n i) := by unfold spOk; infer_instance
def stOk (T : List St) (n : Int) (i : Nat) : Prop :=
  0 < (st T i).m ∧ 0 ≤ (st T i).a ∧ (st T i).a ≤ n ∧ (0 < i → (st T (i - 1)).a ≤ (st T i).a ∧ ((st T i).a = (st T (i - 1)).a → (st T (i - 1)).m < (st T i).m))
instance (T : List St) (n : Int) (i : Nat) : Decidable (stOk T n i) := by unfold stOk; infer_instance
def mrightP (S : List Sp) (T : List St) (n : Int) : Prop := (∀ j, j < S.length → spOk S n j) ∧ (∀ j, j < T.length → stOk T n j)
instance (S : List Sp) (T : List St) (n : Int) : Decidable (mrightP S T n) := by unfold mrightP; infer_instance
def mrightB (S : List Sp) (T : List St) (n : Int) : Bool := decide (mrightP S T n)
theorem mright_sp {S : List Sp} {T : List St} {n : Int} {k : Nat} (hk : k < S.length) (h : ¬ spOk S n k) : mrightB S T n = false := by
  unfold mrightB
  exact decide_eq_false fun hc => h (hc.1 k hk)
theorem mright_st {S : List Sp} {T : List St} {n : Int} {k : Nat} (hk : k < T.length) (h : ¬ stOk T n k) : mrightB S T n = false := by
  unfold mrightB
  exact decide_eq_false fun hc => h (hc.2 k hk)

/-! ### Letters, runs, sites -/
def lastAt (S : List Sp) (x : Int) : Int := S.foldl (fun a s => if s.f ≤ x ∧ x < s.t then s.m else a) 0
def letters (S : List Sp) (n : Nat) : List Int := (List.range n).map fun x : Nat => lastAt S (x : Int)
theorem lastAt_snoc (S : List Sp) (s : Sp) (x : Int) : lastAt (S ++ [s]) x = if s.f ≤ x ∧ x < s.t then s.m else lastAt S x := by
  unfold lastAt
  rw [List.foldl_append]
  rfl

/-- One letter more: a run is longer, or there is a new one. -/
def runF (out : List Sp) (i : Int) (x : Int) : List Sp :=
  if x = 0 then out else if 0 < out.length ∧ (sp out (out.length - 1)).t = i ∧ (sp out (out.length - 1)).m = x then out.set (out.length - 1) ⟨(sp out (out.length - 1)).m, (sp out (out.length - 1)).f, i + 1⟩ else out ++ [⟨x, i, i + 1⟩]
def runsN (l : List Int) : Nat → List Sp
  | 0 => []
  | k + 1 => runF (runsN l k) k (at_ l k)
def runs (l : List Int) : List Sp := runsN l l.length

/-- Does site x stand behind s? -/
def gtS (x s : St) : Prop := s.a < x.a ∨ x.a = s.a ∧ s.m < x.m
instance (x s : St) : Decidable (gtS x s) := by unfold gtS; infer_instance
def dnS (T : List St) (s : St) (k : Nat) : Prop := ∃ j, j < k ∧ gtS (st T j) s
instance (T : List St) (s : St) (k : Nat) : Decidable (dnS T s k) := by unfold dnS; infer_instance
def outS (T : List St) (s : St) : Nat → List St
  | 0 => []
  | k + 1 => (outS T s k ++ (if ¬ dnS T s k ∧ gtS (st T k) s then [s] else [])) ++ [st T k]
def siteL (T : List St) (s : St) : List St := if s ∈ T then T else outS T s T.length ++ (if dnS T s T.length then [] else [s])
theorem dnS_succ {T : List St} {s : St} {k : Nat} : dnS T s (k + 1) ↔ dnS T s k ∨ gtS (st T k) s := by
  unfold dnS
  constructor
  · rintro ⟨j, h1, h2⟩
    by_cases e : j = k
    · subst e; exact .inr h2
    · exact .inl ⟨j, by omega, h2⟩
  · rintro (⟨j, h1, h2⟩ | h)
    · exact ⟨j, by omega, h2⟩
    · exact ⟨k, by omega, h⟩
theorem outS_len (T : List St) (s : St) : ∀ k, (outS T s k).length ≤ k + (if dnS T s k then 1 else 0)
  | 0 => by simp [outS]
  | k + 1 => by
    have ih := outS_len T s k
    unfold outS
    rw [List.length_append, List.length_append]
    by_cases h1 : dnS T s k
    · rw [if_pos h1] at ih
      rw [if_neg (fun hc => hc.1 h1), if_pos (dnS_succ.2 (.inl h1))]
      simp
      omega
    · rw [if_neg h1] at ih
      by_cases h2 : gtS (st T k) s
      · rw [if_pos ⟨h1, h2⟩, if_pos (dnS_succ.2 (.inr h2))]
        simp
        omega
      · rw [if_neg (fun hc => h2 hc.2), if_neg (fun hc => (dnS_succ.1 hc).elim h1 h2)]
        simp
        omega
theorem siteL_len (T : List St) (s : St) : (siteL T s).length ≤ T.length + 1 := by
  have := outS_len T s T.length
  unfold siteL
  split
  · omega
  · rw [List.length_append]
    split at this
    · rw [if_pos (by assumption)]; simp; omega
    · rw [if_neg (by assumption)]; simp; omega
end Go.Proofs.YtengmiolcfgdiaaDoor.Rt
