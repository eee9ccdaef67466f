/- Plain lists alone: labels, which are right, who may what. No program is spoken of here. -/
import Derived.Below
import Derived.Lib.Hide
set_option linter.unusedVariables false
namespace Go.Proofs.YtffepndeegbdoaaGreatDoor.Rt

/-- A label: its parent, its owner, who reads, who writes. -/
structure Lb where
  p : Int
  o : Int
  r : List Int
  s : List Int

def Lb.z : Lb := ⟨0, 0, [], []⟩
def lb (L : List Lb) (i : Nat) : Lb := L.getD i Lb.z
def at_ (l : List Int) (i : Nat) : Int := l.getD i 0

def prev (l : List Int) (j : Nat) : Int := if j = 0 then -1 else at_ l (j - 1)
theorem prev_zero (l : List Int) : prev l 0 = -1 := rfl
theorem prev_succ (l : List Int) (j : Nat) : prev l (j + 1) = at_ l j := by simp [prev]
def okAt (l : List Int) (u : Int) (j : Nat) : Prop := prev l j < at_ l j ∧ at_ l j < u
instance (l : List Int) (u : Int) (j : Nat) : Decidable (okAt l u j) := by unfold okAt; infer_instance
def rises (l : List Int) (u : Int) : Prop := ∀ j, j < l.length → okAt l u j
instance (l : List Int) (u : Int) : Decidable (rises l u) := by unfold rises; infer_instance
def risB (l : List Int) (u : Int) : Bool := decide (rises l u)

theorem risB_false {l : List Int} {u : Int} {k : Nat} (hk : k < l.length) (h : ¬ okAt l u k) : risB l u = false := by
  unfold risB
  exact decide_eq_false fun hc => h (hc k hk)
theorem risB_true {l : List Int} {u : Int} (h : ∀ j, j < l.length → okAt l u j) : risB l u = true := decide_eq_true h

/-- As far as all is well, each is a user. -/
theorem okAt_pos {l : List Int} {u : Int} : ∀ (j : Nat), (∀ i, i ≤ j → okAt l u i) → 0 ≤ at_ l j
  | 0, h => by
    have := (h 0 (Nat.le_refl _)).1
    rw [prev_zero] at this
    omega
  | j + 1, h => by
    have := (h (j + 1) (Nat.le_refl _)).1
    rw [prev_succ] at this
    have := okAt_pos j (fun i hi => h i (by omega))
    omega

def lbOk (L : List Lb) (u : Int) (i : Nat) : Prop :=
  -1 ≤ (lb L i).p ∧ (lb L i).p < (i : Int) ∧ 0 ≤ (lb L i).o ∧ (lb L i).o < u ∧ risB (lb L i).r u = true ∧ risB (lb L i).s u = true
instance (L : List Lb) (u : Int) (j : Nat) : Decidable (lbOk L u j) := by unfold lbOk; infer_instance
def rightP (L : List Lb) (u : Int) : Prop := 1 ≤ L.length ∧ L.length ≤ 12 ∧ ∀ j, j < L.length → lbOk L u j
instance (L : List Lb) (u : Int) : Decidable (rightP L u) := by unfold rightP; infer_instance
def rightB (L : List Lb) (u : Int) : Bool := decide (rightP L u)
theorem rightB_false {L : List Lb} {u : Int} {k : Nat} (hk : k < L.length) (h : ¬ lbOk L u k) : rightB L u = false := by
  unfold rightB
  exact decide_eq_false fun hc => h (hc.2.2 k hk)
theorem rightB_len {L : List Lb} {u : Int} (h : ¬ (1 ≤ L.length ∧ L.length ≤ 12)) : rightB L u = false := by
  unfold rightB
  exact decide_eq_false fun hc => h ⟨hc.1, hc.2.1⟩
theorem rightB_true {L : List Lb} {u : Int} (h1 : 1 ≤ L.length) (h2 : L.length ≤ 12) (h : ∀ j, j < L.length → lbOk L u j) : rightB L u = true := decide_eq_true ⟨h1, h2, h⟩
theorem rightB_of {L : List Lb} {u : Int} (h : rightB L u = true) : rightP L u := of_decide_eq_true h

def two : List Lb := [⟨-1, 0, [0], [0]⟩, ⟨0, 0, [0, 2], [0]⟩]

/-- Few labels, of few users each. -/
def smallAt (L : List Lb) (i : Nat) : Prop := (lb L i).r.length ≤ 100 ∧ (lb L i).s.length ≤ 100
instance (L : List Lb) (j : Nat) : Decidable (smallAt L j) := by unfold smallAt; infer_instance
def smallP (L : List Lb) : Prop := L.length ≤ 100 ∧ ∀ j, j < L.length → smallAt L j
instance (L : List Lb) : Decidable (smallP L) := by unfold smallP; infer_instance
def smallB (L : List Lb) : Bool := decide (smallP L)
theorem smallB_false {L : List Lb} {k : Nat} (hk : k < L.length) (h : ¬ smallAt L k) : smallB L = false := by
  unfold smallB
  exact decide_eq_false fun hc => h (hc.2 k hk)

/-! ### Who may -/

def hasB (l : List Int) (x : Int) : Bool := decide (∃ j, j < l.length ∧ at_ l j = x)
theorem hasB_false {l : List Int} {x : Int} (h : ∀ j, j < l.length → at_ l j ≠ x) : hasB l x = false := by
  unfold hasB
  exact decide_eq_false fun ⟨j, h1, h2⟩ => h j h1 h2
theorem hasB_true {l : List Int} {x : Int} {k : Nat} (hk : k < l.length) (h : at_ l k = x) : hasB l x = true := decide_eq_true ⟨k, hk, h⟩

def Lb.own (x : Lb) (w : Bool) : List Int := if w then x.s else x.r
theorem Lb.own_true (x : Lb) : x.own true = x.s := rfl
theorem Lb.own_false (x : Lb) : x.own false = x.r := rfl

def mayF (L : List Lb) (u : Int) (w : Bool) : Nat → Nat → Bool
  | 0, _ => false
  | f + 1, k => hasB ((lb L k).own w) u && (if (lb L k).p < 0 ∨ (k : Int) ≤ (lb L k).p then true else mayF L u w f (lb L k).p.toNat)
theorem mayF_fuel (L : List Lb) (u : Int) (w : Bool) : ∀ (f g k : Nat), k < f → k < g → mayF L u w f k = mayF L u w g k
  | 0, _, k, h, _ => by omega
  | _ + 1, 0, k, _, h => by omega
  | f + 1, g + 1, k, h1, h2 => by
    unfold mayF
    by_cases hp : (lb L k).p < 0 ∨ (k : Int) ≤ (lb L k).p
    · rw [if_pos hp, if_pos hp]
    · rw [if_neg hp, if_neg hp, mayF_fuel L u w f g _ (by omega) (by omega)]
def mayK (L : List Lb) (u : Int) (w : Bool) (k : Nat) : Bool := mayF L u w (k + 1) k
theorem mayK_no {L : List Lb} {u : Int} {w : Bool} {k : Nat} (h : hasB ((lb L k).own w) u = false) : mayK L u w k = false := by
  unfold mayK mayF
  rw [h]
  rfl
theorem mayK_top {L : List Lb} {u : Int} {w : Bool} {k : Nat} (h : hasB ((lb L k).own w) u = true) (hp : (lb L k).p < 0 ∨ (k : Int) ≤ (lb L k).p) : mayK L u w k = true := by
  unfold mayK mayF
  rw [h, if_pos hp]
  rfl
theorem mayK_up {L : List Lb} {u : Int} {w : Bool} {k : Nat} (h : hasB ((lb L k).own w) u = true) (h1 : 0 ≤ (lb L k).p) (h2 : (lb L k).p < (k : Int)) : mayK L u w k = mayK L u w (lb L k).p.toNat := by
  unfold mayK
  rw [mayF, h, if_neg (by omega), Bool.true_and]
  exact mayF_fuel L u w _ _ _ (by omega) (by omega)
def mayB (L : List Lb) (u : Int) (i : Int) (w : Bool) : Bool := if 0 ≤ i ∧ i < (L.length : Int) then mayK L u w i.toNat else false
theorem mayB_out {L : List Lb} {u : Int} {i : Int} {w : Bool} (h : ¬ (0 ≤ i ∧ i < (L.length : Int))) : mayB L u i w = false := by
  unfold mayB
  rw [if_neg h]
theorem mayB_in {L : List Lb} {u : Int} {k : Nat} {w : Bool} (h : k < L.length) : mayB L u k w = mayK L u w k := by
  unfold mayB
  rw [if_pos (by omega)]
  rfl
end Go.Proofs.YtffepndeegbdoaaGreatDoor.Rt
