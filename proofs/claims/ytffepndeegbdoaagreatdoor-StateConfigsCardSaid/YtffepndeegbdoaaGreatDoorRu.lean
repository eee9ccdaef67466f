/- Plain lists alone: what a grant makes of labels. No program is spoken of here. -/
import Derived.Test.YtffepndeegbdoaaGreatDoorRt
set_option linter.unusedVariables false
namespace Go.Proofs.YtffepndeegbdoaaGreatDoor.Rt

/-- Users: rising, each below n. -/
def Us (xs : List Int) (n : Int) : Prop := xs.Pairwise (· < ·) ∧ ∀ x ∈ xs, 0 ≤ x ∧ x < n

theorem at_get {xs : List Int} {j : Nat} (h : j < xs.length) : at_ xs j = xs[j] := by
  unfold at_
  rw [List.getD_eq_getElem?_getD, List.getElem?_eq_getElem h]
  rfl

theorem rises_mono {xs : List Int} {u : Int} (h : rises xs u) : ∀ (d i : Nat), i + 1 + d < xs.length → at_ xs i < at_ xs (i + 1 + d)
  | 0, i, hl => by
    have := (h (i + 1) hl).1
    rw [prev_succ] at this
    exact this
  | d + 1, i, hl => by
    have h1 := rises_mono h d i (by omega)
    have h2 := (h (i + 1 + d + 1) (by omega)).1
    rw [prev_succ] at h2
    rw [show i + 1 + (d + 1) = i + 1 + d + 1 by omega]
    omega

theorem rises_us {xs : List Int} {u : Int} (h : rises xs u) : Us xs u := by
  constructor
  · rw [List.pairwise_iff_getElem]
    intro i j hi hj hij
    have := rises_mono h (j - (i + 1)) i (by omega)
    rw [show i + 1 + (j - (i + 1)) = j by omega, at_get hi, at_get hj] at this
    exact this
  · intro x hx
    obtain ⟨j, hj, rfl⟩ := List.getElem_of_mem hx
    have h1 := okAt_pos (l := xs) (u := u) j (fun i hi => h i (by omega))
    have h2 := (h j hj).2
    rw [at_get hj] at h1 h2
    exact ⟨h1, h2⟩
theorem us_rises {xs : List Int} {u : Int} (h : Us xs u) : rises xs u := by
  intro j hj
  have hm := h.2 xs[j] (List.getElem_mem hj)
  have hp := (List.pairwise_iff_getElem).1 h.1
  refine ⟨?_, by rw [at_get hj]; exact hm.2⟩
  rw [at_get hj]
  match j, hj with
  | 0, hj => rw [prev_zero]; have := hm.1; omega
  | j + 1, hj =>
    rw [prev_succ, at_get (by omega : j < xs.length)]
    exact hp j (j + 1) (by omega) hj (by omega)
theorem risB_us {xs : List Int} {u : Int} : risB xs u = true ↔ Us xs u := by
  unfold risB
  rw [decide_eq_true_iff]
  exact ⟨rises_us, us_rises⟩
theorem us_len {xs : List Int} {n : Nat} (h : Us xs n) : xs.length ≤ n := by
  have key : ∀ (j : Nat) (hj : j < xs.length), (j : Int) ≤ xs[j] := by
    intro j
    induction j with
    | zero => intro hj; exact (h.2 _ (List.getElem_mem hj)).1
    | succ j ih =>
      intro hj
      have h1 := ih (by omega)
      have h2 := (List.pairwise_iff_getElem).1 h.1 j (j + 1) (by omega) hj (by omega)
      omega
  rcases Nat.lt_or_ge n xs.length with hl | hl
  · have h1 := key n hl
    have h2 := (h.2 _ (List.getElem_mem hl)).2
    omega
  · exact hl

/-- With u, or without. -/
def setL (xs : List Int) (u : Int) (on : Bool) : List Int := xs.filter (· < u) ++ ((if on then [u] else []) ++ xs.filter (u < ·))

theorem split_us : ∀ (xs : List Int) (u : Int), xs.Pairwise (· < ·) → xs = xs.filter (· < u) ++ ((if xs.contains u then [u] else []) ++ xs.filter (u < ·)) ∧ xs.take (xs.countP (· < u)) = xs.filter (· < u)
  | [], u, _ => by simp
  | x :: xs, u, h => by
    obtain ⟨h1, h2⟩ := List.pairwise_cons.1 h
    obtain ⟨i1, i2⟩ := split_us xs u h2
    by_cases hx : x < u
    · have hne : ¬ u = x := by omega
      constructor
      · have e : (x :: xs).contains u = xs.contains u := by simp [hne]
        rw [e, List.filter_cons_of_pos (by simpa using hx), List.filter_cons_of_neg (by simp; omega), List.cons_append]
        exact congrArg (x :: ·) i1
      · rw [List.countP_cons_of_pos (by simpa using hx), List.take_succ_cons, i2, List.filter_cons_of_pos (by simpa using hx)]
    · have hall : ∀ y ∈ xs, u < y := fun y hy => by have := h1 y hy; omega
      have f1 : xs.filter (· < u) = [] := List.filter_eq_nil_iff.2 (fun y hy => by have := hall y hy; simp; omega)
      have f2 : xs.filter (u < ·) = xs := List.filter_eq_self.2 (fun y hy => by simpa using hall y hy)
      have c0 : xs.countP (· < u) = 0 := by rw [List.countP_eq_length_filter, f1]; rfl
      constructor
      · rw [List.filter_cons_of_neg (by simpa using hx), f1, List.nil_append]
        by_cases hu : u = x
        · subst hu
          rw [List.filter_cons_of_neg (by simp), f2]
          simp
        · have hn : ¬ u ∈ xs := fun hm => by have := hall u hm; omega
          rw [List.filter_cons_of_pos (by simp; omega), f2]
          simp [hu, hn]
      · rw [List.countP_cons_of_neg (by simpa using hx), c0, List.filter_cons_of_neg (by simpa using hx), f1]
        rfl

theorem set_on {xs : List Int} {u : Int} (h : xs.Pairwise (· < ·)) (hc : xs.contains u = true) : setL xs u true = xs := by
  have := (split_us xs u h).1
  rw [hc] at this
  unfold setL
  exact this.symm
theorem set_off {xs : List Int} {u : Int} (h : xs.Pairwise (· < ·)) (hc : xs.contains u = false) : setL xs u false = xs := by
  have := (split_us xs u h).1
  rw [hc] at this
  unfold setL
  exact this.symm
theorem set_drop {xs : List Int} {u : Int} (h : xs.Pairwise (· < ·)) (b : Bool) (hc : xs.contains u = b) : xs.drop (xs.countP (· < u)) = (if b then [u] else []) ++ xs.filter (u < ·) := by
  obtain ⟨h1, h2⟩ := split_us xs u h
  rw [hc] at h1
  have h3 : xs.take (xs.countP (· < u)) ++ xs.drop (xs.countP (· < u)) = xs := List.take_append_drop _ _
  rw [h2] at h3
  exact List.append_cancel_left (h3.trans h1)
theorem set_ins {xs : List Int} {u : Int} (h : xs.Pairwise (· < ·)) (hc : xs.contains u = false) : setL xs u true = xs.take (xs.countP (· < u)) ++ ([u] ++ xs.drop (xs.countP (· < u))) := by
  rw [(split_us xs u h).2, set_drop h false hc]
  rfl
theorem set_del {xs : List Int} {u : Int} (h : xs.Pairwise (· < ·)) (hc : xs.contains u = true) : setL xs u false = xs.take (xs.countP (· < u)) ++ xs.drop (xs.countP (· < u) + 1) := by
  rw [(split_us xs u h).2, ← List.drop_drop, set_drop h true hc]
  rfl
theorem set_mem {xs : List Int} {u x : Int} {on : Bool} : x ∈ setL xs u on ↔ (x = u ∧ on = true) ∨ (x ≠ u ∧ x ∈ xs) := by
  unfold setL
  by_cases hx : x ∈ xs <;> cases on <;> simp [hx] <;> omega
theorem set_pw {xs : List Int} {u : Int} {on : Bool} (h : xs.Pairwise (· < ·)) : (setL xs u on).Pairwise (· < ·) := by
  unfold setL
  rw [List.pairwise_append]
  refine ⟨h.filter _, ?_, ?_⟩
  · rw [List.pairwise_append]
    refine ⟨by cases on <;> simp, h.filter _, ?_⟩
    intro a ha b hb
    cases on <;> simp at ha hb
    omega
  · intro a ha b hb
    cases on <;> simp at ha hb <;> omega
theorem set_us {xs : List Int} {u n : Int} {on : Bool} (h : Us xs n) (h1 : 0 ≤ u) (h2 : u < n) : Us (setL xs u on) n := by
  refine ⟨set_pw h.1, fun x hx => ?_⟩
  rcases set_mem.1 hx with ⟨rfl, _⟩ | ⟨_, hx⟩
  · exact ⟨h1, h2⟩
  · exact h.2 x hx
theorem set_back {xs : List Int} {u : Int} (h : xs.Pairwise (· < ·)) (hc : xs.contains u = false) : setL (setL xs u true) u false = xs := by
  have e : setL (setL xs u true) u false = setL xs u false := by
    unfold setL
    have a1 : (([u] : List Int).filter (· < u)) = [] := by simp
    have a2 : (([u] : List Int).filter (u < ·)) = [] := by simp
    have a3 : (xs.filter (u < ·)).filter (· < u) = [] := List.filter_eq_nil_iff.2 (fun y hy => by simp at hy ⊢; omega)
    have a4 : (xs.filter (· < u)).filter (u < ·) = [] := List.filter_eq_nil_iff.2 (fun y hy => by simp at hy ⊢; omega)
    simp only [if_true, List.filter_append, a1, a2, a3, a4, List.filter_filter, List.nil_append, List.append_nil, Bool.and_self]
  rw [e, set_off h hc]
theorem hasB_contains (xs : List Int) (u : Int) : hasB xs u = xs.contains u := by
  unfold hasB
  rw [Bool.eq_iff_iff, decide_eq_true_iff, List.contains_iff_mem]
  constructor
  · rintro ⟨j, hj, rfl⟩
    rw [at_get hj]
    exact List.getElem_mem hj
  · intro h
    obtain ⟨j, hj, rfl⟩ := List.getElem_of_mem h
    exact ⟨j, hj, at_get hj⟩

/-- What the plain text builds. -/
def inK (xs : List Int) (u : Int) (on : Bool) (k : Nat) : Prop := on = true ∧ u < at_ xs k ∧ (k = 0 ∨ at_ xs (k - 1) < u)
instance (xs : List Int) (u : Int) (on : Bool) (k : Nat) : Decidable (inK xs u on k) := by unfold inK; infer_instance
def outN (xs : List Int) (u : Int) (on : Bool) : Nat → List Int
  | 0 => []
  | k + 1 => outN xs u on k ++ ((if inK xs u on k then [u] else []) ++ (if on = true ∨ at_ xs k ≠ u then [at_ xs k] else []))
def endK (xs : List Int) (u : Int) (on : Bool) : Prop := on = true ∧ (xs.length = 0 ∨ at_ xs (xs.length - 1) < u)
instance (xs : List Int) (u : Int) (on : Bool) : Decidable (endK xs u on) := by unfold endK; infer_instance
def withL (xs : List Int) (u : Int) (on : Bool) : List Int := outN xs u on xs.length ++ (if endK xs u on then [u] else [])
theorem outN_len (xs : List Int) (u : Int) (on : Bool) : ∀ k, (outN xs u on k).length ≤ 2 * k
  | 0 => Nat.le_refl _
  | k + 1 => by
    have := outN_len xs u on k
    unfold outN
    rw [List.length_append, List.length_append]
    have a : (if inK xs u on k then [u] else []).length ≤ 1 := by split <;> simp
    have b : (if on = true ∨ at_ xs k ≠ u then [at_ xs k] else []).length ≤ 1 := by split <;> simp
    omega
theorem take_at {xs : List Int} {k : Nat} (h : k < xs.length) : xs.take (k + 1) = xs.take k ++ [at_ xs k] := by
  rw [List.take_succ_eq_append_getElem h, at_get h]
theorem pw_at {xs : List Int} (h : xs.Pairwise (· < ·)) {i j : Nat} (hij : i < j) (hj : j < xs.length) : at_ xs i < at_ xs j := by
  rw [at_get hj, at_get (by omega)]
  exact (List.pairwise_iff_getElem).1 h i j _ _ hij
theorem mem_take_at {xs : List Int} {k : Nat} {y : Int} (hy : y ∈ xs.take k) : ∃ j, j < k ∧ j < xs.length ∧ at_ xs j = y := by
  obtain ⟨j, hj, rfl⟩ := List.getElem_of_mem hy
  rw [List.length_take] at hj
  refine ⟨j, by omega, by omega, ?_⟩
  rw [List.getElem_take, at_get (by omega)]
/-- All of the first k are below u? -/
theorem all_lt {xs : List Int} (h : xs.Pairwise (· < ·)) {u : Int} {k : Nat} (hk : k ≤ xs.length) (hl : k = 0 ∨ at_ xs (k - 1) < u) : ∀ y ∈ xs.take k, y < u := by
  intro y hy
  obtain ⟨j, h1, h2, rfl⟩ := mem_take_at hy
  rcases hl with rfl | hl
  · omega
  · by_cases e : j = k - 1
    · subst e; exact hl
    · have := pw_at h (show j < k - 1 by omega) (by omega)
      omega
def midL (ys : List Int) (u : Int) : List Int := ys.filter (· < u) ++ ((if ys.any (fun y => u ≤ y) then [u] else []) ++ ys.filter (u < ·))
theorem mid_lt {ys : List Int} {u : Int} (h : ∀ y ∈ ys, y < u) : midL ys u = ys := by
  have f1 : ys.filter (· < u) = ys := List.filter_eq_self.2 (fun y hy => by simpa using h y hy)
  have f2 : ys.filter (u < ·) = [] := List.filter_eq_nil_iff.2 (fun y hy => by have := h y hy; simp; omega)
  have f3 : ys.any (fun y => u ≤ y) = false := by rw [List.any_eq_false]; intro y hy; have := h y hy; simp; omega
  unfold midL
  rw [f1, f2, f3]
  simp
theorem outN_on {xs : List Int} (h : xs.Pairwise (· < ·)) (u : Int) : ∀ k, k ≤ xs.length → outN xs u true k = midL (xs.take k) u
  | 0, _ => by simp [outN, midL]
  | k + 1, hk => by
    have ih := outN_on h u k (by omega)
    unfold outN
    rw [ih, if_pos (show (true = true ∨ at_ xs k ≠ u) from .inl rfl)]
    by_cases hl : k = 0 ∨ at_ xs (k - 1) < u
    · have hall := all_lt h (by omega) hl
      rw [mid_lt hall]
      have f1 : (xs.take k).filter (· < u) = xs.take k := List.filter_eq_self.2 (fun y hy => by simpa using hall y hy)
      have f2 : (xs.take k).filter (u < ·) = [] := List.filter_eq_nil_iff.2 (fun y hy => by have := hall y hy; simp; omega)
      have f3 : (xs.take k).any (fun y => u ≤ y) = false := by rw [List.any_eq_false]; intro y hy; have := hall y hy; simp; omega
      unfold midL
      rw [take_at (by omega), List.filter_append, List.filter_append, List.any_append, f1, f2, f3, Bool.false_or, List.nil_append]
      by_cases hx : u < at_ xs k
      · rw [if_pos (show inK xs u true k from ⟨rfl, hx, hl⟩)]
        have g1 : [at_ xs k].filter (· < u) = [] := List.filter_eq_nil_iff.2 (fun y hy => by simp at hy ⊢; omega)
        have g2 : [at_ xs k].filter (u < ·) = [at_ xs k] := List.filter_eq_self.2 (fun y hy => by simp at hy ⊢; omega)
        have g3 : [at_ xs k].any (fun y => u ≤ y) = true := by simp; omega
        rw [g1, g2, g3]
        simp
      · rw [if_neg (show ¬ inK xs u true k from fun hc => hx hc.2.1)]
        by_cases he : at_ xs k = u
        · rw [he]
          simp
        · have g1 : [at_ xs k].filter (· < u) = [at_ xs k] := List.filter_eq_self.2 (fun y hy => by simp at hy ⊢; omega)
          have g2 : [at_ xs k].filter (u < ·) = [] := List.filter_eq_nil_iff.2 (fun y hy => by simp at hy ⊢; omega)
          have g3 : [at_ xs k].any (fun y => u ≤ y) = false := by simp; omega
          rw [g1, g2, g3]
          simp
    · have hk0 : ¬ k = 0 := fun e => hl (.inl e)
      have hge : u ≤ at_ xs (k - 1) := by omega
      have hgt : u < at_ xs k := by have := pw_at h (show k - 1 < k by omega) (by omega); omega
      have hmem : at_ xs (k - 1) ∈ xs.take k := by
        rw [show k = (k - 1) + 1 by omega, take_at (by omega)]
        simp
      have f3 : (xs.take k).any (fun y => u ≤ y) = true := by rw [List.any_eq_true]; exact ⟨_, hmem, by simpa using hge⟩
      rw [if_neg (show ¬ inK xs u true k from fun hc => hl hc.2.2)]
      unfold midL
      have g1 : [at_ xs k].filter (· < u) = [] := List.filter_eq_nil_iff.2 (fun y hy => by simp at hy ⊢; omega)
      have g2 : [at_ xs k].filter (u < ·) = [at_ xs k] := List.filter_eq_self.2 (fun y hy => by simp at hy ⊢; omega)
      rw [take_at (by omega), List.filter_append, List.filter_append, List.any_append, f3, g1, g2, Bool.true_or]
      simp [List.append_assoc]
theorem outN_off {xs : List Int} (u : Int) : ∀ k, k ≤ xs.length → outN xs u false k = (xs.take k).filter (fun y => decide (y ≠ u))
  | 0, _ => by simp [outN]
  | k + 1, hk => by
    unfold outN
    rw [outN_off u k (by omega), if_neg (show ¬ inK xs u false k from fun hc => by cases hc.1), List.nil_append, take_at (by omega), List.filter_append]
    congr 1
    by_cases he : at_ xs k = u
    · rw [if_neg (by simp [he])]
      simp [he]
    · rw [if_pos (.inr he)]
      simp [he]
theorem filter_ne : ∀ (xs : List Int) (u : Int), xs.Pairwise (· < ·) → xs.filter (fun y => decide (y ≠ u)) = xs.filter (· < u) ++ xs.filter (u < ·) := by
  intro xs u h
  obtain ⟨h1, _⟩ := split_us xs u h
  have a1 : (xs.filter (· < u)).filter (fun y => decide (y ≠ u)) = xs.filter (· < u) := List.filter_eq_self.2 (fun y hy => by simp at hy ⊢; omega)
  have a2 : (xs.filter (u < ·)).filter (fun y => decide (y ≠ u)) = xs.filter (u < ·) := List.filter_eq_self.2 (fun y hy => by simp at hy ⊢; omega)
  have a3 : (if xs.contains u then [u] else []).filter (fun y => decide (y ≠ u)) = [] := by split <;> simp
  calc xs.filter (fun y => decide (y ≠ u)) = (xs.filter (· < u) ++ ((if xs.contains u then [u] else []) ++ xs.filter (u < ·))).filter (fun y => decide (y ≠ u)) := by rw [← h1]
    _ = _ := by rw [List.filter_append, List.filter_append, a1, a2, a3, List.nil_append]
theorem with_set {xs : List Int} (h : xs.Pairwise (· < ·)) (u : Int) (on : Bool) : withL xs u on = setL xs u on := by
  unfold withL
  cases on with
  | false =>
    rw [if_neg (show ¬ endK xs u false from fun hc => by cases hc.1), outN_off u _ (Nat.le_refl _), List.take_length, List.append_nil, filter_ne xs u h]
    unfold setL
    simp
  | true =>
    rw [outN_on h u _ (Nat.le_refl _), List.take_length]
    by_cases he : xs.length = 0 ∨ at_ xs (xs.length - 1) < u
    · rw [if_pos (show endK xs u true from ⟨rfl, he⟩)]
      have hall := all_lt h (Nat.le_refl _) he
      rw [List.take_length] at hall
      rw [mid_lt hall]
      unfold setL
      have f1 : xs.filter (· < u) = xs := List.filter_eq_self.2 (fun y hy => by simpa using hall y hy)
      have f2 : xs.filter (u < ·) = [] := List.filter_eq_nil_iff.2 (fun y hy => by have := hall y hy; simp; omega)
      rw [f1, f2]
      simp
    · rw [if_neg (show ¬ endK xs u true from fun hc => he hc.2), List.append_nil]
      have f3 : xs.any (fun y => u ≤ y) = true := by
        rw [List.any_eq_true]
        refine ⟨at_ xs (xs.length - 1), ?_, by simp; omega⟩
        rw [at_get (by omega)]
        exact List.getElem_mem _
      unfold midL setL
      rw [f3]

/-! ### Labels -/
def Lb.set (x : Lb) (u : Int) (wr on : Bool) : Lb := if wr then ⟨x.p, x.o, x.r, setL x.s u on⟩ else ⟨x.p, x.o, setL x.r u on, x.s⟩
def grantL (L : List Lb) (k : Nat) (u : Int) (wr on : Bool) : List Lb := L.set k ((lb L k).set u wr on)
theorem grantL_len (L : List Lb) (k : Nat) (u : Int) (wr on : Bool) : (grantL L k u wr on).length = L.length := by simp [grantL]
theorem lb_set_self {L : List Lb} {k : Nat} (x : Lb) (h : k < L.length) : lb (L.set k x) k = x := by
  unfold lb
  rw [List.getD_eq_getElem?_getD, List.getElem?_set_self h]
  rfl
theorem lb_set_other {L : List Lb} {k j : Nat} (x : Lb) (h : k ≠ j) : lb (L.set k x) j = lb L j := by
  unfold lb
  rw [List.getD_eq_getElem?_getD, List.getElem?_set_ne h, ← List.getD_eq_getElem?_getD]
theorem lb_get {L : List Lb} {j : Nat} (h : j < L.length) : lb L j = L[j] := by
  unfold lb
  rw [List.getD_eq_getElem?_getD, List.getElem?_eq_getElem h]
  rfl
theorem lb_ext {L M : List Lb} (hl : L.length = M.length) (h : ∀ j, j < L.length → lb L j = lb M j) : L = M := by
  refine List.ext_getElem hl fun j h1 h2 => ?_
  have := h j h1
  rw [lb_get h1, lb_get h2] at this
  exact this
theorem right_us {L : List Lb} {n : Int} (h : rightP L n) {j : Nat} (hj : j < L.length) : Us (lb L j).r n ∧ Us (lb L j).s n := by
  obtain ⟨_, _, _, _, h1, h2⟩ := h.2.2 j hj
  exact ⟨risB_us.1 h1, risB_us.1 h2⟩
theorem right_grant {L : List Lb} {n : Int} (h : rightP L n) {k : Nat} {u : Int} (wr on : Bool) (h1 : 0 ≤ u) (h2 : u < n) (hk : k < L.length) : rightP (grantL L k u wr on) n := by
  refine ⟨by rw [grantL_len]; exact h.1, by rw [grantL_len]; exact h.2.1, fun j hj => ?_⟩
  rw [grantL_len] at hj
  by_cases e : k = j
  · subst e
    obtain ⟨a1, a2, a3, a4, a5, a6⟩ := h.2.2 k hk
    obtain ⟨b1, b2⟩ := right_us h hk
    unfold lbOk grantL
    rw [lb_set_self _ hk]
    unfold Lb.set
    cases wr
    · exact ⟨a1, a2, a3, a4, risB_us.2 (set_us b1 h1 h2), a6⟩
    · exact ⟨a1, a2, a3, a4, a5, risB_us.2 (set_us b2 h1 h2)⟩
  · unfold lbOk grantL
    rw [lb_set_other _ e]
    exact h.2.2 j hj
end Go.Proofs.YtffepndeegbdoaaGreatDoor.Rt
