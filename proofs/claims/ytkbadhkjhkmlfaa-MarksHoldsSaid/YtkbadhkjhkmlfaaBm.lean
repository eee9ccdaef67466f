/- MarksHolds: its mathematics: which letters are the call's own. -/
import Derived.Test.YtkbadhkjhkmlfaaB
import Derived.Test.YtkbadhkjhkmlfaaMs
import Derived.Test.YtkbadhkjhkmlfaaMof
import Derived.Test.YtkbadhkjhkmlfaaMtake
set_option linter.unusedVariables false
namespace Go.Proofs.Ytkbadhkjhkmlfaa.Rig
open Go.RowKit Go.Lib Go.Proofs.Ytkbadhkjhkmlfaa.Rt

theorem ord_len : ∀ {S : List Sp} {lo n : Int}, Ord lo n S → lo ≤ n → lo + S.length ≤ n
  | [], _, _, _, h => by simpa using h
  | s :: S, _, _, ⟨_, b, c, d, e⟩, h => by
    have := ord_len e d
    rw [List.length_cons]
    omega
def cov (L : List Sp) (j : Nat) : Bool := L.any fun s => decide (s.f ≤ j ∧ (j : Int) < s.t)
theorem cov_nil (j : Nat) : cov [] j = false := rfl
theorem cov_cons (s : Sp) (L : List Sp) (j : Nat) : cov (s :: L) j = (decide (s.f ≤ j ∧ (j : Int) < s.t) || cov L j) := rfl
theorem cov_snoc (s : Sp) (L : List Sp) (j : Nat) : cov (L ++ [s]) j = (cov L j || decide (s.f ≤ j ∧ (j : Int) < s.t)) := by
  unfold cov
  rw [List.any_append]
  simp
theorem of_mine {m : Int} (hm : 0 < m) (j : Nat) : ∀ {S : List Sp} {lo n : Int}, Ord lo n S → cov (ofS S m) j = decide (lastAt S j = m)
  | [], _, _, _ => by
    have : ¬ lastAt [] (j : Int) = m := by show ¬ (0 : Int) = m; omega
    rw [decide_eq_false this]
    rfl
  | s :: S, _, n, ⟨_, _, _, _, e⟩ => by
    have ih := of_mine hm j e
    rw [lastAt_cons e]
    by_cases hs : s.m = m
    · have hf : ofS (s :: S) m = s :: ofS S m := by unfold ofS; rw [List.filter_cons_of_pos (by simpa using hs)]
      rw [hf, cov_cons, ih]
      by_cases hc : s.f ≤ (j : Int) ∧ (j : Int) < s.t
      · rw [if_pos hc, decide_eq_true hc, decide_eq_true hs]; rfl
      · rw [if_neg hc, decide_eq_false hc]; rfl
    · have hf : ofS (s :: S) m = ofS S m := by unfold ofS; rw [List.filter_cons_of_neg (by simpa using hs)]
      rw [hf, ih]
      by_cases hc : s.f ≤ (j : Int) ∧ (j : Int) < s.t
      · rw [if_pos hc, lastAt_low e hc.2, decide_eq_false hs, decide_eq_false (by omega)]
      · rw [if_neg hc]
theorem last_lt {M : Int} (x : Int) : ∀ (S : List Sp) (a : Int), (∀ s ∈ S, s.m < M) → a < M → S.foldl (covF x) a < M
  | [], _, _, h => h
  | s :: S, a, h1, h => by
    rw [List.foldl_cons]
    refine last_lt x S _ (fun q hq => h1 q (List.mem_cons_of_mem _ hq)) ?_
    unfold covF
    split
    · exact h1 s List.mem_cons_self
    · exact h
theorem bat_app_left {xs ys : List Bool} {j : Nat} (h : j < xs.length) : bat (xs ++ ys) j = bat xs j := by
  unfold bat
  rw [List.getD_eq_getElem?_getD, List.getD_eq_getElem?_getD, List.getElem?_append_left h]
theorem bat_app_right {xs ys : List Bool} {j : Nat} (h : xs.length ≤ j) : bat (xs ++ ys) j = bat ys (j - xs.length) := by
  unfold bat
  rw [List.getD_eq_getElem?_getD, List.getD_eq_getElem?_getD, List.getElem?_append_right h]
theorem bat_rep {k j : Nat} {x : Bool} (h : j < k) : bat (List.replicate k x) j = x := by
  unfold bat
  rw [List.getD_eq_getElem?_getD, List.getElem?_replicate, if_pos h]
  rfl
/-- The marks are right for the letters' number, and bs tells which letters are under M. -/
structure HS (M : Int) (S : List Sp) (T : List St) (bs : List Bool) : Prop where
  rs : RS 0 0 bs.length S
  rt : RT bs.length T
  is : ∀ j, j < bs.length → bat bs j = decide (lastAt S j = M)
theorem HS.start {M : Int} {S : List Sp} {T : List St} {n : Nat} (h1 : RS 0 0 n S) (h2 : RT n T) (hM : 0 < M) (hs : ∀ s ∈ S, s.m < M) : HS M S T (List.replicate n false) where
  rs := by rw [List.length_replicate]; exact h1
  rt := by rw [List.length_replicate]; exact h2
  is j hj := by
    rw [List.length_replicate] at hj
    have : lastAt S j < M := last_lt _ S 0 hs hM
    rw [bat_rep hj, decide_eq_false (by omega)]
theorem putB_len (bs : List Bool) (p k : Nat) (v : Bool) (hp : p ≤ bs.length) : (bs.take p ++ List.replicate k v ++ bs.drop p).length = bs.length + k := by
  rw [List.length_append, List.length_append, List.length_take, List.length_drop, List.length_replicate]
  omega
theorem takeB_len (bs : List Bool) (a b : Nat) (hab : a ≤ b) (hb : b ≤ bs.length) : (bs.take a ++ bs.drop b).length = bs.length - (b - a) := by
  rw [List.length_append, List.length_take, List.length_drop]
  omega
theorem HS.put {M : Int} {S : List Sp} {T : List St} {bs : List Bool} (h : HS M S T bs) {p k : Nat} (hp : p ≤ bs.length) (mk : Int) {v : Bool} (hv : v = decide (max mk 0 = M)) : HS M (pPut S p k mk) (pPutT T p k) (bs.take p ++ List.replicate k v ++ bs.drop p) := by
  obtain ⟨a1, a2⟩ := pPut_ok (mk := mk) (p := p) (k := k) h.rs (by omega) (by omega) (by omega)
  have hl := putB_len bs p k v hp
  refine ⟨?_, ?_, fun j hj => ?_⟩
  · rw [hl]; push_cast; exact a1
  · rw [hl]; push_cast; exact pPutT_right h.rt (by omega) (by omega)
  · rw [hl] at hj
    rw [a2]
    have e1 : (bs.take p).length = p := by rw [List.length_take]; omega
    by_cases c1 : j < p
    · rw [if_pos (by omega), List.append_assoc, bat_app_left (by omega), bat_take c1]
      exact h.is j (by omega)
    · rw [if_neg (by omega)]
      by_cases c2 : j < p + k
      · rw [if_pos (by omega), bat_app_left (by rw [List.length_append, e1, List.length_replicate]; omega), bat_app_right (by omega), bat_rep (by omega)]
        exact hv
      · rw [if_neg (by omega), bat_app_right (by rw [List.length_append, e1, List.length_replicate]; omega), List.length_append, e1, List.length_replicate, bat_drop, h.is _ (by omega)]
        have : (((p + (j - (p + k)) : Nat)) : Int) = (j : Int) - k := by omega
        rw [this]
theorem HS.take_ {M : Int} {S : List Sp} {T : List St} {bs : List Bool} (h : HS M S T bs) {a b : Nat} (hab : a ≤ b) (hb : b ≤ bs.length) (mk : Int) : HS M (pTake S a b) (pTakeT T a b mk) (bs.take a ++ bs.drop b) := by
  obtain ⟨a1, a2⟩ := pTake_ok (a := a) (b := b) h.rs (by omega) (by omega) (by omega)
  have hl := takeB_len bs a b hab hb
  have hc : (((bs.length - (b - a) : Nat)) : Int) = (bs.length : Int) - ((b : Int) - a) := by omega
  refine ⟨?_, ?_, fun j hj => ?_⟩
  · rw [hl, hc]; exact a1
  · rw [hl, hc]; exact pTakeT_right h.rt (by omega) (by omega) (by omega)
  · rw [hl] at hj
    rw [a2]
    have e1 : (bs.take a).length = a := by rw [List.length_take]; omega
    by_cases c1 : j < a
    · rw [if_pos (by omega), bat_app_left (by omega), bat_take c1]
      exact h.is j (by omega)
    · rw [if_neg (by omega), bat_app_right (by omega), e1, bat_drop, h.is _ (by omega)]
      have : (((b + (j - a) : Nat)) : Int) = (j : Int) + ((b : Int) - a) := by omega
      rw [this]
theorem HS.len {M : Int} {S : List Sp} {T : List St} {bs : List Bool} (h : HS M S T bs) : S.length ≤ bs.length := by
  have := ord_len h.rs.ord (by omega)
  omega
theorem HS.of_ {M : Int} {S : List Sp} {T : List St} {bs : List Bool} (h : HS M S T bs) (hM : 0 < M) {j : Nat} (hj : j < bs.length) : bat bs j = cov (ofS S M) j := by
  rw [h.is j hj, of_mine hM j h.rs.ord]
theorem HS.at_ {M : Int} {S : List Sp} {T : List St} {bs : List Bool} (h : HS M S T bs) : ∀ s ∈ ofS S M, 0 ≤ s.f ∧ s.f < s.t ∧ s.t ≤ bs.length := fun s hs => by
  obtain ⟨_, b, c, d⟩ := h.rs.ord.mem s (List.mem_filter.1 hs).1
  exact ⟨b, c, d⟩
theorem filt_len (f : St → Bool) : ∀ T : List St, (T.filter f).length + (T.filter fun x => !f x).length = T.length
  | [] => rfl
  | x :: T => by
    have ih := filt_len f T
    cases hf : f x
    · rw [List.filter_cons_of_neg (by simp [hf]), List.filter_cons_of_pos (by simp [hf]), List.length_cons, List.length_cons]; omega
    · rw [List.filter_cons_of_pos (by simp [hf]), List.filter_cons_of_neg (by simp [hf]), List.length_cons, List.length_cons]; omega
theorem pPutT_len (T : List St) (p k : Int) : (pPutT T p k).length ≤ T.length := by
  unfold pPutT sA sB
  rw [List.length_append, List.length_map, List.length_map]
  have := filt_len (fun x : St => decide (x.a ≤ p)) T
  omega
theorem pTakeT_len (T : List St) (a b mk : Int) : (pTakeT T a b mk).length ≤ T.length + 1 := by
  unfold pTakeT
  have h1 := mapT_len (cutS a b) T T.length
  unfold endT
  split
  · have := siteL_len (mapT (cutS a b) T T.length) ⟨mk, a⟩
    omega
  · omega
theorem mod_mark (x : Int) : max (Int.tmod x 1000) 0 ≠ 1099511627776 := by
  have := Int.tmod_lt_of_pos x (b := 1000) (by omega)
  omega
theorem tmod_i64 (x : Int) : i64 (Int.tmod x 1000) := by
  have h1 := Int.tmod_lt_of_pos x (b := 1000) (by omega)
  have h2 := Int.tmod_lt_of_pos (-x) (b := 1000) (by omega)
  rw [Int.neg_tmod] at h2
  exact ⟨by omega, by omega⟩
end Go.Proofs.Ytkbadhkjhkmlfaa.Rig
