/- Plain lists alone: what is undone of a mark: spans that are taken away, the last one first, or the first one first, anew each time. -/
import Derived.Test.YtcpdoicbekcpeaaDoorQP1
import Derived.Test.YtcpdoicbekcpeaaDoorQM3
set_option linter.unusedVariables false
set_option maxRecDepth 100000
namespace Go.Proofs.YtcpdoicbekcpeaaDoor.Seg
open Go.RowKit Go.Lib Go.Proofs.YtcpdoicbekcpeaaDoor.Rt Go.Proofs.YtcpdoicbekcpeaaDoor.Rig

/-- The spans of X taken away, the last one first. -/
def unS (S : List Sp) : List Sp → List Sp
  | [] => S
  | x :: X => pTake (unS S X) x.f x.t
def unT (T : List St) : List Sp → List St
  | [] => T
  | x :: X => pTakeT (unT T X) x.f x.t 0
/-- How many letters there are in X. -/
def tot : List Sp → Int
  | [] => 0
  | x :: X => (x.t - x.f) + tot X
theorem tot_app : ∀ A B : List Sp, tot (A ++ B) = tot A + tot B
  | [], B => by simp [tot]
  | x :: A, B => by rw [List.cons_append, tot, tot, tot_app A B]; omega
theorem tot_mv (d : Int) : ∀ A : List Sp, tot (mvS d A) = tot A
  | [] => rfl
  | x :: A => by
    show (x.t + d - (x.f + d)) + tot (mvS d A) = (x.t - x.f) + tot A
    rw [tot_mv d A]; omega
theorem Ord.tot : ∀ {X : List Sp} {lo n : Int}, Ord lo n X → lo ≤ n → 0 ≤ Seg.tot X ∧ lo ≤ n - Seg.tot X
  | [], lo, n, _, h => by show (0 : Int) ≤ 0 ∧ lo ≤ n - 0; omega
  | x :: X, lo, n, ⟨a, b, c, d, e⟩, h => by
    have ih := Ord.tot e d
    show (0 : Int) ≤ (x.t - x.f) + Seg.tot X ∧ lo ≤ n - ((x.t - x.f) + Seg.tot X)
    omega
theorem unS_ok : ∀ {X : List Sp} {S : List Sp} {lo n : Int}, Ord lo n X → 0 ≤ lo → lo ≤ n → RS 0 0 n S → RS 0 0 (n - Seg.tot X) (unS S X)
  | [], S, lo, n, _, _, _, h => by show RS 0 0 (n - 0) S; rw [Int.sub_zero]; exact h
  | x :: X, S, lo, n, ⟨a, b, c, d, e⟩, h0, hl, h => by
    have ih := unS_ok e (by omega) d h
    have ht := Ord.tot e d
    have := (pTake_ok (a := x.f) (b := x.t) ih (by omega) (by omega) (by omega)).1
    show RS 0 0 (n - ((x.t - x.f) + Seg.tot X)) _
    rw [show n - ((x.t - x.f) + Seg.tot X) = n - Seg.tot X - (x.t - x.f) by omega]
    exact this
theorem unT_ok : ∀ {X : List Sp} {T : List St} {lo n : Int}, Ord lo n X → 0 ≤ lo → lo ≤ n → RT n T → RT (n - Seg.tot X) (unT T X)
  | [], T, lo, n, _, _, _, h => by show RT (n - 0) T; rw [Int.sub_zero]; exact h
  | x :: X, T, lo, n, ⟨a, b, c, d, e⟩, h0, hl, h => by
    have ih := unT_ok e (by omega) d h
    have ht := Ord.tot e d
    have := pTakeT_right (mk := 0) ih (show 0 ≤ x.f by omega) (show x.f ≤ x.t by omega) (by omega)
    show RT (n - ((x.t - x.f) + Seg.tot X)) _
    rw [show n - ((x.t - x.f) + Seg.tot X) = n - Seg.tot X - (x.t - x.f) by omega]
    exact this
theorem pTake_comm {S : List Sp} {n a b c d : Int} (h : RS 0 0 n S) (ha : 0 ≤ a) (hab : a ≤ b) (hbc : b ≤ c) (hcd : c ≤ d) (hdn : d ≤ n) :
    pTake (pTake S a b) (c + (a - b)) (d + (a - b)) = pTake (pTake S c d) a b := by
  obtain ⟨p1, p2⟩ := pTake_ok (a := a) (b := b) h ha hab (by omega)
  obtain ⟨q1, q2⟩ := pTake_ok (a := c) (b := d) h (by omega) hcd hdn
  obtain ⟨r1, r2⟩ := pTake_ok (a := c + (a - b)) (b := d + (a - b)) p1 (by omega) (by omega) (by omega)
  obtain ⟨s1, s2⟩ := pTake_ok (a := a) (b := b) q1 ha hab (by omega)
  refine RS.uniq r1 s1 (fun x hx => ?_)
  rw [r2, s2, p2, p2, q2, q2]
  by_cases g1 : x < a
  · rw [if_pos (by omega), if_pos g1, if_pos g1, if_pos (by omega)]
  · rw [if_neg g1, if_neg g1]
    by_cases g2 : x < c + (a - b)
    · rw [if_pos g2, if_pos (by omega)]
    · rw [if_neg g2, if_neg (by omega), if_neg (by omega)]
      congr 1
      omega
theorem St.ext' {x y : St} (h1 : x.m = y.m) (h2 : x.a = y.a) : x = y := by cases x; cases y; simp_all
theorem cutS_comm {a b c d : Int} (hab : a ≤ b) (hbc : b ≤ c) (hcd : c ≤ d) (y : St) : cutS (c + (a - b)) (d + (a - b)) (cutS a b y) = cutS a b (cutS c d y) := by
  unfold cutS
  by_cases g1 : d < y.a
  · rw [if_pos (show b < y.a by omega), if_pos g1]
    rw [if_pos (show d + (a - b) < y.a - (b - a) by omega)]
    by_cases g5 : b < y.a - (d - c)
    · rw [if_pos (show b < y.a - (d - c) by omega)]
      exact St.ext' rfl (by show y.a - (b - a) - (d + (a - b) - (c + (a - b))) = y.a - (d - c) - (b - a); omega)
    · rw [if_neg (show ¬ b < y.a - (d - c) by omega)]
      by_cases g6 : a < y.a - (d - c)
      · rw [if_pos (show a < y.a - (d - c) by omega)]
        exact St.ext' rfl (by show y.a - (b - a) - (d + (a - b) - (c + (a - b))) = a; omega)
      · rw [if_neg (show ¬ a < y.a - (d - c) by omega)]
        exact St.ext' rfl (by show y.a - (b - a) - (d + (a - b) - (c + (a - b))) = y.a - (d - c); omega)
  · rw [if_neg g1]
    by_cases g2 : c < y.a
    · rw [if_pos (show b < y.a by omega), if_pos g2]
      rw [if_neg (show ¬ d + (a - b) < y.a - (b - a) by omega), if_pos (show c + (a - b) < y.a - (b - a) by omega)]
      by_cases g3 : b < c
      · rw [if_pos (show b < c from g3)]
        exact St.ext' rfl (by show c + (a - b) = c - (b - a); omega)
      · rw [if_neg (show ¬ b < c from g3)]
        by_cases g4 : a < c
        · rw [if_pos (show a < c from g4)]
          exact St.ext' rfl (by show c + (a - b) = a; omega)
        · rw [if_neg (show ¬ a < c from g4)]
          exact St.ext' rfl (by show c + (a - b) = c; omega)
    · rw [if_neg g2]
      by_cases g3 : b < y.a
      · rw [if_pos g3, if_neg (show ¬ d + (a - b) < y.a - (b - a) by omega), if_neg (show ¬ c + (a - b) < y.a - (b - a) by omega)]
      · rw [if_neg g3]
        by_cases g4 : a < y.a
        · rw [if_pos g4, if_neg (show ¬ d + (a - b) < a by omega), if_neg (show ¬ c + (a - b) < a by omega)]
        · rw [if_neg g4, if_neg (show ¬ d + (a - b) < y.a by omega), if_neg (show ¬ c + (a - b) < y.a by omega)]
theorem pTakeT_comm {T : List St} {a b c d : Int} (hab : a ≤ b) (hbc : b ≤ c) (hcd : c ≤ d) : pTakeT (pTakeT T a b 0) (c + (a - b)) (d + (a - b)) 0 = pTakeT (pTakeT T c d 0) a b 0 := by
  obtain ⟨p1, p2⟩ := pTakeT_ok T a b 0
  obtain ⟨q1, q2⟩ := pTakeT_ok T c d 0
  obtain ⟨r1, r2⟩ := pTakeT_ok (pTakeT T a b 0) (c + (a - b)) (d + (a - b)) 0
  obtain ⟨s1, s2⟩ := pTakeT_ok (pTakeT T c d 0) a b 0
  refine up_uniq r1 s1 (fun x => ?_)
  rw [r2, s2]
  constructor
  · rintro (⟨y, hy, rfl⟩ | ⟨h, _⟩)
    · rcases (p2 y).1 hy with ⟨z, hz, rfl⟩ | ⟨h, _⟩
      · exact .inl ⟨cutS c d z, (q2 _).2 (.inl ⟨z, hz, rfl⟩), cutS_comm hab hbc hcd z⟩
      · omega
    · omega
  · rintro (⟨y, hy, rfl⟩ | ⟨h, _⟩)
    · rcases (q2 y).1 hy with ⟨z, hz, rfl⟩ | ⟨h, _⟩
      · exact .inl ⟨cutS a b z, (p2 _).2 (.inl ⟨z, hz, rfl⟩), (cutS_comm hab hbc hcd z).symm⟩
      · omega
    · omega
theorem unS_comm : ∀ {X : List Sp} {S : List Sp} {a b n : Int}, Ord b n X → RS 0 0 n S → 0 ≤ a → a ≤ b → b ≤ n → unS (pTake S a b) (mvS (a - b) X) = pTake (unS S X) a b
  | [], _, _, _, _, _, _, _, _, _ => rfl
  | x :: X, S, a, b, n, ⟨p, q, r, s, t⟩, h, h0, hab, hbn => by
    have ih := unS_comm (X := X) (a := a) (b := b) (t.lower (by omega)) h h0 hab hbn
    have hk := unS_ok t (by omega) s h
    have ht := Ord.tot t s
    show pTake (unS (pTake S a b) (mvS (a - b) X)) (x.f + (a - b)) (x.t + (a - b)) = pTake (pTake (unS S X) x.f x.t) a b
    rw [ih]
    exact pTake_comm hk h0 hab q (by omega) (by omega)
theorem unT_comm : ∀ {X : List Sp} {T : List St} {a b n : Int}, Ord b n X → a ≤ b → unT (pTakeT T a b 0) (mvS (a - b) X) = pTakeT (unT T X) a b 0
  | [], _, _, _, _, _, _ => rfl
  | x :: X, T, a, b, n, ⟨p, q, r, s, t⟩, hab => by
    have ih := unT_comm (X := X) (T := T) (a := a) (b := b) (t.lower (by omega)) hab
    show pTakeT (unT (pTakeT T a b 0) (mvS (a - b) X)) (x.f + (a - b)) (x.t + (a - b)) 0 = pTakeT (pTakeT (unT T X) x.f x.t 0) a b 0
    rw [ih]
    exact pTakeT_comm hab q (by omega)
/-! ### The spans of a mark, when its first one is taken away -/
theorem RS_mv : ∀ {S : List Sp} {lo pm n d : Int}, RS lo pm n S → RS (lo + d) pm (n + d) (mvS d S)
  | [], _, _, _, _, _ => trivial
  | s :: S, lo, pm, n, d, ⟨a, b, c, e, f, g⟩ => ⟨a, by show lo + d ≤ s.f + d; omega, by show s.f + d < s.t + d; omega, by show s.t + d ≤ n + d; omega, fun h => f (by have h' : s.f + d = lo + d := h; omega), RS_mv g⟩
theorem ofS_app (A B : List Sp) (mk : Int) : ofS (A ++ B) mk = ofS A mk ++ ofS B mk := List.filter_append _ _
theorem ofS_mv (d mk : Int) : ∀ S : List Sp, ofS (mvS d S) mk = mvS d (ofS S mk)
  | [] => rfl
  | s :: S => by
    have ih := ofS_mv d mk S
    show ofS (mv1 d s :: mvS d S) mk = mvS d (ofS (s :: S) mk)
    unfold ofS at *
    by_cases h : s.m = mk
    · rw [List.filter_cons_of_pos (by show decide (s.m = mk) = true; simpa using h), List.filter_cons_of_pos (by simpa using h), ih]; rfl
    · rw [List.filter_cons_of_neg (by show ¬ decide (s.m = mk) = true; simpa using h), List.filter_cons_of_neg (by simpa using h), ih]
theorem ofS_one (x : Sp) (mk : Int) : ofS [x] mk = if x.m = mk then [x] else [] := by
  unfold ofS
  by_cases h : x.m = mk
  · rw [if_pos h, List.filter_cons_of_pos (by simpa using h)]; rfl
  · rw [if_neg h, List.filter_cons_of_neg (by simpa using h)]; rfl
theorem ofS_join {R : List Sp} {x : Sp} {mk : Int} (h : ∀ R' l, R = R' ++ [l] → l.t = x.f → l.m = x.m → x.m ≠ mk) : ofS (joinL R x) mk = ofS R mk ++ ofS [x] mk := by
  rcases snoc_or R with rfl | ⟨R', l, rfl⟩
  · rfl
  · rw [joinL_snoc]
    by_cases q : l.t = x.f ∧ l.m = x.m
    · have hx := h R' l rfl q.1 q.2
      rw [if_pos q, ofS_app, ofS_app, ofS_one, ofS_one, ofS_one, if_neg (show ¬ l.m = mk by rw [q.2]; exact hx), if_neg (show ¬ l.m = mk by rw [q.2]; exact hx), if_neg hx]
      simp
    · rw [if_neg q, ofS_app]
theorem snoc_join (R : List Sp) (x : Sp) : ∃ R' l, joinL R x = R' ++ [l] ∧ l.t = x.t ∧ l.m = x.m := by
  rcases snoc_or R with rfl | ⟨R', l, rfl⟩
  · exact ⟨[], x, rfl, rfl, rfl⟩
  · rw [joinL_snoc]
    by_cases q : l.t = x.f ∧ l.m = x.m
    · rw [if_pos q]; exact ⟨R', _, rfl, rfl, q.2⟩
    · rw [if_neg q]; exact ⟨R' ++ [l], x, rfl, rfl, rfl⟩
theorem ofS_joins : ∀ {L R : List Sp} {mk lo pm n : Int}, RS lo pm n L → (∀ R' l q L', R = R' ++ [l] → L = q :: L' → l.t = q.f → l.m = q.m → q.m ≠ mk) → ofS (joins R L) mk = ofS R mk ++ ofS L mk
  | [], R, mk, _, _, _, _, _ => by show ofS R mk = ofS R mk ++ []; rw [List.append_nil]
  | x :: L, R, mk, lo, pm, n, ⟨a, b, c, d, e, f⟩, h => by
    have h1 := ofS_join (R := R) (x := x) (mk := mk) (fun R' l e1 e2 e3 => h R' l x L e1 rfl e2 e3)
    obtain ⟨R2, l2, k1, k2, k3⟩ := snoc_join R x
    have ih := ofS_joins (L := L) (R := joinL R x) (mk := mk) f (fun R' l q L' e1 e2 e3 e4 => by
      rw [k1] at e1
      obtain ⟨_, e5⟩ := List.append_inj' e1 rfl
      obtain rfl : l2 = l := by simpa using e5
      subst e2
      obtain ⟨_, _, _, _, g, _⟩ := f
      exact absurd (by rw [← e4, k3]) (g (by rw [← e3, k2])))
    show ofS (joins (joinL R x) L) mk = _
    rw [ih, h1, List.append_assoc, ← ofS_app]
    rfl
theorem pA_ahead : ∀ {P : List Sp} {p : Int}, (∀ s ∈ P, s.f < s.t ∧ s.t ≤ p) → pA p P = P
  | [], _, _ => rfl
  | s :: P, p, h => by
    obtain ⟨h1, h2⟩ := h s (by simp)
    rw [pA_cons, pA_ahead (fun x hx => h x (by simp [hx])), show pA1 p s = [s] by unfold pA1; rw [if_pos (by omega), show min s.t p = s.t by omega]]
    rfl
theorem pB_ahead : ∀ {P : List Sp} {p : Int}, (∀ s ∈ P, s.t ≤ p) → pB p P = []
  | [], _, _ => rfl
  | s :: P, p, h => by
    have h2 := h s (by simp)
    rw [pB_cons, pB_ahead (fun x hx => h x (by simp [hx])), show pB1 p s = [] by unfold pB1; rw [if_neg (by omega)]]
    rfl
theorem pB_behind : ∀ {Q : List Sp} {p lo n : Int}, Ord lo n Q → p ≤ lo → pB p Q = mvS (-p) Q
  | [], _, _, _, _, _ => rfl
  | s :: Q, p, lo, n, ⟨a, b, c, d, e⟩, h => by
    rw [pB_cons, pB_behind e (by omega), show pB1 p s = [mv1 (-p) s] by unfold pB1 mv1; rw [if_pos (by omega), show max s.f p - p = s.f + -p by omega, show s.t - p = s.t + -p by omega]]
    rfl
theorem pA_app (p : Int) (A B : List Sp) : pA p (A ++ B) = pA p A ++ pA p B := List.flatMap_append
theorem pB_app (p : Int) (A B : List Sp) : pB p (A ++ B) = pB p A ++ pB p B := List.flatMap_append
theorem mvS_mvS (a b : Int) : ∀ S : List Sp, mvS a (mvS b S) = mvS (b + a) S
  | [] => rfl
  | s :: S => by
    have ih := mvS_mvS a b S
    show mv1 a (mv1 b s) :: mvS a (mvS b S) = mv1 (b + a) s :: mvS (b + a) S
    rw [ih]
    congr 1
    unfold mv1
    show (⟨s.m, s.f + b + a, s.t + b + a⟩ : Sp) = ⟨s.m, s.f + (b + a), s.t + (b + a)⟩
    rw [Int.add_assoc, Int.add_assoc]
theorem RS.ahead : ∀ {P Q : List Sp} {x : Sp} {lo pm n : Int}, RS lo pm n (P ++ x :: Q) → ∀ s ∈ P, s.f < s.t ∧ s.t ≤ x.f
  | [], _, _, _, _, _, _ => by simp
  | y :: P, Q, x, lo, pm, n, ⟨a, b, c, d, e, f⟩ => by
    intro s hs
    rcases List.mem_cons.1 hs with rfl | hs
    · refine ⟨c, ?_⟩
      have := f.ord.mem x (by simp)
      omega
    · exact RS.ahead f s hs
theorem RS.behind : ∀ {P Q : List Sp} {x : Sp} {lo pm n : Int}, RS lo pm n (P ++ x :: Q) → RS x.t x.m n Q ∧ lo ≤ x.f ∧ x.f < x.t ∧ x.t ≤ n
  | [], _, _, _, _, _, ⟨a, b, c, d, e, f⟩ => ⟨f, b, c, d⟩
  | y :: P, Q, x, lo, pm, n, ⟨a, b, c, d, e, f⟩ => by
    obtain ⟨h1, h2, h3, h4⟩ := RS.behind (P := P) f
    exact ⟨h1, by omega, h3, h4⟩
theorem ofS_cons {S X : List Sp} {x : Sp} {mk : Int} (h : ofS S mk = x :: X) : ∃ P Q, S = P ++ x :: Q ∧ (∀ s ∈ P, s.m ≠ mk) ∧ x.m = mk ∧ ofS Q mk = X := by
  unfold ofS at h
  rw [List.filter_eq_cons_iff] at h
  obtain ⟨P, Q, h1, h2, h3, h4⟩ := h
  exact ⟨P, Q, h1, fun s hs => by simpa using h2 s hs, by simpa using h3, h4⟩
theorem ofS_none {P : List Sp} {mk : Int} (h : ∀ s ∈ P, s.m ≠ mk) : ofS P mk = [] := by
  unfold ofS
  rw [List.filter_eq_nil_iff]
  intro s hs
  simpa using h s hs
theorem ofS_ord {S X : List Sp} {mk lo n : Int} (h : Ord lo n S) (e : ofS S mk = X) : Ord lo n X := by
  subst e
  induction S generalizing lo with
  | nil => exact trivial
  | cons s S ih =>
    obtain ⟨a, b, c, d, f⟩ := h
    by_cases q : s.m = mk
    · rw [show ofS (s :: S) mk = s :: ofS S mk from List.filter_cons_of_pos (by simpa using q)]
      exact ⟨a, b, c, d, ih f⟩
    · rw [show ofS (s :: S) mk = ofS S mk from List.filter_cons_of_neg (by simpa using q)]
      exact (ih f).lower (by omega)
theorem take_first {S X : List Sp} {x : Sp} {mk n : Int} (hS : RS 0 0 n S) (h : ofS S mk = x :: X) :
    ofS (pTake S x.f x.t) mk = mvS (x.f - x.t) X ∧ Ord x.t n X ∧ 0 ≤ x.f ∧ x.f < x.t ∧ x.t ≤ n := by
  obtain ⟨P, Q, rfl, h2, h3, h4⟩ := ofS_cons h
  have hA := RS.ahead hS
  obtain ⟨hB, b1, b2, b3⟩ := RS.behind hS
  have e1 : pA x.f (P ++ x :: Q) = P := by
    rw [pA_app, pA_cons, pA_ahead hA, show pA1 x.f x = [] by unfold pA1; rw [if_neg (by omega)], pA_nil hB.ord (by omega)]
    simp
  have e2 : pB x.t (P ++ x :: Q) = mvS (-x.t) Q := by
    rw [pB_app, pB_cons, pB_ahead (fun s hs => by have := hA s hs; omega), show pB1 x.t x = [] by unfold pB1; rw [if_neg (by omega)], pB_behind hB.ord (Int.le_refl _)]
    simp
  refine ⟨?_, ofS_ord hB.ord h4, b1, b2, b3⟩
  have hQ := RS_mv (d := -x.t + x.f) hB
  show ofS (joins (pA x.f (P ++ x :: Q)) (mvS x.f (pB x.t (P ++ x :: Q)))) mk = _
  rw [e1, e2, mvS_mvS, ofS_joins hQ, ofS_none h2, ofS_mv, h4, show -x.t + x.f = x.f - x.t by omega]
  · rfl
  · intro R' l q L' r1 r2 r3 r4 r5
    exact h2 l (by rw [r1]; simp) (by rw [r4, r5])
/-! ### How many letters a mark has -/
theorem tot_join (R : List Sp) (x : Sp) (mk : Int) : Seg.tot (ofS (joinL R x) mk) = Seg.tot (ofS R mk) + Seg.tot (ofS [x] mk) := by
  rcases snoc_or R with rfl | ⟨R', l, rfl⟩
  · show Seg.tot (ofS [x] mk) = 0 + _; omega
  · rw [joinL_snoc]
    by_cases q : l.t = x.f ∧ l.m = x.m
    · rw [if_pos q, ofS_app, ofS_app, tot_app, tot_app, ofS_one, ofS_one, ofS_one]
      show Seg.tot (ofS R' mk) + Seg.tot (if l.m = mk then [(⟨l.m, l.f, x.t⟩ : Sp)] else []) = _
      by_cases g : l.m = mk
      · rw [if_pos g, if_pos g, if_pos (show x.m = mk by rw [← q.2]; exact g)]
        show _ + ((x.t - l.f) + 0) = _ + ((l.t - l.f) + 0) + ((x.t - x.f) + 0)
        have := q.1
        omega
      · rw [if_neg g, if_neg g, if_neg (show ¬ x.m = mk by rw [← q.2]; exact g)]
        show _ + 0 = _ + 0 + 0
        omega
    · rw [if_neg q, ofS_app, tot_app]
theorem tot_joins (mk : Int) : ∀ (L R : List Sp), Seg.tot (ofS (joins R L) mk) = Seg.tot (ofS R mk) + Seg.tot (ofS L mk)
  | [], R => by show _ = _ + Seg.tot (ofS [] mk); show _ = _ + 0; rw [Int.add_zero]; rfl
  | x :: L, R => by
    show Seg.tot (ofS (joins (joinL R x) L) mk) = _
    rw [tot_joins mk L, tot_join, show ofS (x :: L) mk = ofS [x] mk ++ ofS L mk from ofS_app [x] L mk, tot_app]
    omega
theorem tot_parts (p mk : Int) : ∀ {S : List Sp}, (∀ s ∈ S, s.f < s.t) → Seg.tot (ofS (pA p S) mk) + Seg.tot (ofS (pB p S) mk) = Seg.tot (ofS S mk)
  | [], _ => rfl
  | s :: S, h => by
    have ih := tot_parts p mk (S := S) (fun x hx => h x (by simp [hx]))
    have hs := h s (by simp)
    rw [pA_cons, pB_cons, ofS_app, ofS_app, tot_app, tot_app, show ofS (s :: S) mk = ofS [s] mk ++ ofS S mk from ofS_app [s] S mk, tot_app, ofS_one]
    have key : Seg.tot (ofS (pA1 p s) mk) + Seg.tot (ofS (pB1 p s) mk) = Seg.tot (if s.m = mk then [s] else []) := by
      unfold pA1 pB1
      by_cases g1 : s.f < p <;> by_cases g2 : p < s.t
      all_goals first
        | rw [if_pos g1] | rw [if_neg g1]
      all_goals first
        | rw [if_pos g2] | rw [if_neg g2]
      all_goals try rw [ofS_one]
      all_goals try rw [ofS_one]
      all_goals by_cases g : s.m = mk
      all_goals simp only [g, if_true, if_false, Seg.tot, ofS, List.filter_nil]
      all_goals omega
    omega
theorem tot_put {S : List Sp} {n p k m mk : Int} (h : RS 0 0 n S) (hk : 0 ≤ k) : Seg.tot (ofS (pPut S p k m) mk) = Seg.tot (ofS S mk) + (if m = mk ∧ 0 < m then k else 0) := by
  have h1 : ∀ s ∈ S, s.f < s.t := fun s hs => (h.ord.mem s hs).2.2.1
  have h2 := tot_parts p mk h1
  unfold pPut
  rw [tot_joins, ofS_mv, tot_mv]
  unfold pNew
  by_cases q : 0 < m ∧ 0 < k
  · rw [if_pos q, tot_join, ofS_one]
    by_cases g : m = mk
    · rw [if_pos g, if_pos ⟨g, q.1⟩]
      show _ + ((p + k - p) + 0) + _ = _
      omega
    · rw [if_neg g, if_neg (fun hc => g hc.1)]
      show _ + 0 + _ = _
      omega
  · rw [if_neg q]
    by_cases g : m = mk ∧ 0 < m
    · rw [if_pos g]
      have : k = 0 := by omega
      omega
    · rw [if_neg g]
      omega
theorem ofS_joins_none {mk : Int} : ∀ {L R : List Sp}, (∀ s ∈ L, s.m ≠ mk) → ofS (joins R L) mk = ofS R mk
  | [], _, _ => rfl
  | x :: L, R, h => by
    have hx := h x (by simp)
    show ofS (joins (joinL R x) L) mk = _
    rw [ofS_joins_none (fun s hs => h s (by simp [hs])), ofS_join (fun _ _ _ _ _ => hx), ofS_one, if_neg hx, List.append_nil]
theorem put_own {S : List Sp} {n p k mk : Int} (h : ofS S mk = []) (hm : 0 < mk) : ofS (pPut S p k mk) mk = if 0 < k then [⟨mk, p, p + k⟩] else [] := by
  have h1 : ∀ s ∈ S, s.m ≠ mk := fun s hs => by
    have := List.filter_eq_nil_iff.1 h s hs
    simpa using this
  have hA : ∀ s ∈ pA p S, s.m ≠ mk := fun s hs => by
    obtain ⟨u, hu, hs⟩ := List.mem_flatMap.1 hs
    unfold pA1 at hs
    split at hs
    · obtain rfl := List.mem_singleton.1 hs; exact h1 u hu
    · simp at hs
  have hB : ∀ s ∈ mvS (p + k) (pB p S), s.m ≠ mk := fun s hs => by
    obtain ⟨r, hr, rfl⟩ := List.mem_map.1 hs
    obtain ⟨u, hu, hr⟩ := List.mem_flatMap.1 hr
    unfold pB1 at hr
    split at hr
    · obtain rfl := List.mem_singleton.1 hr; exact h1 u hu
    · simp at hr
  unfold pPut
  rw [ofS_joins_none hB]
  unfold pNew
  by_cases q : 0 < k
  · rw [if_pos ⟨hm, q⟩, if_pos q, ofS_join, ofS_none hA, ofS_one, if_pos rfl, List.nil_append]
    intro R' l e1 e2 e3 e4
    exact hA l (by rw [e1]; simp) (by rw [e3])
  · rw [if_neg (fun hc => q hc.2), if_neg q, ofS_none hA]
end Go.Proofs.YtcpdoicbekcpeaaDoor.Seg
