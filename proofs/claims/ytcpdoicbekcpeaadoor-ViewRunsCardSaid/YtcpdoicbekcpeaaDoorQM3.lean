/- Plain lists alone: spans that are right are told by the marks of their letters; what is joined, parted, moved. No program is spoken of here. Plain lists alone: sites in order; what a put, a take, a parting make of marks, by spans and by letters: the same. -/
import Derived.Test.YtcpdoicbekcpeaaDoorQA1
import Derived.Test.YtcpdoicbekcpeaaDoorQM2
set_option linter.unusedVariables false
set_option maxRecDepth 100000
namespace Go.Proofs.YtcpdoicbekcpeaaDoor.Rt

/-! ### Spans, told from the front -/
def covF (x : Int) : Int → Sp → Int := fun a s => if s.f ≤ x ∧ x < s.t then s.m else a
theorem lastAt_def (S : List Sp) (x : Int) : lastAt S x = S.foldl (covF x) 0 := rfl
/-- lo: where the one ahead ends; pm: its mark. -/
def RS (lo pm n : Int) : List Sp → Prop
  | [] => True
  | s :: S => 0 < s.m ∧ lo ≤ s.f ∧ s.f < s.t ∧ s.t ≤ n ∧ (s.f = lo → s.m ≠ pm) ∧ RS s.t s.m n S
/-- In order alone. -/
def Ord (lo n : Int) : List Sp → Prop
  | [] => True
  | s :: S => 0 < s.m ∧ lo ≤ s.f ∧ s.f < s.t ∧ s.t ≤ n ∧ Ord s.t n S
theorem RS.ord : ∀ {S : List Sp} {lo pm n : Int}, RS lo pm n S → Ord lo n S
  | [], _, _, _, _ => trivial
  | s :: S, _, _, _, ⟨a, b, c, d, _, e⟩ => ⟨a, b, c, d, e.ord⟩
theorem RS.mono : ∀ {S : List Sp} {lo pm n n' : Int}, RS lo pm n S → n ≤ n' → RS lo pm n' S
  | [], _, _, _, _, _, _ => trivial
  | s :: S, _, _, _, _, ⟨a, b, c, d, e, f⟩, h => ⟨a, b, c, by omega, e, f.mono h⟩
theorem Ord.lower : ∀ {S : List Sp} {lo lo' n : Int}, Ord lo n S → lo' ≤ lo → Ord lo' n S
  | [], _, _, _, _, _ => trivial
  | s :: S, _, _, _, ⟨a, b, c, d, e⟩, h => ⟨a, by omega, c, d, e⟩
theorem Ord.none_ : ∀ {S : List Sp} {lo n x a : Int}, Ord lo n S → x < lo → S.foldl (covF x) a = a
  | [], _, _, _, _, _, _ => rfl
  | s :: S, lo, n, x, a, ⟨_, h2, h3, _, h5⟩, h => by
    rw [List.foldl_cons, show covF x a s = a from if_neg (fun hc => by omega)]
    exact h5.none_ (by omega)
theorem Ord.mem : ∀ {S : List Sp} {lo n : Int}, Ord lo n S → ∀ s ∈ S, 0 < s.m ∧ lo ≤ s.f ∧ s.f < s.t ∧ s.t ≤ n
  | [], _, _, _, s, h => by simp at h
  | x :: S, _, _, ⟨a, b, c, d, e⟩, s, h => by
    rcases List.mem_cons.1 h with rfl | h
    · exact ⟨a, b, c, d⟩
    · obtain ⟨p, q, r, t⟩ := e.mem s h
      exact ⟨p, by omega, r, t⟩
theorem lastAt_cons {s : Sp} {S : List Sp} {n : Int} (h : Ord s.t n S) (x : Int) : lastAt (s :: S) x = if s.f ≤ x ∧ x < s.t then s.m else lastAt S x := by
  rw [lastAt_def, List.foldl_cons]
  by_cases e : s.f ≤ x ∧ x < s.t
  · rw [if_pos e, show covF x 0 s = s.m from if_pos e]
    exact h.none_ e.2
  · rw [if_neg e, show covF x 0 s = 0 from if_neg e]
    rfl
theorem lastAt_low {S : List Sp} {lo n x : Int} (h : Ord lo n S) (hx : x < lo) : lastAt S x = 0 := h.none_ hx
theorem RS.lo_ne {S : List Sp} {lo pm n : Int} (h : RS lo pm n S) (hp : 0 < pm) : lastAt S lo ≠ pm := by
  match S, h with
  | [], _ => show (0 : Int) ≠ pm; omega
  | s :: S, ⟨a, b, c, d, e, f⟩ =>
    rw [lastAt_cons f.ord]
    by_cases q : s.f = lo
    · rw [if_pos ⟨by omega, by omega⟩]; exact e q
    · rw [if_neg (fun hc => by omega), lastAt_low f.ord (by omega)]; omega
theorem RS.uniq : ∀ {A B : List Sp} {lo pm pm' n n' : Int}, RS lo pm n A → RS lo pm' n' B → (∀ x, lo ≤ x → lastAt A x = lastAt B x) → A = B
  | [], [], _, _, _, _, _, _, _, _ => rfl
  | [], t :: B, lo, _, _, _, _, _, ⟨a, b, c, d, e, f⟩, h => by
    have := h t.f b
    rw [lastAt_cons f.ord, if_pos ⟨Int.le_refl _, c⟩] at this
    change (0 : Int) = t.m at this
    omega
  | s :: A, [], lo, _, _, _, _, ⟨a, b, c, d, e, f⟩, _, h => by
    have := h s.f b
    rw [lastAt_cons f.ord, if_pos ⟨Int.le_refl _, c⟩] at this
    change s.m = (0 : Int) at this
    omega
  | s :: A, t :: B, lo, _, _, _, _, ⟨a, b, c, d, e, f⟩, ⟨a', b', c', d', e', f'⟩, h => by
    have H : ∀ x, lo ≤ x → (if s.f ≤ x ∧ x < s.t then s.m else lastAt A x) = (if t.f ≤ x ∧ x < t.t then t.m else lastAt B x) := fun x hx => by
      rw [← lastAt_cons f.ord, ← lastAt_cons f'.ord]; exact h x hx
    have h1 : s.f = t.f := by
      rcases Int.lt_trichotomy s.f t.f with q | q | q
      · have := H s.f b
        rw [if_pos ⟨Int.le_refl _, c⟩, if_neg (fun hc => by omega), lastAt_low f'.ord (by omega)] at this
        omega
      · exact q
      · have := H t.f b'
        rw [if_neg (c := s.f ≤ t.f ∧ t.f < s.t) (fun hc => by omega), lastAt_low f.ord (by omega), if_pos ⟨Int.le_refl _, c'⟩] at this
        omega
    have h2 : s.m = t.m := by
      have := H s.f b
      rwa [if_pos ⟨Int.le_refl _, c⟩, if_pos ⟨by omega, by omega⟩] at this
    have h3 : s.t = t.t := by
      rcases Int.lt_trichotomy s.t t.t with q | q | q
      · have := H s.t (by omega)
        rw [if_neg (fun hc => by omega), if_pos ⟨by omega, by omega⟩] at this
        exact absurd (this.trans h2.symm) (f.lo_ne a)
      · exact q
      · have := H t.t (by omega)
        rw [if_neg (c := t.f ≤ t.t ∧ t.t < t.t) (fun hc => by omega), if_pos ⟨by omega, by omega⟩] at this
        exact absurd (this.symm.trans h2) (f'.lo_ne a')
    have h4 : A = B := by
      refine RS.uniq f (h3 ▸ f') fun x hx => ?_
      have := H x (by omega)
      rwa [if_neg (fun hc => by omega), if_neg (fun hc => by omega)] at this
    obtain ⟨m1, f1, t1⟩ := s
    obtain ⟨m2, f2, t2⟩ := t
    simp only at h1 h2 h3
    rw [h1, h2, h3, h4]

/-! ### .. and by their places -/
def CS (n : Int) (p s : Sp) : Prop := 0 < s.m ∧ p.t ≤ s.f ∧ s.f < s.t ∧ s.t ≤ n ∧ (s.f = p.t → s.m ≠ p.m)
theorem RS_of {n : Int} : ∀ (S : List Sp) (p : Sp), (∀ j, j < S.length → CS n (sp (p :: S) j) (sp (p :: S) (j + 1))) → RS p.t p.m n S
  | [], _, _ => trivial
  | s :: S, p, h => by
    obtain ⟨a, b, c, d, e⟩ := h 0 (by simp)
    exact ⟨a, b, c, d, e, RS_of S s fun j hj => h (j + 1) (by simpa using hj)⟩
theorem RS_to {n : Int} : ∀ (S : List Sp) (p : Sp), RS p.t p.m n S → ∀ j, j < S.length → CS n (sp (p :: S) j) (sp (p :: S) (j + 1))
  | [], _, _, j, hj => by simp at hj
  | s :: S, p, ⟨a, b, c, d, e, f⟩, 0, _ => ⟨a, b, c, d, e⟩
  | s :: S, p, ⟨a, b, c, d, e, f⟩, j + 1, hj => RS_to S s f j (by simpa using hj)
theorem sp_z (S : List Sp) (j : Nat) : sp (Sp.z :: S) j = if j = 0 then Sp.z else sp S (j - 1) := by
  cases j with
  | zero => rfl
  | succ j => rfl
theorem spOk_RS {S : List Sp} {n : Int} : (∀ j, j < S.length → spOk S n j) ↔ RS 0 0 n S := by
  constructor
  · intro h
    refine RS_of S Sp.z fun j hj => ?_
    obtain ⟨a, b, c, d, e⟩ := h j hj
    show CS n (sp (Sp.z :: S) j) (sp S j)
    rw [sp_z]
    by_cases q : j = 0
    · rw [if_pos q]
      exact ⟨a, b, c, d, fun _ => by show _ ≠ (0 : Int); omega⟩
    · rw [if_neg q]
      exact ⟨a, (e (by omega)).1, c, d, (e (by omega)).2⟩
  · intro h j hj
    obtain ⟨a, b, c, d, e⟩ : CS n (sp (Sp.z :: S) j) (sp S j) := RS_to S Sp.z h j hj
    have hm := (h.ord.mem (sp S j) (by rw [sp_get hj]; exact List.getElem_mem hj)).2.1
    refine ⟨a, hm, c, d, fun h0 => ?_⟩
    rw [sp_z, if_neg (by omega)] at b e
    exact ⟨b, e⟩

/-! ### Joining -/
def joinL (R : List Sp) (x : Sp) : List Sp :=
  if 0 < R.length ∧ (sp R (R.length - 1)).t = x.f ∧ (sp R (R.length - 1)).m = x.m then R.set (R.length - 1) ⟨(sp R (R.length - 1)).m, (sp R (R.length - 1)).f, x.t⟩ else R ++ [x]
theorem runF_join (out : List Sp) (i x : Int) : runF out i x = if x = 0 then out else joinL out ⟨x, i, i + 1⟩ := rfl
def joins (R : List Sp) (L : List Sp) : List Sp := L.foldl joinL R
def endE (lo : Int) (S : List Sp) : Int := S.foldl (fun _ s => s.t) lo
def endM (pm : Int) (S : List Sp) : Int := S.foldl (fun _ s => s.m) pm
theorem RS_append : ∀ {A B : List Sp} {lo pm n : Int}, RS lo pm n (A ++ B) ↔ RS lo pm n A ∧ RS (endE lo A) (endM pm A) n B
  | [], B, lo, pm, n => ⟨fun h => ⟨trivial, h⟩, fun h => h.2⟩
  | s :: A, B, lo, pm, n => by
    have ih := @RS_append A B s.t s.m n
    constructor
    · rintro ⟨a, b, c, d, e, f⟩
      exact ⟨⟨a, b, c, d, e, (ih.1 f).1⟩, (ih.1 f).2⟩
    · rintro ⟨⟨a, b, c, d, e, f⟩, g⟩
      exact ⟨a, b, c, d, e, ih.2 ⟨f, g⟩⟩
theorem endE_le : ∀ {S : List Sp} {lo pm n : Int}, RS lo pm n S → lo ≤ n → endE lo S ≤ n
  | [], _, _, _, _, h => h
  | s :: S, _, _, _, ⟨_, _, _, d, _, f⟩, _ => endE_le (S := S) f d
theorem sp_last (R : List Sp) (l : Sp) : sp (R ++ [l]) ((R ++ [l]).length - 1) = l := by
  have h : (R ++ [l]).length - 1 = R.length := by simp
  rw [h, sp_get (by simp)]
  simp
theorem set_last (R : List Sp) (l x : Sp) : (R ++ [l]).set ((R ++ [l]).length - 1) x = R ++ [x] := by
  have h : (R ++ [l]).length - 1 = R.length := by simp
  rw [h, List.set_append_right _ _ (Nat.le_refl _)]
  simp
theorem endE_snoc (R : List Sp) (l : Sp) (lo : Int) : endE lo (R ++ [l]) = l.t := by unfold endE; rw [List.foldl_append]; rfl
theorem endM_snoc (R : List Sp) (l : Sp) (lo : Int) : endM lo (R ++ [l]) = l.m := by unfold endM; rw [List.foldl_append]; rfl
theorem snoc_or (R : List Sp) : R = [] ∨ ∃ R' l, R = R' ++ [l] := by
  rcases List.eq_nil_or_concat R with h | ⟨R', l, h⟩
  · exact .inl h
  · exact .inr ⟨R', l, by rw [h, List.concat_eq_append]⟩
theorem joinL_snoc (R : List Sp) (l x : Sp) : joinL (R ++ [l]) x = if l.t = x.f ∧ l.m = x.m then R ++ [⟨l.m, l.f, x.t⟩] else R ++ [l] ++ [x] := by
  unfold joinL
  rw [sp_last, set_last]
  by_cases h : l.t = x.f ∧ l.m = x.m
  · rw [if_pos h, if_pos ⟨by simp, h⟩]
  · rw [if_neg h, if_neg (fun hc => h hc.2)]
theorem joinL_nil (x : Sp) : joinL [] x = [x] := rfl
theorem joinL_ok {R : List Sp} {x : Sp} {n : Int} (h : RS 0 0 n R) (hm : 0 < x.m) (h0 : 0 ≤ x.f) (hf : endE 0 R ≤ x.f) (ht : x.f < x.t) (hn : x.t ≤ n) :
    RS 0 0 n (joinL R x) ∧ endE 0 (joinL R x) = x.t ∧ ∀ y, lastAt (joinL R x) y = if x.f ≤ y ∧ y < x.t then x.m else lastAt R y := by
  rcases snoc_or R with rfl | ⟨R', l, rfl⟩
  · rw [joinL_nil]
    exact ⟨⟨hm, h0, ht, hn, fun _ => by omega, trivial⟩, rfl, fun y => rfl⟩
  · rw [joinL_snoc]
    rw [endE_snoc] at hf
    obtain ⟨hR, a, b, c, d, e, _⟩ := RS_append.1 h
    by_cases q : l.t = x.f ∧ l.m = x.m
    · rw [if_pos q]
      refine ⟨RS_append.2 ⟨hR, a, b, by show l.f < x.t; omega, hn, e, trivial⟩, endE_snoc _ _ _, fun y => ?_⟩
      rw [lastAt_snoc, lastAt_snoc]
      show (if l.f ≤ y ∧ y < x.t then l.m else _) = _
      by_cases h1 : x.f ≤ y ∧ y < x.t
      · rw [if_pos h1, if_pos ⟨by omega, by omega⟩, q.2]
      · rw [if_neg h1]
        by_cases h2 : l.f ≤ y ∧ y < l.t
        · rw [if_pos h2, if_pos ⟨by omega, by omega⟩]
        · rw [if_neg h2, if_neg (fun hc => by omega)]
    · rw [if_neg q]
      refine ⟨RS_append.2 ⟨h, ?_⟩, endE_snoc _ _ _, fun y => lastAt_snoc _ _ _⟩
      rw [endE_snoc, endM_snoc]
      exact ⟨hm, hf, ht, hn, fun hc hd => q ⟨hc.symm, hd.symm⟩, trivial⟩
theorem joins_ok : ∀ {L R : List Sp} {lo n : Int}, RS 0 0 n R → Ord lo n L → 0 ≤ lo → endE 0 R ≤ lo → RS 0 0 n (joins R L) ∧ ∀ y, lastAt (joins R L) y = L.foldl (covF y) (lastAt R y)
  | [], R, lo, n, h, _, _, _ => ⟨h, fun y => rfl⟩
  | x :: L, R, lo, n, h, ⟨a, b, c, d, e⟩, h0, hl => by
    obtain ⟨j1, j2, j3⟩ := joinL_ok h a (by omega) (by omega) c d
    obtain ⟨k1, k2⟩ := joins_ok (L := L) (R := joinL R x) j1 e (by omega) (by omega)
    refine ⟨k1, fun y => ?_⟩
    rw [show joins R (x :: L) = joins (joinL R x) L from rfl, k2, j3]
    rfl
theorem runs_ok {l : List Int} (hl : ∀ j, j < l.length → 0 ≤ at_ l j) : RS 0 0 l.length (runs l) ∧ ∀ y, lastAt (runs l) y = if 0 ≤ y ∧ y < l.length then at_ l y.toNat else 0 := by
  have key : ∀ k, k ≤ l.length → RS 0 0 l.length (runsN l k) ∧ endE 0 (runsN l k) ≤ k ∧ ∀ y, lastAt (runsN l k) y = if 0 ≤ y ∧ y < k then at_ l y.toNat else 0 := by
    intro k
    induction k with
    | zero =>
      intro _
      refine ⟨trivial, Int.le_refl _, fun y => ?_⟩
      rw [if_neg (fun hc => by have := hc.2; simp at this; omega)]
      rfl
    | succ k ih =>
      intro hk
      obtain ⟨i1, i2, i3⟩ := ih (by omega)
      have h0 := hl k (by omega)
      unfold runsN
      rw [runF_join]
      by_cases q : at_ l k = 0
      · rw [if_pos q]
        refine ⟨i1, by omega, fun y => ?_⟩
        rw [i3]
        by_cases e : y = k
        · subst e
          rw [if_neg (fun hc => by omega), if_pos ⟨by omega, by omega⟩]
          rw [Int.toNat_natCast, q]
        · by_cases e2 : 0 ≤ y ∧ y < (k : Int)
          · rw [if_pos e2, if_pos ⟨by omega, by omega⟩]
          · rw [if_neg e2, if_neg (fun hc => by omega)]
      · rw [if_neg q]
        obtain ⟨j1, j2, j3⟩ := joinL_ok (x := ⟨at_ l k, (k : Int), (k : Int) + 1⟩) i1 (by show 0 < at_ l k; omega) (by show (0 : Int) ≤ (k : Int); omega) i2 (by show (k : Int) < (k : Int) + 1; omega) (by show (k : Int) + 1 ≤ _; omega)
        refine ⟨j1, by rw [j2]; show (k : Int) + 1 ≤ _; omega, fun y => ?_⟩
        rw [j3, i3]
        show (if (k : Int) ≤ y ∧ y < (k : Int) + 1 then at_ l k else _) = _
        by_cases e : y = k
        · subst e
          rw [if_pos ⟨by omega, by omega⟩, if_pos ⟨by omega, by omega⟩, Int.toNat_natCast]
        · rw [if_neg (fun hc => by omega)]
          by_cases e2 : 0 ≤ y ∧ y < (k : Int)
          · rw [if_pos e2, if_pos ⟨by omega, by omega⟩]
          · rw [if_neg e2, if_neg (fun hc => by omega)]
  obtain ⟨a, b, c⟩ := key l.length (Nat.le_refl _)
  exact ⟨a, c⟩

/-! ### Parts -/
def pA1 (p : Int) (s : Sp) : List Sp := if s.f < p then [⟨s.m, s.f, min s.t p⟩] else []
def pB1 (p : Int) (s : Sp) : List Sp := if p < s.t then [⟨s.m, max s.f p - p, s.t - p⟩] else []
def pA (p : Int) (S : List Sp) : List Sp := S.flatMap (pA1 p)
def pB (p : Int) (S : List Sp) : List Sp := S.flatMap (pB1 p)
def mv1 (d : Int) (s : Sp) : Sp := ⟨s.m, s.f + d, s.t + d⟩
def mvS (d : Int) (S : List Sp) : List Sp := S.map (mv1 d)
theorem pA_cons (p : Int) (s : Sp) (S : List Sp) : pA p (s :: S) = pA1 p s ++ pA p S := rfl
theorem pB_cons (p : Int) (s : Sp) (S : List Sp) : pB p (s :: S) = pB1 p s ++ pB p S := rfl
theorem pA_nil : ∀ {S : List Sp} {lo n p : Int}, Ord lo n S → p ≤ lo → pA p S = []
  | [], _, _, _, _, _ => rfl
  | s :: S, lo, n, p, ⟨a, b, c, d, e⟩, h => by
    rw [pA_cons, show pA1 p s = [] from if_neg (by omega), pA_nil e (by omega)]
    rfl
theorem RS_pA : ∀ {S : List Sp} {lo pm n p : Int}, RS lo pm n S → RS lo pm p (pA p S)
  | [], _, _, _, _, _ => trivial
  | s :: S, lo, pm, n, p, ⟨a, b, c, d, e, f⟩ => by
    rw [pA_cons]
    by_cases q : s.f < p
    · rw [show pA1 p s = [⟨s.m, s.f, min s.t p⟩] from if_pos q]
      refine ⟨a, b, by show s.f < min s.t p; omega, by show min s.t p ≤ p; omega, e, ?_⟩
      show RS (min s.t p) s.m p (pA p S)
      by_cases g : s.t ≤ p
      · rw [show min s.t p = s.t by omega]
        exact RS_pA f
      · rw [pA_nil f.ord (by omega)]
        trivial
    · rw [show pA1 p s = [] from if_neg q, pA_nil f.ord (by omega)]
      trivial
theorem RS_pB_far : ∀ {S : List Sp} {lo pm n p : Int}, RS lo pm n S → p ≤ lo → RS (lo - p) pm (n - p) (pB p S)
  | [], _, _, _, _, _, _ => trivial
  | s :: S, lo, pm, n, p, ⟨a, b, c, d, e, f⟩, h => by
    rw [pB_cons, show pB1 p s = [⟨s.m, max s.f p - p, s.t - p⟩] from if_pos (by omega)]
    refine ⟨a, by show lo - p ≤ max s.f p - p; omega, by show max s.f p - p < s.t - p; omega, by show s.t - p ≤ n - p; omega, fun hc => e (by change max s.f p - p = lo - p at hc; omega), ?_⟩
    exact RS_pB_far f (by omega)
theorem RS_pB : ∀ {S : List Sp} {lo pm n p : Int}, RS lo pm n S → RS 0 0 (n - p) (pB p S)
  | [], _, _, _, _, _ => trivial
  | s :: S, lo, pm, n, p, ⟨a, b, c, d, e, f⟩ => by
    rw [pB_cons]
    by_cases q : p < s.t
    · rw [show pB1 p s = [⟨s.m, max s.f p - p, s.t - p⟩] from if_pos q]
      refine ⟨a, by show 0 ≤ max s.f p - p; omega, by show max s.f p - p < s.t - p; omega, by show s.t - p ≤ n - p; omega, fun _ => by show s.m ≠ 0; omega, ?_⟩
      exact RS_pB_far f (by omega)
    · rw [show pB1 p s = [] from if_neg q]
      exact RS_pB f
theorem pA_cov (p y : Int) : ∀ (S : List Sp) (a : Int), (pA p S).foldl (covF y) (if y < p then a else 0) = if y < p then S.foldl (covF y) a else 0
  | [], a => rfl
  | s :: S, a => by
    rw [pA_cons, List.foldl_append, List.foldl_cons, ← pA_cov p y S]
    congr 1
    unfold pA1
    by_cases q : s.f < p
    · rw [if_pos q]
      show covF y _ ⟨s.m, s.f, min s.t p⟩ = _
      unfold covF
      show (if s.f ≤ y ∧ y < min s.t p then s.m else _) = _
      by_cases g : y < p
      · rw [if_pos g, if_pos g]
        by_cases h : s.f ≤ y ∧ y < s.t
        · rw [if_pos h, if_pos ⟨by omega, by omega⟩]
        · rw [if_neg h, if_neg (fun hc => by omega)]
      · rw [if_neg g, if_neg g, if_neg (fun hc => by omega)]
    · rw [if_neg q]
      show (if y < p then a else 0) = _
      unfold covF
      by_cases g : y < p
      · rw [if_pos g, if_pos g, if_neg (fun hc => by omega)]
      · rw [if_neg g, if_neg g]
theorem lastAt_pA (p y : Int) (S : List Sp) : lastAt (pA p S) y = if y < p then lastAt S y else 0 := by
  have := pA_cov p y S 0
  rw [show (if y < p then (0 : Int) else 0) = 0 by split <;> rfl] at this
  exact this
theorem pB_cov (p y : Int) (hy : 0 ≤ y) : ∀ (S : List Sp) (a : Int), (pB p S).foldl (covF y) a = S.foldl (covF (y + p)) a
  | [], a => rfl
  | s :: S, a => by
    rw [pB_cons, List.foldl_append, List.foldl_cons, ← pB_cov p y hy S]
    congr 1
    unfold pB1
    by_cases q : p < s.t
    · rw [if_pos q]
      show covF y _ ⟨s.m, max s.f p - p, s.t - p⟩ = _
      unfold covF
      show (if max s.f p - p ≤ y ∧ y < s.t - p then s.m else _) = _
      by_cases h : s.f ≤ y + p ∧ y + p < s.t
      · rw [if_pos h, if_pos ⟨by omega, by omega⟩]
      · rw [if_neg h, if_neg (fun hc => by omega)]
    · rw [if_neg q]
      show a = _
      unfold covF
      rw [if_neg (fun hc => by omega)]
theorem mv_cov (d y : Int) : ∀ (S : List Sp) (a : Int), (mvS d S).foldl (covF y) a = S.foldl (covF (y - d)) a
  | [], a => rfl
  | s :: S, a => by
    show (mvS d S).foldl (covF y) (covF y a (mv1 d s)) = _
    rw [List.foldl_cons, mv_cov d y S]
    congr 1
    unfold covF mv1
    show (if s.f + d ≤ y ∧ y < s.t + d then s.m else a) = _
    by_cases h : s.f ≤ y - d ∧ y - d < s.t
    · rw [if_pos h, if_pos ⟨by omega, by omega⟩]
    · rw [if_neg h, if_neg (fun hc => by omega)]
theorem Ord_mv : ∀ {S : List Sp} {lo n d : Int}, Ord lo n S → Ord (lo + d) (n + d) (mvS d S)
  | [], _, _, _, _ => trivial
  | s :: S, lo, n, d, ⟨a, b, c, e, f⟩ => ⟨a, by show lo + d ≤ s.f + d; omega, by show s.f + d < s.t + d; omega, by show s.t + d ≤ n + d; omega, Ord_mv f⟩

/-! ### What a put and a take make of the spans -/
def pNew (S : List Sp) (p k mk : Int) : List Sp := if 0 < mk ∧ 0 < k then joinL (pA p S) ⟨mk, p, p + k⟩ else pA p S
def pPut (S : List Sp) (p k mk : Int) : List Sp := joins (pNew S p k mk) (mvS (p + k) (pB p S))
def pTake (S : List Sp) (a b : Int) : List Sp := joins (pA a S) (mvS a (pB b S))
theorem pNew_ok {S : List Sp} {n p k mk : Int} (h : RS 0 0 n S) (hp : 0 ≤ p) (hk : 0 ≤ k) :
    RS 0 0 (p + k) (pNew S p k mk) ∧ ∀ y, lastAt (pNew S p k mk) y = if y < p then lastAt S y else if y < p + k then max mk 0 else 0 := by
  have hA := RS_pA (p := p) h
  have hE := endE_le hA hp
  unfold pNew
  by_cases q : 0 < mk ∧ 0 < k
  · rw [if_pos q]
    obtain ⟨j1, j2, j3⟩ := joinL_ok (x := ⟨mk, p, p + k⟩) (hA.mono (show p ≤ p + k by omega)) q.1 hp hE (by show p < p + k; omega) (Int.le_refl _)
    refine ⟨j1, fun y => ?_⟩
    rw [j3, lastAt_pA]
    show (if p ≤ y ∧ y < p + k then mk else _) = _
    by_cases g : y < p
    · rw [if_pos g, if_pos g, if_neg (fun hc => by omega)]
    · rw [if_neg g, if_neg g]
      by_cases g2 : y < p + k
      · rw [if_pos g2, if_pos ⟨by omega, g2⟩]; omega
      · rw [if_neg g2, if_neg (fun hc => g2 hc.2)]
  · rw [if_neg q]
    refine ⟨hA.mono (by omega), fun y => ?_⟩
    rw [lastAt_pA]
    by_cases g : y < p
    · rw [if_pos g, if_pos g]
    · rw [if_neg g, if_neg g]
      by_cases g2 : y < p + k
      · rw [if_pos g2]; omega
      · rw [if_neg g2]
theorem pPut_ok {S : List Sp} {n p k mk : Int} (h : RS 0 0 n S) (hp : 0 ≤ p) (hpn : p ≤ n) (hk : 0 ≤ k) :
    RS 0 0 (n + k) (pPut S p k mk) ∧ ∀ y, lastAt (pPut S p k mk) y = if y < p then lastAt S y else if y < p + k then max mk 0 else lastAt S (y - k) := by
  obtain ⟨a1, a2⟩ := pNew_ok (mk := mk) h hp hk
  have hB : Ord (p + k) (n + k) (mvS (p + k) (pB p S)) := by
    have := Ord_mv (d := p + k) (RS_pB (p := p) h).ord
    rwa [show 0 + (p + k) = p + k by omega, show n - p + (p + k) = n + k by omega] at this
  obtain ⟨b1, b2⟩ := joins_ok (R := pNew S p k mk) (a1.mono (show p + k ≤ n + k by omega)) hB (by omega) (endE_le a1 (by omega))
  refine ⟨b1, fun y => ?_⟩
  rw [show pPut S p k mk = joins (pNew S p k mk) (mvS (p + k) (pB p S)) from rfl, b2]
  by_cases g : y < p + k
  · rw [hB.none_ g, a2]
    by_cases g2 : y < p
    · rw [if_pos g2, if_pos g2]
    · rw [if_neg g2, if_neg g2, if_pos g, if_pos g]
  · rw [a2, if_neg (by omega), if_neg g, if_neg (by omega), if_neg g, mv_cov, pB_cov _ _ (by omega), show y - (p + k) + p = y - k by omega]
    rfl
theorem pTake_ok {S : List Sp} {n a b : Int} (h : RS 0 0 n S) (ha : 0 ≤ a) (hab : a ≤ b) (hbn : b ≤ n) :
    RS 0 0 (n - (b - a)) (pTake S a b) ∧ ∀ y, lastAt (pTake S a b) y = if y < a then lastAt S y else lastAt S (y + (b - a)) := by
  have hA := RS_pA (p := a) h
  have hB : Ord a (n - (b - a)) (mvS a (pB b S)) := by
    have := Ord_mv (d := a) (RS_pB (p := b) h).ord
    rwa [show 0 + a = a by omega, show n - b + a = n - (b - a) by omega] at this
  obtain ⟨b1, b2⟩ := joins_ok (R := pA a S) (hA.mono (show a ≤ n - (b - a) by omega)) hB ha (endE_le hA ha)
  refine ⟨b1, fun y => ?_⟩
  rw [show pTake S a b = joins (pA a S) (mvS a (pB b S)) from rfl, b2]
  by_cases g : y < a
  · rw [hB.none_ g, lastAt_pA]
    rw [if_pos g, if_pos g]
  · rw [lastAt_pA, if_neg g, if_neg g, mv_cov, pB_cov _ _ (by omega), show y - a + b = y + (b - a) by omega]
    rfl
theorem lastAt_pos {S : List Sp} {lo n : Int} (h : Ord lo n S) (y : Int) : 0 ≤ lastAt S y := by
  have : ∀ (S : List Sp) (lo a : Int), Ord lo n S → 0 ≤ a → 0 ≤ S.foldl (covF y) a := by
    intro S
    induction S with
    | nil => intro lo a _ h; exact h
    | cons s S ih =>
      rintro lo a ⟨h1, h2, h3, h4, h5⟩ h
      rw [List.foldl_cons]
      refine ih _ _ h5 ?_
      unfold covF
      split <;> omega
  exact this S lo 0 h (Int.le_refl _)
theorem lastAt_high : ∀ {S : List Sp} {lo n : Int}, Ord lo n S → ∀ y, n ≤ y → lastAt S y = 0 := by
  intro S lo n h y hy
  have : ∀ (S : List Sp) (lo a : Int), Ord lo n S → S.foldl (covF y) a = a := by
    intro S
    induction S with
    | nil => intro lo a _; rfl
    | cons s S ih =>
      rintro lo a ⟨h1, h2, h3, h4, h5⟩
      rw [List.foldl_cons, show covF y a s = a from if_neg (fun hc => by omega)]
      exact ih _ _ h5
  exact this S lo 0 h
theorem at_letters {S : List Sp} {n j : Nat} (h : j < n) : at_ (letters S n) j = lastAt S j := by
  unfold at_ letters
  rw [List.getD_eq_getElem?_getD, List.getElem?_eq_getElem (by simpa using h)]
  simp
end Go.Proofs.YtcpdoicbekcpeaaDoor.Rt

namespace Go.Proofs.YtcpdoicbekcpeaaDoor.Rig
open Go.RowKit Go.Lib Go.Proofs.YtcpdoicbekcpeaaDoor.Rt

/-- x stands ahead of y. -/
def ltS (x y : St) : Prop := gtS y x
theorem ltS_trans {x y z : St} (h1 : ltS x y) (h2 : ltS y z) : ltS x z := by unfold ltS gtS at *; omega
theorem ltS_irrefl {x : St} : ¬ ltS x x := by unfold ltS gtS; omega
theorem ltS_or {x y : St} (h1 : ¬ ltS x y) (h2 : ¬ ltS y x) : x = y := by
  obtain ⟨a, b⟩ := x
  obtain ⟨c, d⟩ := y
  unfold ltS gtS at *
  simp only at h1 h2
  have e1 : a = c := by omega
  have e2 : b = d := by omega
  rw [e1, e2]
def Up (T : List St) : Prop := T.Pairwise ltS
theorem up_uniq : ∀ {A B : List St}, Up A → Up B → (∀ x, x ∈ A ↔ x ∈ B) → A = B
  | [], [], _, _, _ => rfl
  | [], y :: B, _, _, h => by have := (h y).2 (by simp); simp at this
  | x :: A, [], _, _, h => by have := (h x).1 (by simp); simp at this
  | x :: A, y :: B, h1, h2, h => by
    obtain ⟨p1, p2⟩ := List.pairwise_cons.1 h1
    obtain ⟨q1, q2⟩ := List.pairwise_cons.1 h2
    have e : x = y := by
      have hx := (h x).1 (by simp)
      have hy := (h y).2 (by simp)
      rcases List.mem_cons.1 hx with r | r
      · exact r
      · rcases List.mem_cons.1 hy with s | s
        · exact s.symm
        · exact absurd (ltS_trans (p1 _ s) (q1 _ r)) ltS_irrefl
    subst e
    rw [up_uniq p2 q2 fun z => ?_]
    constructor
    · intro hz
      rcases List.mem_cons.1 ((h z).1 (List.mem_cons_of_mem _ hz)) with r | r
      · subst r; exact absurd (p1 _ hz) ltS_irrefl
      · exact r
    · intro hz
      rcases List.mem_cons.1 ((h z).2 (List.mem_cons_of_mem _ hz)) with r | r
      · subst r; exact absurd (q1 _ hz) ltS_irrefl
      · exact r
theorem st_snoc_lt {T : List St} {x : St} {k : Nat} (h : k < T.length) : st (T ++ [x]) k = st T k := by
  unfold st
  rw [List.getD_eq_getElem?_getD, List.getD_eq_getElem?_getD, List.getElem?_append_left h]
theorem st_snoc_eq (T : List St) (x : St) : st (T ++ [x]) T.length = x := by
  rw [st_get (by simp)]
  simp
theorem dnS_snoc {T : List St} {x s : St} {k : Nat} (h : k ≤ T.length) : dnS (T ++ [x]) s k ↔ dnS T s k := by
  unfold dnS
  constructor
  · rintro ⟨j, h1, h2⟩
    rw [st_snoc_lt (by omega)] at h2
    exact ⟨j, h1, h2⟩
  · rintro ⟨j, h1, h2⟩
    refine ⟨j, h1, ?_⟩
    rw [st_snoc_lt (by omega)]
    exact h2
theorem outS_snoc {T : List St} {x s : St} : ∀ {k : Nat}, k ≤ T.length → outS (T ++ [x]) s k = outS T s k
  | 0, _ => rfl
  | k + 1, h => by
    unfold outS
    rw [outS_snoc (by omega), st_snoc_lt (by omega)]
    by_cases e : dnS T s k
    · rw [if_neg (fun hc => hc.1 ((dnS_snoc (by omega)).2 e)), if_neg (fun hc => hc.1 e)]
    · have e' : ¬ dnS (T ++ [x]) s k := fun hc => e ((dnS_snoc (by omega)).1 hc)
      by_cases g : gtS (st T k) s
      · rw [if_pos ⟨e', g⟩, if_pos ⟨e, g⟩]
      · rw [if_neg (fun hc => g hc.2), if_neg (fun hc => g hc.2)]
theorem outS_parts (s : St) : ∀ (n : Nat) (T : List St), T.length = n → Up T →
    (¬ dnS T s n → outS T s n = T ∧ ∀ x ∈ T, ¬ gtS x s) ∧ (dnS T s n → ∃ A B, T = A ++ B ∧ outS T s n = A ++ s :: B ∧ (∀ x ∈ A, ¬ gtS x s) ∧ ∀ x ∈ B, gtS x s)
  | 0, T, hn, _ => by
    obtain rfl := List.eq_nil_of_length_eq_zero hn
    exact ⟨fun _ => ⟨rfl, fun x hx => by simp at hx⟩, fun ⟨j, h, _⟩ => absurd h (by omega)⟩
  | n + 1, T, hn, hup => by
    rcases List.eq_nil_or_concat T with rfl | ⟨T', x, e⟩
    · simp at hn
    · rw [List.concat_eq_append] at e
      subst e
      have hl : T'.length = n := by simpa using hn
      subst hl
      obtain ⟨u1, u2, u3⟩ := List.pairwise_append.1 hup
      obtain ⟨i1, i2⟩ := outS_parts s T'.length T' rfl u1
      have es : dnS (T' ++ [x]) s (T'.length + 1) ↔ dnS T' s T'.length ∨ gtS x s := by
        rw [dnS_succ, dnS_snoc (Nat.le_refl _), st_snoc_eq]
      have eo : outS (T' ++ [x]) s (T'.length + 1) = (outS T' s T'.length ++ (if ¬ dnS T' s T'.length ∧ gtS x s then [s] else [])) ++ [x] := by
        show (outS (T' ++ [x]) s T'.length ++ (if ¬ dnS (T' ++ [x]) s T'.length ∧ gtS (st (T' ++ [x]) T'.length) s then [s] else [])) ++ [st (T' ++ [x]) T'.length] = _
        rw [outS_snoc (Nat.le_refl _), st_snoc_eq]
        by_cases e : dnS T' s T'.length
        · rw [if_neg (fun hc => hc.1 ((dnS_snoc (Nat.le_refl _)).2 e)), if_neg (fun hc => hc.1 e)]
        · have e' : ¬ dnS (T' ++ [x]) s T'.length := fun hc => e ((dnS_snoc (Nat.le_refl _)).1 hc)
          by_cases g : gtS x s
          · rw [if_pos ⟨e', g⟩, if_pos ⟨e, g⟩]
          · rw [if_neg (fun hc => g hc.2), if_neg (fun hc => g hc.2)]
      rw [eo]
      by_cases e : dnS T' s T'.length
      · obtain ⟨A, B, h1, h2, h3, h4⟩ := i2 e
        have hx : gtS x s := by
          obtain ⟨j, hj, hg⟩ := e
          have := u3 (st T' j) (by rw [st_get hj]; exact List.getElem_mem hj) x (by simp)
          exact ltS_trans (y := st T' j) hg this
        refine ⟨fun hc => absurd (es.2 (.inl e)) hc, fun _ => ⟨A, B ++ [x], by rw [h1, List.append_assoc], ?_, h3, ?_⟩⟩
        · rw [if_neg (fun hc => hc.1 e), h2]; simp
        · intro z hz
          rcases List.mem_append.1 hz with hz | hz
          · exact h4 z hz
          · simp at hz; subst hz; exact hx
      · obtain ⟨h1, h2⟩ := i1 e
        by_cases g : gtS x s
        · refine ⟨fun hc => absurd (es.2 (.inr g)) hc, fun _ => ⟨T', [x], rfl, ?_, h2, ?_⟩⟩
          · rw [if_pos ⟨e, g⟩, h1]; simp
          · intro z hz
            simp at hz; subst hz; exact g
        · refine ⟨fun _ => ⟨by rw [if_neg (fun hc => g hc.2), h1, List.append_nil], ?_⟩, fun hc => absurd (es.1 hc) (fun hd => hd.elim e g)⟩
          intro z hz
          rcases List.mem_append.1 hz with hz | hz
          · exact h2 z hz
          · simp at hz; subst hz; exact g
theorem site_ok {T : List St} (h : Up T) (s : St) : Up (siteL T s) ∧ ∀ x, x ∈ siteL T s ↔ x ∈ T ∨ x = s := by
  unfold siteL
  by_cases e : s ∈ T
  · rw [if_pos e]
    exact ⟨h, fun x => ⟨.inl, fun hc => hc.elim id (fun hd => by rw [hd]; exact e)⟩⟩
  · rw [if_neg e]
    obtain ⟨i1, i2⟩ := outS_parts s T.length T rfl h
    have key : ∃ A B, T = A ++ B ∧ (outS T s T.length ++ (if dnS T s T.length then [] else [s])) = A ++ s :: B ∧ (∀ x ∈ A, ¬ gtS x s) ∧ ∀ x ∈ B, gtS x s := by
      by_cases g : dnS T s T.length
      · obtain ⟨A, B, h1, h2, h3, h4⟩ := i2 g
        exact ⟨A, B, h1, by rw [if_pos g, h2, List.append_nil], h3, h4⟩
      · obtain ⟨h1, h2⟩ := i1 g
        exact ⟨T, [], (List.append_nil T).symm, by rw [if_neg g, h1], h2, fun x hx => by simp at hx⟩
    obtain ⟨A, B, h1, h2, h3, h4⟩ := key
    rw [h2]
    subst h1
    obtain ⟨u1, u2, u3⟩ := List.pairwise_append.1 h
    have hA : ∀ x ∈ A, ltS x s := fun x hx => by
      by_cases q : ltS x s
      · exact q
      · exact absurd (List.mem_append_left B ((ltS_or q (h3 x hx)) ▸ hx)) e
    refine ⟨List.pairwise_append.2 ⟨u1, List.pairwise_cons.2 ⟨h4, u2⟩, fun x hx y hy => ?_⟩, fun x => ?_⟩
    · rcases List.mem_cons.1 hy with rfl | hy
      · exact hA x hx
      · exact u3 x hx y hy
    · simp [List.mem_append, List.mem_cons]
      constructor
      · rintro (q | q | q)
        · exact .inl (.inl q)
        · exact .inr q
        · exact .inl (.inr q)
      · rintro ((q | q) | q)
        · exact .inl q
        · exact .inr (.inr q)
        · exact .inr (.inl q)
theorem mapT_ok (g : St → St) (T : List St) : ∀ k, Up (mapT g T k) ∧ ∀ x, x ∈ mapT g T k ↔ ∃ j, j < k ∧ x = g (st T j)
  | 0 => ⟨List.Pairwise.nil, fun x => ⟨fun h => by simp [mapT] at h, fun ⟨j, h, _⟩ => absurd h (by omega)⟩⟩
  | k + 1 => by
    obtain ⟨h1, h2⟩ := mapT_ok g T k
    obtain ⟨s1, s2⟩ := site_ok h1 (g (st T k))
    refine ⟨s1, fun x => ?_⟩
    show x ∈ siteL (mapT g T k) (g (st T k)) ↔ _
    rw [s2, h2]
    constructor
    · rintro (⟨j, h, e⟩ | e)
      · exact ⟨j, by omega, e⟩
      · exact ⟨k, by omega, e⟩
    · rintro ⟨j, h, e⟩
      by_cases q : j = k
      · subst q; exact .inr e
      · exact .inl ⟨j, by omega, e⟩
theorem mem_st {T : List St} {y : St} : y ∈ T ↔ ∃ j, j < T.length ∧ y = st T j := by
  constructor
  · intro h
    obtain ⟨j, hj, e⟩ := List.getElem_of_mem h
    exact ⟨j, hj, by rw [st_get hj, e]⟩
  · rintro ⟨j, hj, rfl⟩
    rw [st_get hj]
    exact List.getElem_mem hj
theorem mapT_all (g : St → St) (T : List St) : Up (mapT g T T.length) ∧ ∀ x, x ∈ mapT g T T.length ↔ ∃ y ∈ T, x = g y := by
  obtain ⟨h1, h2⟩ := mapT_ok g T T.length
  refine ⟨h1, fun x => ?_⟩
  rw [h2]
  constructor
  · rintro ⟨j, h, e⟩
    exact ⟨st T j, mem_st.2 ⟨j, h, rfl⟩, e⟩
  · rintro ⟨y, hy, e⟩
    obtain ⟨j, hj, rfl⟩ := mem_st.1 hy
    exact ⟨j, hj, e⟩
theorem partA_ok (p : Int) (T : List St) : ∀ k, Up (partA p T k) ∧ ∀ x, x ∈ partA p T k ↔ ∃ j, j < k ∧ (st T j).a ≤ p ∧ x = st T j
  | 0 => ⟨List.Pairwise.nil, fun x => ⟨fun h => by simp [partA] at h, fun ⟨j, h, _⟩ => absurd h (by omega)⟩⟩
  | k + 1 => by
    obtain ⟨h1, h2⟩ := partA_ok p T k
    obtain ⟨s1, s2⟩ := site_ok h1 (st T k)
    unfold partA
    by_cases q : (st T k).a ≤ p
    · rw [if_pos q]
      refine ⟨s1, fun x => ?_⟩
      rw [s2, h2]
      constructor
      · rintro (⟨j, h, e⟩ | e)
        · exact ⟨j, by omega, e⟩
        · exact ⟨k, by omega, q, e⟩
      · rintro ⟨j, h, e1, e⟩
        by_cases q : j = k
        · subst q; exact .inr e
        · exact .inl ⟨j, by omega, e1, e⟩
    · rw [if_neg q]
      refine ⟨h1, fun x => ?_⟩
      rw [h2]
      constructor
      · rintro ⟨j, h, e⟩
        exact ⟨j, by omega, e⟩
      · rintro ⟨j, h, e1, e⟩
        by_cases g : j = k
        · subst g; exact absurd e1 q
        · exact ⟨j, by omega, e1, e⟩
theorem partB_ok (p : Int) (T : List St) : ∀ k, Up (partB p T k) ∧ ∀ x, x ∈ partB p T k ↔ ∃ j, j < k ∧ ¬ (st T j).a ≤ p ∧ x = ⟨(st T j).m, (st T j).a - p⟩
  | 0 => ⟨List.Pairwise.nil, fun x => ⟨fun h => by simp [partB] at h, fun ⟨j, h, _⟩ => absurd h (by omega)⟩⟩
  | k + 1 => by
    obtain ⟨h1, h2⟩ := partB_ok p T k
    obtain ⟨s1, s2⟩ := site_ok h1 ⟨(st T k).m, (st T k).a - p⟩
    unfold partB
    by_cases q : (st T k).a ≤ p
    · rw [if_pos q]
      refine ⟨h1, fun x => ?_⟩
      rw [h2]
      constructor
      · rintro ⟨j, h, e⟩
        exact ⟨j, by omega, e⟩
      · rintro ⟨j, h, e1, e⟩
        by_cases g : j = k
        · subst g; exact absurd q e1
        · exact ⟨j, by omega, e1, e⟩
    · rw [if_neg q]
      refine ⟨s1, fun x => ?_⟩
      rw [s2, h2]
      constructor
      · rintro (⟨j, h, e⟩ | e)
        · exact ⟨j, by omega, e⟩
        · exact ⟨k, by omega, q, e⟩
      · rintro ⟨j, h, e1, e⟩
        by_cases q : j = k
        · subst q; exact .inr e
        · exact .inl ⟨j, by omega, e1, e⟩

/-! ### Right sites -/
def RT (n : Int) (T : List St) : Prop := Up T ∧ ∀ x ∈ T, 0 < x.m ∧ 0 ≤ x.a ∧ x.a ≤ n
theorem up_far {T : List St} (h : ∀ j, j + 1 < T.length → ltS (st T j) (st T (j + 1))) : Up T := by
  unfold Up
  rw [List.pairwise_iff_getElem]
  have key : ∀ d i, i + d + 1 < T.length → ltS (st T i) (st T (i + d + 1)) := by
    intro d
    induction d with
    | zero => intro i hi; exact h i hi
    | succ d ih => intro i hi; exact ltS_trans (ih i (by omega)) (h (i + d + 1) (by omega))
  intro i j hi hj hij
  have := key (j - i - 1) i (by omega)
  rw [show i + (j - i - 1) + 1 = j by omega, st_get hi, st_get hj] at this
  exact this
theorem up_at {T : List St} (h : Up T) {i j : Nat} (hij : i < j) (hj : j < T.length) : ltS (st T i) (st T j) := by
  unfold Up at h
  rw [List.pairwise_iff_getElem] at h
  rw [st_get hj, st_get (show i < T.length by omega)]
  exact h i j (by omega) hj hij
theorem stOk_RT {T : List St} {n : Int} : (∀ j, j < T.length → stOk T n j) ↔ RT n T := by
  constructor
  · intro h
    refine ⟨up_far fun j hj => ?_, fun x hx => ?_⟩
    · obtain ⟨_, _, _, e⟩ := h (j + 1) hj
      have := e (by omega)
      rw [show j + 1 - 1 = j by omega] at this
      unfold ltS gtS
      omega
    · obtain ⟨j, hj, rfl⟩ := mem_st.1 hx
      obtain ⟨a, b, c, _⟩ := h j hj
      exact ⟨a, b, c⟩
  · rintro ⟨h1, h2⟩ j hj
    obtain ⟨a, b, c⟩ := h2 (st T j) (mem_st.2 ⟨j, hj, rfl⟩)
    refine ⟨a, b, c, fun h0 => ?_⟩
    have := up_at h1 (show j - 1 < j by omega) hj
    unfold ltS gtS at this
    omega
theorem mright_iff {S : List Sp} {T : List St} {n : Int} : mrightB S T n = true ↔ RS 0 0 n S ∧ RT n T := by
  unfold mrightB
  rw [decide_eq_true_iff]
  unfold mrightP
  rw [spOk_RS, stOk_RT]

/-! ### What a put, a take, a parting make of the sites -/
def sA (p : Int) (T : List St) : List St := T.filter fun x => decide (x.a ≤ p)
def sB1 (p : Int) (x : St) : St := ⟨x.m, x.a - p⟩
def sB (p : Int) (T : List St) : List St := (T.filter fun x => !decide (x.a ≤ p)).map (sB1 p)
def pPutT (T : List St) (p k : Int) : List St := sA p T ++ (sB p T).map fun x => ⟨x.m, x.a + p + k⟩
def pTakeT (T : List St) (a b mk : Int) : List St := endT (mapT (cutS a b) T T.length) mk a
theorem up_map {T : List St} {g : St → St} (h : Up T) (hg : ∀ x y, x ∈ T → y ∈ T → ltS x y → ltS (g x) (g y)) : Up (T.map g) := by
  unfold Up
  rw [List.pairwise_map]
  exact List.Pairwise.imp_of_mem (fun {a b} ha hb hab => hg a b ha hb hab) h
theorem sA_up {T : List St} (h : Up T) (p : Int) : Up (sA p T) := List.Pairwise.filter _ h
theorem sB_up {T : List St} (h : Up T) (p : Int) : Up (sB p T) := by
  refine up_map (List.Pairwise.filter _ h) fun x y _ _ hxy => ?_
  unfold ltS gtS sB1 at *
  show x.a - p < y.a - p ∨ y.a - p = x.a - p ∧ x.m < y.m
  omega
theorem sA_doc {T : List St} (h : Up T) (p : Int) : sA p T = partA p T T.length := by
  obtain ⟨h1, h2⟩ := partA_ok p T T.length
  refine up_uniq (sA_up h p) h1 fun x => ?_
  rw [h2]
  unfold sA
  rw [List.mem_filter]
  constructor
  · rintro ⟨hx, hp⟩
    obtain ⟨j, hj, rfl⟩ := mem_st.1 hx
    exact ⟨j, hj, by simpa using hp, rfl⟩
  · rintro ⟨j, hj, hp, rfl⟩
    exact ⟨mem_st.2 ⟨j, hj, rfl⟩, by simpa using hp⟩
theorem sB_doc {T : List St} (h : Up T) (p : Int) : sB p T = partB p T T.length := by
  obtain ⟨h1, h2⟩ := partB_ok p T T.length
  refine up_uniq (sB_up h p) h1 fun x => ?_
  rw [h2]
  unfold sB
  rw [List.mem_map]
  constructor
  · rintro ⟨y, hy, rfl⟩
    rw [List.mem_filter] at hy
    obtain ⟨j, hj, rfl⟩ := mem_st.1 hy.1
    exact ⟨j, hj, by simpa using hy.2, rfl⟩
  · rintro ⟨j, hj, hp, rfl⟩
    exact ⟨st T j, List.mem_filter.2 ⟨mem_st.2 ⟨j, hj, rfl⟩, by simpa using hp⟩, rfl⟩
theorem pPutT_up {T : List St} (h : Up T) (p k : Int) (hk : 0 ≤ k) : Up (pPutT T p k) := by
  refine List.pairwise_append.2 ⟨sA_up h p, up_map (sB_up h p) fun x y _ _ hxy => ?_, fun x hx y hy => ?_⟩
  · unfold ltS gtS at *
    show x.a + p + k < y.a + p + k ∨ y.a + p + k = x.a + p + k ∧ x.m < y.m
    omega
  · obtain ⟨z, hz, rfl⟩ := List.mem_map.1 hy
    obtain ⟨u, hu, rfl⟩ := List.mem_map.1 hz
    have e1 := (List.mem_filter.1 hx).2
    have e2 := (List.mem_filter.1 hu).2
    simp at e1 e2
    unfold ltS gtS sB1
    show x.a < u.a - p + p + k ∨ _
    omega
theorem pPutT_mem {T : List St} (p k : Int) (x : St) : x ∈ pPutT T p k ↔ ∃ y ∈ T, x = shift p k y := by
  unfold pPutT
  rw [List.mem_append]
  constructor
  · rintro (hx | hx)
    · obtain ⟨h1, h2⟩ := List.mem_filter.1 hx
      simp at h2
      exact ⟨x, h1, by unfold shift; rw [if_neg (by omega)]⟩
    · obtain ⟨z, hz, rfl⟩ := List.mem_map.1 hx
      obtain ⟨u, hu, rfl⟩ := List.mem_map.1 hz
      obtain ⟨h1, h2⟩ := List.mem_filter.1 hu
      simp at h2
      refine ⟨u, h1, ?_⟩
      unfold shift sB1
      rw [if_pos (by omega), show u.a - p + p + k = u.a + k by omega]
  · rintro ⟨y, hy, rfl⟩
    unfold shift
    by_cases q : p < y.a
    · rw [if_pos q]
      right
      refine List.mem_map.2 ⟨sB1 p y, List.mem_map.2 ⟨y, List.mem_filter.2 ⟨hy, by simpa using q⟩, rfl⟩, ?_⟩
      unfold sB1
      show (⟨y.m, y.a - p + p + k⟩ : St) = _
      rw [show y.a - p + p + k = y.a + k by omega]
    · rw [if_neg q]
      left
      exact List.mem_filter.2 ⟨hy, by simpa using q⟩
theorem pPutT_doc {T : List St} (h : Up T) (p k : Int) (hk : 0 ≤ k) : pPutT T p k = mapT (shift p k) T T.length := by
  obtain ⟨h1, h2⟩ := mapT_all (shift p k) T
  exact up_uniq (pPutT_up h p k hk) h1 fun x => by rw [h2, pPutT_mem]
theorem pPutT_right {T : List St} {n : Int} (h : RT n T) {p k : Int} (hk : 0 ≤ k) (hp : 0 ≤ p) : RT (n + k) (pPutT T p k) := by
  refine ⟨pPutT_up h.1 p k hk, fun x hx => ?_⟩
  obtain ⟨y, hy, rfl⟩ := (pPutT_mem p k x).1 hx
  obtain ⟨a, b, c⟩ := h.2 y hy
  unfold shift
  split
  · exact ⟨a, by show 0 ≤ y.a + k; omega, by show y.a + k ≤ n + k; omega⟩
  · exact ⟨a, b, by omega⟩
theorem endT_ok {T : List St} (h : Up T) (mk a : Int) : Up (endT T mk a) ∧ ∀ x, x ∈ endT T mk a ↔ x ∈ T ∨ (0 < mk ∧ x = ⟨mk, a⟩) := by
  unfold endT
  by_cases q : 0 < mk
  · rw [if_pos q]
    obtain ⟨s1, s2⟩ := site_ok h ⟨mk, a⟩
    exact ⟨s1, fun x => by rw [s2]; exact ⟨fun hc => hc.imp id (fun e => ⟨q, e⟩), fun hc => hc.imp id (fun e => e.2)⟩⟩
  · rw [if_neg q]
    exact ⟨h, fun x => ⟨.inl, fun hc => hc.elim id (fun e => absurd e.1 q)⟩⟩
theorem pTakeT_ok (T : List St) (a b mk : Int) : Up (pTakeT T a b mk) ∧ ∀ x, x ∈ pTakeT T a b mk ↔ (∃ y ∈ T, x = cutS a b y) ∨ (0 < mk ∧ x = ⟨mk, a⟩) := by
  obtain ⟨h1, h2⟩ := mapT_all (cutS a b) T
  obtain ⟨s1, s2⟩ := endT_ok h1 mk a
  exact ⟨s1, fun x => by unfold pTakeT; rw [s2, h2]⟩
theorem pTakeT_right {T : List St} {n : Int} (h : RT n T) {a b mk : Int} (ha : 0 ≤ a) (hab : a ≤ b) (hbn : b ≤ n) : RT (n - (b - a)) (pTakeT T a b mk) := by
  obtain ⟨s1, s2⟩ := pTakeT_ok T a b mk
  refine ⟨s1, fun x hx => ?_⟩
  rcases (s2 x).1 hx with ⟨y, hy, rfl⟩ | ⟨q, rfl⟩
  · obtain ⟨p1, p2, p3⟩ := h.2 y hy
    unfold cutS
    split
    · exact ⟨p1, by show 0 ≤ y.a - (b - a); omega, by show y.a - (b - a) ≤ _; omega⟩
    · split
      · exact ⟨p1, ha, by show a ≤ _; omega⟩
      · exact ⟨p1, p2, by omega⟩
  · exact ⟨q, ha, by show a ≤ _; omega⟩
theorem sA_right {T : List St} {n p : Int} (h : RT n T) : RT p (sA p T) := by
  refine ⟨sA_up h.1 p, fun x hx => ?_⟩
  obtain ⟨h1, h2⟩ := List.mem_filter.1 hx
  obtain ⟨a, b, c⟩ := h.2 x h1
  simp at h2
  exact ⟨a, b, h2⟩
theorem sB_right {T : List St} {n p : Int} (h : RT n T) : RT (n - p) (sB p T) := by
  refine ⟨sB_up h.1 p, fun x hx => ?_⟩
  obtain ⟨u, hu, rfl⟩ := List.mem_map.1 hx
  obtain ⟨h1, h2⟩ := List.mem_filter.1 hu
  obtain ⟨a, b, c⟩ := h.2 u h1
  simp at h2
  exact ⟨a, by show 0 ≤ u.a - p; omega, by show u.a - p ≤ n - p; omega⟩

/-! ### By letters -/
theorem at_app_left {xs ys : List Int} {j : Nat} (h : j < xs.length) : at_ (xs ++ ys) j = at_ xs j := by
  unfold at_
  rw [List.getD_eq_getElem?_getD, List.getD_eq_getElem?_getD, List.getElem?_append_left h]
theorem at_app_right {xs ys : List Int} {j : Nat} (h : xs.length ≤ j) : at_ (xs ++ ys) j = at_ ys (j - xs.length) := by
  unfold at_
  rw [List.getD_eq_getElem?_getD, List.getD_eq_getElem?_getD, List.getElem?_append_right h]
theorem at_rep {k j : Nat} {x : Int} (h : j < k) : at_ (List.replicate k x) j = x := by
  unfold at_
  rw [List.getD_eq_getElem?_getD, List.getElem?_replicate, if_pos h]
  rfl
theorem runs_is {l : List Int} {R : List Sp} (h : RS 0 0 l.length R) (hl : ∀ j, j < l.length → at_ l j = lastAt R j) : runs l = R := by
  obtain ⟨r1, r2⟩ := runs_ok (l := l) fun j hj => by rw [hl j hj]; exact lastAt_pos h.ord _
  refine RS.uniq r1 h fun x hx => ?_
  rw [r2]
  by_cases q : x < (l.length : Int)
  · rw [if_pos ⟨hx, q⟩, hl _ (by omega), show ((x.toNat : Nat) : Int) = x by omega]
  · rw [if_neg (fun hc => q hc.2), lastAt_high h.ord x (by omega)]
theorem put_doc {S : List Sp} {n p k : Nat} {mk : Int} (h : RS 0 0 n S) (hp : p ≤ n) : runs (putLs (letters S n) p k mk) = pPut S p k mk := by
  obtain ⟨b1, b2⟩ := pPut_ok (mk := mk) (k := (k : Int)) h (show (0 : Int) ≤ (p : Int) by omega) (by omega) (by omega)
  have hl : (putLs (letters S n) p k mk).length = n + k := by
    unfold putLs
    simp [letters_len]
    omega
  refine runs_is (by rw [hl]; exact_mod_cast b1) fun j hj => ?_
  rw [b2]
  rw [hl] at hj
  have h1 : ((letters S n).take p).length = p := by rw [List.length_take, letters_len]; omega
  unfold putLs
  by_cases q : j < p
  · rw [if_pos (by omega), at_app_left (by omega), at_take2 q, at_letters (by omega)]
  · rw [if_neg (by omega), at_app_right (by omega), h1]
    by_cases q2 : j < p + k
    · rw [if_pos (by omega), at_app_left (by rw [List.length_replicate]; omega), at_rep (by omega)]
    · rw [if_neg (by omega), at_app_right (by rw [List.length_replicate]; omega), List.length_replicate, at_drop2, at_letters (by omega)]
      congr 1
      omega
theorem take_doc {S : List Sp} {n a b : Nat} (h : RS 0 0 n S) (hab : a ≤ b) (hbn : b ≤ n) : runs (takeLs (letters S n) a b) = pTake S a b := by
  obtain ⟨b1, b2⟩ := pTake_ok h (show (0 : Int) ≤ (a : Int) by omega) (show (a : Int) ≤ b by omega) (by omega)
  have hl : (takeLs (letters S n) a b).length = n - (b - a) := by
    unfold takeLs
    simp [letters_len]
    omega
  refine runs_is (by rw [hl, show ((n - (b - a) : Nat) : Int) = (n : Int) - ((b : Int) - (a : Int)) by omega]; exact b1) fun j hj => ?_
  rw [b2]
  rw [hl] at hj
  have h1 : ((letters S n).take a).length = a := by rw [List.length_take, letters_len]; omega
  unfold takeLs
  by_cases q : j < a
  · rw [if_pos (by omega), at_app_left (by omega), at_take2 q, at_letters (by omega)]
  · rw [if_neg (by omega), at_app_right (by omega), h1, at_drop2, at_letters (by omega)]
    congr 1
    omega
theorem partA_doc {S : List Sp} {n p : Nat} (h : RS 0 0 n S) (hp : p ≤ n) : runs ((letters S n).take p) = pA p S := by
  have hl : ((letters S n).take p).length = p := by rw [List.length_take, letters_len]; omega
  refine runs_is (by rw [hl]; exact RS_pA h) fun j hj => ?_
  rw [hl] at hj
  rw [at_take2 hj, at_letters (by omega), lastAt_pA, if_pos (by omega)]
theorem partB_doc {S : List Sp} {n p : Nat} (h : RS 0 0 n S) (hp : p ≤ n) : runs ((letters S n).drop p) = pB p S := by
  have hl : ((letters S n).drop p).length = n - p := by rw [List.length_drop, letters_len]
  refine runs_is (by rw [hl, show ((n - p : Nat) : Int) = (n : Int) - p by omega]; exact RS_pB h) fun j hj => ?_
  rw [hl] at hj
  rw [at_drop2, at_letters (by omega), lastAt_def (pB _ _), pB_cov _ _ (by omega), show (j : Int) + (p : Int) = ((p + j : Nat) : Int) by omega]
  rfl
/-- Put and taken away again. -/
theorem back_spans {S : List Sp} {n p k mk : Int} (h : RS 0 0 n S) (hp : 0 ≤ p) (hpn : p ≤ n) (hk : 0 ≤ k) : pTake (pPut S p k mk) p (p + k) = S := by
  obtain ⟨b1, b2⟩ := pPut_ok (mk := mk) h hp hpn hk
  obtain ⟨c1, c2⟩ := pTake_ok b1 hp (show p ≤ p + k by omega) (by omega)
  refine RS.uniq c1 h fun x hx => ?_
  rw [c2, b2, b2]
  by_cases q : x < p
  · rw [if_pos q, if_pos q]
  · rw [if_neg q, if_neg (by omega), if_neg (by omega), show x + (p + k - p) - k = x by omega]
theorem back_sites {T : List St} {p k : Int} (h : Up T) (hk : 0 ≤ k) : pTakeT (pPutT T p k) p (p + k) 0 = T := by
  obtain ⟨s1, s2⟩ := pTakeT_ok (pPutT T p k) p (p + k) 0
  refine up_uniq s1 h fun x => ?_
  rw [s2]
  have e : ∀ y, cutS p (p + k) (shift p k y) = y := fun y => by
    obtain ⟨m, a⟩ := y
    unfold shift cutS
    simp only
    by_cases q : p < a
    · rw [if_pos q]
      show (if p + k < a + k then (⟨m, a + k - (p + k - p)⟩ : St) else _) = _
      rw [if_pos (by omega), show a + k - (p + k - p) = a by omega]
    · rw [if_neg q]
      show (if p + k < a then (⟨m, a - (p + k - p)⟩ : St) else if p < a then ⟨m, p⟩ else ⟨m, a⟩) = _
      rw [if_neg (by omega), if_neg q]
  constructor
  · rintro (⟨y, hy, rfl⟩ | ⟨q, _⟩)
    · obtain ⟨z, hz, rfl⟩ := (pPutT_mem p k y).1 hy
      rw [e]
      exact hz
    · omega
  · intro hx
    exact .inl ⟨shift p k x, (pPutT_mem p k _).2 ⟨x, hx, rfl⟩, (e x).symm⟩
end Go.Proofs.YtcpdoicbekcpeaaDoor.Rig
