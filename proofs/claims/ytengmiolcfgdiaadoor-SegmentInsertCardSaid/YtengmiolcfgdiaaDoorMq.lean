/- Plain lists alone: spans that are right are told by the marks of their letters; what is joined, parted, moved. No program is spoken of here. -/
import Derived.Test.YtengmiolcfgdiaaDoorMp
set_option linter.unusedVariables false
namespace Go.Proofs.YtengmiolcfgdiaaDoor.Rt

/-! ### Spans, told from the front -/
def covF (x : Int) : Int → Sp → Int := fun a s => if s.f ≤ x ∧ x < s.t then s.m else a
theorem lastAt_def (S : List Sp) (x : Int) : lastAt S x = S.foldl (covF x) 0 := rfl
/-- lo: where the one ahead ends; pm: its mark. -/
def RS (lo pm n : Int) : List Sp → Prop
  | [] => True
  | s :: S => 0 < s.m ∧ lo ≤ s.f ∧ s.f < s.t ∧ s.t ≤ n ∧ (s.f = lo → s.m ≠ pm) ∧ RS s.t s.m n S
/-- In order alone. -/
def Ord (lo n : Int) : List Sp → Prop
  | [] => True
  | s :: S => 0 < s.m ∧ lo ≤ s.f ∧ s.f < s.t ∧ s.t ≤ n ∧ Ord s.t n S
theorem RS.ord : ∀ {S : List Sp} {lo pm n : Int}, RS lo pm n S → Ord lo n S
  | [], _, _, _, _ => trivial
  | s :: S, _, _, _, ⟨a, b, c, d, _, e⟩ => ⟨a, b, c, d, e.ord⟩
theorem RS.mono : ∀ {S : List Sp} {lo pm n n' : Int}, RS lo pm n S → n ≤ n' → RS lo pm n' S
  | [], _, _, _, _, _, _ => trivial
  | s :: S, _, _, _, _, ⟨a, b, c, d, e, f⟩, h => ⟨a, b, c, by omega, e, f.mono h⟩
theorem Ord.lower : ∀ {S : List Sp} {lo lo' n : Int}, Ord lo n S → lo' ≤ lo → Ord lo' n S
  | [], _, _, _, _, _ => trivial
  | s :: S, _, _, _, ⟨a, b, c, d, e⟩, h => ⟨a, by omega, c, d, e⟩
theorem Ord.none_ : ∀ {S : List Sp} {lo n x a : Int}, Ord lo n S → x < lo → S.foldl (covF x) a = a
  | [], _, _, _, _, _, _ => rfl
  | s :: S, lo, n, x, a, ⟨_, h2, h3, _, h5⟩, h => by
    rw [List.foldl_cons, show covF x a s = a from if_neg (fun hc => by omega)]
    exact h5.none_ (by omega)
theorem Ord.mem : ∀ {S : List Sp} {lo n : Int}, Ord lo n S → ∀ s ∈ S, 0 < s.m ∧ lo ≤ s.f ∧ s.f < s.t ∧ s.t ≤ n
  | [], _, _, _, s, h => by simp at h
  | x :: S, _, _, ⟨a, b, c, d, e⟩, s, h => by
    rcases List.mem_cons.1 h with rfl | h
    · exact ⟨a, b, c, d⟩
    · obtain ⟨p, q, r, t⟩ := e.mem s h
      exact ⟨p, by omega, r, t⟩
theorem lastAt_cons {s : Sp} {S : List Sp} {n : Int} (h : Ord s.t n S) (x : Int) : lastAt (s :: S) x = if s.f ≤ x ∧ x < s.t then s.m else lastAt S x := by
  rw [lastAt_def, List.foldl_cons]
  by_cases e : s.f ≤ x ∧ x < s.t
  · rw [if_pos e, show covF x 0 s = s.m from if_pos e]
    exact h.none_ e.2
  · rw [if_neg e, show covF x 0 s = 0 from if_neg e]
    rfl
theorem lastAt_low {S : List Sp} {lo n x : Int} (h : Ord lo n S) (hx : x < lo) : lastAt S x = 0 := h.none_ hx
theorem RS.lo_ne {S : List Sp} {lo pm n : Int} (h : RS lo pm n S) (hp : 0 < pm) : lastAt S lo ≠ pm := by
  match S, h with
  | [], _ => show (0 : Int) ≠ pm; omega
  | s :: S, ⟨a, b, c, d, e, f⟩ =>
    rw [lastAt_cons f.ord]
    by_cases q : s.f = lo
    · rw [if_pos ⟨by omega, by omega⟩]; exact e q
    · rw [if_neg (fun hc => by omega), lastAt_low f.ord (by omega)]; omega
theorem RS.uniq : ∀ {A B : List Sp} {lo pm pm' n n' : Int}, RS lo pm n A → RS lo pm' n' B → (∀ x, lo ≤ x → lastAt A x = lastAt B x) → A = B
  | [], [], _, _, _, _, _, _, _, _ => rfl
  | [], t :: B, lo, _, _, _, _, _, ⟨a, b, c, d, e, f⟩, h => by
    have := h t.f b
    rw [lastAt_cons f.ord, if_pos ⟨Int.le_refl _, c⟩] at this
    change (0 : Int) = t.m at this
    omega
  | s :: A, [], lo, _, _, _, _, ⟨a, b, c, d, e, f⟩, _, h => by
    have := h s.f b
    rw [lastAt_cons f.ord, if_pos ⟨Int.le_refl _, c⟩] at this
    change s.m = (0 : Int) at this
    omega
  | s :: A, t :: B, lo, _, _, _, _, ⟨a, b, c, d, e, f⟩, ⟨a', b', c', d', e', f'⟩, h => by
    have H : ∀ x, lo ≤ x → (if s.f ≤ x ∧ x < s.t then s.m else lastAt A x) = (if t.f ≤ x ∧ x < t.t then t.m else lastAt B x) := fun x hx => by
      rw [← lastAt_cons f.ord, ← lastAt_cons f'.ord]; exact h x hx
    have h1 : s.f = t.f := by
      rcases Int.lt_trichotomy s.f t.f with q | q | q
      · have := H s.f b
        rw [if_pos ⟨Int.le_refl _, c⟩, if_neg (fun hc => by omega), lastAt_low f'.ord (by omega)] at this
        omega
      · exact q
      · have := H t.f b'
        rw [if_neg (c := s.f ≤ t.f ∧ t.f < s.t) (fun hc => by omega), lastAt_low f.ord (by omega), if_pos ⟨Int.le_refl _, c'⟩] at this
        omega
    have h2 : s.m = t.m := by
      have := H s.f b
      rwa [if_pos ⟨Int.le_refl _, c⟩, if_pos ⟨by omega, by omega⟩] at this
    have h3 : s.t = t.t := by
      rcases Int.lt_trichotomy s.t t.t with q | q | q
      · have := H s.t (by omega)
        rw [if_neg (fun hc => by omega), if_pos ⟨by omega, by omega⟩] at this
        exact absurd (this.trans h2.symm) (f.lo_ne a)
      · exact q
      · have := H t.t (by omega)
        rw [if_neg (c := t.f ≤ t.t ∧ t.t < t.t) (fun hc => by omega), if_pos ⟨by omega, by omega⟩] at this
        exact absurd (this.symm.trans h2) (f'.lo_ne a')
    have h4 : A = B := by
      refine RS.uniq f (h3 ▸ f') fun x hx => ?_
      have := H x (by omega)
      rwa [if_neg (fun hc => by omega), if_neg (fun hc => by omega)] at this
    obtain ⟨m1, f1, t1⟩ := s
    obtain ⟨m2, f2, t2⟩ := t
    simp only at h1 h2 h3
    rw [h1, h2, h3, h4]

/-! ### .. and by their places -/
def CS (n : Int) (p s : Sp) : Prop := 0 < s.m ∧ p.t ≤ s.f ∧ s.f < s.t ∧ s.t ≤ n ∧ (s.f = p.t → s.m ≠ p.m)
theorem RS_of {n : Int} : ∀ (S : List Sp) (p : Sp), (∀ j, j < S.length → CS n (sp (p :: S) j) (sp (p :: S) (j + 1))) → RS p.t p.m n S
  | [], _, _ => trivial
  | s :: S, p, h => by
    obtain ⟨a, b, c, d, e⟩ := h 0 (by simp)
    exact ⟨a, b, c, d, e, RS_of S s fun j hj => h (j + 1) (by simpa using hj)⟩
theorem RS_to {n : Int} : ∀ (S : List Sp) (p : Sp), RS p.t p.m n S → ∀ j, j < S.length → CS n (sp (p :: S) j) (sp (p :: S) (j + 1))
  | [], _, _, j, hj => by simp at hj
  | s :: S, p, ⟨a, b, c, d, e, f⟩, 0, _ => ⟨a, b, c, d, e⟩
  | s :: S, p, ⟨a, b, c, d, e, f⟩, j + 1, hj => RS_to S s f j (by simpa using hj)
theorem sp_z (S : List Sp) (j : Nat) : sp (Sp.z :: S) j = if j = 0 then Sp.z else sp S (j - 1) := by
  cases j with
  | zero => rfl
  | succ j => rfl
theorem spOk_RS {S : List Sp} {n : Int} : (∀ j, j < S.length → spOk S n j) ↔ RS 0 0 n S := by
  constructor
  · intro h
    refine RS_of S Sp.z fun j hj => ?_
    obtain ⟨a, b, c, d, e⟩ := h j hj
    show CS n (sp (Sp.z :: S) j) (sp S j)
    rw [sp_z]
    by_cases q : j = 0
    · rw [if_pos q]
      exact ⟨a, b, c, d, fun _ => by show _ ≠ (0 : Int); omega⟩
    · rw [if_neg q]
      exact ⟨a, (e (by omega)).1, c, d, (e (by omega)).2⟩
  · intro h j hj
    obtain ⟨a, b, c, d, e⟩ : CS n (sp (Sp.z :: S) j) (sp S j) := RS_to S Sp.z h j hj
    have hm := (h.ord.mem (sp S j) (by rw [sp_get hj]; exact List.getElem_mem hj)).2.1
    refine ⟨a, hm, c, d, fun h0 => ?_⟩
    rw [sp_z, if_neg (by omega)] at b e
    exact ⟨b, e⟩

/-! ### Joining -/
def joinL (R : List Sp) (x : Sp) : List Sp :=
  if 0 < R.length ∧ (sp R (R.length - 1)).t = x.f ∧ (sp R (R.length - 1)).m = x.m then R.set (R.length - 1) ⟨(sp R (R.length - 1)).m, (sp R (R.length - 1)).f, x.t⟩ else R ++ [x]
theorem runF_join (out : List Sp) (i x : Int) : runF out i x = if x = 0 then out else joinL out ⟨x, i, i + 1⟩ := rfl
def joins (R : List Sp) (L : List Sp) : List Sp := L.foldl joinL R
def endE (lo : Int) (S : List Sp) : Int := S.foldl (fun _ s => s.t) lo
def endM (pm : Int) (S : List Sp) : Int := S.foldl (fun _ s => s.m) pm
theorem RS_append : ∀ {A B : List Sp} {lo pm n : Int}, RS lo pm n (A ++ B) ↔ RS lo pm n A ∧ RS (endE lo A) (endM pm A) n B
  | [], B, lo, pm, n => ⟨fun h => ⟨trivial, h⟩, fun h => h.2⟩
  | s :: A, B, lo, pm, n => by
    have ih := @RS_append A B s.t s.m n
    constructor
    · rintro ⟨a, b, c, d, e, f⟩
      exact ⟨⟨a, b, c, d, e, (ih.1 f).1⟩, (ih.1 f).2⟩
    · rintro ⟨⟨a, b, c, d, e, f⟩, g⟩
      exact ⟨a, b, c, d, e, ih.2 ⟨f, g⟩⟩
theorem endE_le : ∀ {S : List Sp} {lo pm n : Int}, RS lo pm n S → lo ≤ n → endE lo S ≤ n
  | [], _, _, _, _, h => h
  | s :: S, _, _, _, ⟨_, _, _, d, _, f⟩, _ => endE_le (S := S) f d
theorem sp_last (R : List Sp) (l : Sp) : sp (R ++ [l]) ((R ++ [l]).length - 1) = l := by
  have h : (R ++ [l]).length - 1 = R.length := by simp
  rw [h, sp_get (by simp)]
  simp
theorem set_last (R : List Sp) (l x : Sp) : (R ++ [l]).set ((R ++ [l]).length - 1) x = R ++ [x] := by
  have h : (R ++ [l]).length - 1 = R.length := by simp
  rw [h, List.set_append_right _ _ (Nat.le_refl _)]
  simp
theorem endE_snoc (R : List Sp) (l : Sp) (lo : Int) : endE lo (R ++ [l]) = l.t := by unfold endE; rw [List.foldl_append]; rfl
theorem endM_snoc (R : List Sp) (l : Sp) (lo : Int) : endM lo (R ++ [l]) = l.m := by unfold endM; rw [List.foldl_append]; rfl
theorem snoc_or (R : List Sp) : R = [] ∨ ∃ R' l, R = R' ++ [l] := by
  rcases List.eq_nil_or_concat R with h | ⟨R', l, h⟩
  · exact .inl h
  · exact .inr ⟨R', l, by rw [h, List.concat_eq_append]⟩
theorem joinL_snoc (R : List Sp) (l x : Sp) : joinL (R ++ [l]) x = if l.t = x.f ∧ l.m = x.m then R ++ [⟨l.m, l.f, x.t⟩] else R ++ [l] ++ [x] := by
  unfold joinL
  rw [sp_last, set_last]
  by_cases h : l.t = x.f ∧ l.m = x.m
  · rw [if_pos h, if_pos ⟨by simp, h⟩]
  · rw [if_neg h, if_neg (fun hc => h hc.2)]
theorem joinL_nil (x : Sp) : joinL [] x = [x] := rfl
theorem joinL_ok {R : List Sp} {x : Sp} {n : Int} (h : RS 0 0 n R) (hm : 0 < x.m) (h0 : 0 ≤ x.f) (hf : endE 0 R ≤ x.f) (ht : x.f < x.t) (hn : x.t ≤ n) :
    RS 0 0 n (joinL R x) ∧ endE 0 (joinL R x) = x.t ∧ ∀ y, lastAt (joinL R x) y = if x.f ≤ y ∧ y < x.t then x.m else lastAt R y := by
  rcases snoc_or R with rfl | ⟨R', l, rfl⟩
  · rw [joinL_nil]
    exact ⟨⟨hm, h0, ht, hn, fun _ => by omega, trivial⟩, rfl, fun y => rfl⟩
  · rw [joinL_snoc]
    rw [endE_snoc] at hf
    obtain ⟨hR, a, b, c, d, e, _⟩ := RS_append.1 h
    by_cases q : l.t = x.f ∧ l.m = x.m
    · rw [if_pos q]
      refine ⟨RS_append.2 ⟨hR, a, b, by show l.f < x.t; omega, hn, e, trivial⟩, endE_snoc _ _ _, fun y => ?_⟩
      rw [lastAt_snoc, lastAt_snoc]
      show (if l.f ≤ y ∧ y < x.t then l.m else _) = _
      by_cases h1 : x.f ≤ y ∧ y < x.t
      · rw [if_pos h1, if_pos ⟨by omega, by omega⟩, q.2]
      · rw [if_neg h1]
        by_cases h2 : l.f ≤ y ∧ y < l.t
        · rw [if_pos h2, if_pos ⟨by omega, by omega⟩]
        · rw [if_neg h2, if_neg (fun hc => by omega)]
    · rw [if_neg q]
      refine ⟨RS_append.2 ⟨h, ?_⟩, endE_snoc _ _ _, fun y => lastAt_snoc _ _ _⟩
      rw [endE_snoc, endM_snoc]
      exact ⟨hm, hf, ht, hn, fun hc hd => q ⟨hc.symm, hd.symm⟩, trivial⟩
theorem joins_ok : ∀ {L R : List Sp} {lo n : Int}, RS 0 0 n R → Ord lo n L → 0 ≤ lo → endE 0 R ≤ lo → RS 0 0 n (joins R L) ∧ ∀ y, lastAt (joins R L) y = L.foldl (covF y) (lastAt R y)
  | [], R, lo, n, h, _, _, _ => ⟨h, fun y => rfl⟩
  | x :: L, R, lo, n, h, ⟨a, b, c, d, e⟩, h0, hl => by
    obtain ⟨j1, j2, j3⟩ := joinL_ok h a (by omega) (by omega) c d
    obtain ⟨k1, k2⟩ := joins_ok (L := L) (R := joinL R x) j1 e (by omega) (by omega)
    refine ⟨k1, fun y => ?_⟩
    rw [show joins R (x :: L) = joins (joinL R x) L from rfl, k2, j3]
    rfl
theorem runs_ok {l : List Int} (hl : ∀ j, j < l.length → 0 ≤ at_ l j) : RS 0 0 l.length (runs l) ∧ ∀ y, lastAt (runs l) y = if 0 ≤ y ∧ y < l.length then at_ l y.toNat else 0 := by
  have key : ∀ k, k ≤ l.length → RS 0 0 l.length (runsN l k) ∧ endE 0 (runsN l k) ≤ k ∧ ∀ y, lastAt (runsN l k) y = if 0 ≤ y ∧ y < k then at_ l y.toNat else 0 := by
    intro k
    induction k with
    | zero =>
      intro _
      refine ⟨trivial, Int.le_refl _, fun y => ?_⟩
      rw [if_neg (fun hc => by have := hc.2; simp at this; omega)]
      rfl
    | succ k ih =>
      intro hk
      obtain ⟨i1, i2, i3⟩ := ih (by omega)
      have h0 := hl k (by omega)
      unfold runsN
      rw [runF_join]
      by_cases q : at_ l k = 0
      · rw [if_pos q]
        refine ⟨i1, by omega, fun y => ?_⟩
        rw [i3]
        by_cases e : y = k
        · subst e
          rw [if_neg (fun hc => by omega), if_pos ⟨by omega, by omega⟩]
          rw [Int.toNat_natCast, q]
        · by_cases e2 : 0 ≤ y ∧ y < (k : Int)
          · rw [if_pos e2, if_pos ⟨by omega, by omega⟩]
          · rw [if_neg e2, if_neg (fun hc => by omega)]
      · rw [if_neg q]
        obtain ⟨j1, j2, j3⟩ := joinL_ok (x := ⟨at_ l k, (k : Int), (k : Int) + 1⟩) i1 (by show 0 < at_ l k; omega) (by show (0 : Int) ≤ (k : Int); omega) i2 (by show (k : Int) < (k : Int) + 1; omega) (by show (k : Int) + 1 ≤ _; omega)
        refine ⟨j1, by rw [j2]; show (k : Int) + 1 ≤ _; omega, fun y => ?_⟩
        rw [j3, i3]
        show (if (k : Int) ≤ y ∧ y < (k : Int) + 1 then at_ l k else _) = _
        by_cases e : y = k
        · subst e
          rw [if_pos ⟨by omega, by omega⟩, if_pos ⟨by omega, by omega⟩, Int.toNat_natCast]
        · rw [if_neg (fun hc => by omega)]
          by_cases e2 : 0 ≤ y ∧ y < (k : Int)
          · rw [if_pos e2, if_pos ⟨by omega, by omega⟩]
          · rw [if_neg e2, if_neg (fun hc => by omega)]
  obtain ⟨a, b, c⟩ := key l.length (Nat.le_refl _)
  exact ⟨a, c⟩

/-! ### Parts -/
def pA1 (p : Int) (s : Sp) : List Sp := if s.f < p then [⟨s.m, s.f, min s.t p⟩] else []
def pB1 (p : Int) (s : Sp) : List Sp := if p < s.t then [⟨s.m, max s.f p - p, s.t - p⟩] else []
def pA (p : Int) (S : List Sp) : List Sp := S.flatMap (pA1 p)
def pB (p : Int) (S : List Sp) : List Sp := S.flatMap (pB1 p)
def mv1 (d : Int) (s : Sp) : Sp := ⟨s.m, s.f + d, s.t + d⟩
def mvS (d : Int) (S : List Sp) : List Sp := S.map (mv1 d)
theorem pA_cons (p : Int) (s : Sp) (S : List Sp) : pA p (s :: S) = pA1 p s ++ pA p S := rfl
theorem pB_cons (p : Int) (s : Sp) (S : List Sp) : pB p (s :: S) = pB1 p s ++ pB p S := rfl
theorem pA_nil : ∀ {S : List Sp} {lo n p : Int}, Ord lo n S → p ≤ lo → pA p S = []
  | [], _, _, _, _, _ => rfl
  | s :: S, lo, n, p, ⟨a, b, c, d, e⟩, h => by
    rw [pA_cons, show pA1 p s = [] from if_neg (by omega), pA_nil e (by omega)]
    rfl
theorem RS_pA : ∀ {S : List Sp} {lo pm n p : Int}, RS lo pm n S → RS lo pm p (pA p S)
  | [], _, _, _, _, _ => trivial
  | s :: S, lo, pm, n, p, ⟨a, b, c, d, e, f⟩ => by
    rw [pA_cons]
    by_cases q : s.f < p
    · rw [show pA1 p s = [⟨s.m, s.f, min s.t p⟩] from if_pos q]
      refine ⟨a, b, by show s.f < min s.t p; omega, by show min s.t p ≤ p; omega, e, ?_⟩
      show RS (min s.t p) s.m p (pA p S)
      by_cases g : s.t ≤ p
      · rw [show min s.t p = s.t by omega]
        exact RS_pA f
      · rw [pA_nil f.ord (by omega)]
        trivial
    · rw [show pA1 p s = [] from if_neg q, pA_nil f.ord (by omega)]
      trivial
theorem RS_pB_far : ∀ {S : List Sp} {lo pm n p : Int}, RS lo pm n S → p ≤ lo → RS (lo - p) pm (n - p) (pB p S)
  | [], _, _, _, _, _, _ => trivial
  | s :: S, lo, pm, n, p, ⟨a, b, c, d, e, f⟩, h => by
    rw [pB_cons, show pB1 p s = [⟨s.m, max s.f p - p, s.t - p⟩] from if_pos (by omega)]
    refine ⟨a, by show lo - p ≤ max s.f p - p; omega, by show max s.f p - p < s.t - p; omega, by show s.t - p ≤ n - p; omega, fun hc => e (by change max s.f p - p = lo - p at hc; omega), ?_⟩
    exact RS_pB_far f (by omega)
theorem RS_pB : ∀ {S : List Sp} {lo pm n p : Int}, RS lo pm n S → RS 0 0 (n - p) (pB p S)
  | [], _, _, _, _, _ => trivial
  | s :: S, lo, pm, n, p, ⟨a, b, c, d, e, f⟩ => by
    rw [pB_cons]
    by_cases q : p < s.t
    · rw [show pB1 p s = [⟨s.m, max s.f p - p, s.t - p⟩] from if_pos q]
      refine ⟨a, by show 0 ≤ max s.f p - p; omega, by show max s.f p - p < s.t - p; omega, by show s.t - p ≤ n - p; omega, fun _ => by show s.m ≠ 0; omega, ?_⟩
      exact RS_pB_far f (by omega)
    · rw [show pB1 p s = [] from if_neg q]
      exact RS_pB f
theorem pA_cov (p y : Int) : ∀ (S : List Sp) (a : Int), (pA p S).foldl (covF y) (if y < p then a else 0) = if y < p then S.foldl (covF y) a else 0
  | [], a => rfl
  | s :: S, a => by
    rw [pA_cons, List.foldl_append, List.foldl_cons, ← pA_cov p y S]
    congr 1
    unfold pA1
    by_cases q : s.f < p
    · rw [if_pos q]
      show covF y _ ⟨s.m, s.f, min s.t p⟩ = _
      unfold covF
      show (if s.f ≤ y ∧ y < min s.t p then s.m else _) = _
      by_cases g : y < p
      · rw [if_pos g, if_pos g]
        by_cases h : s.f ≤ y ∧ y < s.t
        · rw [if_pos h, if_pos ⟨by omega, by omega⟩]
        · rw [if_neg h, if_neg (fun hc => by omega)]
      · rw [if_neg g, if_neg g, if_neg (fun hc => by omega)]
    · rw [if_neg q]
      show (if y < p then a else 0) = _
      unfold covF
      by_cases g : y < p
      · rw [if_pos g, if_pos g, if_neg (fun hc => by omega)]
      · rw [if_neg g, if_neg g]
theorem lastAt_pA (p y : Int) (S : List Sp) : lastAt (pA p S) y = if y < p then lastAt S y else 0 := by
  have := pA_cov p y S 0
  rw [show (if y < p then (0 : Int) else 0) = 0 by split <;> rfl] at this
  exact this
theorem pB_cov (p y : Int) (hy : 0 ≤ y) : ∀ (S : List Sp) (a : Int), (pB p S).foldl (covF y) a = S.foldl (covF (y + p)) a
  | [], a => rfl
  | s :: S, a => by
    rw [pB_cons, List.foldl_append, List.foldl_cons, ← pB_cov p y hy S]
    congr 1
    unfold pB1
    by_cases q : p < s.t
    · rw [if_pos q]
      show covF y _ ⟨s.m, max s.f p - p, s.t - p⟩ = _
      unfold covF
      show (if max s.f p - p ≤ y ∧ y < s.t - p then s.m else _) = _
      by_cases h : s.f ≤ y + p ∧ y + p < s.t
      · rw [if_pos h, if_pos ⟨by omega, by omega⟩]
      · rw [if_neg h, if_neg (fun hc => by omega)]
    · rw [if_neg q]
      show a = _
      unfold covF
      rw [if_neg (fun hc => by omega)]
theorem mv_cov (d y : Int) : ∀ (S : List Sp) (a : Int), (mvS d S).foldl (covF y) a = S.foldl (covF (y - d)) a
  | [], a => rfl
  | s :: S, a => by
    show (mvS d S).foldl (covF y) (covF y a (mv1 d s)) = _
    rw [List.foldl_cons, mv_cov d y S]
    congr 1
    unfold covF mv1
    show (if s.f + d ≤ y ∧ y < s.t + d then s.m else a) = _
    by_cases h : s.f ≤ y - d ∧ y - d < s.t
    · rw [if_pos h, if_pos ⟨by omega, by omega⟩]
    · rw [if_neg h, if_neg (fun hc => by omega)]
theorem Ord_mv : ∀ {S : List Sp} {lo n d : Int}, Ord lo n S → Ord (lo + d) (n + d) (mvS d S)
  | [], _, _, _, _ => trivial
  | s :: S, lo, n, d, ⟨a, b, c, e, f⟩ => ⟨a, by show lo + d ≤ s.f + d; omega, by show s.f + d < s.t + d; omega, by show s.t + d ≤ n + d; omega, Ord_mv f⟩

/-! ### What a put and a take make of the spans -/
def pNew (S : List Sp) (p k mk : Int) : List Sp := if 0 < mk ∧ 0 < k then joinL (pA p S) ⟨mk, p, p + k⟩ else pA p S
def pPut (S : List Sp) (p k mk : Int) : List Sp := joins (pNew S p k mk) (mvS (p + k) (pB p S))
def pTake (S : List Sp) (a b : Int) : List Sp := joins (pA a S) (mvS a (pB b S))
theorem pNew_ok {S : List Sp} {n p k mk : Int} (h : RS 0 0 n S) (hp : 0 ≤ p) (hk : 0 ≤ k) :
    RS 0 0 (p + k) (pNew S p k mk) ∧ ∀ y, lastAt (pNew S p k mk) y = if y < p then lastAt S y else if y < p + k then max mk 0 else 0 := by
  have hA := RS_pA (p := p) h
  have hE := endE_le hA hp
  unfold pNew
  by_cases q : 0 < mk ∧ 0 < k
  · rw [if_pos q]
    obtain ⟨j1, j2, j3⟩ := joinL_ok (x := ⟨mk, p, p + k⟩) (hA.mono (show p ≤ p + k by omega)) q.1 hp hE (by show p < p + k; omega) (Int.le_refl _)
    refine ⟨j1, fun y => ?_⟩
    rw [j3, lastAt_pA]
    show (if p ≤ y ∧ y < p + k then mk else _) = _
    by_cases g : y < p
    · rw [if_pos g, if_pos g, if_neg (fun hc => by omega)]
    · rw [if_neg g, if_neg g]
      by_cases g2 : y < p + k
      · rw [if_pos g2, if_pos ⟨by omega, g2⟩]; omega
      · rw [if_neg g2, if_neg (fun hc => g2 hc.2)]
  · rw [if_neg q]
    refine ⟨hA.mono (by omega), fun y => ?_⟩
    rw [lastAt_pA]
    by_cases g : y < p
    · rw [if_pos g, if_pos g]
    · rw [if_neg g, if_neg g]
      by_cases g2 : y < p + k
      · rw [if_pos g2]; omega
      · rw [if_neg g2]
theorem pPut_ok {S : List Sp} {n p k mk : Int} (h : RS 0 0 n S) (hp : 0 ≤ p) (hpn : p ≤ n) (hk : 0 ≤ k) :
    RS 0 0 (n + k) (pPut S p k mk) ∧ ∀ y, lastAt (pPut S p k mk) y = if y < p then lastAt S y else if y < p + k then max mk 0 else lastAt S (y - k) := by
  obtain ⟨a1, a2⟩ := pNew_ok (mk := mk) h hp hk
  have hB : Ord (p + k) (n + k) (mvS (p + k) (pB p S)) := by
    have := Ord_mv (d := p + k) (RS_pB (p := p) h).ord
    rwa [show 0 + (p + k) = p + k by omega, show n - p + (p + k) = n + k by omega] at this
  obtain ⟨b1, b2⟩ := joins_ok (R := pNew S p k mk) (a1.mono (show p + k ≤ n + k by omega)) hB (by omega) (endE_le a1 (by omega))
  refine ⟨b1, fun y => ?_⟩
  rw [show pPut S p k mk = joins (pNew S p k mk) (mvS (p + k) (pB p S)) from rfl, b2]
  by_cases g : y < p + k
  · rw [hB.none_ g, a2]
    by_cases g2 : y < p
    · rw [if_pos g2, if_pos g2]
    · rw [if_neg g2, if_neg g2, if_pos g, if_pos g]
  · rw [a2, if_neg (by omega), if_neg g, if_neg (by omega), if_neg g, mv_cov, pB_cov _ _ (by omega), show y - (p + k) + p = y - k by omega]
    rfl
theorem pTake_ok {S : List Sp} {n a b : Int} (h : RS 0 0 n S) (ha : 0 ≤ a) (hab : a ≤ b) (hbn : b ≤ n) :
    RS 0 0 (n - (b - a)) (pTake S a b) ∧ ∀ y, lastAt (pTake S a b) y = if y < a then lastAt S y else lastAt S (y + (b - a)) := by
  have hA := RS_pA (p := a) h
  have hB : Ord a (n - (b - a)) (mvS a (pB b S)) := by
    have := Ord_mv (d := a) (RS_pB (p := b) h).ord
    rwa [show 0 + a = a by omega, show n - b + a = n - (b - a) by omega] at this
  obtain ⟨b1, b2⟩ := joins_ok (R := pA a S) (hA.mono (show a ≤ n - (b - a) by omega)) hB ha (endE_le hA ha)
  refine ⟨b1, fun y => ?_⟩
  rw [show pTake S a b = joins (pA a S) (mvS a (pB b S)) from rfl, b2]
  by_cases g : y < a
  · rw [hB.none_ g, lastAt_pA]
    rw [if_pos g, if_pos g]
  · rw [lastAt_pA, if_neg g, if_neg g, mv_cov, pB_cov _ _ (by omega), show y - a + b = y + (b - a) by omega]
    rfl
theorem lastAt_pos {S : List Sp} {lo n : Int} (h : Ord lo n S) (y : Int) : 0 ≤ lastAt S y := by
  have : ∀ (S : List Sp) (lo a : Int), Ord lo n S → 0 ≤ a → 0 ≤ S.foldl (covF y) a := by
    intro S
    induction S with
    | nil => intro lo a _ h; exact h
    | cons s S ih =>
      rintro lo a ⟨h1, h2, h3, h4, h5⟩ h
      rw [List.foldl_cons]
      refine ih _ _ h5 ?_
      unfold covF
      split <;> omega
  exact this S lo 0 h (Int.le_refl _)
theorem lastAt_high : ∀ {S : List Sp} {lo n : Int}, Ord lo n S → ∀ y, n ≤ y → lastAt S y = 0 := by
  intro S lo n h y hy
  have : ∀ (S : List Sp) (lo a : Int), Ord lo n S → S.foldl (covF y) a = a := by
    intro S
    induction S with
    | nil => intro lo a _; rfl
    | cons s S ih =>
      rintro lo a ⟨h1, h2, h3, h4, h5⟩
      rw [List.foldl_cons, show covF y a s = a from if_neg (fun hc => by omega)]
      exact ih _ _ h5
  exact this S lo 0 h
theorem at_letters {S : List Sp} {n j : Nat} (h : j < n) : at_ (letters S n) j = lastAt S j := by
  unfold at_ letters
  rw [List.getD_eq_getElem?_getD, List.getElem?_eq_getElem (by simpa using h)]
  simp
end Go.Proofs.YtengmiolcfgdiaaDoor.Rt
