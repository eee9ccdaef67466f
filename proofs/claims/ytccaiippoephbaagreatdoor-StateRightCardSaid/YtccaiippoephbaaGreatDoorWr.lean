/- Contracts: Put and Take of the plain text. -/
import Derived.Test.YtccaiippoephbaaGreatDoorWq
import Derived.Laws.StructEq
import Derived.Test.YtccaiippoephbaaGreatDoorWj
import Derived.RegionTactic
import Derived.ChangeAlike
import Derived.BigRegion
import Derived.Test.YtccaiippoephbaaGreatDoorWg
set_option maxRecDepth 100000
set_option linter.unusedVariables false
namespace Go.Proofs.YtccaiippoephbaaGreatDoor.Rig
open Go.RowKit Go.Lib Go.Proofs.YtccaiippoephbaaGreatDoor.Rt

/-- It hands marks back; nothing old has turned. -/
def GivesM (w : World) (S : List Sp) (T : List St) (e : Ending) (w' : World) : Prop := ∃ v1 v2, e = .returned (.agg #[v1, v2]) ∧ Spans w' v1 S ∧ Sites w' v2 T ∧ Below w.heap.size w w'

end Go.Proofs.YtccaiippoephbaaGreatDoor.Rig
/- Contract: Take of the plain text. -/
set_option maxRecDepth 100000
set_option linter.unusedVariables false
namespace Go.Proofs.YtccaiippoephbaaGreatDoor.Rig
open Go.RowKit Go.Lib Go.Proofs.YtccaiippoephbaaGreatDoor.Rt

def cutS (a b : Int) (s : St) : St := if b < s.a then ⟨s.m, s.a - (b - a)⟩ else if a < s.a then ⟨s.m, a⟩ else s
end Go.Proofs.YtccaiippoephbaaGreatDoor.Rig
/- Contract: Part of the plain text. -/
set_option maxRecDepth 100000
set_option linter.unusedVariables false
namespace Go.Proofs.YtccaiippoephbaaGreatDoor.Rig
open Go.RowKit Go.Lib Go.Proofs.YtccaiippoephbaaGreatDoor.Rt

def partB (at' : Int) (T : List St) : Nat → List St
  | 0 => []
  | i + 1 => if (st T i).a ≤ at' then partB at' T i else siteL (partB at' T i) ⟨(st T i).m, (st T i).a - at'⟩
end Go.Proofs.YtccaiippoephbaaGreatDoor.Rig
/- Plain lists alone: spans that are right are told by the marks of their letters; what is joined, parted, moved. No program is spoken of here. -/
set_option maxRecDepth 100000
set_option linter.unusedVariables false
namespace Go.Proofs.YtccaiippoephbaaGreatDoor.Rt

/-! ### Spans, told from the front -/
def covF (x : Int) : Int → Sp → Int := fun a s => if s.f ≤ x ∧ x < s.t then s.m else a
theorem lastAt_def (S : List Sp) (x : Int) : lastAt S x = S.foldl (covF x) 0 := rfl
/-- lo: where the one ahead ends; pm: its mark. -/
def RS (lo pm n : Int) : List Sp → Prop
  | [] => True
  | s :: S => 0 < s.m ∧ lo ≤ s.f ∧ s.f < s.t ∧ s.t ≤ n ∧ (s.f = lo → s.m ≠ pm) ∧ RS s.t s.m n S
/-- In order alone. -/
def Ord (lo n : Int) : List Sp → Prop
  | [] => True
  | s :: S => 0 < s.m ∧ lo ≤ s.f ∧ s.f < s.t ∧ s.t ≤ n ∧ Ord s.t n S
theorem RS.ord : ∀ {S : List Sp} {lo pm n : Int}, RS lo pm n S → Ord lo n S
  | [], _, _, _, _ => trivial
  | s :: S, _, _, _, ⟨a, b, c, d, _, e⟩ => ⟨a, b, c, d, e.ord⟩
theorem RS.mono : ∀ {S : List Sp} {lo pm n n' : Int}, RS lo pm n S → n ≤ n' → RS lo pm n' S
  | [], _, _, _, _, _, _ => trivial
  | s :: S, _, _, _, _, ⟨a, b, c, d, e, f⟩, h => ⟨a, b, c, by omega, e, f.mono h⟩
theorem Ord.none_ : ∀ {S : List Sp} {lo n x a : Int}, Ord lo n S → x < lo → S.foldl (covF x) a = a
  | [], _, _, _, _, _, _ => rfl
  | s :: S, lo, n, x, a, ⟨_, h2, h3, _, h5⟩, h => by
    rw [List.foldl_cons, show covF x a s = a from if_neg (fun hc => by omega)]
    exact h5.none_ (by omega)
theorem Ord.mem : ∀ {S : List Sp} {lo n : Int}, Ord lo n S → ∀ s ∈ S, 0 < s.m ∧ lo ≤ s.f ∧ s.f < s.t ∧ s.t ≤ n
  | [], _, _, _, s, h => by simp at h
  | x :: S, _, _, ⟨a, b, c, d, e⟩, s, h => by
    rcases List.mem_cons.1 h with rfl | h
    · exact ⟨a, b, c, d⟩
    · obtain ⟨p, q, r, t⟩ := e.mem s h
      exact ⟨p, by omega, r, t⟩
theorem lastAt_cons {s : Sp} {S : List Sp} {n : Int} (h : Ord s.t n S) (x : Int) : lastAt (s :: S) x = if s.f ≤ x ∧ x < s.t then s.m else lastAt S x := by
  rw [lastAt_def, List.foldl_cons]
  by_cases e : s.f ≤ x ∧ x < s.t
  · rw [if_pos e, show covF x 0 s = s.m from if_pos e]
    exact h.none_ e.2
  · rw [if_neg e, show covF x 0 s = 0 from if_neg e]
    rfl
theorem lastAt_low {S : List Sp} {lo n x : Int} (h : Ord lo n S) (hx : x < lo) : lastAt S x = 0 := h.none_ hx
theorem RS.lo_ne {S : List Sp} {lo pm n : Int} (h : RS lo pm n S) (hp : 0 < pm) : lastAt S lo ≠ pm := by
  match S, h with
  | [], _ => show (0 : Int) ≠ pm; omega
  | s :: S, ⟨a, b, c, d, e, f⟩ =>
    rw [lastAt_cons f.ord]
    by_cases q : s.f = lo
    · rw [if_pos ⟨by omega, by omega⟩]; exact e q
    · rw [if_neg (fun hc => by omega), lastAt_low f.ord (by omega)]; omega
theorem RS.uniq : ∀ {A B : List Sp} {lo pm pm' n n' : Int}, RS lo pm n A → RS lo pm' n' B → (∀ x, lo ≤ x → lastAt A x = lastAt B x) → A = B
  | [], [], _, _, _, _, _, _, _, _ => rfl
  | [], t :: B, lo, _, _, _, _, _, ⟨a, b, c, d, e, f⟩, h => by
    have := h t.f b
    rw [lastAt_cons f.ord, if_pos ⟨Int.le_refl _, c⟩] at this
    change (0 : Int) = t.m at this
    omega
  | s :: A, [], lo, _, _, _, _, ⟨a, b, c, d, e, f⟩, _, h => by
    have := h s.f b
    rw [lastAt_cons f.ord, if_pos ⟨Int.le_refl _, c⟩] at this
    change s.m = (0 : Int) at this
    omega
  | s :: A, t :: B, lo, _, _, _, _, ⟨a, b, c, d, e, f⟩, ⟨a', b', c', d', e', f'⟩, h => by
    have H : ∀ x, lo ≤ x → (if s.f ≤ x ∧ x < s.t then s.m else lastAt A x) = (if t.f ≤ x ∧ x < t.t then t.m else lastAt B x) := fun x hx => by
      rw [← lastAt_cons f.ord, ← lastAt_cons f'.ord]; exact h x hx
    have h1 : s.f = t.f := by
      rcases Int.lt_trichotomy s.f t.f with q | q | q
      · have := H s.f b
        rw [if_pos ⟨Int.le_refl _, c⟩, if_neg (fun hc => by omega), lastAt_low f'.ord (by omega)] at this
        omega
      · exact q
      · have := H t.f b'
        rw [if_neg (c := s.f ≤ t.f ∧ t.f < s.t) (fun hc => by omega), lastAt_low f.ord (by omega), if_pos ⟨Int.le_refl _, c'⟩] at this
        omega
    have h2 : s.m = t.m := by
      have := H s.f b
      rwa [if_pos ⟨Int.le_refl _, c⟩, if_pos ⟨by omega, by omega⟩] at this
    have h3 : s.t = t.t := by
      rcases Int.lt_trichotomy s.t t.t with q | q | q
      · have := H s.t (by omega)
        rw [if_neg (fun hc => by omega), if_pos ⟨by omega, by omega⟩] at this
        exact absurd (this.trans h2.symm) (f.lo_ne a)
      · exact q
      · have := H t.t (by omega)
        rw [if_neg (c := t.f ≤ t.t ∧ t.t < t.t) (fun hc => by omega), if_pos ⟨by omega, by omega⟩] at this
        exact absurd (this.symm.trans h2) (f'.lo_ne a')
    have h4 : A = B := by
      refine RS.uniq f (h3 ▸ f') fun x hx => ?_
      have := H x (by omega)
      rwa [if_neg (fun hc => by omega), if_neg (fun hc => by omega)] at this
    obtain ⟨m1, f1, t1⟩ := s
    obtain ⟨m2, f2, t2⟩ := t
    simp only at h1 h2 h3
    rw [h1, h2, h3, h4]

/-! ### .. and by their places -/
def CS (n : Int) (p s : Sp) : Prop := 0 < s.m ∧ p.t ≤ s.f ∧ s.f < s.t ∧ s.t ≤ n ∧ (s.f = p.t → s.m ≠ p.m)
theorem RS_of {n : Int} : ∀ (S : List Sp) (p : Sp), (∀ j, j < S.length → CS n (sp (p :: S) j) (sp (p :: S) (j + 1))) → RS p.t p.m n S
  | [], _, _ => trivial
  | s :: S, p, h => by
    obtain ⟨a, b, c, d, e⟩ := h 0 (by simp)
    exact ⟨a, b, c, d, e, RS_of S s fun j hj => h (j + 1) (by simpa using hj)⟩
theorem RS_to {n : Int} : ∀ (S : List Sp) (p : Sp), RS p.t p.m n S → ∀ j, j < S.length → CS n (sp (p :: S) j) (sp (p :: S) (j + 1))
  | [], _, _, j, hj => by simp at hj
  | s :: S, p, ⟨a, b, c, d, e, f⟩, 0, _ => ⟨a, b, c, d, e⟩
  | s :: S, p, ⟨a, b, c, d, e, f⟩, j + 1, hj => RS_to S s f j (by simpa using hj)
theorem sp_z (S : List Sp) (j : Nat) : sp (Sp.z :: S) j = if j = 0 then Sp.z else sp S (j - 1) := by
  cases j with
  | zero => rfl
  | succ j => rfl
theorem spOk_RS {S : List Sp} {n : Int} : (∀ j, j < S.length → spOk S n j) ↔ RS 0 0 n S := by
  constructor
  · intro h
    refine RS_of S Sp.z fun j hj => ?_
    obtain ⟨a, b, c, d, e⟩ := h j hj
    show CS n (sp (Sp.z :: S) j) (sp S j)
    rw [sp_z]
    by_cases q : j = 0
    · rw [if_pos q]
      exact ⟨a, b, c, d, fun _ => by show _ ≠ (0 : Int); omega⟩
    · rw [if_neg q]
      exact ⟨a, (e (by omega)).1, c, d, (e (by omega)).2⟩
  · intro h j hj
    obtain ⟨a, b, c, d, e⟩ : CS n (sp (Sp.z :: S) j) (sp S j) := RS_to S Sp.z h j hj
    have hm := (h.ord.mem (sp S j) (by rw [sp_get hj]; exact List.getElem_mem hj)).2.1
    refine ⟨a, hm, c, d, fun h0 => ?_⟩
    rw [sp_z, if_neg (by omega)] at b e
    exact ⟨b, e⟩

/-! ### Joining -/
def joinL (R : List Sp) (x : Sp) : List Sp :=
  if 0 < R.length ∧ (sp R (R.length - 1)).t = x.f ∧ (sp R (R.length - 1)).m = x.m then R.set (R.length - 1) ⟨(sp R (R.length - 1)).m, (sp R (R.length - 1)).f, x.t⟩ else R ++ [x]
end Go.Proofs.YtccaiippoephbaaGreatDoor.Rt
/- Plain lists alone: sites in order; what a put, a take, a parting make of marks, by spans and by letters: the same. -/
set_option maxRecDepth 100000
set_option linter.unusedVariables false
namespace Go.Proofs.YtccaiippoephbaaGreatDoor.Rig
open Go.RowKit Go.Lib Go.Proofs.YtccaiippoephbaaGreatDoor.Rt

/-- x stands ahead of y. -/
def ltS (x y : St) : Prop := gtS y x
theorem ltS_trans {x y z : St} (h1 : ltS x y) (h2 : ltS y z) : ltS x z := by unfold ltS gtS at *; omega
theorem ltS_or {x y : St} (h1 : ¬ ltS x y) (h2 : ¬ ltS y x) : x = y := by
  obtain ⟨a, b⟩ := x
  obtain ⟨c, d⟩ := y
  unfold ltS gtS at *
  simp only at h1 h2
  have e1 : a = c := by omega
  have e2 : b = d := by omega
  rw [e1, e2]
def Up (T : List St) : Prop := T.Pairwise ltS
theorem st_snoc_lt {T : List St} {x : St} {k : Nat} (h : k < T.length) : st (T ++ [x]) k = st T k := by
  unfold st
  rw [List.getD_eq_getElem?_getD, List.getD_eq_getElem?_getD, List.getElem?_append_left h]
theorem st_snoc_eq (T : List St) (x : St) : st (T ++ [x]) T.length = x := by
  rw [st_get (by simp)]
  simp
theorem dnS_snoc {T : List St} {x s : St} {k : Nat} (h : k ≤ T.length) : dnS (T ++ [x]) s k ↔ dnS T s k := by
  unfold dnS
  constructor
  · rintro ⟨j, h1, h2⟩
    rw [st_snoc_lt (by omega)] at h2
    exact ⟨j, h1, h2⟩
  · rintro ⟨j, h1, h2⟩
    refine ⟨j, h1, ?_⟩
    rw [st_snoc_lt (by omega)]
    exact h2
theorem outS_snoc {T : List St} {x s : St} : ∀ {k : Nat}, k ≤ T.length → outS (T ++ [x]) s k = outS T s k
  | 0, _ => rfl
  | k + 1, h => by
    unfold outS
    rw [outS_snoc (by omega), st_snoc_lt (by omega)]
    by_cases e : dnS T s k
    · rw [if_neg (fun hc => hc.1 ((dnS_snoc (by omega)).2 e)), if_neg (fun hc => hc.1 e)]
    · have e' : ¬ dnS (T ++ [x]) s k := fun hc => e ((dnS_snoc (by omega)).1 hc)
      by_cases g : gtS (st T k) s
      · rw [if_pos ⟨e', g⟩, if_pos ⟨e, g⟩]
      · rw [if_neg (fun hc => g hc.2), if_neg (fun hc => g hc.2)]
theorem outS_parts (s : St) : ∀ (n : Nat) (T : List St), T.length = n → Up T →
    (¬ dnS T s n → outS T s n = T ∧ ∀ x ∈ T, ¬ gtS x s) ∧ (dnS T s n → ∃ A B, T = A ++ B ∧ outS T s n = A ++ s :: B ∧ (∀ x ∈ A, ¬ gtS x s) ∧ ∀ x ∈ B, gtS x s)
  | 0, T, hn, _ => by
    obtain rfl := List.eq_nil_of_length_eq_zero hn
    exact ⟨fun _ => ⟨rfl, fun x hx => by simp at hx⟩, fun ⟨j, h, _⟩ => absurd h (by omega)⟩
  | n + 1, T, hn, hup => by
    rcases List.eq_nil_or_concat T with rfl | ⟨T', x, e⟩
    · simp at hn
    · rw [List.concat_eq_append] at e
      subst e
      have hl : T'.length = n := by simpa using hn
      subst hl
      obtain ⟨u1, u2, u3⟩ := List.pairwise_append.1 hup
      obtain ⟨i1, i2⟩ := outS_parts s T'.length T' rfl u1
      have es : dnS (T' ++ [x]) s (T'.length + 1) ↔ dnS T' s T'.length ∨ gtS x s := by
        rw [dnS_succ, dnS_snoc (Nat.le_refl _), st_snoc_eq]
      have eo : outS (T' ++ [x]) s (T'.length + 1) = (outS T' s T'.length ++ (if ¬ dnS T' s T'.length ∧ gtS x s then [s] else [])) ++ [x] := by
        show (outS (T' ++ [x]) s T'.length ++ (if ¬ dnS (T' ++ [x]) s T'.length ∧ gtS (st (T' ++ [x]) T'.length) s then [s] else [])) ++ [st (T' ++ [x]) T'.length] = _
        rw [outS_snoc (Nat.le_refl _), st_snoc_eq]
        by_cases e : dnS T' s T'.length
        · rw [if_neg (fun hc => hc.1 ((dnS_snoc (Nat.le_refl _)).2 e)), if_neg (fun hc => hc.1 e)]
        · have e' : ¬ dnS (T' ++ [x]) s T'.length := fun hc => e ((dnS_snoc (Nat.le_refl _)).1 hc)
          by_cases g : gtS x s
          · rw [if_pos ⟨e', g⟩, if_pos ⟨e, g⟩]
          · rw [if_neg (fun hc => g hc.2), if_neg (fun hc => g hc.2)]
      rw [eo]
      by_cases e : dnS T' s T'.length
      · obtain ⟨A, B, h1, h2, h3, h4⟩ := i2 e
        have hx : gtS x s := by
          obtain ⟨j, hj, hg⟩ := e
          have := u3 (st T' j) (by rw [st_get hj]; exact List.getElem_mem hj) x (by simp)
          exact ltS_trans (y := st T' j) hg this
        refine ⟨fun hc => absurd (es.2 (.inl e)) hc, fun _ => ⟨A, B ++ [x], by rw [h1, List.append_assoc], ?_, h3, ?_⟩⟩
        · rw [if_neg (fun hc => hc.1 e), h2]; simp
        · intro z hz
          rcases List.mem_append.1 hz with hz | hz
          · exact h4 z hz
          · simp at hz; subst hz; exact hx
      · obtain ⟨h1, h2⟩ := i1 e
        by_cases g : gtS x s
        · refine ⟨fun hc => absurd (es.2 (.inr g)) hc, fun _ => ⟨T', [x], rfl, ?_, h2, ?_⟩⟩
          · rw [if_pos ⟨e, g⟩, h1]; simp
          · intro z hz
            simp at hz; subst hz; exact g
        · refine ⟨fun _ => ⟨by rw [if_neg (fun hc => g hc.2), h1, List.append_nil], ?_⟩, fun hc => absurd (es.1 hc) (fun hd => hd.elim e g)⟩
          intro z hz
          rcases List.mem_append.1 hz with hz | hz
          · exact h2 z hz
          · simp at hz; subst hz; exact g
theorem site_ok {T : List St} (h : Up T) (s : St) : Up (siteL T s) ∧ ∀ x, x ∈ siteL T s ↔ x ∈ T ∨ x = s := by
  unfold siteL
  by_cases e : s ∈ T
  · rw [if_pos e]
    exact ⟨h, fun x => ⟨.inl, fun hc => hc.elim id (fun hd => by rw [hd]; exact e)⟩⟩
  · rw [if_neg e]
    obtain ⟨i1, i2⟩ := outS_parts s T.length T rfl h
    have key : ∃ A B, T = A ++ B ∧ (outS T s T.length ++ (if dnS T s T.length then [] else [s])) = A ++ s :: B ∧ (∀ x ∈ A, ¬ gtS x s) ∧ ∀ x ∈ B, gtS x s := by
      by_cases g : dnS T s T.length
      · obtain ⟨A, B, h1, h2, h3, h4⟩ := i2 g
        exact ⟨A, B, h1, by rw [if_pos g, h2, List.append_nil], h3, h4⟩
      · obtain ⟨h1, h2⟩ := i1 g
        exact ⟨T, [], (List.append_nil T).symm, by rw [if_neg g, h1], h2, fun x hx => by simp at hx⟩
    obtain ⟨A, B, h1, h2, h3, h4⟩ := key
    rw [h2]
    subst h1
    obtain ⟨u1, u2, u3⟩ := List.pairwise_append.1 h
    have hA : ∀ x ∈ A, ltS x s := fun x hx => by
      by_cases q : ltS x s
      · exact q
      · exact absurd (List.mem_append_left B ((ltS_or q (h3 x hx)) ▸ hx)) e
    refine ⟨List.pairwise_append.2 ⟨u1, List.pairwise_cons.2 ⟨h4, u2⟩, fun x hx y hy => ?_⟩, fun x => ?_⟩
    · rcases List.mem_cons.1 hy with rfl | hy
      · exact hA x hx
      · exact u3 x hx y hy
    · simp [List.mem_append, List.mem_cons]
      constructor
      · rintro (q | q | q)
        · exact .inl (.inl q)
        · exact .inr q
        · exact .inl (.inr q)
      · rintro ((q | q) | q)
        · exact .inl q
        · exact .inr (.inr q)
        · exact .inr (.inl q)
theorem mem_st {T : List St} {y : St} : y ∈ T ↔ ∃ j, j < T.length ∧ y = st T j := by
  constructor
  · intro h
    obtain ⟨j, hj, e⟩ := List.getElem_of_mem h
    exact ⟨j, hj, by rw [st_get hj, e]⟩
  · rintro ⟨j, hj, rfl⟩
    rw [st_get hj]
    exact List.getElem_mem hj
theorem partB_ok (p : Int) (T : List St) : ∀ k, Up (partB p T k) ∧ ∀ x, x ∈ partB p T k ↔ ∃ j, j < k ∧ ¬ (st T j).a ≤ p ∧ x = ⟨(st T j).m, (st T j).a - p⟩
  | 0 => ⟨List.Pairwise.nil, fun x => ⟨fun h => by simp [partB] at h, fun ⟨j, h, _⟩ => absurd h (by omega)⟩⟩
  | k + 1 => by
    obtain ⟨h1, h2⟩ := partB_ok p T k
    obtain ⟨s1, s2⟩ := site_ok h1 ⟨(st T k).m, (st T k).a - p⟩
    unfold partB
    by_cases q : (st T k).a ≤ p
    · rw [if_pos q]
      refine ⟨h1, fun x => ?_⟩
      rw [h2]
      constructor
      · rintro ⟨j, h, e⟩
        exact ⟨j, by omega, e⟩
      · rintro ⟨j, h, e1, e⟩
        by_cases g : j = k
        · subst g; exact absurd q e1
        · exact ⟨j, by omega, e1, e⟩
    · rw [if_neg q]
      refine ⟨s1, fun x => ?_⟩
      rw [s2, h2]
      constructor
      · rintro (⟨j, h, e⟩ | e)
        · exact ⟨j, by omega, e⟩
        · exact ⟨k, by omega, q, e⟩
      · rintro ⟨j, h, e1, e⟩
        by_cases q : j = k
        · subst q; exact .inr e
        · exact .inl ⟨j, by omega, e1, e⟩

/-! ### Right sites -/
def RT (n : Int) (T : List St) : Prop := Up T ∧ ∀ x ∈ T, 0 < x.m ∧ 0 ≤ x.a ∧ x.a ≤ n
theorem up_far {T : List St} (h : ∀ j, j + 1 < T.length → ltS (st T j) (st T (j + 1))) : Up T := by
  unfold Up
  rw [List.pairwise_iff_getElem]
  have key : ∀ d i, i + d + 1 < T.length → ltS (st T i) (st T (i + d + 1)) := by
    intro d
    induction d with
    | zero => intro i hi; exact h i hi
    | succ d ih => intro i hi; exact ltS_trans (ih i (by omega)) (h (i + d + 1) (by omega))
  intro i j hi hj hij
  have := key (j - i - 1) i (by omega)
  rw [show i + (j - i - 1) + 1 = j by omega, st_get hi, st_get hj] at this
  exact this
theorem up_at {T : List St} (h : Up T) {i j : Nat} (hij : i < j) (hj : j < T.length) : ltS (st T i) (st T j) := by
  unfold Up at h
  rw [List.pairwise_iff_getElem] at h
  rw [st_get hj, st_get (show i < T.length by omega)]
  exact h i j (by omega) hj hij
theorem stOk_RT {T : List St} {n : Int} : (∀ j, j < T.length → stOk T n j) ↔ RT n T := by
  constructor
  · intro h
    refine ⟨up_far fun j hj => ?_, fun x hx => ?_⟩
    · obtain ⟨_, _, _, e⟩ := h (j + 1) hj
      have := e (by omega)
      rw [show j + 1 - 1 = j by omega] at this
      unfold ltS gtS
      omega
    · obtain ⟨j, hj, rfl⟩ := mem_st.1 hx
      obtain ⟨a, b, c, _⟩ := h j hj
      exact ⟨a, b, c⟩
  · rintro ⟨h1, h2⟩ j hj
    obtain ⟨a, b, c⟩ := h2 (st T j) (mem_st.2 ⟨j, hj, rfl⟩)
    refine ⟨a, b, c, fun h0 => ?_⟩
    have := up_at h1 (show j - 1 < j by omega) hj
    unfold ltS gtS at this
    omega
theorem mright_iff {S : List Sp} {T : List St} {n : Int} : mrightB S T n = true ↔ RS 0 0 n S ∧ RT n T := by
  unfold mrightB
  rw [decide_eq_true_iff]
  unfold mrightP
  rw [spOk_RS, stOk_RT]

/-! ### What a put, a take, a parting make of the sites -/
def sA (p : Int) (T : List St) : List St := T.filter fun x => decide (x.a ≤ p)
end Go.Proofs.YtccaiippoephbaaGreatDoor.Rig
