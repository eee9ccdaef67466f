/- Plain lists alone: sites in order; what a put, a take, a parting make of marks, by spans and by letters: the same. -/
import Derived.Test.YtengmiolcfgdiaaDoorMpart
import Derived.Test.YtengmiolcfgdiaaDoorMq
set_option linter.unusedVariables false
namespace Go.Proofs.YtengmiolcfgdiaaDoor.Rig
open Go.RowKit Go.Lib Go.Proofs.YtengmiolcfgdiaaDoor.Rt

/-- x stands ahead of y. -/
def ltS (x y : St) : Prop := gtS y x
theorem ltS_trans {x y z : St} (h1 : ltS x y) (h2 : ltS y z) : ltS x z := by unfold ltS gtS at *; omega
theorem ltS_irrefl {x : St} : ¬ ltS x x := by unfold ltS gtS; omega
theorem ltS_or {x y : St} (h1 : ¬ ltS x y) (h2 : ¬ ltS y x) : x = y := by
  obtain ⟨a, b⟩ := x
  obtain ⟨c, d⟩ := y
  unfold ltS gtS at *
  simp only at h1 h2
  have e1 : a = c := by omega
  have e2 : b = d := by omega
  rw [e1, e2]
def Up (T : List St) : Prop := T.Pairwise ltS
theorem up_uniq : ∀ {A B : List St}, Up A → Up B → (∀ x, x ∈ A ↔ x ∈ B) → A = B
  | [], [], _, _, _ => rfl
  | [], y :: B, _, _, h => by have := (h y).2 (by simp); simp at this
  | x :: A, [], _, _, h => by have := (h x).1 (by simp); simp at this
  | x :: A, y :: B, h1, h2, h => by
    obtain ⟨p1, p2⟩ := List.pairwise_cons.1 h1
    obtain ⟨q1, q2⟩ := List.pairwise_cons.1 h2
    have e : x = y := by
      have hx := (h x).1 (by simp)
      have hy := (h y).2 (by simp)
      rcases List.mem_cons.1 hx with r | r
      · exact r
      · rcases List.mem_cons.1 hy with s | s
        · exact s.symm
        · exact absurd (ltS_trans (p1 _ s) (q1 _ r)) ltS_irrefl
    subst e
    rw [up_uniq p2 q2 fun z => ?_]
    constructor
    · intro hz
      rcases List.mem_cons.1 ((h z).1 (List.mem_cons_of_mem _ hz)) with r | r
      · subst r; exact absurd (p1 _ hz) ltS_irrefl
      · exact r
    · intro hz
      rcases List.mem_cons.1 ((h z).2 (List.mem_cons_of_mem _ hz)) with r | r
      · subst r; exact absurd (q1 _ hz) ltS_irrefl
      · exact r
theorem st_snoc_lt {T : List St} {x : St} {k : Nat} (h : k < T.length) : st (T ++ [x]) k = st T k := by
  unfold st
  rw [List.getD_eq_getElem?_getD, List.getD_eq_getElem?_getD, List.getElem?_append_left h]
theorem st_snoc_eq (T : List St) (x : St) : st (T ++ [x]) T.length = x := by
  rw [st_get (by simp)]
  simp
theorem dnS_snoc {T : List St} {x s : St} {k : Nat} (h : k ≤ T.length) : dnS (T ++ [x]) s k ↔ dnS T s k := by
  unfold dnS
  constructor
  · rintro ⟨j, h1, h2⟩
    rw [st_snoc_lt (by omega)] at h2
    exact ⟨j, h1, h2⟩
  · rintro ⟨j, h1, h2⟩
    refine ⟨j, h1, ?_⟩
    rw [st_snoc_lt (by omega)]
    exact h2
theorem outS_snoc {T : List St} {x s : St} : ∀ {k : Nat}, k ≤ T.length → outS (T ++ [x]) s k = outS T s k
  | 0, _ => rfl
  | k + 1, h => by
    unfold outS
    rw [outS_snoc (by omega), st_snoc_lt (by omega)]
    by_cases e : dnS T s k
    · rw [if_neg (fun hc => hc.1 ((dnS_snoc (by omega)).2 e)), if_neg (fun hc => hc.1 e)]
    · have e' : ¬ dnS (T ++ [x]) s k := fun hc => e ((dnS_snoc (by omega)).1 hc)
      by_cases g : gtS (st T k) s
      · rw [if_pos ⟨e', g⟩, if_pos ⟨e, g⟩]
      · rw [if_neg (fun hc => g hc.2), if_neg (fun hc => g hc.2)]
theorem outS_parts (s : St) : ∀ (n : Nat) (T : List St), T.length = n → Up T →
    (¬ dnS T s n → outS T s n = T ∧ ∀ x ∈ T, ¬ gtS x s) ∧ (dnS T s n → ∃ A B, T = A ++ B ∧ outS T s n = A ++ s :: B ∧ (∀ x ∈ A, ¬ gtS x s) ∧ ∀ x ∈ B, gtS x s)
  | 0, T, hn, _ => by
    obtain rfl := List.eq_nil_of_length_eq_zero hn
    exact ⟨fun _ => ⟨rfl, fun x hx => by simp at hx⟩, fun ⟨j, h, _⟩ => absurd h (by omega)⟩
  | n + 1, T, hn, hup => by
    rcases List.eq_nil_or_concat T with rfl | ⟨T', x, e⟩
    · simp at hn
    · rw [List.concat_eq_append] at e
      subst e
      have hl : T'.length = n := by simpa using hn
      subst hl
      obtain ⟨u1, u2, u3⟩ := List.pairwise_append.1 hup
      obtain ⟨i1, i2⟩ := outS_parts s T'.length T' rfl u1
      have es : dnS (T' ++ [x]) s (T'.length + 1) ↔ dnS T' s T'.length ∨ gtS x s := by
        rw [dnS_succ, dnS_snoc (Nat.le_refl _), st_snoc_eq]
      have eo : outS (T' ++ [x]) s (T'.length + 1) = (outS T' s T'.length ++ (if ¬ dnS T' s T'.length ∧ gtS x s then [s] else [])) ++ [x] := by
        show (outS (T' ++ [x]) s T'.length ++ (if ¬ dnS (T' ++ [x]) s T'.length ∧ gtS (st (T' ++ [x]) T'.length) s then [s] else [])) ++ [st (T' ++ [x]) T'.length] = _
        rw [outS_snoc (Nat.le_refl _), st_snoc_eq]
        by_cases e : dnS T' s T'.length
        · rw [if_neg (fun hc => hc.1 ((dnS_snoc (Nat.le_refl _)).2 e)), if_neg (fun hc => hc.1 e)]
        · have e' : ¬ dnS (T' ++ [x]) s T'.length := fun hc => e ((dnS_snoc (Nat.le_refl _)).1 hc)
          by_cases g : gtS x s
          · rw [if_pos ⟨e', g⟩, if_pos ⟨e, g⟩]
          · rw [if_neg (fun hc => g hc.2), if_neg (fun hc => g hc.2)]
      rw [eo]
      by_cases e : dnS T' s T'.length
      · obtain ⟨A, B, h1, h2, h3, h4⟩ := i2 e
        have hx : gtS x s := by
          obtain ⟨j, hj, hg⟩ := e
          have := u3 (st T' j) (by rw [st_get hj]; exact List.getElem_mem hj) x (by simp)
          exact ltS_trans (y := st T' j) hg this
        refine ⟨fun hc => absurd (es.2 (.inl e)) hc, fun _ => ⟨A, B ++ [x], by rw [h1, List.append_assoc], ?_, h3, ?_⟩⟩
        · rw [if_neg (fun hc => hc.1 e), h2]; simp
        · intro z hz
          rcases List.mem_append.1 hz with hz | hz
          · exact h4 z hz
          · simp at hz; subst hz; exact hx
      · obtain ⟨h1, h2⟩ := i1 e
        by_cases g : gtS x s
        · refine ⟨fun hc => absurd (es.2 (.inr g)) hc, fun _ => ⟨T', [x], rfl, ?_, h2, ?_⟩⟩
          · rw [if_pos ⟨e, g⟩, h1]; simp
          · intro z hz
            simp at hz; subst hz; exact g
        · refine ⟨fun _ => ⟨by rw [if_neg (fun hc => g hc.2), h1, List.append_nil], ?_⟩, fun hc => absurd (es.1 hc) (fun hd => hd.elim e g)⟩
          intro z hz
          rcases List.mem_append.1 hz with hz | hz
          · exact h2 z hz
          · simp at hz; subst hz; exact g
theorem site_ok {T : List St} (h : Up T) (s : St) : Up (siteL T s) ∧ ∀ x, x ∈ siteL T s ↔ x ∈ T ∨ x = s := by
  unfold siteL
  by_cases e : s ∈ T
  · rw [if_pos e]
    exact ⟨h, fun x => ⟨.inl, fun hc => hc.elim id (fun hd => by rw [hd]; exact e)⟩⟩
  · rw [if_neg e]
    obtain ⟨i1, i2⟩ := outS_parts s T.length T rfl h
    have key : ∃ A B, T = A ++ B ∧ (outS T s T.length ++ (if dnS T s T.length then [] else [s])) = A ++ s :: B ∧ (∀ x ∈ A, ¬ gtS x s) ∧ ∀ x ∈ B, gtS x s := by
      by_cases g : dnS T s T.length
      · obtain ⟨A, B, h1, h2, h3, h4⟩ := i2 g
        exact ⟨A, B, h1, by rw [if_pos g, h2, List.append_nil], h3, h4⟩
      · obtain ⟨h1, h2⟩ := i1 g
        exact ⟨T, [], (List.append_nil T).symm, by rw [if_neg g, h1], h2, fun x hx => by simp at hx⟩
    obtain ⟨A, B, h1, h2, h3, h4⟩ := key
    rw [h2]
    subst h1
    obtain ⟨u1, u2, u3⟩ := List.pairwise_append.1 h
    have hA : ∀ x ∈ A, ltS x s := fun x hx => by
      by_cases q : ltS x s
      · exact q
      · exact absurd (List.mem_append_left B ((ltS_or q (h3 x hx)) ▸ hx)) e
    refine ⟨List.pairwise_append.2 ⟨u1, List.pairwise_cons.2 ⟨h4, u2⟩, fun x hx y hy => ?_⟩, fun x => ?_⟩
    · rcases List.mem_cons.1 hy with rfl | hy
      · exact hA x hx
      · exact u3 x hx y hy
    · simp [List.mem_append, List.mem_cons]
      constructor
      · rintro (q | q | q)
        · exact .inl (.inl q)
        · exact .inr q
        · exact .inl (.inr q)
      · rintro ((q | q) | q)
        · exact .inl q
        · exact .inr (.inr q)
        · exact .inr (.inl q)
theorem mapT_ok (g : St → St) (T : List St) : ∀ k, Up (mapT g T k) ∧ ∀ x, x ∈ mapT g T k ↔ ∃ j, j < k ∧ x = g (st T j)
  | 0 => ⟨List.Pairwise.nil, fun x => ⟨fun h => by simp [mapT] at h, fun ⟨j, h, _⟩ => absurd h (by omega)⟩⟩
  | k + 1 => by
    obtain ⟨h1, h2⟩ := mapT_ok g T k
    obtain ⟨s1, s2⟩ := site_ok h1 (g (st T k))
    refine ⟨s1, fun x => ?_⟩
    show x ∈ siteL (mapT g T k) (g (st T k)) ↔ _
    rw [s2, h2]
    constructor
    · rintro (⟨j, h, e⟩ | e)
      · exact ⟨j, by omega, e⟩
      · exact ⟨k, by omega, e⟩
    · rintro ⟨j, h, e⟩
      by_cases q : j = k
      · subst q; exact .inr e
      · exact .inl ⟨j, by omega, e⟩
theorem mem_st {T : List St} {y : St} : y ∈ T ↔ ∃ j, j < T.length ∧ y = st T j := by
  constructor
  · intro h
    obtain ⟨j, hj, e⟩ := List.getElem_of_mem h
    exact ⟨j, hj, by rw [st_get hj, e]⟩
  · rintro ⟨j, hj, rfl⟩
    rw [st_get hj]
    exact List.getElem_mem hj
theorem mapT_all (g : St → St) (T : List St) : Up (mapT g T T.length) ∧ ∀ x, x ∈ mapT g T T.length ↔ ∃ y ∈ T, x = g y := by
  obtain ⟨h1, h2⟩ := mapT_ok g T T.length
  refine ⟨h1, fun x => ?_⟩
  rw [h2]
  constructor
  · rintro ⟨j, h, e⟩
    exact ⟨st T j, mem_st.2 ⟨j, h, rfl⟩, e⟩
  · rintro ⟨y, hy, e⟩
    obtain ⟨j, hj, rfl⟩ := mem_st.1 hy
    exact ⟨j, hj, e⟩
theorem partA_ok (p : Int) (T : List St) : ∀ k, Up (partA p T k) ∧ ∀ x, x ∈ partA p T k ↔ ∃ j, j < k ∧ (st T j).a ≤ p ∧ x = st T j
  | 0 => ⟨List.Pairwise.nil, fun x => ⟨fun h => by simp [partA] at h, fun ⟨j, h, _⟩ => absurd h (by omega)⟩⟩
  | k + 1 => by
    obtain ⟨h1, h2⟩ := partA_ok p T k
    obtain ⟨s1, s2⟩ := site_ok h1 (st T k)
    unfold partA
    by_cases q : (st T k).a ≤ p
    · rw [if_pos q]
      refine ⟨s1, fun x => ?_⟩
      rw [s2, h2]
      constructor
      · rintro (⟨j, h, e⟩ | e)
        · exact ⟨j, by omega, e⟩
        · exact ⟨k, by omega, q, e⟩
      · rintro ⟨j, h, e1, e⟩
        by_cases q : j = k
        · subst q; exact .inr e
        · exact .inl ⟨j, by omega, e1, e⟩
    · rw [if_neg q]
      refine ⟨h1, fun x => ?_⟩
      rw [h2]
      constructor
      · rintro ⟨j, h, e⟩
        exact ⟨j, by omega, e⟩
      · rintro ⟨j, h, e1, e⟩
        by_cases g : j = k
        · subst g; exact absurd e1 q
        · exact ⟨j, by omega, e1, e⟩
theorem partB_ok (p : Int) (T : List St) : ∀ k, Up (partB p T k) ∧ ∀ x, x ∈ partB p T k ↔ ∃ j, j < k ∧ ¬ (st T j).a ≤ p ∧ x = ⟨(st T j).m, (st T j).a - p⟩
  | 0 => ⟨List.Pairwise.nil, fun x => ⟨fun h => by simp [partB] at h, fun ⟨j, h, _⟩ => absurd h (by omega)⟩⟩
  | k + 1 => by
    obtain ⟨h1, h2⟩ := partB_ok p T k
    obtain ⟨s1, s2⟩ := site_ok h1 ⟨(st T k).m, (st T k).a - p⟩
    unfold partB
    by_cases q : (st T k).a ≤ p
    · rw [if_pos q]
      refine ⟨h1, fun x => ?_⟩
      rw [h2]
      constructor
      · rintro ⟨j, h, e⟩
        exact ⟨j, by omega, e⟩
      · rintro ⟨j, h, e1, e⟩
        by_cases g : j = k
        · subst g; exact absurd q e1
        · exact ⟨j, by omega, e1, e⟩
    · rw [if_neg q]
      refine ⟨s1, fun x => ?_⟩
      rw [s2, h2]
      constructor
      · rintro (⟨j, h, e⟩ | e)
        · exact ⟨j, by omega, e⟩
        · exact ⟨k, by omega, q, e⟩
      · rintro ⟨j, h, e1, e⟩
        by_cases q : j = k
        · subst q; exact .inr e
        · exact .inl ⟨j, by omega, e1, e⟩

/-! ### Right sites -/
def RT (n : Int) (T : List St) : Prop := Up T ∧ ∀ x ∈ T, 0 < x.m ∧ 0 ≤ x.a ∧ x.a ≤ n
theorem up_far {T : List St} (h : ∀ j, j + 1 < T.length → ltS (st T j) (st T (j + 1))) : Up T := by
  unfold Up
  rw [List.pairwise_iff_getElem]
  have key : ∀ d i, i + d + 1 < T.length → ltS (st T i) (st T (i + d + 1)) := by
    intro d
    induction d with
    | zero => intro i hi; exact h i hi
    | succ d ih => intro i hi; exact ltS_trans (ih i (by omega)) (h (i + d + 1) (by omega))
  intro i j hi hj hij
  have := key (j - i - 1) i (by omega)
  rw [show i + (j - i - 1) + 1 = j by omega, st_get hi, st_get hj] at this
  exact this
theorem up_at {T : List St} (h : Up T) {i j : Nat} (hij : i < j) (hj : j < T.length) : ltS (st T i) (st T j) := by
  unfold Up at h
  rw [List.pairwise_iff_getElem] at h
  rw [st_get hj, st_get (show i < T.length by omega)]
  exact h i j (by omega) hj hij
theorem stOk_RT {T : List St} {n : Int} : (∀ j, j < T.length → stOk T n j) ↔ RT n T := by
  constructor
  · intro h
    refine ⟨up_far fun j hj => ?_, fun x hx => ?_⟩
    · obtain ⟨_, _, _, e⟩ := h (j + 1) hj
      have := e (by omega)
      rw [show j + 1 - 1 = j by omega] at this
      unfold ltS gtS
      omega
    · obtain ⟨j, hj, rfl⟩ := mem_st.1 hx
      obtain ⟨a, b, c, _⟩ := h j hj
      exact ⟨a, b, c⟩
  · rintro ⟨h1, h2⟩ j hj
    obtain ⟨a, b, c⟩ := h2 (st T j) (mem_st.2 ⟨j, hj, rfl⟩)
    refine ⟨a, b, c, fun h0 => ?_⟩
    have := up_at h1 (show j - 1 < j by omega) hj
    unfold ltS gtS at this
    omega
theorem mright_iff {S : List Sp} {T : List St} {n : Int} : mrightB S T n = true ↔ RS 0 0 n S ∧ RT n T := by
  unfold mrightB
  rw [decide_eq_true_iff]
  unfold mrightP
  rw [spOk_RS, stOk_RT]

/-! ### What a put, a take, a parting make of the sites -/
def sA (p : Int) (T : List St) : List St := T.filter fun x => decide (x.a ≤ p)
def sB1 (p : Int) (x : St) : St := ⟨x.m, x.a - p⟩
def sB (p : Int) (T : List St) : List St := (T.filter fun x => !decide (x.a ≤ p)).map (sB1 p)
def pPutT (T : List St) (p k : Int) : List St := sA p T ++ (sB p T).map fun x => ⟨x.m, x.a + p + k⟩
def pTakeT (T : List St) (a b mk : Int) : List St := endT (mapT (cutS a b) T T.length) mk a
theorem up_map {T : List St} {g : St → St} (h : Up T) (hg : ∀ x y, x ∈ T → y ∈ T → ltS x y → ltS (g x) (g y)) : Up (T.map g) := by
  unfold Up
  rw [List.pairwise_map]
  exact List.Pairwise.imp_of_mem (fun {a b} ha hb hab => hg a b ha hb hab) h
theorem sA_up {T : List St} (h : Up T) (p : Int) : Up (sA p T) := List.Pairwise.filter _ h
theorem sB_up {T : List St} (h : Up T) (p : Int) : Up (sB p T) := by
  refine up_map (List.Pairwise.filter _ h) fun x y _ _ hxy => ?_
  unfold ltS gtS sB1 at *
  show x.a - p < y.a - p ∨ y.a - p = x.a - p ∧ x.m < y.m
  omega
theorem sA_doc {T : List St} (h : Up T) (p : Int) : sA p T = partA p T T.length := by
  obtain ⟨h1, h2⟩ := partA_ok p T T.length
  refine up_uniq (sA_up h p) h1 fun x => ?_
  rw [h2]
  unfold sA
  rw [List.mem_filter]
  constructor
  · rintro ⟨hx, hp⟩
    obtain ⟨j, hj, rfl⟩ := mem_st.1 hx
    exact ⟨j, hj, by simpa using hp, rfl⟩
  · rintro ⟨j, hj, hp, rfl⟩
    exact ⟨mem_st.2 ⟨j, hj, rfl⟩, by simpa using hp⟩
theorem sB_doc {T : List St} (h : Up T) (p : Int) : sB p T = partB p T T.length := by
  obtain ⟨h1, h2⟩ := partB_ok p T T.length
  refine up_uniq (sB_up h p) h1 fun x => ?_
  rw [h2]
  unfold sB
  rw [List.mem_map]
  constructor
  · rintro ⟨y, hy, rfl⟩
    rw [List.mem_filter] at hy
    obtain ⟨j, hj, rfl⟩ := mem_st.1 hy.1
    exact ⟨j, hj, by simpa using hy.2, rfl⟩
  · rintro ⟨j, hj, hp, rfl⟩
    exact ⟨st T j, List.mem_filter.2 ⟨mem_st.2 ⟨j, hj, rfl⟩, by simpa using hp⟩, rfl⟩
theorem pPutT_up {T : List St} (h : Up T) (p k : Int) (hk : 0 ≤ k) : Up (pPutT T p k) := by
  refine List.pairwise_append.2 ⟨sA_up h p, up_map (sB_up h p) fun x y _ _ hxy => ?_, fun x hx y hy => ?_⟩
  · unfold ltS gtS at *
    show x.a + p + k < y.a + p + k ∨ y.a + p + k = x.a + p + k ∧ x.m < y.m
    omega
  · obtain ⟨z, hz, rfl⟩ := List.mem_map.1 hy
    obtain ⟨u, hu, rfl⟩ := List.mem_map.1 hz
    have e1 := (List.mem_filter.1 hx).2
    have e2 := (List.mem_filter.1 hu).2
    simp at e1 e2
    unfold ltS gtS sB1
    show x.a < u.a - p + p + k ∨ _
    omega
theorem pPutT_mem {T : List St} (p k : Int) (x : St) : x ∈ pPutT T p k ↔ ∃ y ∈ T, x = shift p k y := by
  unfold pPutT
  rw [List.mem_append]
  constructor
  · rintro (hx | hx)
    · obtain ⟨h1, h2⟩ := List.mem_filter.1 hx
      simp at h2
      exact ⟨x, h1, by unfold shift; rw [if_neg (by omega)]⟩
    · obtain ⟨z, hz, rfl⟩ := List.mem_map.1 hx
      obtain ⟨u, hu, rfl⟩ := List.mem_map.1 hz
      obtain ⟨h1, h2⟩ := List.mem_filter.1 hu
      simp at h2
      refine ⟨u, h1, ?_⟩
      unfold shift sB1
      rw [if_pos (by omega), show u.a - p + p + k = u.a + k by omega]
  · rintro ⟨y, hy, rfl⟩
    unfold shift
    by_cases q : p < y.a
    · rw [if_pos q]
      right
      refine List.mem_map.2 ⟨sB1 p y, List.mem_map.2 ⟨y, List.mem_filter.2 ⟨hy, by simpa using q⟩, rfl⟩, ?_⟩
      unfold sB1
      show (⟨y.m, y.a - p + p + k⟩ : St) = _
      rw [show y.a - p + p + k = y.a + k by omega]
    · rw [if_neg q]
      left
      exact List.mem_filter.2 ⟨hy, by simpa using q⟩
theorem pPutT_doc {T : List St} (h : Up T) (p k : Int) (hk : 0 ≤ k) : pPutT T p k = mapT (shift p k) T T.length := by
  obtain ⟨h1, h2⟩ := mapT_all (shift p k) T
  exact up_uniq (pPutT_up h p k hk) h1 fun x => by rw [h2, pPutT_mem]
theorem pPutT_right {T : List St} {n : Int} (h : RT n T) {p k : Int} (hk : 0 ≤ k) (hp : 0 ≤ p) : RT (n + k) (pPutT T p k) := by
  refine ⟨pPutT_up h.1 p k hk, fun x hx => ?_⟩
  obtain ⟨y, hy, rfl⟩ := (pPutT_mem p k x).1 hx
  obtain ⟨a, b, c⟩ := h.2 y hy
  unfold shift
  split
  · exact ⟨a, by show 0 ≤ y.a + k; omega, by show y.a + k ≤ n + k; omega⟩
  · exact ⟨a, b, by omega⟩
theorem endT_ok {T : List St} (h : Up T) (mk a : Int) : Up (endT T mk a) ∧ ∀ x, x ∈ endT T mk a ↔ x ∈ T ∨ (0 < mk ∧ x = ⟨mk, a⟩) := by
  unfold endT
  by_cases q : 0 < mk
  · rw [if_pos q]
    obtain ⟨s1, s2⟩ := site_ok h ⟨mk, a⟩
    exact ⟨s1, fun x => by rw [s2]; exact ⟨fun hc => hc.imp id (fun e => ⟨q, e⟩), fun hc => hc.imp id (fun e => e.2)⟩⟩
  · rw [if_neg q]
    exact ⟨h, fun x => ⟨.inl, fun hc => hc.elim id (fun e => absurd e.1 q)⟩⟩
theorem pTakeT_ok (T : List St) (a b mk : Int) : Up (pTakeT T a b mk) ∧ ∀ x, x ∈ pTakeT T a b mk ↔ (∃ y ∈ T, x = cutS a b y) ∨ (0 < mk ∧ x = ⟨mk, a⟩) := by
  obtain ⟨h1, h2⟩ := mapT_all (cutS a b) T
  obtain ⟨s1, s2⟩ := endT_ok h1 mk a
  exact ⟨s1, fun x => by unfold pTakeT; rw [s2, h2]⟩
theorem pTakeT_right {T : List St} {n : Int} (h : RT n T) {a b mk : Int} (ha : 0 ≤ a) (hab : a ≤ b) (hbn : b ≤ n) : RT (n - (b - a)) (pTakeT T a b mk) := by
  obtain ⟨s1, s2⟩ := pTakeT_ok T a b mk
  refine ⟨s1, fun x hx => ?_⟩
  rcases (s2 x).1 hx with ⟨y, hy, rfl⟩ | ⟨q, rfl⟩
  · obtain ⟨p1, p2, p3⟩ := h.2 y hy
    unfold cutS
    split
    · exact ⟨p1, by show 0 ≤ y.a - (b - a); omega, by show y.a - (b - a) ≤ _; omega⟩
    · split
      · exact ⟨p1, ha, by show a ≤ _; omega⟩
      · exact ⟨p1, p2, by omega⟩
  · exact ⟨q, ha, by show a ≤ _; omega⟩
theorem sA_right {T : List St} {n p : Int} (h : RT n T) : RT p (sA p T) := by
  refine ⟨sA_up h.1 p, fun x hx => ?_⟩
  obtain ⟨h1, h2⟩ := List.mem_filter.1 hx
  obtain ⟨a, b, c⟩ := h.2 x h1
  simp at h2
  exact ⟨a, b, h2⟩
theorem sB_right {T : List St} {n p : Int} (h : RT n T) : RT (n - p) (sB p T) := by
  refine ⟨sB_up h.1 p, fun x hx => ?_⟩
  obtain ⟨u, hu, rfl⟩ := List.mem_map.1 hx
  obtain ⟨h1, h2⟩ := List.mem_filter.1 hu
  obtain ⟨a, b, c⟩ := h.2 u h1
  simp at h2
  exact ⟨a, by show 0 ≤ u.a - p; omega, by show u.a - p ≤ n - p; omega⟩

/-! ### By letters -/
theorem at_app_left {xs ys : List Int} {j : Nat} (h : j < xs.length) : at_ (xs ++ ys) j = at_ xs j := by
  unfold at_
  rw [List.getD_eq_getElem?_getD, List.getD_eq_getElem?_getD, List.getElem?_append_left h]
theorem at_app_right {xs ys : List Int} {j : Nat} (h : xs.length ≤ j) : at_ (xs ++ ys) j = at_ ys (j - xs.length) := by
  unfold at_
  rw [List.getD_eq_getElem?_getD, List.getD_eq_getElem?_getD, List.getElem?_append_right h]
theorem at_rep {k j : Nat} {x : Int} (h : j < k) : at_ (List.replicate k x) j = x := by
  unfold at_
  rw [List.getD_eq_getElem?_getD, List.getElem?_replicate, if_pos h]
  rfl
theorem runs_is {l : List Int} {R : List Sp} (h : RS 0 0 l.length R) (hl : ∀ j, j < l.length → at_ l j = lastAt R j) : runs l = R := by
  obtain ⟨r1, r2⟩ := runs_ok (l := l) fun j hj => by rw [hl j hj]; exact lastAt_pos h.ord _
  refine RS.uniq r1 h fun x hx => ?_
  rw [r2]
  by_cases q : x < (l.length : Int)
  · rw [if_pos ⟨hx, q⟩, hl _ (by omega), show ((x.toNat : Nat) : Int) = x by omega]
  · rw [if_neg (fun hc => q hc.2), lastAt_high h.ord x (by omega)]
theorem put_doc {S : List Sp} {n p k : Nat} {mk : Int} (h : RS 0 0 n S) (hp : p ≤ n) : runs (putLs (letters S n) p k mk) = pPut S p k mk := by
  obtain ⟨b1, b2⟩ := pPut_ok (mk := mk) (k := (k : Int)) h (show (0 : Int) ≤ (p : Int) by omega) (by omega) (by omega)
  have hl : (putLs (letters S n) p k mk).length = n + k := by
    unfold putLs
    simp [letters_len]
    omega
  refine runs_is (by rw [hl]; exact_mod_cast b1) fun j hj => ?_
  rw [b2]
  rw [hl] at hj
  have h1 : ((letters S n).take p).length = p := by rw [List.length_take, letters_len]; omega
  unfold putLs
  by_cases q : j < p
  · rw [if_pos (by omega), at_app_left (by omega), at_take2 q, at_letters (by omega)]
  · rw [if_neg (by omega), at_app_right (by omega), h1]
    by_cases q2 : j < p + k
    · rw [if_pos (by omega), at_app_left (by rw [List.length_replicate]; omega), at_rep (by omega)]
    · rw [if_neg (by omega), at_app_right (by rw [List.length_replicate]; omega), List.length_replicate, at_drop2, at_letters (by omega)]
      congr 1
      omega
theorem take_doc {S : List Sp} {n a b : Nat} (h : RS 0 0 n S) (hab : a ≤ b) (hbn : b ≤ n) : runs (takeLs (letters S n) a b) = pTake S a b := by
  obtain ⟨b1, b2⟩ := pTake_ok h (show (0 : Int) ≤ (a : Int) by omega) (show (a : Int) ≤ b by omega) (by omega)
  have hl : (takeLs (letters S n) a b).length = n - (b - a) := by
    unfold takeLs
    simp [letters_len]
    omega
  refine runs_is (by rw [hl, show ((n - (b - a) : Nat) : Int) = (n : Int) - ((b : Int) - (a : Int)) by omega]; exact b1) fun j hj => ?_
  rw [b2]
  rw [hl] at hj
  have h1 : ((letters S n).take a).length = a := by rw [List.length_take, letters_len]; omega
  unfold takeLs
  by_cases q : j < a
  · rw [if_pos (by omega), at_app_left (by omega), at_take2 q, at_letters (by omega)]
  · rw [if_neg (by omega), at_app_right (by omega), h1, at_drop2, at_letters (by omega)]
    congr 1
    omega
theorem partA_doc {S : List Sp} {n p : Nat} (h : RS 0 0 n S) (hp : p ≤ n) : runs ((letters S n).take p) = pA p S := by
  have hl : ((letters S n).take p).length = p := by rw [List.length_take, letters_len]; omega
  refine runs_is (by rw [hl]; exact RS_pA h) fun j hj => ?_
  rw [hl] at hj
  rw [at_take2 hj, at_letters (by omega), lastAt_pA, if_pos (by omega)]
theorem partB_doc {S : List Sp} {n p : Nat} (h : RS 0 0 n S) (hp : p ≤ n) : runs ((letters S n).drop p) = pB p S := by
  have hl : ((letters S n).drop p).length = n - p := by rw [List.length_drop, letters_len]
  refine runs_is (by rw [hl, show ((n - p : Nat) : Int) = (n : Int) - p by omega]; exact RS_pB h) fun j hj => ?_
  rw [hl] at hj
  rw [at_drop2, at_letters (by omega), lastAt_def (pB _ _), pB_cov _ _ (by omega), show (j : Int) + (p : Int) = ((p + j : Nat) : Int) by omega]
  rfl
/-- Put and taken away again. -/
theorem back_spans {S : List Sp} {n p k mk : Int} (h : RS 0 0 n S) (hp : 0 ≤ p) (hpn : p ≤ n) (hk : 0 ≤ k) : pTake (pPut S p k mk) p (p + k) = S := by
  obtain ⟨b1, b2⟩ := pPut_ok (mk := mk) h hp hpn hk
  obtain ⟨c1, c2⟩ := pTake_ok b1 hp (show p ≤ p + k by omega) (by omega)
  refine RS.uniq c1 h fun x hx => ?_
  rw [c2, b2, b2]
  by_cases q : x < p
  · rw [if_pos q, if_pos q]
  · rw [if_neg q, if_neg (by omega), if_neg (by omega), show x + (p + k - p) - k = x by omega]
theorem back_sites {T : List St} {p k : Int} (h : Up T) (hk : 0 ≤ k) : pTakeT (pPutT T p k) p (p + k) 0 = T := by
  obtain ⟨s1, s2⟩ := pTakeT_ok (pPutT T p k) p (p + k) 0
  refine up_uniq s1 h fun x => ?_
  rw [s2]
  have e : ∀ y, cutS p (p + k) (shift p k y) = y := fun y => by
    obtain ⟨m, a⟩ := y
    unfold shift cutS
    simp only
    by_cases q : p < a
    · rw [if_pos q]
      show (if p + k < a + k then (⟨m, a + k - (p + k - p)⟩ : St) else _) = _
      rw [if_pos (by omega), show a + k - (p + k - p) = a by omega]
    · rw [if_neg q]
      show (if p + k < a then (⟨m, a - (p + k - p)⟩ : St) else if p < a then ⟨m, p⟩ else ⟨m, a⟩) = _
      rw [if_neg (by omega), if_neg q]
  constructor
  · rintro (⟨y, hy, rfl⟩ | ⟨q, _⟩)
    · obtain ⟨z, hz, rfl⟩ := (pPutT_mem p k y).1 hy
      rw [e]
      exact hz
    · omega
  · intro hx
    exact .inl ⟨shift p k x, (pPutT_mem p k _).2 ⟨x, hx, rfl⟩, (e x).symm⟩
end Go.Proofs.YtengmiolcfgdiaaDoor.Rig
