/- Plate: PlateFirm's own memory, and what it keeps of the disk. -/
import Derived.Test.YtegnpkolmnmeiaaY16o
set_option linter.unusedVariables false
set_option linter.unusedSimpArgs false
set_option maxRecDepth 100000
namespace Go.Proofs.Ytegnpkolmnmeiaa.Plt
open Go.RowKit Go.Lib Go.Proofs.Ytegnpkolmnmeiaa.Bx

open Classical in
/-- A set of texts, as a map to true. -/
noncomputable def setF (H : List ByteArray) : Lit → Option Value := fun kl => if ∃ s ∈ H, kl = .string s.data.toList then some (.bool true) else none
theorem bytes_inj {s t : ByteArray} (h : s.data.toList = t.data.toList) : s = t := by
  cases s; cases t
  congr
  exact Array.toList_inj.1 h
theorem setF_in {H : List ByteArray} {s : ByteArray} (h : s ∈ H) : setF H (.string s.data.toList) = some (.bool true) := if_pos ⟨s, h, rfl⟩
theorem setF_put (H : List ByteArray) (s : ByteArray) : putO (setF H) (.string s.data.toList) (.bool true) = setF (s :: H) := by
  funext kl
  unfold putO setF
  by_cases h : kl = .string s.data.toList
  · rw [if_pos h, if_pos ⟨s, List.mem_cons_self, h⟩]
  · rw [if_neg h]
    by_cases h2 : ∃ t ∈ H, kl = .string t.data.toList
    · obtain ⟨t, ht, e⟩ := h2
      rw [if_pos ⟨t, ht, e⟩, if_pos ⟨t, List.mem_cons_of_mem _ ht, e⟩]
    · rw [if_neg h2, if_neg]
      rintro ⟨t, ht, e⟩
      rcases List.mem_cons.1 ht with rfl | ht
      · exact h e
      · exact h2 ⟨t, ht, e⟩
theorem setF_nil : setF [] = fun _ => none := by
  funext kl
  unfold setF
  rw [if_neg]
  rintro ⟨t, ht, _⟩
  simp at ht
def mapV (a0 t i : Nat) : Value := if i < t then .map (some (a0 + 3 + i)) else .map none
def Nine (w : World) (A : Nat) (T : TypeId) (f : Nat → Value) : Prop := ∃ cs, w.heap[A]? = some (.cells cs T (0, 0)) ∧ cs.size = 9 ∧ ∀ i, i < 9 → cs[i]? = some (f i)
theorem Nine.same {w w' : World} {A : Nat} {T : TypeId} {f : Nat → Value} (h : Nine w A T f) (hs : w'.heap[A]? = w.heap[A]?) : Nine w' A T f := by
  obtain ⟨cs, h1, h2⟩ := h
  exact ⟨cs, by rw [hs]; exact h1, h2⟩
theorem Nine.cell {w : World} {A : Nat} {T : TypeId} {f : Nat → Value} (h : Nine w A T f) {i : Nat} (hi : i < 9) : w.cell? ⟨A, i, none⟩ = some (f i) ∧ w.frozen? ⟨A, i, none⟩ = false := by
  obtain ⟨cs, h1, h2, h3⟩ := h
  exact ⟨by rw [cell_of_row _ _ _ _ _ _ h1]; exact h3 i hi, free_at h1⟩
theorem Nine.set {w : World} {A : Nat} {T : TypeId} {f : Nat → Value} (h : Nine w A T f) (i : Nat) (v : Value) : Nine (w.setCell ⟨A, i, none⟩ v) A T (upd f i v) := by
  obtain ⟨cs, h1, h2, h3⟩ := h
  refine ⟨_, set_block h1, by simpa using h2, fun j hj => ?_⟩
  rw [Array.getElem?_setIfInBounds]
  by_cases e : j = i
  · subst e
    rw [if_pos rfl, if_pos (by omega), upd_same]
  · rw [if_neg (fun q => e q.symm), upd_other _ _ e]
    exact h3 j hj
theorem Nine.other {w : World} {A : Nat} {T : TypeId} {f : Nat → Value} (h : Nine w A T f) {A' : Nat} (hne : A ≠ A') (i : Nat) (v : Value) : Nine (w.setCell ⟨A', i, none⟩ v) A T f := h.same (Below.heap_setCell _ _ _ _ hne)
theorem Nine.congr {w : World} {A : Nat} {T : TypeId} {f g : Nat → Value} (h : Nine w A T f) (hg : ∀ i, i < 9 → g i = f i) : Nine w A T g := by
  obtain ⟨cs, h1, h2, h3⟩ := h
  exact ⟨cs, h1, h2, fun i hi => by rw [hg i hi]; exact h3 i hi⟩
theorem Nine.lt {w : World} {A : Nat} {T : TypeId} {f : Nat → Value} (h : Nine w A T f) : A < w.heap.size := by
  obtain ⟨cs, h1, _⟩ := h
  exact (Array.getElem?_eq_some_iff.1 h1).1
def strV (f : Nat → ByteArray) (i : Nat) : Value := .string (f i)
structure Loc (a0 t N : Nat) (w : World) (f l : Nat → ByteArray) (H : Nat → List ByteArray) : Prop where
  s5 : Nine w a0 46 (strV f)
  s6 : Nine w (a0 + 1) 46 (strV l)
  s7 : Nine w (a0 + 2) 48 (mapV a0 t)
  mp : ∀ i, i < t → MapF Try.prog 9 w (a0 + 3 + i) N (setF (H i))
theorem Loc.kept {a0 t N : Nat} {w w' : World} {f l : Nat → ByteArray} {H : Nat → List ByteArray} (h : Loc a0 t N w f l H) (hs : ∀ g, a0 ≤ g → g < a0 + 3 + t → w'.heap[g]? = w.heap[g]?) : Loc a0 t N w' f l H :=
  ⟨h.s5.same (hs _ (by omega) (by omega)), h.s6.same (hs _ (by omega) (by omega)), h.s7.same (hs _ (by omega) (by omega)), fun i hi => (h.mp i hi).same (hs _ (by omega) (by omega))⟩
theorem Loc.lt {a0 N : Nat} {w : World} {f l : Nat → ByteArray} {H : Nat → List ByteArray} (h : Loc a0 9 N w f l H) : a0 + 12 ≤ w.heap.size := by
  have := (h.mp 8 (by omega)).lt
  omega
theorem Loc.chg {a0 N : Nat} {w w' : World} {f l : Nat → ByteArray} {H : Nat → List ByteArray} {F : Nat → Prop} (h : Loc a0 9 N w f l H) (c : Chg F w w') (hF : ∀ g, F g → g < a0 ∨ a0 + 12 ≤ g) : Loc a0 9 N w' f l H :=
  h.kept fun g h1 h2 => c.block g (by have := h.lt; omega) (fun q => by have := hF g q; omega)
theorem Loc.mono {a0 t N N' : Nat} {w : World} {f l : Nat → ByteArray} {H : Nat → List ByteArray} (h : Loc a0 t N w f l H) (hn : N ≤ N') : Loc a0 t N' w f l H :=
  ⟨h.s5, h.s6, h.s7, fun i hi => (h.mp i hi).mono hn⟩
def blank : ByteArray := fullB ByteArray.empty
def begS (t i : Nat) : ByteArray := if i < t then blank else ByteArray.empty
/-- A round of the first loop. -/
theorem loc_round {a0 t : Nat} {w : World} (h : Loc a0 t 1 w (begS t) (begS t) (fun _ => [blank])) (hz : w.heap.size = a0 + 3 + t) (ht : t < 9) :
    ∃ w', (Instr.mapUpdate 47 (.map (some (a0 + 3 + t))) (.string blank) (.bool true)).run Try.prog (w.alloc (.map #[] 0)) = .ok () w' ∧
      w'.cell? ⟨a0, t, none⟩ = some (.string ByteArray.empty) ∧ w'.frozen? ⟨a0, t, none⟩ = false ∧ w'.cell? ⟨a0 + 1, t, none⟩ = some (.string ByteArray.empty) ∧ w'.frozen? ⟨a0 + 1, t, none⟩ = false ∧ w'.cell? ⟨a0 + 2, t, none⟩ = some (.map none) ∧ w'.frozen? ⟨a0 + 2, t, none⟩ = false ∧
      Hid (Loc a0 (t + 1) 1 (((w'.setCell ⟨a0, t, none⟩ (.string blank)).setCell ⟨a0 + 1, t, none⟩ (.string blank)).setCell ⟨a0 + 2, t, none⟩ (.map (some (a0 + 3 + t)))) (begS (t + 1)) (begS (t + 1)) (fun _ => [blank]) ∧
        Below a0 w (((w'.setCell ⟨a0, t, none⟩ (.string blank)).setCell ⟨a0 + 1, t, none⟩ (.string blank)).setCell ⟨a0 + 2, t, none⟩ (.map (some (a0 + 3 + t)))) ∧
        (((w'.setCell ⟨a0, t, none⟩ (.string blank)).setCell ⟨a0 + 1, t, none⟩ (.string blank)).setCell ⟨a0 + 2, t, none⟩ (.map (some (a0 + 3 + t)))).heap.size = a0 + 3 + (t + 1)) := by
  have hm := MapF.made Try.prog 9 w
  rw [hz] at hm
  obtain ⟨w', hr, q1, q2, q3⟩ := hm.put klawS Try.underlying47 (by decide) (.bool true) (keyS (s := blank) (by decide)) (isKeyS _)
  have hf : putO (fun _ => none) (.string blank.data.toList) (.bool true) = setF [blank] := by rw [← setF_nil, setF_put]
  rw [hf] at q1
  have hs : ∀ g, g < a0 + 3 + t → w'.heap[g]? = w.heap[g]? := fun g hg => (q2.block g (by simp; omega) (fun e => by injection e with e; omega)).trans (Below.heap_alloc _ _ _ (by omega))
  have h1 := h.kept (w' := w') (fun g _ hg => hs g hg)
  obtain ⟨c5, f5⟩ := h1.s5.cell ht
  obtain ⟨c6, f6⟩ := h1.s6.cell ht
  obtain ⟨c7, f7⟩ := h1.s7.cell ht
  have e1 : strV (begS t) t = .string ByteArray.empty := by unfold strV begS; rw [if_neg (by omega)]
  have e2 : mapV a0 t t = .map none := by unfold mapV; rw [if_neg (by omega)]
  rw [e1] at c5 c6
  rw [e2] at c7
  have hup : ∀ i, i < 9 → strV (begS (t + 1)) i = upd (strV (begS t)) t (.string blank) i := fun i _ => by
    by_cases e : i = t
    · subst e; rw [upd_same]; unfold strV begS; rw [if_pos (by omega)]
    · rw [upd_other _ _ e]
      unfold strV begS
      by_cases q : i < t
      · rw [if_pos q, if_pos (by omega)]
      · rw [if_neg q, if_neg (by omega)]
  refine ⟨w', hr, c5, f5, c6, f6, c7, f7, ⟨?_, ?_, ?_, ?_⟩, ?_, ?_⟩
  · exact ((((h1.s5.set t _).other (by omega) _ _).other (by omega) _ _)).congr hup
  · exact (((h1.s6.other (by omega) _ _).set t _).other (by omega) _ _).congr hup
  · refine (((h1.s7.other (by omega) _ _).other (by omega) _ _).set t _).congr (fun i _ => ?_)
    by_cases e : i = t
    · subst e; rw [upd_same]; unfold mapV; rw [if_pos (by omega)]
    · rw [upd_other _ _ e]
      unfold mapV
      by_cases q : i < t
      · rw [if_pos q, if_pos (by omega)]
      · rw [if_neg q, if_neg (by omega)]
  · intro i hi
    have hb : ∀ (g : Nat), g ≠ a0 → g ≠ a0 + 1 → g ≠ a0 + 2 → (((w'.setCell ⟨a0, t, none⟩ (.string blank)).setCell ⟨a0 + 1, t, none⟩ (.string blank)).setCell ⟨a0 + 2, t, none⟩ (.map (some (a0 + 3 + t)))).heap[g]? = w'.heap[g]? := fun g x y z => (Below.heap_setCell _ _ _ _ z).trans ((Below.heap_setCell _ _ _ _ y).trans (Below.heap_setCell _ _ _ _ x))
    by_cases e : i = t
    · subst e
      exact q1.same (hb _ (by omega) (by omega) (by omega))
    · exact (h1.mp i (by omega)).same (hb _ (by omega) (by omega) (by omega))
  · have hb : Below a0 w w' := ((Below.refl a0 w).alloc (by omega) _).grown q2 (by simp; omega) (fun k e => by injection e with e; omega)
    exact ((hb.setCell (p := ⟨a0, t, none⟩) (by show a0 ≤ a0; omega) _).setCell (p := ⟨a0 + 1, t, none⟩) (by show a0 ≤ a0 + 1; omega) _).setCell (p := ⟨a0 + 2, t, none⟩) (by show a0 ≤ a0 + 2; omega) _
  · simp [World.setCell, q3, hz]
    omega
theorem loc_start (w2 : World) : let W := ((w2.alloc (.cells #[.string ⟨#[]⟩, .string ⟨#[]⟩, .string ⟨#[]⟩, .string ⟨#[]⟩, .string ⟨#[]⟩, .string ⟨#[]⟩, .string ⟨#[]⟩, .string ⟨#[]⟩, .string ⟨#[]⟩] 46)).alloc (.cells #[.string ⟨#[]⟩, .string ⟨#[]⟩, .string ⟨#[]⟩, .string ⟨#[]⟩, .string ⟨#[]⟩, .string ⟨#[]⟩, .string ⟨#[]⟩, .string ⟨#[]⟩, .string ⟨#[]⟩] 46)).alloc (.cells #[.map none, .map none, .map none, .map none, .map none, .map none, .map none, .map none, .map none] 48)
    Loc w2.heap.size 0 1 W (begS 0) (begS 0) (fun _ => [blank]) ∧ W.heap.size = w2.heap.size + 3 + 0 ∧ Below w2.heap.size w2 W := by
  intro W
  obtain ⟨b1, r1, l1⟩ := box1 w2 #[.string ⟨#[]⟩, .string ⟨#[]⟩, .string ⟨#[]⟩, .string ⟨#[]⟩, .string ⟨#[]⟩, .string ⟨#[]⟩, .string ⟨#[]⟩, .string ⟨#[]⟩, .string ⟨#[]⟩] 46
  obtain ⟨b2, r2, l2⟩ := box1 (w2.alloc (.cells #[.string ⟨#[]⟩, .string ⟨#[]⟩, .string ⟨#[]⟩, .string ⟨#[]⟩, .string ⟨#[]⟩, .string ⟨#[]⟩, .string ⟨#[]⟩, .string ⟨#[]⟩, .string ⟨#[]⟩] 46)) #[.string ⟨#[]⟩, .string ⟨#[]⟩, .string ⟨#[]⟩, .string ⟨#[]⟩, .string ⟨#[]⟩, .string ⟨#[]⟩, .string ⟨#[]⟩, .string ⟨#[]⟩, .string ⟨#[]⟩] 46
  obtain ⟨b3, r3, l3⟩ := box1 ((w2.alloc (.cells #[.string ⟨#[]⟩, .string ⟨#[]⟩, .string ⟨#[]⟩, .string ⟨#[]⟩, .string ⟨#[]⟩, .string ⟨#[]⟩, .string ⟨#[]⟩, .string ⟨#[]⟩, .string ⟨#[]⟩] 46)).alloc (.cells #[.string ⟨#[]⟩, .string ⟨#[]⟩, .string ⟨#[]⟩, .string ⟨#[]⟩, .string ⟨#[]⟩, .string ⟨#[]⟩, .string ⟨#[]⟩, .string ⟨#[]⟩, .string ⟨#[]⟩] 46)) #[.map none, .map none, .map none, .map none, .map none, .map none, .map none, .map none, .map none] 48
  have q1 := (b3.block w2.heap.size (by omega)).trans ((b2.block w2.heap.size (by omega)).trans r1)
  have r2' := r2
  rw [l1] at r2'
  have q2 := (b3.block (w2.heap.size + 1) (by omega)).trans r2'
  have q3 := r3
  rw [l2, l1] at q3
  have h9 : ∀ i, i < 9 → #[Value.string ⟨#[]⟩, .string ⟨#[]⟩, .string ⟨#[]⟩, .string ⟨#[]⟩, .string ⟨#[]⟩, .string ⟨#[]⟩, .string ⟨#[]⟩, .string ⟨#[]⟩, .string ⟨#[]⟩][i]? = some (strV (begS 0) i) := fun i hi => by
    have e : strV (begS 0) i = .string ⟨#[]⟩ := by unfold strV begS; rw [if_neg (by omega)]; rfl
    rw [e]
    have : i = 0 ∨ i = 1 ∨ i = 2 ∨ i = 3 ∨ i = 4 ∨ i = 5 ∨ i = 6 ∨ i = 7 ∨ i = 8 := by omega
    rcases this with rfl | rfl | rfl | rfl | rfl | rfl | rfl | rfl | rfl <;> rfl
  refine ⟨⟨⟨_, q1, rfl, h9⟩, ⟨_, q2, rfl, h9⟩, ⟨_, q3, rfl, fun i hi => ?_⟩, fun i hi => absurd hi (by omega)⟩, (l3.trans (by rw [l2, l1]) : W.heap.size = w2.heap.size + 3 + 0), below_on (below_on b1 b2) b3⟩
  have e : mapV w2.heap.size 0 i = .map none := by unfold mapV; rw [if_neg (by omega)]
  rw [e]
  have : i = 0 ∨ i = 1 ∨ i = 2 ∨ i = 3 ∨ i = 4 ∨ i = 5 ∨ i = 6 ∨ i = 7 ∨ i = 8 := by omega
  rcases this with rfl | rfl | rfl | rfl | rfl | rfl | rfl | rfl | rfl <;> rfl
theorem newD_get {t : Nat} (h : t < 9) : #[Value.string (getS (newD 9) (t : Nat)), .bool (getB (newD 9) (t : Nat))] = #[.string blank, .bool true] := by
  have e : getB (newD 9) (t : Nat) = true := by
    unfold getB newD
    simp
    omega
  unfold getS
  rw [e]
  rfl
end Go.Proofs.Ytegnpkolmnmeiaa.Plt
