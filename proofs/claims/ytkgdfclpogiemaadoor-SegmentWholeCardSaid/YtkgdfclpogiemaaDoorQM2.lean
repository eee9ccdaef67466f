/- Contracts: Put and Take of the plain text. Contract: Take of the plain text. Contract: Part of the plain text. Contract: Drop of the plain text. -/
import Derived.Test.YtkgdfclpogiemaaDoorQM1
import Derived.Test.YtkgdfclpogiemaaDoorQA2
import Derived.RegionTactic
import Derived.ChangeAlike
import Derived.BigRegion
import Derived.Deep.RegionLaw
set_option linter.unusedVariables false
set_option maxRecDepth 100000
namespace Go.Proofs.YtkgdfclpogiemaaDoor.Rig
open Go.RowKit Go.Lib Go.Proofs.YtkgdfclpogiemaaDoor.Rt

theorem letters_len (S : List Sp) (n : Nat) : (letters S n).length = n := by simp [letters]
theorem at_take2 {xs : List Int} {i j : Nat} (h : j < i) : at_ (xs.take i) j = at_ xs j := by
  unfold at_
  rw [List.getD_eq_getElem?_getD, List.getD_eq_getElem?_getD, List.getElem?_take_of_lt h]
theorem at_drop2 (xs : List Int) (i j : Nat) : at_ (xs.drop i) j = at_ xs (i + j) := by
  unfold at_
  rw [List.getD_eq_getElem?_getD, List.getD_eq_getElem?_getD, List.getElem?_drop]
theorem Ints.take_ {w : World} {g off n c : Nat} {ys : List Int} (h : Ints w (.slice (some ⟨g, off, none⟩) n c) ys) (hn : n = ys.length) (i : Nat) (hi : i ≤ n) : Ints w (.slice (some ⟨g, off, none⟩) i c) (ys.take i) := by
  obtain ⟨h0, a, cap, hv, h1, h2, h3⟩ := h
  have hl : (ys.take i).length = i := by rw [List.length_take]; omega
  injection hv with e1 e2 e3
  subst e3
  refine ⟨fun x hx => h0 x (List.mem_of_mem_take hx), some ⟨g, off, none⟩, c, by rw [hl], by omega, h2, ?_⟩
  rcases h3 with h3 | ⟨b, o, e, hb, hc⟩
  · left; rw [h3, List.take_nil]
  · rw [← e1] at e
    refine .inr ⟨b, o, e, hb, fun j hj => ?_⟩
    rw [hl] at hj
    rw [at_take2 hj]
    exact hc j (by omega)
theorem Ints.drop_ {w : World} {g off n c : Nat} {ys : List Int} (h : Ints w (.slice (some ⟨g, off, none⟩) n c) ys) (hn : n = ys.length) (i : Nat) (hi : i ≤ n) : Ints w (.slice (some ⟨g, off + i, none⟩) (n - i) (c - i)) (ys.drop i) := by
  obtain ⟨h0, a, cap, hv, h1, h2, h3⟩ := h
  have hl : (ys.drop i).length = n - i := by rw [List.length_drop]; omega
  injection hv with e1 e2 e3
  subst e3
  refine ⟨fun x hx => h0 x (List.mem_of_mem_drop hx), some ⟨g, off + i, none⟩, c - i, by rw [hl], by omega, by omega, ?_⟩
  rcases h3 with h3 | ⟨b, o, e, hb, hc⟩
  · left; rw [h3, List.drop_nil]
  · rw [← e1] at e
    injection e with e
    injection e with e2 e3
    subst e2 e3
    refine .inr ⟨g, off + i, rfl, hb, fun j hj => ?_⟩
    rw [hl] at hj
    rw [at_drop2, Nat.add_assoc]
    exact hc (i + j) (by omega)
theorem Ints.none_of {w : World} {g off c : Nat} (hg : c ≤ maxLen) : Ints w (.slice (some ⟨g, off, none⟩) 0 c) [] := ⟨fun x hx => by simp at hx, _, c, rfl, Nat.zero_le _, hg, .inl rfl⟩

def putLs (ys : List Int) (i k : Nat) (mk : Int) : List Int := ys.take i ++ (List.replicate k (max mk 0) ++ ys.drop i)
def shift (at' : Int) (k : Int) (s : St) : St := if at' < s.a then ⟨s.m, s.a + k⟩ else s
/-- The sites, each carried by g, in their places (a site that stands already is not added). -/
def mapT (g : St → St) (T : List St) : Nat → List St
  | 0 => []
  | i + 1 => siteL (mapT g T i) (g (st T i))
theorem mapT_len (g : St → St) (T : List St) : ∀ i, (mapT g T i).length ≤ i
  | 0 => Nat.le_refl _
  | i + 1 => by
    have h1 := mapT_len g T i
    have h2 := siteL_len (mapT g T i) (g (st T i))
    unfold mapT
    omega

theorem block_frozen {w : World} {g j : Nat} {cur : Array Value} {t : TypeId} (h : w.heap[g]? = some (.cells cur t (0, 0))) : w.frozen? ⟨g, j, none⟩ = false := frozen_of_row w g j cur t h
theorem two_slices {w : World} {B o : Nat} {T : TypeId} {a1 a2 : Option Addr} {n1 c1 n2 c2 : Nat} {x : Int} (h : w.heap[B]? = some (.cells #[.slice a1 n1 c1, .slice a2 n2 c2] T (0, 0))) : w.cell? ⟨B, o, none⟩ ≠ some (.int .i64 x) := by
  rw [cell_of_row _ _ _ _ _ _ h]
  match o with
  | 0 => simp
  | 1 => simp
  | o + 2 => simp
theorem Fl.setBlock {w : World} {v u : Value} {n k : Nat} {zs : List Int} {B i : Nat} {T : TypeId} {a1 a2 : Option Addr} {n1 c1 n2 c2 : Nat} (h : Fl w v n k zs) (hk : 0 < k) (hB : w.heap[B]? = some (.cells #[.slice a1 n1 c1, .slice a2 n2 c2] T (0, 0))) : Fl (w.setCell ⟨B, i, none⟩ u) v n k zs := by
  obtain ⟨h0, h0', a, cap, rfl, h1, h2, h3⟩ := h
  refine ⟨h0, h0', a, cap, rfl, h1, h2, ?_⟩
  rcases h3 with h3 | ⟨b, off, rfl, hlt, hc⟩
  · exact .inl h3
  · by_cases hn : n = 0
    · exact .inl hn
    · have hne : b ≠ B := by
        rintro rfl
        have := hc 0 (Nat.mul_pos (Nat.pos_of_ne_zero hn) hk)
        exact two_slices hB this
      refine .inr ⟨b, off, rfl, by simpa using hlt, fun j hj => ?_⟩
      rw [World.cell?_of_block (w := w) (a := ⟨b, off + j, none⟩) (Below.heap_setCell w ⟨B, i, none⟩ u b (by exact hne))]
      exact hc j hj

/-- It hands marks back; nothing old has turned. -/
def GivesM (w : World) (S : List Sp) (T : List St) (e : Ending) (w' : World) : Prop := ∃ v1 v2, e = .returned (.agg #[v1, v2]) ∧ Spans w' v1 S ∧ Sites w' v2 T ∧ Below w.heap.size w w'

end Go.Proofs.YtkgdfclpogiemaaDoor.Rig

namespace Go.Proofs.YtkgdfclpogiemaaDoor.Rig
open Go.RowKit Go.Lib Go.Proofs.YtkgdfclpogiemaaDoor.Rt

def takeLs (ys : List Int) (a b : Nat) : List Int := ys.take a ++ ys.drop b
def cutS (a b : Int) (s : St) : St := if b < s.a then ⟨s.m, s.a - (b - a)⟩ else if a < s.a then ⟨s.m, a⟩ else s
def endT (T : List St) (mk a : Int) : List St := if 0 < mk then siteL T ⟨mk, a⟩ else T
theorem res_cells {W : World} {B : Nat} {T : TypeId} {a1 a2 : Option Addr} {n1 c1 n2 c2 : Nat} (r0 : W.heap[B]? = some (.cells #[.slice none 0 0, .slice none 0 0] T (0, 0))) :
    (W.setCell ⟨B, 0, none⟩ (.slice a1 n1 c1)).cell? ⟨B, 0, none⟩ = some (.slice a1 n1 c1) ∧ ((W.setCell ⟨B, 0, none⟩ (.slice a1 n1 c1)).setCell ⟨B, 1, none⟩ (.slice a2 n2 c2)).cell? ⟨B, 1, none⟩ = some (.slice a2 n2 c2) := by
  have s0 : (W.setCell ⟨B, 0, none⟩ (.slice a1 n1 c1)).heap[B]? = some (.cells #[.slice a1 n1 c1, .slice none 0 0] T (0, 0)) := by
    rw [heap_setCell_same _ _ _ _ _ _ r0]
    rfl
  constructor
  · rw [cell_of_row _ _ _ _ _ _ s0]
    rfl
  · rw [cell_of_row _ _ _ _ _ _ (by rw [heap_setCell_same _ _ _ _ _ _ s0])]
    rfl
theorem give_end {w W : World} {S : List Sp} {L : List St} {B : Nat} {T : TypeId} {a1 a2 : Option Addr} {n1 c1 n2 c2 : Nat} (hB : w.heap.size ≤ B) (r0 : W.heap[B]? = some (.cells #[.slice none 0 0, .slice none 0 0] T (0, 0)))
    (hS : Spans W (.slice a1 n1 c1) S) (hT : Sites W (.slice a2 n2 c2) L) (hb : Below w.heap.size w W) :
    GivesM w S L (.returned (.agg #[.slice a1 n1 c1, .slice a2 n2 c2])) ((W.setCell ⟨B, 0, none⟩ (.slice a1 n1 c1)).setCell ⟨B, 1, none⟩ (.slice a2 n2 c2)) := by
  have s0 : (W.setCell ⟨B, 0, none⟩ (.slice a1 n1 c1)).heap[B]? = some (.cells #[.slice a1 n1 c1, .slice none 0 0] T (0, 0)) := by
    rw [heap_setCell_same _ _ _ _ _ _ r0]
    rfl
  exact ⟨_, _, rfl, Fl.setBlock (Fl.setBlock hS (by decide) r0) (by decide) s0, Fl.setBlock (Fl.setBlock hT (by decide) r0) (by decide) s0, (hb.setCell (p := ⟨B, 0, none⟩) hB _).setCell (p := ⟨B, 1, none⟩) hB _⟩

end Go.Proofs.YtkgdfclpogiemaaDoor.Rig

namespace Go.Proofs.YtkgdfclpogiemaaDoor.Rig
open Go.RowKit Go.Lib Go.Proofs.YtkgdfclpogiemaaDoor.Rt

def partA (at' : Int) (T : List St) : Nat → List St
  | 0 => []
  | i + 1 => if (st T i).a ≤ at' then siteL (partA at' T i) (st T i) else partA at' T i
def partB (at' : Int) (T : List St) : Nat → List St
  | 0 => []
  | i + 1 => if (st T i).a ≤ at' then partB at' T i else siteL (partB at' T i) ⟨(st T i).m, (st T i).a - at'⟩
theorem partA_len (at' : Int) (T : List St) : ∀ i, (partA at' T i).length ≤ i
  | 0 => Nat.le_refl _
  | i + 1 => by
    have h1 := partA_len at' T i
    have h2 := siteL_len (partA at' T i) (st T i)
    unfold partA
    split <;> omega
theorem partB_len (at' : Int) (T : List St) : ∀ i, (partB at' T i).length ≤ i
  | 0 => Nat.le_refl _
  | i + 1 => by
    have h1 := partB_len at' T i
    have h2 := siteL_len (partB at' T i) ⟨(st T i).m, (st T i).a - at'⟩
    unfold partB
    split <;> omega
/-- It hands two marks back. -/
def GivesM2 (w : World) (S : List Sp) (T : List St) (S' : List Sp) (T' : List St) (e : Ending) (w' : World) : Prop := ∃ v1 v2 v3 v4, e = .returned (.tuple #[.agg #[v1, v2], .agg #[v3, v4]]) ∧ Spans w' v1 S ∧ Sites w' v2 T ∧ Spans w' v3 S' ∧ Sites w' v4 T' ∧ Below w.heap.size w w'

theorem set2_fl {W : World} {v : Value} {n k : Nat} {zs : List Int} {B : Nat} {T : TypeId} {a1 a2 : Option Addr} {n1 c1 n2 c2 : Nat} (h : Fl W v n k zs) (hk : 0 < k) (r0 : W.heap[B]? = some (.cells #[.slice none 0 0, .slice none 0 0] T (0, 0))) :
    Fl ((W.setCell ⟨B, 0, none⟩ (.slice a1 n1 c1)).setCell ⟨B, 1, none⟩ (.slice a2 n2 c2)) v n k zs := by
  have s0 : (W.setCell ⟨B, 0, none⟩ (.slice a1 n1 c1)).heap[B]? = some (.cells #[.slice a1 n1 c1, .slice none 0 0] T (0, 0)) := by
    rw [heap_setCell_same _ _ _ _ _ _ r0]
    rfl
  exact Fl.setBlock (Fl.setBlock h hk r0) hk s0
theorem give_end2 {w W : World} {S S' : List Sp} {L L' : List St} {B B' : Nat} {T : TypeId} {a1 a2 a3 a4 : Option Addr} {n1 c1 n2 c2 n3 c3 n4 c4 : Nat} (hB : w.heap.size ≤ B) (hB' : w.heap.size ≤ B') (hne : B' ≠ B) (r1 : W.heap[B]? = some (.cells #[.slice none 0 0, .slice none 0 0] T (0, 0))) (r2 : W.heap[B']? = some (.cells #[.slice none 0 0, .slice none 0 0] T (0, 0)))
    (hS : Spans W (.slice a1 n1 c1) S) (hT : Sites W (.slice a2 n2 c2) L) (hS' : Spans W (.slice a3 n3 c3) S') (hT' : Sites W (.slice a4 n4 c4) L') (hb : Below w.heap.size w W) :
    GivesM2 w S L S' L' (.returned (.tuple #[.agg #[.slice a1 n1 c1, .slice a2 n2 c2], .agg #[.slice a3 n3 c3, .slice a4 n4 c4]])) ((((W.setCell ⟨B, 0, none⟩ (.slice a1 n1 c1)).setCell ⟨B, 1, none⟩ (.slice a2 n2 c2)).setCell ⟨B', 0, none⟩ (.slice a3 n3 c3)).setCell ⟨B', 1, none⟩ (.slice a4 n4 c4)).drew := by
  have r2' : ((W.setCell ⟨B, 0, none⟩ (.slice a1 n1 c1)).setCell ⟨B, 1, none⟩ (.slice a2 n2 c2)).heap[B']? = some (.cells #[.slice none 0 0, .slice none 0 0] T (0, 0)) := by
    rw [Below.heap_setCell _ _ _ _ (by exact hne), Below.heap_setCell _ _ _ _ (by exact hne)]
    exact r2
  have bd : Below ((((W.setCell ⟨B, 0, none⟩ (.slice a1 n1 c1)).setCell ⟨B, 1, none⟩ (.slice a2 n2 c2)).setCell ⟨B', 0, none⟩ (.slice a3 n3 c3)).setCell ⟨B', 1, none⟩ (.slice a4 n4 c4)).heap.size _ _ := (Below.refl _ ((((W.setCell ⟨B, 0, none⟩ (.slice a1 n1 c1)).setCell ⟨B, 1, none⟩ (.slice a2 n2 c2)).setCell ⟨B', 0, none⟩ (.slice a3 n3 c3)).setCell ⟨B', 1, none⟩ (.slice a4 n4 c4))).drew
  refine ⟨_, _, _, _, rfl, ?_, ?_, ?_, ?_, ((((hb.setCell (p := ⟨B, 0, none⟩) hB _).setCell (p := ⟨B, 1, none⟩) hB _).setCell (p := ⟨B', 0, none⟩) hB' _).setCell (p := ⟨B', 1, none⟩) hB' _).drew⟩
  · have h := set2_fl (a1 := a3) (n1 := n3) (c1 := c3) (a2 := a4) (n2 := n4) (c2 := c4) (set2_fl (a1 := a1) (n1 := n1) (c1 := c1) (a2 := a2) (n2 := n2) (c2 := c2) hS (by decide) r1) (by decide) r2'
    exact Fl.below h bd (Nat.le_refl _)
  · have h := set2_fl (a1 := a3) (n1 := n3) (c1 := c3) (a2 := a4) (n2 := n4) (c2 := c4) (set2_fl (a1 := a1) (n1 := n1) (c1 := c1) (a2 := a2) (n2 := n2) (c2 := c2) hT (by decide) r1) (by decide) r2'
    exact Fl.below h bd (Nat.le_refl _)
  · have h := set2_fl (a1 := a3) (n1 := n3) (c1 := c3) (a2 := a4) (n2 := n4) (c2 := c4) (set2_fl (a1 := a1) (n1 := n1) (c1 := c1) (a2 := a2) (n2 := n2) (c2 := c2) hS' (by decide) r1) (by decide) r2'
    exact Fl.below h bd (Nat.le_refl _)
  · have h := set2_fl (a1 := a3) (n1 := n3) (c1 := c3) (a2 := a4) (n2 := n4) (c2 := c4) (set2_fl (a1 := a1) (n1 := n1) (c1 := c1) (a2 := a2) (n2 := n2) (c2 := c2) hT' (by decide) r1) (by decide) r2'
    exact Fl.below h bd (Nat.le_refl _)

set_option maxRecDepth 100000 in
set_option maxHeartbeats 8000000 in
theorem rpart_any {sv tv : Value} {S : List Sp} {T : List St} (n at' : Nat) (w : World) (hS : Spans w sv S) (hT : Sites w tv T) (hn : n ≤ 3000) (hat : at' ≤ n) (hTn : T.length ≤ 3000)
    (hok : ∀ j, j < S.length → 0 ≤ (sp S j).f ∧ (sp S j).f ≤ (sp S j).t ∧ (sp S j).t ≤ (n : Int)) (hst : ∀ j, j < T.length → 0 ≤ (st T j).a ∧ (st T j).a ≤ (n : Int)) :
    Calls Tryd.prog 65 #[.agg #[sv, tv], .int .i64 n, .int .i64 at'] w (GivesM2 w (runs ((letters S n).take at')) (partA at' T T.length) (runs ((letters S n).drop at')) (partB at' T T.length)) := by
  have hll := letters_len S n
  obtain ⟨ta, tc, rfl, hlt, hct, hT1⟩ := hT.open_
  have HT := Lib.hid hT1
  have HST := Lib.hid hst
  have C1 : Hid (∀ w', Below w.heap.size w w' → Calls Tryd.prog 91 #[.agg #[sv, .slice ta T.length tc], .int .i64 n] w' (NewE w' n (letters S n))) := fun w' hb => each_any n w' (hS.below hb (Nat.le_refl _)) (hT.below hb (Nat.le_refl _)) (by omega) hok
  obtain ⟨sa, sc, rfl⟩ := hS.is_slice
  generalize S.length = ns at *
  obtain ⟨nt, hnt⟩ : ∃ nt, nt = T.length := ⟨_, rfl⟩
  rw [← hnt] at hlt hTn C1 ⊢
  replace hnt := Lib.hid hnt
  obtain ⟨ys, hys⟩ : ∃ ys, ys = letters S n := ⟨_, rfl⟩
  rw [← hys] at C1 hll ⊢
  have HYL := Lib.hid hll
  have HYS := Lib.hid hys
  obtain ⟨W0, hW0⟩ : ∃ W0, W0 = ((w.alloc (.cells #[.slice sa ns sc, .slice ta nt tc] 108)).alloc (.cells #[.slice none 0 0, .slice none 0 0] 108)).alloc (.cells #[.slice none 0 0, .slice none 0 0] 108) := ⟨_, rfl⟩
  have b0 : Below w.heap.size w W0 := by rw [hW0]; exact (((Below.refl _ _).alloc (Nat.le_refl _) _).alloc (by simp) _).alloc (by simp; omega) _
  have h0 : W0.heap[w.heap.size]? = some (.cells #[.slice sa ns sc, .slice ta nt tc] 108 (0, 0)) := by
    rw [hW0, Below.heap_alloc _ _ _ (by simp; omega), Below.heap_alloc _ _ _ (by simp)]
    exact heap_alloc_new _ _
  have h0' : W0.heap[w.heap.size + 1]? = some (.cells #[.slice none 0 0, .slice none 0 0] 108 (0, 0)) := by
    have := heap_alloc_new (w.alloc (.cells #[.slice sa ns sc, .slice ta nt tc] 108)) (.cells #[.slice none 0 0, .slice none 0 0] 108)
    rw [hW0, Below.heap_alloc _ _ _ (by simp)]
    simpa using this
  have h0'' : W0.heap[w.heap.size + 2]? = some (.cells #[.slice none 0 0, .slice none 0 0] 108 (0, 0)) := by
    have := heap_alloc_new ((w.alloc (.cells #[.slice sa ns sc, .slice ta nt tc] 108)).alloc (.cells #[.slice none 0 0, .slice none 0 0] 108)) (.cells #[.slice none 0 0, .slice none 0 0] 108)
    rw [hW0]
    simpa using this
  have l0 : w.heap.size + 3 ≤ W0.heap.size := by rw [hW0]; simp
  have HW0 := Lib.hid hW0
  have B0 := Lib.hid b0
  have H0 := Lib.hid h0
  have H0' := Lib.hid h0'
  have H0'' := Lib.hid h0''
  clear hT1 hS hT h0 h0' h0'' hW0 b0 hok hst hys hll
  go_enter Tryd.func65, Tryd.ntmps65
  go_wp2_with fail
  rw [← HW0.out]
  refine (C1.out _ B0.out).mono ?_
  rintro e w1 ⟨rfl, hO, hb1⟩
  have I1 := Lib.hid hO.ints
  have HB1 := Lib.hid (below_more B0.out hb1)
  have HBW0 := Lib.hid hb1
  have hyl : ys.length = n := HYL.out
  obtain ⟨p, hp⟩ : ∃ p, p = ys.take at' := ⟨_, rfl⟩
  have A2 := Lib.hid (I1.out.take_ HYL.out.symm at' hat)
  have hpl : p.length ≤ 3000 := by rw [hp, List.length_take]; omega
  rw [← hp] at A2 ⊢
  obtain ⟨G, hG⟩ : ∃ G, G = W0.heap.size + 1 := ⟨_, rfl⟩
  rw [← hG] at A2 I1 ⊢
  have HP := Lib.hid hp
  have i0 : (0 : Int) ≤ (at' : Int) := by omega
  have i1 : (at' : Int) ≤ (n : Int) := by omega
  have CS6 := Lib.hid (spans_any w1 A2.out (by omega))
  obtain ⟨q, hq⟩ : ∃ q, q = ys.drop at' := ⟨_, rfl⟩
  have hql : q.length ≤ 3000 := by rw [hq, List.length_drop]; omega
  rw [← hq]
  have HQ := Lib.hid hq
  have SRC : Hid (∀ w2, Below w1.heap.size w1 w2 → Ints w2 (.slice (if n = at' then some ⟨G, 0, none⟩ else some ⟨G, at', none⟩) (n - at') (n - at')) q) := fun w2 hb2 => by
    have hl : q.length = n - at' := by rw [hq, List.length_drop]; omega
    by_cases e : n = at'
    · rw [if_pos e]
      have : q = [] := List.eq_nil_of_length_eq_zero (by omega)
      rw [this, show n - at' = 0 by omega]
      exact Ints.none_of (Nat.zero_le _)
    · rw [if_neg e]
      have := (I1.out.below hb2 (Nat.le_refl _)).drop_ hyl.symm at' hat
      rw [Nat.zero_add, ← hq] at this
      exact this
  clear hO hb1 C1 hG hp A2 hyl hq
  go_wp2_with fail
  refine CS6.out.mono ?_
  rintro e w6 ⟨v6, rfl, hS6, hb6⟩
  have HB6 := Lib.hid (below_more HB1.out hb6)
  have HX6 := Lib.hid (below_more HBW0.out hb6)
  have SP6 := Lib.hid hS6.spans
  obtain ⟨a6, c6, rfl⟩ := hS6.is_slice
  obtain ⟨RU, hRU⟩ : ∃ RU, RU = runs p := ⟨_, rfl⟩
  rw [← hRU] at SP6 ⊢
  generalize RU.length = r6 at *
  have HRU := Lib.hid hRU
  have kA : w6.heap.size < (w6.alloc (.cells #[.slice a6 r6 c6, .slice none 0 0] 108)).heap.size := by simp
  have SRC2 := Lib.hid (SRC.out (w6.alloc (.cells #[.slice a6 r6 c6, .slice none 0 0] 108)) (hb6.alloc hb6.size _))
  have HA6 := Lib.hid (heap_alloc_new w6 (.cells #[.slice a6 r6 c6, .slice none 0 0] 108))
  have lw0 := l0
  clear hS6 hb6 CS6 hRU SRC
  by_cases hend : n = at'
  · have A2 : Hid (Ints (w6.alloc (.cells #[.slice a6 r6 c6, .slice none 0 0] 108)) (.slice (some ⟨G, 0, none⟩) 0 0) q) := by
      have hsrc := SRC2.out
      rw [if_pos hend, show n - at' = 0 by omega] at hsrc
      exact hsrc
    have CS7 := Lib.hid (spans_any _ A2.out (by omega))
    clear SRC2 A2
    subst hend
    go_wp2_with fail
    refine CS7.out.mono ?_
    rintro e w7 ⟨v7, rfl, hS7, hb7⟩
    have h67 : w6.heap.size < w7.heap.size := Nat.lt_of_lt_of_le kA hb7.size
    have KA7 : w7.heap[w6.heap.size]? = some (.cells #[.slice a6 r6 c6, .slice none 0 0] 108 (0, 0)) := by
      rw [hb7.block _ kA]
      exact HA6.out
    have HBA := Lib.hid (((Below.refl _ w6).alloc (Nat.le_refl _) (.cells #[.slice a6 r6 c6, .slice none 0 0] 108)).trans (hb7.mono (Nat.le_of_lt kA)))
    have SP7 := Lib.hid hS7.spans
    obtain ⟨a7, c7, rfl⟩ := hS7.is_slice
    obtain ⟨RV, hRV⟩ : ∃ RV, RV = runs q := ⟨_, rfl⟩
    rw [← hRV] at SP7 ⊢
    generalize RV.length = r7 at *
    have HRV := Lib.hid hRV
    have KAA := Lib.hid KA7
    clear hS7 hb7 CS7 hRV KA7 HA6
    go_wp2_with fail
    go_loopw [11] (fun t wr => ∃ (i : Nat) (va vb : Value), i ≤ nt ∧ t = .int .i64 i ∧ Hid (wr.heap[w6.heap.size]? = some (.cells #[.slice a6 r6 c6, va] 108 (0, 0))) ∧ Hid (wr.heap[w7.heap.size]? = some (.cells #[.slice a7 r7 c7, vb] 108 (0, 0))) ∧ Hid (Spans wr (.slice a7 r7 c7) RV) ∧ Hid (Sites wr va (partA n T i)) ∧ Hid (Sites wr vb (partB n T i)) ∧ Below w6.heap.size w6 wr) (fun t _ => nt - (RowKit.intOf t).toNat)
    case atStart =>
      refine ⟨0, .slice none 0 0, .slice none 0 0, Nat.zero_le _, rfl, ?_, heap_alloc_new _ _, ?_, Sites.nil_ _, Sites.nil_ _, HBA.out.alloc (Nat.le_of_lt h67) _⟩
      · show _ = _
        rw [Below.heap_alloc _ _ _ h67]
        exact KAA.out
      · exact SP7.out.below ((Below.refl _ _).alloc (Nat.le_refl _) _) (Nat.le_refl _)
    case round =>
      obtain ⟨i, va, vb, hi, rfl, HK, HL, HRV2, HTA, HTB, hbel⟩ := hrel
      have HBw := Lib.hid (below_more HB6.out hbel)
      have HX := Lib.hid (below_more HX6.out hbel)
      have h76 : w7.heap.size < wr.heap.size := by
        rcases Nat.lt_or_ge w7.heap.size wr.heap.size with h | h
        · exact h
        · have := HL.out; rw [Array.getElem?_eq_none h] at this; cases this
      have s6 : W0.heap.size ≤ w6.heap.size := HX6.out.size
      have x0 : wr.cell? ⟨w.heap.size, 0, none⟩ = some (.slice sa ns sc) := below_cell HX.out (by omega) (by rw [cell_of_row _ _ _ _ _ _ H0.out]; rfl)
      have x1 : wr.cell? ⟨w.heap.size, 1, none⟩ = some (.slice ta nt tc) := below_cell HX.out (by omega) (by rw [cell_of_row _ _ _ _ _ _ H0.out]; rfl)
      have k0 : wr.cell? ⟨w6.heap.size, 0, none⟩ = some (.slice a6 r6 c6) := by rw [cell_of_row _ _ _ _ _ _ HK.out]; rfl
      have k1 : wr.cell? ⟨w6.heap.size, 1, none⟩ = some va := by rw [cell_of_row _ _ _ _ _ _ HK.out]; rfl
      have k2 : wr.cell? ⟨w7.heap.size, 0, none⟩ = some (.slice a7 r7 c7) := by rw [cell_of_row _ _ _ _ _ _ HL.out]; rfl
      have k3 : wr.cell? ⟨w7.heap.size, 1, none⟩ = some vb := by rw [cell_of_row _ _ _ _ _ _ HL.out]; rfl
      obtain ⟨at1, ct1, rfl⟩ := HTA.out.is_slice
      obtain ⟨bt1, dt1, rfl⟩ := HTB.out.is_slice
      have hpl2 := partA_len n T i
      have hpl3 := partB_len n T i
      have nAB : w7.heap.size ≠ w6.heap.size := by omega
      by_cases hlt2 : i < nt
      · have hil : i < T.length := by rw [← hnt.out]; exact hlt2
        obtain ⟨b', off, rfl, hb, ⟨⟨m1, m2⟩, ⟨q1, q2⟩⟩, c0, c1⟩ := HT.out i hil
        obtain ⟨z1, z2⟩ := HST.out i hil
        have EA : Hid (partA n T (i + 1) = if (st T i).a ≤ ((n : Nat) : Int) then siteL (partA n T i) (st T i) else partA n T i) := rfl
        have EB : Hid (partB n T (i + 1) = if (st T i).a ≤ ((n : Nat) : Int) then partB n T i else siteL (partB n T i) ⟨(st T i).m, (st T i).a - ((n : Nat) : Int)⟩) := rfl
        have hse : ∃ e, e = st T i := ⟨_, rfl⟩
        obtain ⟨e, he⟩ := hse
        rw [← he] at m1 m2 q1 q2 c0 c1 EA EB z1 z2
        obtain ⟨m, f⟩ := e
        simp only at m1 m2 q1 q2 c0 c1 EA EB z1 z2
        replace c0 := below_cell HBw.out hb c0
        replace c1 := below_cell HBw.out hb c1
        have KW := Lib.hid ((Below.refl wr.heap.size wr).alloc (Nat.le_refl _) (.cells #[.int .i64 m, .int .i64 f] 141))
        by_cases g1 : f ≤ ((n : Nat) : Int)
        · rw [if_pos g1] at EA EB
          have SG := Lib.hid (site_any ⟨m, f⟩ (wr.alloc (.cells #[.int .i64 m, .int .i64 f] 141)) (HTA.out.below KW.out (Nat.le_refl _)) (show i64 m ∧ i64 f from ⟨⟨by omega, by omega⟩, ⟨by omega, by omega⟩⟩) (by omega))
          have DONE : Hid (∀ (w8 : World) (v8 : Value), Below wr.heap.size wr w8 → Sites w8 v8 (siteL (partA n T i) ⟨m, f⟩) →
              (w8.setCell ⟨w6.heap.size, 1, none⟩ v8).heap[w6.heap.size]? = some (.cells #[.slice a6 r6 c6, v8] 108 (0, 0)) ∧ (w8.setCell ⟨w6.heap.size, 1, none⟩ v8).heap[w7.heap.size]? = some (.cells #[.slice a7 r7 c7, .slice bt1 (partB n T i).length dt1] 108 (0, 0)) ∧ Spans (w8.setCell ⟨w6.heap.size, 1, none⟩ v8) (.slice a7 r7 c7) RV ∧ Sites (w8.setCell ⟨w6.heap.size, 1, none⟩ v8) v8 (partA n T (i + 1)) ∧ Sites (w8.setCell ⟨w6.heap.size, 1, none⟩ v8) (.slice bt1 (partB n T i).length dt1) (partB n T (i + 1)) ∧ Below w6.heap.size w6 (w8.setCell ⟨w6.heap.size, 1, none⟩ v8) ∧
              w8.cell? ⟨w6.heap.size, 1, none⟩ = some (.slice at1 (partA n T i).length ct1) ∧ w8.frozen? ⟨w6.heap.size, 1, none⟩ = false) := fun w8 v8 hb8 h8 => by
            have hK8 : w8.heap[w6.heap.size]? = some (.cells #[.slice a6 r6 c6, .slice at1 (partA n T i).length ct1] 108 (0, 0)) := by
              rw [hb8.block _ (by omega)]
              exact HK.out
            refine ⟨?_, ?_, Fl.setBlock (HRV2.out.below hb8 (Nat.le_refl _)) (by decide) hK8, ?_, ?_, ?_, ?_, block_frozen hK8⟩
            · rw [heap_setCell_same _ _ _ _ _ _ hK8]
              rfl
            · rw [Below.heap_setCell _ _ _ _ (by exact nAB), hb8.block _ h76]
              exact HL.out
            · rw [EA.out]
              exact Fl.setBlock h8 (by decide) hK8
            · rw [EB.out]
              exact Fl.setBlock (HTB.out.below hb8 (Nat.le_refl _)) (by decide) hK8
            · exact (below_more hbel hb8).setCell (p := ⟨w6.heap.size, 1, none⟩) (Nat.le_refl _) v8
            · rw [cell_of_row _ _ _ _ _ _ hK8]
              rfl
          generalize (partA n T i).length = lp at *
          generalize (partB n T i).length = lq at *
          have hne : ¬ w6.heap.size = wr.heap.size := by omega
          have hne2 : ¬ wr.heap.size = w6.heap.size := by omega
          have hw68 : w6.heap.size < wr.heap.size := by omega
          clear hbel HT HST HK HL HTA HTB he EA EB HRV2
          go_wp2_with fail
          refine SG.out.mono ?_
          rintro e w8 ⟨v8, rfl, h8, hb8⟩
          obtain ⟨D1, D2, D3, D4, D5, D6, D7, D8⟩ := DONE.out w8 v8 (below_more KW.out hb8) h8
          have E1 := Lib.hid D1
          have E2 := Lib.hid D2
          have E3 := Lib.hid D3
          have E4 := Lib.hid D4
          have E5 := Lib.hid D5
          have E6 := Lib.hid D6
          obtain ⟨a8, c8, rfl⟩ := h8.is_slice
          have l8 : w6.heap.size < w8.heap.size := Nat.lt_of_lt_of_le hw68 (below_more KW.out hb8).size
          clear D1 D2 D3 D4 D5 D6 h8 hb8 SG KW DONE
          go_wp2_with fail
          go_roundw
          case rel => exact ⟨i + 1, _, _, by omega, by go_num, E1.out, E2.out, E3.out, E4.out, E5.out, E6.out⟩
          case measure => simp [RowKit.intOf]; omega
        · rw [if_neg g1] at EA EB
          exact absurd z2 (by omega)
      · obtain rfl : i = nt := by omega
        have r1 : wr.heap[w.heap.size + 1]? = some (.cells #[.slice none 0 0, .slice none 0 0] 108 (0, 0)) := by
          rw [HX.out.block _ (by omega)]
          exact H0'.out
        have r2 : wr.heap[w.heap.size + 1 + 1]? = some (.cells #[.slice none 0 0, .slice none 0 0] 108 (0, 0)) := by
          rw [HX.out.block _ (by omega)]
          exact H0''.out
        have u0 : wr.cell? ⟨w.heap.size + 1, 0, none⟩ = some (.slice none 0 0) := by rw [cell_of_row _ _ _ _ _ _ r1]; rfl
        have u1 : wr.cell? ⟨w.heap.size + 1, 1, none⟩ = some (.slice none 0 0) := by rw [cell_of_row _ _ _ _ _ _ r1]; rfl
        have u2 : wr.cell? ⟨w.heap.size + 1 + 1, 0, none⟩ = some (.slice none 0 0) := by rw [cell_of_row _ _ _ _ _ _ r2]; rfl
        have u3 : wr.cell? ⟨w.heap.size + 1 + 1, 1, none⟩ = some (.slice none 0 0) := by rw [cell_of_row _ _ _ _ _ _ r2]; rfl
        have f0 : wr.frozen? ⟨w.heap.size + 1, 0, none⟩ = false := block_frozen r1
        have f1 : wr.frozen? ⟨w.heap.size + 1, 1, none⟩ = false := block_frozen r1
        have f2 : wr.frozen? ⟨w.heap.size + 1 + 1, 0, none⟩ = false := block_frozen r2
        have f3 : wr.frozen? ⟨w.heap.size + 1 + 1, 1, none⟩ = false := block_frozen r2
        have FS := Lib.hid (SP6.out.below hbel (Nat.le_refl _))
        have FIN := Lib.hid (give_end2 (B := w.heap.size + 1) (B' := w.heap.size + 1 + 1) (Nat.le_add_right _ 1) (Nat.le_trans (Nat.le_add_right _ 1) (Nat.le_add_right _ 1)) (by omega) r1 r2 FS.out HTA.out HRV2.out HTB.out HBw.out)
        have r2' : ((wr.setCell ⟨w.heap.size + 1, 0, none⟩ (.slice a6 r6 c6)).setCell ⟨w.heap.size + 1, 1, none⟩ (.slice at1 (partA n T i).length ct1)).heap[w.heap.size + 1 + 1]? = some (.cells #[.slice none 0 0, .slice none 0 0] 108 (0, 0)) := by
          rw [Below.heap_setCell _ _ _ _ (by show w.heap.size + 1 + 1 ≠ w.heap.size + 1; omega), Below.heap_setCell _ _ _ _ (by show w.heap.size + 1 + 1 ≠ w.heap.size + 1; omega)]
          exact r2
        obtain ⟨y0, y1⟩ := res_cells (a1 := a6) (n1 := r6) (c1 := c6) (a2 := at1) (n2 := (partA n T i).length) (c2 := ct1) r1
        obtain ⟨y2, y3⟩ := res_cells (a1 := a7) (n1 := r7) (c1 := c7) (a2 := bt1) (n2 := (partB n T i).length) (c2 := dt1) r2'
        clear hbel r1 r2 r2'
        generalize (partA n T i).length = lp at *
        generalize (partB n T i).length = lq at *
        have n1 : ¬ w.heap.size + 1 = w6.heap.size := by omega
        have n2 : ¬ w.heap.size + 1 = w7.heap.size := by omega
        have n3 : ¬ w.heap.size + 1 + 1 = w6.heap.size := by omega
        have n4 : ¬ w.heap.size + 1 + 1 = w7.heap.size := by omega
        go_wp2_with fail
        go_region
        go_wp2_with fail
        exact bodyPost_ret (v := .tuple #[.agg #[.slice a6 r6 c6, .slice at1 lp ct1], .agg #[.slice a7 r7 c7, .slice bt1 lq dt1]]) (by simp [results, Tryd.results65, go_sem, y0, y1, y2, y3]) rfl (by rw [← HP.out, ← HQ.out, ← HRU.out, ← HRV.out]; exact FIN.out)
  · have A2 : Hid (Ints (w6.alloc (.cells #[.slice a6 r6 c6, .slice none 0 0] 108)) (.slice (some ⟨G, at', none⟩) (n - at') (n - at')) q) := by
      have hsrc := SRC2.out
      rw [if_neg hend] at hsrc
      exact hsrc
    have CS7 := Lib.hid (spans_any _ A2.out (by omega))
    clear SRC2 A2
    go_wp2_with fail
    refine CS7.out.mono ?_
    rintro e w7 ⟨v7, rfl, hS7, hb7⟩
    have h67 : w6.heap.size < w7.heap.size := Nat.lt_of_lt_of_le kA hb7.size
    have KA7 : w7.heap[w6.heap.size]? = some (.cells #[.slice a6 r6 c6, .slice none 0 0] 108 (0, 0)) := by
      rw [hb7.block _ kA]
      exact HA6.out
    have HBA := Lib.hid (((Below.refl _ w6).alloc (Nat.le_refl _) (.cells #[.slice a6 r6 c6, .slice none 0 0] 108)).trans (hb7.mono (Nat.le_of_lt kA)))
    have SP7 := Lib.hid hS7.spans
    obtain ⟨a7, c7, rfl⟩ := hS7.is_slice
    obtain ⟨RV, hRV⟩ : ∃ RV, RV = runs q := ⟨_, rfl⟩
    rw [← hRV] at SP7 ⊢
    generalize RV.length = r7 at *
    have HRV := Lib.hid hRV
    have KAA := Lib.hid KA7
    clear hS7 hb7 CS7 hRV KA7 HA6
    go_wp2_with fail
    go_loopw [11] (fun t wr => ∃ (i : Nat) (va vb : Value), i ≤ nt ∧ t = .int .i64 i ∧ Hid (wr.heap[w6.heap.size]? = some (.cells #[.slice a6 r6 c6, va] 108 (0, 0))) ∧ Hid (wr.heap[w7.heap.size]? = some (.cells #[.slice a7 r7 c7, vb] 108 (0, 0))) ∧ Hid (Spans wr (.slice a7 r7 c7) RV) ∧ Hid (Sites wr va (partA at' T i)) ∧ Hid (Sites wr vb (partB at' T i)) ∧ Below w6.heap.size w6 wr) (fun t _ => nt - (RowKit.intOf t).toNat)
    case atStart =>
      refine ⟨0, .slice none 0 0, .slice none 0 0, Nat.zero_le _, rfl, ?_, heap_alloc_new _ _, ?_, Sites.nil_ _, Sites.nil_ _, HBA.out.alloc (Nat.le_of_lt h67) _⟩
      · show _ = _
        rw [Below.heap_alloc _ _ _ h67]
        exact KAA.out
      · exact SP7.out.below ((Below.refl _ _).alloc (Nat.le_refl _) _) (Nat.le_refl _)
    case round =>
      obtain ⟨i, va, vb, hi, rfl, HK, HL, HRV2, HTA, HTB, hbel⟩ := hrel
      have HBw := Lib.hid (below_more HB6.out hbel)
      have HX := Lib.hid (below_more HX6.out hbel)
      have h76 : w7.heap.size < wr.heap.size := by
        rcases Nat.lt_or_ge w7.heap.size wr.heap.size with h | h
        · exact h
        · have := HL.out; rw [Array.getElem?_eq_none h] at this; cases this
      have s6 : W0.heap.size ≤ w6.heap.size := HX6.out.size
      have x0 : wr.cell? ⟨w.heap.size, 0, none⟩ = some (.slice sa ns sc) := below_cell HX.out (by omega) (by rw [cell_of_row _ _ _ _ _ _ H0.out]; rfl)
      have x1 : wr.cell? ⟨w.heap.size, 1, none⟩ = some (.slice ta nt tc) := below_cell HX.out (by omega) (by rw [cell_of_row _ _ _ _ _ _ H0.out]; rfl)
      have k0 : wr.cell? ⟨w6.heap.size, 0, none⟩ = some (.slice a6 r6 c6) := by rw [cell_of_row _ _ _ _ _ _ HK.out]; rfl
      have k1 : wr.cell? ⟨w6.heap.size, 1, none⟩ = some va := by rw [cell_of_row _ _ _ _ _ _ HK.out]; rfl
      have k2 : wr.cell? ⟨w7.heap.size, 0, none⟩ = some (.slice a7 r7 c7) := by rw [cell_of_row _ _ _ _ _ _ HL.out]; rfl
      have k3 : wr.cell? ⟨w7.heap.size, 1, none⟩ = some vb := by rw [cell_of_row _ _ _ _ _ _ HL.out]; rfl
      obtain ⟨at1, ct1, rfl⟩ := HTA.out.is_slice
      obtain ⟨bt1, dt1, rfl⟩ := HTB.out.is_slice
      have hpl2 := partA_len at' T i
      have hpl3 := partB_len at' T i
      have nAB : w7.heap.size ≠ w6.heap.size := by omega
      by_cases hlt2 : i < nt
      · have hil : i < T.length := by rw [← hnt.out]; exact hlt2
        obtain ⟨b', off, rfl, hb, ⟨⟨m1, m2⟩, ⟨q1, q2⟩⟩, c0, c1⟩ := HT.out i hil
        obtain ⟨z1, z2⟩ := HST.out i hil
        have EA : Hid (partA at' T (i + 1) = if (st T i).a ≤ ((at' : Nat) : Int) then siteL (partA at' T i) (st T i) else partA at' T i) := rfl
        have EB : Hid (partB at' T (i + 1) = if (st T i).a ≤ ((at' : Nat) : Int) then partB at' T i else siteL (partB at' T i) ⟨(st T i).m, (st T i).a - ((at' : Nat) : Int)⟩) := rfl
        have hse : ∃ e, e = st T i := ⟨_, rfl⟩
        obtain ⟨e, he⟩ := hse
        rw [← he] at m1 m2 q1 q2 c0 c1 EA EB z1 z2
        obtain ⟨m, f⟩ := e
        simp only at m1 m2 q1 q2 c0 c1 EA EB z1 z2
        replace c0 := below_cell HBw.out hb c0
        replace c1 := below_cell HBw.out hb c1
        have KW := Lib.hid ((Below.refl wr.heap.size wr).alloc (Nat.le_refl _) (.cells #[.int .i64 m, .int .i64 f] 141))
        by_cases g1 : f ≤ ((at' : Nat) : Int)
        · rw [if_pos g1] at EA EB
          have SG := Lib.hid (site_any ⟨m, f⟩ (wr.alloc (.cells #[.int .i64 m, .int .i64 f] 141)) (HTA.out.below KW.out (Nat.le_refl _)) (show i64 m ∧ i64 f from ⟨⟨by omega, by omega⟩, ⟨by omega, by omega⟩⟩) (by omega))
          have DONE : Hid (∀ (w8 : World) (v8 : Value), Below wr.heap.size wr w8 → Sites w8 v8 (siteL (partA at' T i) ⟨m, f⟩) →
              (w8.setCell ⟨w6.heap.size, 1, none⟩ v8).heap[w6.heap.size]? = some (.cells #[.slice a6 r6 c6, v8] 108 (0, 0)) ∧ (w8.setCell ⟨w6.heap.size, 1, none⟩ v8).heap[w7.heap.size]? = some (.cells #[.slice a7 r7 c7, .slice bt1 (partB at' T i).length dt1] 108 (0, 0)) ∧ Spans (w8.setCell ⟨w6.heap.size, 1, none⟩ v8) (.slice a7 r7 c7) RV ∧ Sites (w8.setCell ⟨w6.heap.size, 1, none⟩ v8) v8 (partA at' T (i + 1)) ∧ Sites (w8.setCell ⟨w6.heap.size, 1, none⟩ v8) (.slice bt1 (partB at' T i).length dt1) (partB at' T (i + 1)) ∧ Below w6.heap.size w6 (w8.setCell ⟨w6.heap.size, 1, none⟩ v8) ∧
              w8.cell? ⟨w6.heap.size, 1, none⟩ = some (.slice at1 (partA at' T i).length ct1) ∧ w8.frozen? ⟨w6.heap.size, 1, none⟩ = false) := fun w8 v8 hb8 h8 => by
            have hK8 : w8.heap[w6.heap.size]? = some (.cells #[.slice a6 r6 c6, .slice at1 (partA at' T i).length ct1] 108 (0, 0)) := by
              rw [hb8.block _ (by omega)]
              exact HK.out
            refine ⟨?_, ?_, Fl.setBlock (HRV2.out.below hb8 (Nat.le_refl _)) (by decide) hK8, ?_, ?_, ?_, ?_, block_frozen hK8⟩
            · rw [heap_setCell_same _ _ _ _ _ _ hK8]
              rfl
            · rw [Below.heap_setCell _ _ _ _ (by exact nAB), hb8.block _ h76]
              exact HL.out
            · rw [EA.out]
              exact Fl.setBlock h8 (by decide) hK8
            · rw [EB.out]
              exact Fl.setBlock (HTB.out.below hb8 (Nat.le_refl _)) (by decide) hK8
            · exact (below_more hbel hb8).setCell (p := ⟨w6.heap.size, 1, none⟩) (Nat.le_refl _) v8
            · rw [cell_of_row _ _ _ _ _ _ hK8]
              rfl
          generalize (partA at' T i).length = lp at *
          generalize (partB at' T i).length = lq at *
          have hne : ¬ w6.heap.size = wr.heap.size := by omega
          have hne2 : ¬ wr.heap.size = w6.heap.size := by omega
          have hw68 : w6.heap.size < wr.heap.size := by omega
          clear hbel HT HST HK HL HTA HTB he EA EB HRV2
          go_wp2_with fail
          refine SG.out.mono ?_
          rintro e w8 ⟨v8, rfl, h8, hb8⟩
          obtain ⟨D1, D2, D3, D4, D5, D6, D7, D8⟩ := DONE.out w8 v8 (below_more KW.out hb8) h8
          have E1 := Lib.hid D1
          have E2 := Lib.hid D2
          have E3 := Lib.hid D3
          have E4 := Lib.hid D4
          have E5 := Lib.hid D5
          have E6 := Lib.hid D6
          obtain ⟨a8, c8, rfl⟩ := h8.is_slice
          have l8 : w6.heap.size < w8.heap.size := Nat.lt_of_lt_of_le hw68 (below_more KW.out hb8).size
          clear D1 D2 D3 D4 D5 D6 h8 hb8 SG KW DONE
          go_wp2_with fail
          go_roundw
          case rel => exact ⟨i + 1, _, _, by omega, by go_num, E1.out, E2.out, E3.out, E4.out, E5.out, E6.out⟩
          case measure => simp [RowKit.intOf]; omega
        · rw [if_neg g1] at EA EB
          have SG := Lib.hid (site_any ⟨m, f - ((at' : Nat) : Int)⟩ (wr.alloc (.cells #[.int .i64 m, .int .i64 f] 141)) (HTB.out.below KW.out (Nat.le_refl _)) (show i64 m ∧ i64 (f - ((at' : Nat) : Int)) from ⟨⟨by omega, by omega⟩, ⟨by omega, by omega⟩⟩) (by omega))
          have DONE : Hid (∀ (w8 : World) (v8 : Value), Below wr.heap.size wr w8 → Sites w8 v8 (siteL (partB at' T i) ⟨m, f - ((at' : Nat) : Int)⟩) →
              (w8.setCell ⟨w7.heap.size, 1, none⟩ v8).heap[w6.heap.size]? = some (.cells #[.slice a6 r6 c6, .slice at1 (partA at' T i).length ct1] 108 (0, 0)) ∧ (w8.setCell ⟨w7.heap.size, 1, none⟩ v8).heap[w7.heap.size]? = some (.cells #[.slice a7 r7 c7, v8] 108 (0, 0)) ∧ Spans (w8.setCell ⟨w7.heap.size, 1, none⟩ v8) (.slice a7 r7 c7) RV ∧ Sites (w8.setCell ⟨w7.heap.size, 1, none⟩ v8) (.slice at1 (partA at' T i).length ct1) (partA at' T (i + 1)) ∧ Sites (w8.setCell ⟨w7.heap.size, 1, none⟩ v8) v8 (partB at' T (i + 1)) ∧ Below w6.heap.size w6 (w8.setCell ⟨w7.heap.size, 1, none⟩ v8) ∧
              w8.cell? ⟨w7.heap.size, 1, none⟩ = some (.slice bt1 (partB at' T i).length dt1) ∧ w8.frozen? ⟨w7.heap.size, 1, none⟩ = false) := fun w8 v8 hb8 h8 => by
            have hK8 : w8.heap[w7.heap.size]? = some (.cells #[.slice a7 r7 c7, .slice bt1 (partB at' T i).length dt1] 108 (0, 0)) := by
              rw [hb8.block _ (by omega)]
              exact HL.out
            refine ⟨?_, ?_, Fl.setBlock (HRV2.out.below hb8 (Nat.le_refl _)) (by decide) hK8, ?_, ?_, ?_, ?_, block_frozen hK8⟩
            · rw [Below.heap_setCell _ _ _ _ (by exact nAB.symm), hb8.block _ (by omega)]
              exact HK.out
            · rw [heap_setCell_same _ _ _ _ _ _ hK8]
              rfl
            · rw [EA.out]
              exact Fl.setBlock (HTA.out.below hb8 (Nat.le_refl _)) (by decide) hK8
            · rw [EB.out]
              exact Fl.setBlock h8 (by decide) hK8
            · exact (below_more hbel hb8).setCell (p := ⟨w7.heap.size, 1, none⟩) (Nat.le_of_lt h67) v8
            · rw [cell_of_row _ _ _ _ _ _ hK8]
              rfl
          generalize (partA at' T i).length = lp at *
          generalize (partB at' T i).length = lq at *
          have hne : ¬ w7.heap.size = wr.heap.size := by omega
          have hne2 : ¬ wr.heap.size = w7.heap.size := by omega
          have hw68 : w7.heap.size < wr.heap.size := by omega
          clear hbel HT HST HK HL HTA HTB he EA EB HRV2
          go_wp2_with fail
          refine SG.out.mono ?_
          rintro e w8 ⟨v8, rfl, h8, hb8⟩
          obtain ⟨D1, D2, D3, D4, D5, D6, D7, D8⟩ := DONE.out w8 v8 (below_more KW.out hb8) h8
          have E1 := Lib.hid D1
          have E2 := Lib.hid D2
          have E3 := Lib.hid D3
          have E4 := Lib.hid D4
          have E5 := Lib.hid D5
          have E6 := Lib.hid D6
          obtain ⟨a8, c8, rfl⟩ := h8.is_slice
          have l8 : w7.heap.size < w8.heap.size := Nat.lt_of_lt_of_le hw68 (below_more KW.out hb8).size
          clear D1 D2 D3 D4 D5 D6 h8 hb8 SG KW DONE
          go_wp2_with fail
          go_roundw
          case rel => exact ⟨i + 1, _, _, by omega, by go_num, E1.out, E2.out, E3.out, E4.out, E5.out, E6.out⟩
          case measure => simp [RowKit.intOf]; omega
      · obtain rfl : i = nt := by omega
        have r1 : wr.heap[w.heap.size + 1]? = some (.cells #[.slice none 0 0, .slice none 0 0] 108 (0, 0)) := by
          rw [HX.out.block _ (by omega)]
          exact H0'.out
        have r2 : wr.heap[w.heap.size + 1 + 1]? = some (.cells #[.slice none 0 0, .slice none 0 0] 108 (0, 0)) := by
          rw [HX.out.block _ (by omega)]
          exact H0''.out
        have u0 : wr.cell? ⟨w.heap.size + 1, 0, none⟩ = some (.slice none 0 0) := by rw [cell_of_row _ _ _ _ _ _ r1]; rfl
        have u1 : wr.cell? ⟨w.heap.size + 1, 1, none⟩ = some (.slice none 0 0) := by rw [cell_of_row _ _ _ _ _ _ r1]; rfl
        have u2 : wr.cell? ⟨w.heap.size + 1 + 1, 0, none⟩ = some (.slice none 0 0) := by rw [cell_of_row _ _ _ _ _ _ r2]; rfl
        have u3 : wr.cell? ⟨w.heap.size + 1 + 1, 1, none⟩ = some (.slice none 0 0) := by rw [cell_of_row _ _ _ _ _ _ r2]; rfl
        have f0 : wr.frozen? ⟨w.heap.size + 1, 0, none⟩ = false := block_frozen r1
        have f1 : wr.frozen? ⟨w.heap.size + 1, 1, none⟩ = false := block_frozen r1
        have f2 : wr.frozen? ⟨w.heap.size + 1 + 1, 0, none⟩ = false := block_frozen r2
        have f3 : wr.frozen? ⟨w.heap.size + 1 + 1, 1, none⟩ = false := block_frozen r2
        have FS := Lib.hid (SP6.out.below hbel (Nat.le_refl _))
        have FIN := Lib.hid (give_end2 (B := w.heap.size + 1) (B' := w.heap.size + 1 + 1) (Nat.le_add_right _ 1) (Nat.le_trans (Nat.le_add_right _ 1) (Nat.le_add_right _ 1)) (by omega) r1 r2 FS.out HTA.out HRV2.out HTB.out HBw.out)
        have r2' : ((wr.setCell ⟨w.heap.size + 1, 0, none⟩ (.slice a6 r6 c6)).setCell ⟨w.heap.size + 1, 1, none⟩ (.slice at1 (partA at' T i).length ct1)).heap[w.heap.size + 1 + 1]? = some (.cells #[.slice none 0 0, .slice none 0 0] 108 (0, 0)) := by
          rw [Below.heap_setCell _ _ _ _ (by show w.heap.size + 1 + 1 ≠ w.heap.size + 1; omega), Below.heap_setCell _ _ _ _ (by show w.heap.size + 1 + 1 ≠ w.heap.size + 1; omega)]
          exact r2
        obtain ⟨y0, y1⟩ := res_cells (a1 := a6) (n1 := r6) (c1 := c6) (a2 := at1) (n2 := (partA at' T i).length) (c2 := ct1) r1
        obtain ⟨y2, y3⟩ := res_cells (a1 := a7) (n1 := r7) (c1 := c7) (a2 := bt1) (n2 := (partB at' T i).length) (c2 := dt1) r2'
        clear hbel r1 r2 r2'
        generalize (partA at' T i).length = lp at *
        generalize (partB at' T i).length = lq at *
        have n1 : ¬ w.heap.size + 1 = w6.heap.size := by omega
        have n2 : ¬ w.heap.size + 1 = w7.heap.size := by omega
        have n3 : ¬ w.heap.size + 1 + 1 = w6.heap.size := by omega
        have n4 : ¬ w.heap.size + 1 + 1 = w7.heap.size := by omega
        go_wp2_with fail
        go_region
        go_wp2_with fail
        exact bodyPost_ret (v := .tuple #[.agg #[.slice a6 r6 c6, .slice at1 lp ct1], .agg #[.slice a7 r7 c7, .slice bt1 lq dt1]]) (by simp [results, Tryd.results65, go_sem, y0, y1, y2, y3]) rfl (by rw [← HP.out, ← HQ.out, ← HRU.out, ← HRV.out]; exact FIN.out)
end Go.Proofs.YtkgdfclpogiemaaDoor.Rig

namespace Go.Proofs.YtkgdfclpogiemaaDoor.Rig
open Go.RowKit Go.Lib Go.Proofs.YtkgdfclpogiemaaDoor.Rt

def dropS (S : List Sp) (mk : Int) : List Sp := S.filter fun s => decide (s.m ≠ mk)
def dropT (T : List St) (mk : Int) : List St := T.filter fun s => decide (s.m ≠ mk)
theorem dropS_take {S : List Sp} {k : Nat} (mk : Int) (h : k < S.length) : dropS (S.take (k + 1)) mk = dropS (S.take k) mk ++ (if (sp S k).m = mk then [] else [sp S k]) := by
  unfold dropS
  rw [List.take_succ_eq_append_getElem h, List.filter_append, sp_get h]
  by_cases e : S[k].m = mk
  · rw [if_pos e]; simp [e]
  · rw [if_neg e]; simp [e]
theorem dropT_take {T : List St} {k : Nat} (mk : Int) (h : k < T.length) : dropT (T.take (k + 1)) mk = dropT (T.take k) mk ++ (if (st T k).m = mk then [] else [st T k]) := by
  unfold dropT
  rw [List.take_succ_eq_append_getElem h, List.filter_append, st_get h]
  by_cases e : T[k].m = mk
  · rw [if_pos e]; simp [e]
  · rw [if_neg e]; simp [e]
theorem dropS_len (S : List Sp) (mk : Int) (k : Nat) : (dropS (S.take k) mk).length ≤ k := by
  unfold dropS
  have h1 := List.length_filter_le (fun s : Sp => decide (s.m ≠ mk)) (S.take k)
  have h2 := List.length_take_le k S
  omega
theorem dropT_len (T : List St) (mk : Int) (k : Nat) : (dropT (T.take k) mk).length ≤ k := by
  unfold dropT
  have h1 := List.length_filter_le (fun s : St => decide (s.m ≠ mk)) (T.take k)
  have h2 := List.length_take_le k T
  omega
/-- The append of one record, as a step of a region that draws. -/
theorem step_append_rec {w : World} {ops : Array Oper} {o : Oper} {a : Act} {K : Act → World → Prop} {Q : Exit → Act → World → Prop} {E : Prop} (hgd : o.guard = none) (s x : Operand) (tS e : TypeId) (k bytes : Nat) (z : Value)
    (ht : Tryd.prog.underlying tS = some (.slice e)) (hinfo : (Tryd.prog.info? e).map (fun i => (i.zero, i.size, i.bytes)) = some (some z, k, bytes)) (hzs : z.cells.size = k) (hk : 0 < k) (hby : bytes ≤ 1000)
    (ho : o.op = .call { callee := .builtin .append, args := #[s, x], argTypes := #[tS, tS] }) (base : Nat) (v : Value) (n : Nat) (zs : List Int) (hs : a.eval s = v) (hown : OwnF e base w v n k zs)
    (b : Nat) (ys : List Int) (hx : a.eval x = .slice (some ⟨b, 0, none⟩) 1 1) (hb : w.heap[b]? = some (.cells (ints ys).toArray e (0, 0))) (hyl : ys.length = k) (hy : ∀ y ∈ ys, i64 y) (hn : n ≤ 100000) (hbase : base ≤ w.heap.size)
    (h : ∀ v' w', OwnF e base w' v' (n + 1) k (zs ++ ys) → w.grownBy w' v.ownBlock → K (a.put o.dst v') w') : if Region.wanted o (yielded ops a.tmps) = true then Oper.wp Tryd.prog o a w K Q else E := by
  have hw : Region.wanted o (yielded ops a.tmps) = true := by simp [Region.wanted, hgd]
  rw [if_pos hw]
  obtain ⟨i0, hi, hz0, hz1, hz2⟩ := info_parts hinfo
  have hbig : (n + 1) * bytes ≤ 140737488355328 := Nat.le_trans (Nat.mul_le_mul (show n + 1 ≤ 100001 by omega) hby) (by decide)
  refine wp_append_own w s x tS ho base e i0 z k bytes ht hi hz0 hz1 hz2 hzs hk v n (ints zs) hs hown.1 ⟨b, 0, none⟩ 1 1 (ints ys) hx (by rw [ints_len]; omega) ?_ ints_one (by unfold maxLen; omega) hbig hbase ?_
  · intro j u hj
    have hadd : (⟨b, 0, none⟩ : Addr).add j = ⟨b, j, none⟩ := by unfold Addr.add; split <;> simp_all
    rw [hadd, cell_of_row w b j _ _ (0, 0) hb]
    simpa using hj
  · intro v' w' h1 h2 _
    refine h v' w' ⟨?_, fun q hq => ?_⟩ h2
    · rw [ints_app]
      exact h1
    · rw [List.mem_append] at hq
      rcases hq with hq | hq
      · exact hown.2 q hq
      · exact hy q hq
theorem grown_setCell {w : World} (B i : Nat) (u : Value) : w.grownBy (w.setCell ⟨B, i, none⟩ u) (some B) := ⟨rfl, rfl, rfl, by simp, fun q hq hne => Below.heap_setCell _ _ _ _ (fun e => hne (by rw [e]))⟩

end Go.Proofs.YtkgdfclpogiemaaDoor.Rig
