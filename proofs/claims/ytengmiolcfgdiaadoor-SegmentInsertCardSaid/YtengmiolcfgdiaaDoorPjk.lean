/- What Put and Take of the program have in common: a row that is joined to while another one is read. -/
import Derived.Test.YtengmiolcfgdiaaDoorPjoin
set_option linter.unusedVariables false
namespace Go.Proofs.YtengmiolcfgdiaaDoor.Rig
open Go.RowKit Go.Lib Go.Proofs.YtengmiolcfgdiaaDoor.Rt

/-- A row of spans that grows, one of sites that grows; two records from which is read. -/
structure PJ (W0 : World) (B9 B10 : Nat) (v1 v2 v3 v4 : Value) (SB : List Sp) (TB : List St) (w : World) (u : Value) (R : List Sp) (s : Value) (Q : List St) : Prop where
  r9 : w.heap[B9]? = some (.cells #[v1, v2] 29 (0, 0))
  r10 : w.heap[B10]? = some (.cells #[v3, v4] 29 (0, 0))
  row : OwnSp W0.heap.size w u R
  site : OwnSt W0.heap.size w s Q
  fst : OwnSp W0.heap.size w v3 SB
  snd : OwnSt W0.heap.size w v4 TB
  a1 : Aprt u v3
  a2 : Aprt s v4
  old : Below W0.heap.size W0 w
theorem row_lt {w : World} {b : Nat} {o : Obj} (h : w.heap[b]? = some o) : b < w.heap.size := (Array.getElem?_eq_some_iff.1 h).1
theorem Aprt.far {v v' u : Value} {N : Nat} (h : Aprt v u) (hat : v'.ownBlock = v.ownBlock ∨ ∃ g, v'.ownBlock = some g ∧ N ≤ g) (hu : ∀ g, u.ownBlock = some g → g < N) : Aprt v' u := fun g h1 h2 => by
  rcases hat with e | ⟨q, e, hq⟩
  · exact h g (e.symm.trans h1) h2
  · have := hu g h2
    rw [e] at h1
    injection h1 with h1
    omega
theorem PJ.join {W0 w w' : World} {B9 B10 : Nat} {v1 v2 v3 v4 u s u' : Value} {SB R R' : List Sp} {TB Q : List St} (h : PJ W0 B9 B10 v1 v2 v3 v4 SB TB w u R s Q) (K : OwnSp W0.heap.size w' u' R') (g : w.grownBy w' u.ownBlock) (hat : u'.ownBlock = u.ownBlock ∨ ∃ g, u'.ownBlock = some g ∧ w.heap.size ≤ g) :
    PJ W0 B9 B10 v1 v2 v3 v4 SB TB w' u' R' s Q where
  r9 := by rw [g.block _ (row_lt h.r9) (fun e => own_ne_block h.row h.r9 (by decide) e.symm)]; exact h.r9
  r10 := by rw [g.block _ (row_lt h.r10) (fun e => own_ne_block h.row h.r10 (by decide) e.symm)]; exact h.r10
  row := K
  site := OwnF.kept h.site g (own_ne h.site h.row (by decide))
  fst := OwnF.kept h.fst g h.a1.symm.ne
  snd := OwnF.kept h.snd g (own_ne h.snd h.row (by decide))
  a1 := h.a1.far hat (fun q hq => (OwnF.block h.fst q hq).2)
  a2 := h.a2
  old := h.old.grown g h.old.size (fun q e => (OwnF.block h.row q e).1)
theorem PJ.app {W0 w w' : World} {B9 B10 : Nat} {v1 v2 v3 v4 u s s' : Value} {SB R : List Sp} {TB Q Q' : List St} (h : PJ W0 B9 B10 v1 v2 v3 v4 SB TB w u R s Q) (K : OwnSt W0.heap.size w' s' Q') (g : w.grownBy w' s.ownBlock) (hat : s'.ownBlock = s.ownBlock ∨ ∃ g, s'.ownBlock = some g ∧ w.heap.size ≤ g) :
    PJ W0 B9 B10 v1 v2 v3 v4 SB TB w' u R s' Q' where
  r9 := by rw [g.block _ (row_lt h.r9) (fun e => own_ne_block h.site h.r9 (by decide) e.symm)]; exact h.r9
  r10 := by rw [g.block _ (row_lt h.r10) (fun e => own_ne_block h.site h.r10 (by decide) e.symm)]; exact h.r10
  row := OwnF.kept h.row g (own_ne h.row h.site (by decide))
  site := K
  fst := OwnF.kept h.fst g (own_ne h.fst h.site (by decide))
  snd := OwnF.kept h.snd g h.a2.symm.ne
  a1 := h.a1
  a2 := h.a2.far hat (fun q hq => (OwnF.block h.snd q hq).2)
  old := h.old.grown g h.old.size (fun q e => (OwnF.block h.site q e).1)
theorem PJ.below {W0 w w' : World} {B9 B10 : Nat} {v1 v2 v3 v4 u s : Value} {SB R : List Sp} {TB Q : List St} (h : PJ W0 B9 B10 v1 v2 v3 v4 SB TB w u R s Q) (hb : Below w.heap.size w w') : PJ W0 B9 B10 v1 v2 v3 v4 SB TB w' u R s Q where
  r9 := by rw [hb.block _ (row_lt h.r9)]; exact h.r9
  r10 := by rw [hb.block _ (row_lt h.r10)]; exact h.r10
  row := OwnF.below h.row hb
  site := OwnF.below h.site hb
  fst := OwnF.below h.fst hb
  snd := OwnF.below h.snd hb
  a1 := h.a1
  a2 := h.a2
  old := below_more h.old hb
theorem PJ.alloc {W0 w : World} {B9 B10 : Nat} {v1 v2 v3 v4 u s : Value} {SB R : List Sp} {TB Q : List St} (h : PJ W0 B9 B10 v1 v2 v3 v4 SB TB w u R s Q) (o : Obj) : PJ W0 B9 B10 v1 v2 v3 v4 SB TB (w.alloc o) u R s Q :=
  h.below ((Below.refl _ w).alloc (Nat.le_refl _) o)
theorem mvS_take {S : List Sp} {k : Nat} (d : Int) (h : k < S.length) : mvS d (S.take (k + 1)) = mvS d (S.take k) ++ [⟨(sp S k).m, (sp S k).f + d, (sp S k).t + d⟩] := by
  unfold mvS
  rw [List.take_succ_eq_append_getElem h, List.map_append, sp_get h]
  rfl
theorem joins_snoc (R L : List Sp) (x : Sp) : joins R (L ++ [x]) = joinL (joins R L) x := by unfold joins; rw [List.foldl_append]; rfl
theorem joinL_len (R : List Sp) (x : Sp) : (joinL R x).length ≤ R.length + 1 := by
  unfold joinL
  split
  · rw [List.length_set]; omega
  · rw [List.length_append]; simp
theorem joins_len : ∀ (L R : List Sp), (joins R L).length ≤ R.length + L.length
  | [], R => Nat.le_refl _
  | x :: L, R => by
    have h1 := joins_len L (joinL R x)
    have h2 := joinL_len R x
    rw [List.length_cons]
    show (joins (joinL R x) L).length ≤ _
    omega
theorem mvS_len (d : Int) (S : List Sp) : (mvS d S).length = S.length := List.length_map _
theorem give_one {w W : World} {base : Nat} {S : List Sp} {L : List St} {B : Nat} {v1 v2 : Value} (hB : w.heap.size ≤ B) (r0 : W.heap[B]? = some (.cells #[.slice none 0 0, .slice none 0 0] 29 (0, 0)))
    (hS : OwnSp base W v1 S) (hT : OwnSt base W v2 L) (hb : Below w.heap.size w W) :
    GivesM w S L (.returned (.agg #[v1, v2])) ((W.setCell ⟨B, 0, none⟩ v1).setCell ⟨B, 1, none⟩ v2) := by
  have s1 := set_block (i := 0) (u := v1) r0
  exact ⟨v1, v2, rfl, OwnSp.spans (own_set (own_set hS r0 (by decide)) s1 (by decide)), OwnSt.sites (own_set (own_set hT r0 (by decide)) s1 (by decide)), (hb.setCell (p := ⟨B, 0, none⟩) hB _).setCell (p := ⟨B, 1, none⟩) hB _⟩
end Go.Proofs.YtengmiolcfgdiaaDoor.Rig
