/- Contracts: Put and Take of the plain text. Contract: Take of the plain text. Contract: Part of the plain text. Contract: Drop of the plain text. -/
import Derived.Test.YtcpdoicbekcpeaaDoorQM1
import Derived.Test.YtcpdoicbekcpeaaDoorQA2
import Derived.RegionTactic
import Derived.ChangeAlike
import Derived.BigRegion
import Derived.Deep.RegionLaw
set_option linter.unusedVariables false
set_option maxRecDepth 100000
namespace Go.Proofs.YtcpdoicbekcpeaaDoor.Rig
open Go.RowKit Go.Lib Go.Proofs.YtcpdoicbekcpeaaDoor.Rt

theorem letters_len (S : List Sp) (n : Nat) : (letters S n).length = n := by simp [letters]
theorem at_take2 {xs : List Int} {i j : Nat} (h : j < i) : at_ (xs.take i) j = at_ xs j := by
  unfold at_
  rw [List.getD_eq_getElem?_getD, List.getD_eq_getElem?_getD, List.getElem?_take_of_lt h]
theorem at_drop2 (xs : List Int) (i j : Nat) : at_ (xs.drop i) j = at_ xs (i + j) := by
  unfold at_
  rw [List.getD_eq_getElem?_getD, List.getD_eq_getElem?_getD, List.getElem?_drop]
theorem Ints.take_ {w : World} {g off n c : Nat} {ys : List Int} (h : Ints w (.slice (some ⟨g, off, none⟩) n c) ys) (hn : n = ys.length) (i : Nat) (hi : i ≤ n) : Ints w (.slice (some ⟨g, off, none⟩) i c) (ys.take i) := by
  obtain ⟨h0, a, cap, hv, h1, h2, h3⟩ := h
  have hl : (ys.take i).length = i := by rw [List.length_take]; omega
  injection hv with e1 e2 e3
  subst e3
  refine ⟨fun x hx => h0 x (List.mem_of_mem_take hx), some ⟨g, off, none⟩, c, by rw [hl], by omega, h2, ?_⟩
  rcases h3 with h3 | ⟨b, o, e, hb, hc⟩
  · left; rw [h3, List.take_nil]
  · rw [← e1] at e
    refine .inr ⟨b, o, e, hb, fun j hj => ?_⟩
    rw [hl] at hj
    rw [at_take2 hj]
    exact hc j (by omega)
theorem Ints.drop_ {w : World} {g off n c : Nat} {ys : List Int} (h : Ints w (.slice (some ⟨g, off, none⟩) n c) ys) (hn : n = ys.length) (i : Nat) (hi : i ≤ n) : Ints w (.slice (some ⟨g, off + i, none⟩) (n - i) (c - i)) (ys.drop i) := by
  obtain ⟨h0, a, cap, hv, h1, h2, h3⟩ := h
  have hl : (ys.drop i).length = n - i := by rw [List.length_drop]; omega
  injection hv with e1 e2 e3
  subst e3
  refine ⟨fun x hx => h0 x (List.mem_of_mem_drop hx), some ⟨g, off + i, none⟩, c - i, by rw [hl], by omega, by omega, ?_⟩
  rcases h3 with h3 | ⟨b, o, e, hb, hc⟩
  · left; rw [h3, List.drop_nil]
  · rw [← e1] at e
    injection e with e
    injection e with e2 e3
    subst e2 e3
    refine .inr ⟨g, off + i, rfl, hb, fun j hj => ?_⟩
    rw [hl] at hj
    rw [at_drop2, Nat.add_assoc]
    exact hc (i + j) (by omega)
theorem Ints.none_of {w : World} {g off c : Nat} (hg : c ≤ maxLen) : Ints w (.slice (some ⟨g, off, none⟩) 0 c) [] := ⟨fun x hx => by simp at hx, _, c, rfl, Nat.zero_le _, hg, .inl rfl⟩

def putLs (ys : List Int) (i k : Nat) (mk : Int) : List Int := ys.take i ++ (List.replicate k (max mk 0) ++ ys.drop i)
def shift (at' : Int) (k : Int) (s : St) : St := if at' < s.a then ⟨s.m, s.a + k⟩ else s
/-- The sites, each carried by g, in their places (a site that stands already is not added). -/
def mapT (g : St → St) (T : List St) : Nat → List St
  | 0 => []
  | i + 1 => siteL (mapT g T i) (g (st T i))
theorem mapT_len (g : St → St) (T : List St) : ∀ i, (mapT g T i).length ≤ i
  | 0 => Nat.le_refl _
  | i + 1 => by
    have h1 := mapT_len g T i
    have h2 := siteL_len (mapT g T i) (g (st T i))
    unfold mapT
    omega

theorem block_frozen {w : World} {g j : Nat} {cur : Array Value} {t : TypeId} (h : w.heap[g]? = some (.cells cur t (0, 0))) : w.frozen? ⟨g, j, none⟩ = false := frozen_of_row w g j cur t h
theorem two_slices {w : World} {B o : Nat} {T : TypeId} {a1 a2 : Option Addr} {n1 c1 n2 c2 : Nat} {x : Int} (h : w.heap[B]? = some (.cells #[.slice a1 n1 c1, .slice a2 n2 c2] T (0, 0))) : w.cell? ⟨B, o, none⟩ ≠ some (.int .i64 x) := by
  rw [cell_of_row _ _ _ _ _ _ h]
  match o with
  | 0 => simp
  | 1 => simp
  | o + 2 => simp
theorem Fl.setBlock {w : World} {v u : Value} {n k : Nat} {zs : List Int} {B i : Nat} {T : TypeId} {a1 a2 : Option Addr} {n1 c1 n2 c2 : Nat} (h : Fl w v n k zs) (hk : 0 < k) (hB : w.heap[B]? = some (.cells #[.slice a1 n1 c1, .slice a2 n2 c2] T (0, 0))) : Fl (w.setCell ⟨B, i, none⟩ u) v n k zs := by
  obtain ⟨h0, h0', a, cap, rfl, h1, h2, h3⟩ := h
  refine ⟨h0, h0', a, cap, rfl, h1, h2, ?_⟩
  rcases h3 with h3 | ⟨b, off, rfl, hlt, hc⟩
  · exact .inl h3
  · by_cases hn : n = 0
    · exact .inl hn
    · have hne : b ≠ B := by
        rintro rfl
        have := hc 0 (Nat.mul_pos (Nat.pos_of_ne_zero hn) hk)
        exact two_slices hB this
      refine .inr ⟨b, off, rfl, by simpa using hlt, fun j hj => ?_⟩
      rw [World.cell?_of_block (w := w) (a := ⟨b, off + j, none⟩) (Below.heap_setCell w ⟨B, i, none⟩ u b (by exact hne))]
      exact hc j hj

/-- It hands marks back; nothing old has turned. -/
def GivesM (w : World) (S : List Sp) (T : List St) (e : Ending) (w' : World) : Prop := ∃ v1 v2, e = .returned (.agg #[v1, v2]) ∧ Spans w' v1 S ∧ Sites w' v2 T ∧ Below w.heap.size w w'

end Go.Proofs.YtcpdoicbekcpeaaDoor.Rig

namespace Go.Proofs.YtcpdoicbekcpeaaDoor.Rig
open Go.RowKit Go.Lib Go.Proofs.YtcpdoicbekcpeaaDoor.Rt

def takeLs (ys : List Int) (a b : Nat) : List Int := ys.take a ++ ys.drop b
def cutS (a b : Int) (s : St) : St := if b < s.a then ⟨s.m, s.a - (b - a)⟩ else if a < s.a then ⟨s.m, a⟩ else s
def endT (T : List St) (mk a : Int) : List St := if 0 < mk then siteL T ⟨mk, a⟩ else T
theorem res_cells {W : World} {B : Nat} {T : TypeId} {a1 a2 : Option Addr} {n1 c1 n2 c2 : Nat} (r0 : W.heap[B]? = some (.cells #[.slice none 0 0, .slice none 0 0] T (0, 0))) :
    (W.setCell ⟨B, 0, none⟩ (.slice a1 n1 c1)).cell? ⟨B, 0, none⟩ = some (.slice a1 n1 c1) ∧ ((W.setCell ⟨B, 0, none⟩ (.slice a1 n1 c1)).setCell ⟨B, 1, none⟩ (.slice a2 n2 c2)).cell? ⟨B, 1, none⟩ = some (.slice a2 n2 c2) := by
  have s0 : (W.setCell ⟨B, 0, none⟩ (.slice a1 n1 c1)).heap[B]? = some (.cells #[.slice a1 n1 c1, .slice none 0 0] T (0, 0)) := by
    rw [heap_setCell_same _ _ _ _ _ _ r0]
    rfl
  constructor
  · rw [cell_of_row _ _ _ _ _ _ s0]
    rfl
  · rw [cell_of_row _ _ _ _ _ _ (by rw [heap_setCell_same _ _ _ _ _ _ s0])]
    rfl
theorem give_end {w W : World} {S : List Sp} {L : List St} {B : Nat} {T : TypeId} {a1 a2 : Option Addr} {n1 c1 n2 c2 : Nat} (hB : w.heap.size ≤ B) (r0 : W.heap[B]? = some (.cells #[.slice none 0 0, .slice none 0 0] T (0, 0)))
    (hS : Spans W (.slice a1 n1 c1) S) (hT : Sites W (.slice a2 n2 c2) L) (hb : Below w.heap.size w W) :
    GivesM w S L (.returned (.agg #[.slice a1 n1 c1, .slice a2 n2 c2])) ((W.setCell ⟨B, 0, none⟩ (.slice a1 n1 c1)).setCell ⟨B, 1, none⟩ (.slice a2 n2 c2)) := by
  have s0 : (W.setCell ⟨B, 0, none⟩ (.slice a1 n1 c1)).heap[B]? = some (.cells #[.slice a1 n1 c1, .slice none 0 0] T (0, 0)) := by
    rw [heap_setCell_same _ _ _ _ _ _ r0]
    rfl
  exact ⟨_, _, rfl, Fl.setBlock (Fl.setBlock hS (by decide) r0) (by decide) s0, Fl.setBlock (Fl.setBlock hT (by decide) r0) (by decide) s0, (hb.setCell (p := ⟨B, 0, none⟩) hB _).setCell (p := ⟨B, 1, none⟩) hB _⟩

end Go.Proofs.YtcpdoicbekcpeaaDoor.Rig

namespace Go.Proofs.YtcpdoicbekcpeaaDoor.Rig
open Go.RowKit Go.Lib Go.Proofs.YtcpdoicbekcpeaaDoor.Rt

def partA (at' : Int) (T : List St) : Nat → List St
  | 0 => []
  | i + 1 => if (st T i).a ≤ at' then siteL (partA at' T i) (st T i) else partA at' T i
def partB (at' : Int) (T : List St) : Nat → List St
  | 0 => []
  | i + 1 => if (st T i).a ≤ at' then partB at' T i else siteL (partB at' T i) ⟨(st T i).m, (st T i).a - at'⟩
theorem partA_len (at' : Int) (T : List St) : ∀ i, (partA at' T i).length ≤ i
  | 0 => Nat.le_refl _
  | i + 1 => by
    have h1 := partA_len at' T i
    have h2 := siteL_len (partA at' T i) (st T i)
    unfold partA
    split <;> omega
theorem partB_len (at' : Int) (T : List St) : ∀ i, (partB at' T i).length ≤ i
  | 0 => Nat.le_refl _
  | i + 1 => by
    have h1 := partB_len at' T i
    have h2 := siteL_len (partB at' T i) ⟨(st T i).m, (st T i).a - at'⟩
    unfold partB
    split <;> omega
/-- It hands two marks back. -/
def GivesM2 (w : World) (S : List Sp) (T : List St) (S' : List Sp) (T' : List St) (e : Ending) (w' : World) : Prop := ∃ v1 v2 v3 v4, e = .returned (.tuple #[.agg #[v1, v2], .agg #[v3, v4]]) ∧ Spans w' v1 S ∧ Sites w' v2 T ∧ Spans w' v3 S' ∧ Sites w' v4 T' ∧ Below w.heap.size w w'

theorem set2_fl {W : World} {v : Value} {n k : Nat} {zs : List Int} {B : Nat} {T : TypeId} {a1 a2 : Option Addr} {n1 c1 n2 c2 : Nat} (h : Fl W v n k zs) (hk : 0 < k) (r0 : W.heap[B]? = some (.cells #[.slice none 0 0, .slice none 0 0] T (0, 0))) :
    Fl ((W.setCell ⟨B, 0, none⟩ (.slice a1 n1 c1)).setCell ⟨B, 1, none⟩ (.slice a2 n2 c2)) v n k zs := by
  have s0 : (W.setCell ⟨B, 0, none⟩ (.slice a1 n1 c1)).heap[B]? = some (.cells #[.slice a1 n1 c1, .slice none 0 0] T (0, 0)) := by
    rw [heap_setCell_same _ _ _ _ _ _ r0]
    rfl
  exact Fl.setBlock (Fl.setBlock h hk r0) hk s0
theorem give_end2 {w W : World} {S S' : List Sp} {L L' : List St} {B B' : Nat} {T : TypeId} {a1 a2 a3 a4 : Option Addr} {n1 c1 n2 c2 n3 c3 n4 c4 : Nat} (hB : w.heap.size ≤ B) (hB' : w.heap.size ≤ B') (hne : B' ≠ B) (r1 : W.heap[B]? = some (.cells #[.slice none 0 0, .slice none 0 0] T (0, 0))) (r2 : W.heap[B']? = some (.cells #[.slice none 0 0, .slice none 0 0] T (0, 0)))
    (hS : Spans W (.slice a1 n1 c1) S) (hT : Sites W (.slice a2 n2 c2) L) (hS' : Spans W (.slice a3 n3 c3) S') (hT' : Sites W (.slice a4 n4 c4) L') (hb : Below w.heap.size w W) :
    GivesM2 w S L S' L' (.returned (.tuple #[.agg #[.slice a1 n1 c1, .slice a2 n2 c2], .agg #[.slice a3 n3 c3, .slice a4 n4 c4]])) ((((W.setCell ⟨B, 0, none⟩ (.slice a1 n1 c1)).setCell ⟨B, 1, none⟩ (.slice a2 n2 c2)).setCell ⟨B', 0, none⟩ (.slice a3 n3 c3)).setCell ⟨B', 1, none⟩ (.slice a4 n4 c4)).drew := by
  have r2' : ((W.setCell ⟨B, 0, none⟩ (.slice a1 n1 c1)).setCell ⟨B, 1, none⟩ (.slice a2 n2 c2)).heap[B']? = some (.cells #[.slice none 0 0, .slice none 0 0] T (0, 0)) := by
    rw [Below.heap_setCell _ _ _ _ (by exact hne), Below.heap_setCell _ _ _ _ (by exact hne)]
    exact r2
  have bd : Below ((((W.setCell ⟨B, 0, none⟩ (.slice a1 n1 c1)).setCell ⟨B, 1, none⟩ (.slice a2 n2 c2)).setCell ⟨B', 0, none⟩ (.slice a3 n3 c3)).setCell ⟨B', 1, none⟩ (.slice a4 n4 c4)).heap.size _ _ := (Below.refl _ ((((W.setCell ⟨B, 0, none⟩ (.slice a1 n1 c1)).setCell ⟨B, 1, none⟩ (.slice a2 n2 c2)).setCell ⟨B', 0, none⟩ (.slice a3 n3 c3)).setCell ⟨B', 1, none⟩ (.slice a4 n4 c4))).drew
  refine ⟨_, _, _, _, rfl, ?_, ?_, ?_, ?_, ((((hb.setCell (p := ⟨B, 0, none⟩) hB _).setCell (p := ⟨B, 1, none⟩) hB _).setCell (p := ⟨B', 0, none⟩) hB' _).setCell (p := ⟨B', 1, none⟩) hB' _).drew⟩
  · have h := set2_fl (a1 := a3) (n1 := n3) (c1 := c3) (a2 := a4) (n2 := n4) (c2 := c4) (set2_fl (a1 := a1) (n1 := n1) (c1 := c1) (a2 := a2) (n2 := n2) (c2 := c2) hS (by decide) r1) (by decide) r2'
    exact Fl.below h bd (Nat.le_refl _)
  · have h := set2_fl (a1 := a3) (n1 := n3) (c1 := c3) (a2 := a4) (n2 := n4) (c2 := c4) (set2_fl (a1 := a1) (n1 := n1) (c1 := c1) (a2 := a2) (n2 := n2) (c2 := c2) hT (by decide) r1) (by decide) r2'
    exact Fl.below h bd (Nat.le_refl _)
  · have h := set2_fl (a1 := a3) (n1 := n3) (c1 := c3) (a2 := a4) (n2 := n4) (c2 := c4) (set2_fl (a1 := a1) (n1 := n1) (c1 := c1) (a2 := a2) (n2 := n2) (c2 := c2) hS' (by decide) r1) (by decide) r2'
    exact Fl.below h bd (Nat.le_refl _)
  · have h := set2_fl (a1 := a3) (n1 := n3) (c1 := c3) (a2 := a4) (n2 := n4) (c2 := c4) (set2_fl (a1 := a1) (n1 := n1) (c1 := c1) (a2 := a2) (n2 := n2) (c2 := c2) hT' (by decide) r1) (by decide) r2'
    exact Fl.below h bd (Nat.le_refl _)

end Go.Proofs.YtcpdoicbekcpeaaDoor.Rig

namespace Go.Proofs.YtcpdoicbekcpeaaDoor.Rig
open Go.RowKit Go.Lib Go.Proofs.YtcpdoicbekcpeaaDoor.Rt

def dropS (S : List Sp) (mk : Int) : List Sp := S.filter fun s => decide (s.m ≠ mk)
def dropT (T : List St) (mk : Int) : List St := T.filter fun s => decide (s.m ≠ mk)
theorem dropS_take {S : List Sp} {k : Nat} (mk : Int) (h : k < S.length) : dropS (S.take (k + 1)) mk = dropS (S.take k) mk ++ (if (sp S k).m = mk then [] else [sp S k]) := by
  unfold dropS
  rw [List.take_succ_eq_append_getElem h, List.filter_append, sp_get h]
  by_cases e : S[k].m = mk
  · rw [if_pos e]; simp [e]
  · rw [if_neg e]; simp [e]
theorem dropT_take {T : List St} {k : Nat} (mk : Int) (h : k < T.length) : dropT (T.take (k + 1)) mk = dropT (T.take k) mk ++ (if (st T k).m = mk then [] else [st T k]) := by
  unfold dropT
  rw [List.take_succ_eq_append_getElem h, List.filter_append, st_get h]
  by_cases e : T[k].m = mk
  · rw [if_pos e]; simp [e]
  · rw [if_neg e]; simp [e]
theorem dropS_len (S : List Sp) (mk : Int) (k : Nat) : (dropS (S.take k) mk).length ≤ k := by
  unfold dropS
  have h1 := List.length_filter_le (fun s : Sp => decide (s.m ≠ mk)) (S.take k)
  have h2 := List.length_take_le k S
  omega
theorem dropT_len (T : List St) (mk : Int) (k : Nat) : (dropT (T.take k) mk).length ≤ k := by
  unfold dropT
  have h1 := List.length_filter_le (fun s : St => decide (s.m ≠ mk)) (T.take k)
  have h2 := List.length_take_le k T
  omega
/-- The append of one record, as a step of a region that draws. -/
theorem step_append_rec {w : World} {ops : Array Oper} {o : Oper} {a : Act} {K : Act → World → Prop} {Q : Exit → Act → World → Prop} {E : Prop} (hgd : o.guard = none) (s x : Operand) (tS e : TypeId) (k bytes : Nat) (z : Value)
    (ht : Tryd.prog.underlying tS = some (.slice e)) (hinfo : (Tryd.prog.info? e).map (fun i => (i.zero, i.size, i.bytes)) = some (some z, k, bytes)) (hzs : z.cells.size = k) (hk : 0 < k) (hby : bytes ≤ 1000)
    (ho : o.op = .call { callee := .builtin .append, args := #[s, x], argTypes := #[tS, tS] }) (base : Nat) (v : Value) (n : Nat) (zs : List Int) (hs : a.eval s = v) (hown : OwnF e base w v n k zs)
    (b : Nat) (ys : List Int) (hx : a.eval x = .slice (some ⟨b, 0, none⟩) 1 1) (hb : w.heap[b]? = some (.cells (ints ys).toArray e (0, 0))) (hyl : ys.length = k) (hy : ∀ y ∈ ys, i64 y) (hn : n ≤ 100000) (hbase : base ≤ w.heap.size)
    (h : ∀ v' w', OwnF e base w' v' (n + 1) k (zs ++ ys) → w.grownBy w' v.ownBlock → K (a.put o.dst v') w') : if Region.wanted o (yielded ops a.tmps) = true then Oper.wp Tryd.prog o a w K Q else E := by
  have hw : Region.wanted o (yielded ops a.tmps) = true := by simp [Region.wanted, hgd]
  rw [if_pos hw]
  obtain ⟨i0, hi, hz0, hz1, hz2⟩ := info_parts hinfo
  have hbig : (n + 1) * bytes ≤ 140737488355328 := Nat.le_trans (Nat.mul_le_mul (show n + 1 ≤ 100001 by omega) hby) (by decide)
  refine wp_append_own w s x tS ho base e i0 z k bytes ht hi hz0 hz1 hz2 hzs hk v n (ints zs) hs hown.1 ⟨b, 0, none⟩ 1 1 (ints ys) hx (by rw [ints_len]; omega) ?_ ints_one (by unfold maxLen; omega) hbig hbase ?_
  · intro j u hj
    have hadd : (⟨b, 0, none⟩ : Addr).add j = ⟨b, j, none⟩ := by unfold Addr.add; split <;> simp_all
    rw [hadd, cell_of_row w b j _ _ (0, 0) hb]
    simpa using hj
  · intro v' w' h1 h2 _
    refine h v' w' ⟨?_, fun q hq => ?_⟩ h2
    · rw [ints_app]
      exact h1
    · rw [List.mem_append] at hq
      rcases hq with hq | hq
      · exact hown.2 q hq
      · exact hy q hq
theorem grown_setCell {w : World} (B i : Nat) (u : Value) : w.grownBy (w.setCell ⟨B, i, none⟩ u) (some B) := ⟨rfl, rfl, rfl, by simp, fun q hq hne => Below.heap_setCell _ _ _ _ (fun e => hne (by rw [e]))⟩

end Go.Proofs.YtcpdoicbekcpeaaDoor.Rig
