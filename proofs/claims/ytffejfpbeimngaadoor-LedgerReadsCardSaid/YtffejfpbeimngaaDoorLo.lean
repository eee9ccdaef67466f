/- Ledger: LedgerReads. -/
import Derived.Test.YtffejfpbeimngaaDoorLn
set_option linter.unusedVariables false
set_option linter.unusedSimpArgs false
set_option maxRecDepth 100000
namespace Go.Proofs.YtffejfpbeimngaaDoor.Ldg
open Go.RowKit Go.Lib Go.Proofs.YtffejfpbeimngaaDoor.Bx Go.Proofs.YtffejfpbeimngaaDoor.Frm Go.Proofs.YtffejfpbeimngaaDoor.Wds Go.Proofs.YtffejfpbeimngaaDoor.Plt

/-! records hang on the ring's own plates alone -/
section
variable {c c' : Nat → List UInt8} {n : Nat}
theorem cat_eq (hn : 0 < n) (h : ∀ q, q < n → c q = c' q) (p k : Nat) : cat c n p k = cat c' n p k := by
  induction k with
  | zero => rfl
  | succ k ih => rw [cat_next, cat_next, ih, h _ (plc_lt hn)]
theorem bods_eq (hn : 0 < n) (h : ∀ q, q < n → c q = c' q) (p k : Nat) : bods c n p k = bods c' n p k := by
  induction k with
  | zero => rfl
  | succ k ih => rw [bods_next, bods_next, ih, h _ (plc_lt hn)]
theorem rec_eq (h : ∀ q, q < n → c q = c' q) {p : Nat} (hp : p < n) (number room : Nat) : recOf c n p number room = recOf c' n p number room := by
  unfold recOf textOf
  rw [h p hp, cat_eq (by omega) h, bods_eq (by omega) h]
theorem recs_eq (h : ∀ q, q < n → c q = c' q) : ∀ f p number room, p < n → recs c n f p number room = recs c' n f p number room
  | 0, _, _, _, _ => rfl
  | f + 1, p, number, room, hp => by
    rw [recs, recs, rec_eq h hp]
    cases recOf c' n p number room with
    | none => rfl
    | some s =>
      show _ :: _ = _ :: _
      rw [recs_eq h f _ _ _ (Nat.mod_lt _ (by omega))]
end
/-! plates that are laid one behind the other -/
def layS (D : DK) (X : List (List UInt8)) : Nat → DK
  | 0 => D
  | i + 1 => layD (layS D X i) ((i : Nat) : Int) (mkB (Frm.tx X i))
theorem lay_at {D : DK} (h : Fine D) {q : Nat} (hq : q < D.n) {x : List UInt8} (hx : x.length ≤ 128) :
    layB D ((q : Nat) : Int) (mkB x) = true ∧ Fine (layD D ((q : Nat) : Int) (mkB x)) ∧ (layD D ((q : Nat) : Int) (mkB x)).n = D.n ∧ ring (layD D ((q : Nat) : Int) (mkB x)) 0 = put (ring D 0) q (pad x) ∧ ∀ k, Short D k → Short (layD D ((q : Nat) : Int) (mkB x)) (k + 1) := by
  have k := lay_one h (first := 0) (q := q) (by omega) hx
  rw [Nat.zero_add] at k
  exact k
theorem layS_ok {D : DK} (h : Fine D) (hc : Clean D) {X : List (List UInt8)} : ∀ i, i ≤ D.n → (∀ j, j < i → (Frm.tx X j).length ≤ 128) → Fine (layS D X i) ∧ (layS D X i).n = D.n ∧ (∀ q, ring (layS D X i) 0 q = if q < i then pad (Frm.tx X q) else ring D 0 q) ∧ Short (layS D X i) i
  | 0, _, _ => ⟨h, rfl, fun q => rfl, fun j _ => by show (D.P j).l.length ≤ 0; rw [hc j]; exact Nat.le_refl _⟩
  | i + 1, hi, hx => by
    obtain ⟨a, b, c, d⟩ := layS_ok h hc i (by omega) (fun j hj => hx j (by omega))
    obtain ⟨_, a2, b2, c2, d2⟩ := lay_at a (q := i) (by rw [b]; omega) (hx i (by omega))
    refine ⟨a2, b2.trans b, fun q => ?_, d2 i d⟩
    show ring (layD (layS D X i) ((i : Nat) : Int) (mkB (Frm.tx X i))) 0 q = _
    rw [c2]
    unfold put
    by_cases e : q = i
    · subst e
      rw [if_pos rfl, if_pos (by omega)]
    · rw [if_neg e, c q]
      by_cases e2 : q < i
      · rw [if_pos e2, if_pos (by omega)]
      · rw [if_neg e2, if_neg (by omega)]
def fullOf (X : List (List UInt8)) (i : Nat) : List (List UInt8) := (List.range i).map fun j => pad (Frm.tx X j)
theorem fullOf_len (X : List (List UInt8)) (i : Nat) : (fullOf X i).length = i := by
  unfold fullOf
  rw [List.length_map, List.length_range]
theorem fullOf_next (X : List (List UInt8)) (i : Nat) : fullOf X (i + 1) = fullOf X i ++ [pad (Frm.tx X i)] := by
  unfold fullOf
  rw [List.range_succ, List.map_append]
  rfl
theorem fullOf_at (X : List (List UInt8)) {i j : Nat} (h : j < i) : Frm.tx (fullOf X i) j = pad (Frm.tx X j) := by
  unfold Frm.tx fullOf
  rw [List.getD_eq_getElem?_getD, List.getElem?_map, List.getElem?_range h]
  rfl
theorem lay_no {D : DK} {q : Nat} {x : List UInt8} (hx : 128 < x.length) : layB D ((q : Nat) : Int) (mkB x) = false ∧ layD D ((q : Nat) : Int) (mkB x) = D := by
  have hc : canLay D ((q : Nat) : Int) (mkB x) = false := by
    unfold canLay
    rw [mkB_size, decide_eq_false (show ¬ x.length ≤ 128 by omega), Bool.and_false]
  refine ⟨?_, ?_⟩
  · unfold layB
    rw [hc]
    rfl
  · unfold layD
    rw [hc]
    rfl
/-- A disk, and a row of texts that lies apart from it. -/
def Dr (w0 : World) (B : Nat) (D : DK) (v : Value) (Y : List (List UInt8)) (w : World) : Prop :=
  (∃ F, Disk w0.heap.size w B F D ∧ ∀ g, v.ownBlock = some g → ¬ F g) ∧ Frm.OStrs w0.heap.size w v Y ∧ Below w0.heap.size w0 w
section
variable {w0 w w' : World} {B : Nat} {D : DK} {v : Value} {Y : List (List UInt8)}
theorem Dr.below (h : Dr w0 B D v Y w) (hb : Below w.heap.size w w') : Dr w0 B D v Y w' := by
  obtain ⟨⟨F, a, b⟩, c, d⟩ := h
  exact ⟨⟨F, a.below hb, b⟩, c.below hb, below_on d hb⟩
theorem Dr.wld (h : Dr w0 B D v Y w) : Wld w0 B D w := by
  obtain ⟨⟨F, a, b⟩, c, d⟩ := h
  exact ⟨⟨F, a⟩, d⟩
theorem Dr.did {D2 : DK} {r : Value} {e : Ending} {F : Nat → Prop} (a : Disk w0.heap.size w B F D) (b : ∀ g, v.ownBlock = some g → ¬ F g) (c : Frm.OStrs w0.heap.size w v Y) (d : Below w0.heap.size w0 w) (k : Did w0.heap.size w B F D2 r e w') : e = .returned r ∧ Dr w0 B D2 v Y w' := by
  obtain ⟨rfl, F2, a2, b2, c2⟩ := k
  refine ⟨rfl, ⟨F2, a2, fun g hg hF => ?_⟩, own_same c (fun g hg => b2.block g (Rk.OwnK.block c g hg).2 (b g hg)), d.trans (b2.below (fun g hg => (a.lt g hg).1) d.size)⟩
  rcases c2 g hF with q | q
  · exact b g hg q
  · have := (Rk.OwnK.block c g hg).2
    omega
theorem Dr.lay (h : Dr w0 B D v Y w) (hS : Short D 90000) (i : Nat) (x : List UInt8) (hx : x.length ≤ 9223372036854775807) : Calls Tryd.prog 7 #[.pointer (some ⟨B, 0, none⟩), .int .i64 (i : Nat), .string (mkB x)] w fun e w' => e = .returned (.bool (layB D ((i : Nat) : Int) (mkB x))) ∧ Dr w0 B (layD D ((i : Nat) : Int) (mkB x)) v Y w' := by
  obtain ⟨⟨F, a, b⟩, c, d⟩ := h
  refine (layX ((i : Nat) : Int) (mkB x) (by rw [mkB_size]; exact hx) a hS).mono ?_
  intro e w' k
  exact Dr.did a b c d k
theorem Dr.get (h : Dr w0 B D v Y w) (hF : Fine D) {i : Nat} (hi : i < D.n) : Calls Tryd.prog 8 #[.pointer (some ⟨B, 0, none⟩), .int .i64 (i : Nat)] w fun e w' => e = .returned (.tuple #[.string (mkB (ring D 0 i)), .bool true]) ∧ w' = w := by
  obtain ⟨⟨F, a, b⟩, c, d⟩ := h
  refine (getX ((i : Nat) : Int) a).mono ?_
  rintro e w' ⟨rfl, rfl⟩
  have hB : getB D ((i : Nat) : Int) = true := by
    unfold getB
    rw [hF.on, decide_eq_true (by omega), decide_eq_true (by omega)]
    rfl
  have hS : getS D ((i : Nat) : Int) = mkB (ring D 0 i) := by
    unfold getS
    rw [hB, ring_mk, Nat.zero_add]
    rfl
  rw [hB, hS]
  exact ⟨rfl, rfl⟩
end
end Go.Proofs.YtffejfpbeimngaaDoor.Ldg
