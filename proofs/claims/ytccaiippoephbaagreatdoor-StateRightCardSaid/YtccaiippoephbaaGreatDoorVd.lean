/- Entries of an audit: what one is; rows of them, read and the call's own; opened out of an argument's reading. -/
import Derived.Test.YtccaiippoephbaaGreatDoorWa
import Derived.OneCell
import Derived.SizedLaws
import Derived.Deep.Slices
import Derived.Deep.Fields
import Derived.Test.YtccaiippoephbaaGreatDoorWh
import Derived.Test.YtccaiippoephbaaGreatDoorVc
import Derived.RegionTactic
import Derived.BigRegion
import Derived.Deep.RegionHeld3
import Derived.BigQuiet
import Derived.Deep.Draws
import Derived.Deep.DeepCutAuto
import Derived.Deep.CutBlock
import Derived.Deep.LoopGhost
import Derived.Laws.StructEq
set_option linter.unusedVariables false
set_option linter.unusedSimpArgs false
set_option maxRecDepth 100000
namespace Go.Proofs.YtccaiippoephbaaGreatDoor.Aud
open Go.RowKit Go.Lib Go.Proofs.YtccaiippoephbaaGreatDoor.Rig Go.Proofs.YtccaiippoephbaaGreatDoor.Rt

/-- An entry. -/
structure En where
  u : Int
  o : Int
  s : Int
  S : List Int
  L : List Int
/-- Ints that lie in a block of which P holds. -/
def IntsP (P : Nat → Prop) (w : World) (v : Value) (xs : List Int) : Prop := Ints w v xs ∧ (xs = [] ∨ ∃ b off n c, v = .slice (some ⟨b, off, none⟩) n c ∧ P b)
theorem IntsP.kept {P Q : Nat → Prop} {w w' : World} {v : Value} {xs : List Int} {row : Option Nat} (h : IntsP P w v xs) (hg : w.grownBy w' row) (hr : ∀ b, P b → some b ≠ row) (hq : ∀ b, b < w.heap.size → P b → Q b) : IntsP Q w' v xs := by
  obtain ⟨⟨h0, a, cap, rfl, h1, h2, h3⟩, h4⟩ := h
  rcases h3 with rfl | ⟨b, off, rfl, hlt, hc⟩
  · exact ⟨⟨h0, a, cap, rfl, h1, h2, .inl rfl⟩, .inl rfl⟩
  · by_cases hx : xs = []
    · subst hx
      exact ⟨⟨h0, _, cap, rfl, h1, h2, .inl rfl⟩, .inl rfl⟩
    · rcases h4 with h4 | ⟨b', off', n, c, e, hP⟩
      · exact absurd h4 hx
      · injection e with e1 _ _
        injection e1 with e1
        injection e1 with e1 _ _
        subst e1
        refine ⟨⟨h0, _, cap, rfl, h1, h2, .inr ⟨b, off, rfl, Nat.lt_of_lt_of_le hlt hg.size, fun j hj => ?_⟩⟩, .inr ⟨b, off, _, cap, rfl, hq b hlt hP⟩⟩
        exact hg.cell (hc j hj) (hr b hP)
theorem IntsP.below {P : Nat → Prop} {w w' : World} {v : Value} {xs : List Int} (h : IntsP P w v xs) (hb : Below w.heap.size w w') : IntsP P w' v xs := h.kept (Rk.grown_of_below hb none) (fun _ _ => by simp) (fun _ _ h => h)
theorem IntsP.mono {P Q : Nat → Prop} {w : World} {v : Value} {xs : List Int} (h : IntsP P w v xs) (hq : ∀ b, b < w.heap.size → P b → Q b) : IntsP Q w v xs := h.kept (Rk.grown_of_below (Below.refl _ _) none) (fun _ _ => by simp) hq
theorem IntsP.of {w : World} {v : Value} {xs : List Int} (h : Ints w v xs) : IntsP (· < w.heap.size) w v xs := by
  have h' := h
  obtain ⟨h0, a, cap, rfl, h1, h2, h3⟩ := h
  rcases h3 with rfl | ⟨b, off, rfl, hlt, hc⟩
  · exact ⟨h', .inl rfl⟩
  · exact ⟨h', .inr ⟨b, off, _, cap, rfl, hlt⟩⟩
theorem IntsP.nil_ (P : Nat → Prop) (w : World) : IntsP P w (.slice none 0 0) [] := ⟨Ints.nil_ _, .inl rfl⟩
/-- An entry's five cells. -/
def EnP (P : Nat → Prop) (w : World) (x : List Value) (y : En) : Prop := ∃ sv lv, x = [.int .i64 y.u, .int .i64 y.o, .int .i64 y.s, sv, lv] ∧ (i64 y.u ∧ i64 y.o ∧ i64 y.s) ∧ IntsP P w sv y.S ∧ IntsP P w lv y.L
theorem EnP.kept {P Q : Nat → Prop} {w w' : World} {x : List Value} {y : En} {row : Option Nat} (h : EnP P w x y) (hg : w.grownBy w' row) (hr : ∀ b, P b → some b ≠ row) (hq : ∀ b, b < w.heap.size → P b → Q b) : EnP Q w' x y := by
  obtain ⟨sv, lv, e, hi, h1, h2⟩ := h
  exact ⟨sv, lv, e, hi, h1.kept hg hr hq, h2.kept hg hr hq⟩
theorem EnP.below {P : Nat → Prop} {w w' : World} {x : List Value} {y : En} (h : EnP P w x y) (hb : Below w.heap.size w w') : EnP P w' x y := h.kept (Rk.grown_of_below hb none) (fun _ _ => by simp) (fun _ _ h => h)
theorem EnP.mono {P Q : Nat → Prop} {w : World} {x : List Value} {y : En} (h : EnP P w x y) (hq : ∀ b, b < w.heap.size → P b → Q b) : EnP Q w x y := h.kept (Rk.grown_of_below (Below.refl _ _) none) (fun _ _ => by simp) hq
theorem EnP.one {P : Nat → Prop} {w : World} {x : List Value} {y : En} (h : EnP P w x y) : ∀ q ∈ x, q.oneCell' = true := by
  obtain ⟨sv, lv, rfl, _, h1, h2⟩ := h
  obtain ⟨a, c, rfl⟩ := h1.1.is_slice
  obtain ⟨b, d, rfl⟩ := h2.1.is_slice
  intro q hq
  simp at hq
  rcases hq with rfl | rfl | rfl | rfl | rfl <;> rfl
theorem EnP.len {P : Nat → Prop} {w : World} {x : List Value} {y : En} (h : EnP P w x y) : x.length = 5 := by
  obtain ⟨sv, lv, rfl, _⟩ := h
  rfl
/-- Entries that are read. -/
def EnsP (P : Nat → Prop) (w : World) (v : Value) (A : List En) : Prop := Rk.Rows 5 (EnP P) w v A
theorem EnsP.below {P : Nat → Prop} {w w' : World} {v : Value} {A : List En} (h : EnsP P w v A) (hb : Below w.heap.size w w') : EnsP P w' v A := Rk.Rows.below (R := EnP P) (fun h hb => h.below hb) h hb
theorem EnsP.mono {P Q : Nat → Prop} {w : World} {v : Value} {A : List En} (h : EnsP P w v A) (hq : ∀ b, b < w.heap.size → P b → Q b) : EnsP Q w v A := by
  obtain ⟨p, h1, h2, h3⟩ := h
  exact ⟨p, h1, h2, fun x hx => (h3 x hx).mono hq⟩
theorem EnsP.nil_ (P : Nat → Prop) (w : World) : EnsP P w (.slice none 0 0) [] := Rk.Rows.nil_ _ _ _
theorem EnsP.is_slice {P : Nat → Prop} {w : World} {v : Value} {A : List En} (h : EnsP P w v A) : ∃ a cap, v = .slice a A.length cap ∧ A.length ≤ cap ∧ cap ≤ maxLen := by
  obtain ⟨a, cap, rfl⟩ := Rk.Rows.is_slice h
  exact ⟨a, cap, rfl, (Rk.Rows.len h).2⟩
theorem EnsP.get {P : Nat → Prop} {w : World} {a : Option Addr} {n cap : Nat} {A : List En} (h : EnsP P w (.slice a n cap) A) {j : Nat} (hj : j < A.length) :
    ∃ b off sa sn sc la ln lc, a = some ⟨b, off, none⟩ ∧ b < w.heap.size ∧ EnP P w [.int .i64 A[j].u, .int .i64 A[j].o, .int .i64 A[j].s, .slice sa sn sc, .slice la ln lc] A[j] ∧
      w.cell? ⟨b, off + j * 5, none⟩ = some (.int .i64 A[j].u) ∧ w.cell? ⟨b, off + j * 5 + 1, none⟩ = some (.int .i64 A[j].o) ∧ w.cell? ⟨b, off + j * 5 + 2, none⟩ = some (.int .i64 A[j].s) ∧ w.cell? ⟨b, off + j * 5 + 3, none⟩ = some (.slice sa sn sc) ∧ w.cell? ⟨b, off + j * 5 + 4, none⟩ = some (.slice la ln lc) ∧
      sn = A[j].S.length ∧ ln = A[j].L.length := by
  obtain ⟨b, off, x, rfl, hb, hl, hx, hc⟩ := Rk.Rows.get h hj
  have hx' := hx
  obtain ⟨sv, lv, rfl, hi, h1, h2⟩ := hx
  obtain ⟨sa, sc, rfl⟩ := h1.1.is_slice
  obtain ⟨la, lc, rfl⟩ := h2.1.is_slice
  exact ⟨b, off, sa, _, sc, la, _, lc, rfl, hb, hx', hc 0 _ rfl, hc 1 _ rfl, hc 2 _ rfl, hc 3 _ rfl, hc 4 _ rfl, rfl, rfl⟩
/-- Entries of the call's own: no element's ints lie in the row's own block. -/
def OEn (P : Nat → Prop) (base : Nat) (w : World) (v : Value) (A : List En) : Prop := ∃ p : List (List Value × En), p.map Prod.snd = A ∧ Rk.OwnK 59 5 base w v (p.map Prod.fst) ∧ ∀ x ∈ p, EnP (fun b => P b ∧ some b ≠ v.ownBlock) w x.1 x.2
theorem OEn.nil_ (P : Nat → Prop) (base : Nat) (w : World) : OEn P base w (.slice none 0 0) [] := ⟨[], rfl, Rk.OwnK.nil_ _ _ _ _, fun _ h => by simp at h⟩
theorem OEn.below {P : Nat → Prop} {base : Nat} {w w' : World} {v : Value} {A : List En} (h : OEn P base w v A) (hb : Below w.heap.size w w') : OEn P base w' v A := by
  obtain ⟨p, h1, h2, h3⟩ := h
  exact ⟨p, h1, h2.below hb, fun x hx => (h3 x hx).below hb⟩
theorem OEn.mono {P Q : Nat → Prop} {base : Nat} {w : World} {v : Value} {A : List En} (h : OEn P base w v A) (hq : ∀ b, b < w.heap.size → P b → Q b) : OEn Q base w v A := by
  obtain ⟨p, h1, h2, h3⟩ := h
  exact ⟨p, h1, h2, fun x hx => (h3 x hx).mono fun b hb h => ⟨hq b hb h.1, h.2⟩⟩
theorem OEn.ens {P : Nat → Prop} {base : Nat} {w : World} {v : Value} {A : List En} (h : OEn P base w v A) : EnsP P w v A := by
  obtain ⟨p, h1, h2, h3⟩ := h
  exact ⟨p, h1, h2.row, fun x hx => (h3 x hx).mono fun b _ h => h.1⟩
theorem OEn.is_slice {P : Nat → Prop} {base : Nat} {w : World} {v : Value} {A : List En} (h : OEn P base w v A) : ∃ a cap, v = .slice a A.length cap := by
  obtain ⟨a, cap, e, _⟩ := h.ens.is_slice
  exact ⟨a, cap, e⟩
/-- More elements: what the append asks, and gives. -/
theorem OEn.row {P : Nat → Prop} {base : Nat} {w : World} {v : Value} {A : List En} (h : OEn P base w v A) : ∃ xs : List (List Value), xs.length = A.length ∧ Rk.OwnK 59 5 base w v xs ∧
    ∀ (q : List (List Value × En)) (v' : Value) (w' : World), Rk.OwnK 59 5 base w' v' (xs ++ q.map Prod.fst) → w.grownBy w' v.ownBlock → (v'.ownBlock = v.ownBlock ∨ v'.ownBlock = some w.heap.size) → (∀ x ∈ q, EnP (fun b => P b ∧ some b ≠ v.ownBlock) w x.1 x.2) → OEn P base w' v' (A ++ q.map Prod.snd) := by
  obtain ⟨p, h1, h2, h3⟩ := h
  refine ⟨p.map Prod.fst, by rw [← h1, List.length_map, List.length_map], h2, fun q v' w' h5 hg hk hq => ⟨p ++ q, by rw [List.map_append, h1], by rw [List.map_append]; exact h5, fun x hx => ?_⟩⟩
  have hx' : EnP (fun b => P b ∧ some b ≠ v.ownBlock) w x.1 x.2 := by
    rcases List.mem_append.1 hx with hx | hx
    · exact h3 x hx
    · exact hq x hx
  refine hx'.kept hg (fun b h => h.2) fun b hb h => ⟨h.1, ?_⟩
  rcases hk with e | e
  · rw [e]; exact h.2
  · rw [e]
    intro e2
    injection e2 with e2
    omega
theorem OEn.own {P : Nat → Prop} {base : Nat} {w : World} {v : Value} {A : List En} (h : OEn P base w v A) : ∀ g, v.ownBlock = some g → base ≤ g ∧ g < w.heap.size := by
  obtain ⟨p, h1, h2, h3⟩ := h
  exact h2.block
theorem infoEn : (Tryz.prog.info? 59).map (fun i => (i.zero, i.size, i.bytes)) = some (some (.agg #[.int .i64 0, .int .i64 0, .int .i64 0, .slice none 0 0, .slice none 0 0]), 5, 72) := by kernel_rfl

section
open Go.ChangeShapes Go.WideShapes Go.Deep
variable {H : Type} {enc : TypeId × Value → H}
end
end Go.Proofs.YtccaiippoephbaaGreatDoor.Aud
/- Words: a call as bytes, there and back. No program is spoken of here. -/
set_option maxRecDepth 100000
set_option linter.unusedVariables false
set_option linter.unusedSimpArgs false
namespace Go.Proofs.YtccaiippoephbaaGreatDoor.Wds
open Go.Lib Go.Proofs.YtccaiippoephbaaGreatDoor.Frm

/-- A call as plain values. -/
structure Pl where
  op : Int
  tok : List UInt8
  seq : Int
  n : List Int
  text : List UInt8
  more : List UInt8
  a : Bool
  b : Bool
def txt (c : Prop) [Decidable c] (t : List UInt8) : List UInt8 := if c then textL t else []
theorem Took.trans {r r1 r2 : Rd} {l m : List UInt8} (h1 : Took r l r1) (h2 : Took r1 m r2) : Took r (l ++ m) r2 := fun h => by
  obtain ⟨a, b⟩ := h2 h
  obtain ⟨c, d⟩ := h1 a
  exact ⟨c, by rw [d, b, List.append_assoc]⟩
theorem Took.refl (r : Rd) : Took r [] r := fun h => ⟨h, rfl⟩
end Go.Proofs.YtccaiippoephbaaGreatDoor.Wds
/- Words: Alike of the plain text; the blocks of Ask. -/
set_option linter.unusedVariables false
set_option linter.unusedSimpArgs false
set_option maxRecDepth 100000
namespace Go.Proofs.YtccaiippoephbaaGreatDoor.Wds
open Go.RowKit Go.Lib Go.Proofs.YtccaiippoephbaaGreatDoor.Bx Go.Proofs.YtccaiippoephbaaGreatDoor.Frm

theorem mkB_inj {a b : List UInt8} : mkB a = mkB b ↔ a = b := by
  constructor
  · intro h
    have := congrArg (fun x : ByteArray => x.data.toList) h
    simpa [mkB] using this
  · rintro rfl; rfl
end Go.Proofs.YtccaiippoephbaaGreatDoor.Wds
/- Words: what the program's calls owe; a call's bytes, there and back. -/
set_option linter.unusedVariables false
set_option linter.unusedSimpArgs false
set_option maxRecDepth 100000
namespace Go.Proofs.YtccaiippoephbaaGreatDoor.Wds
open Go.RowKit Go.Lib Go.Proofs.YtccaiippoephbaaGreatDoor.Bx Go.Proofs.YtccaiippoephbaaGreatDoor.Frm

def in64 (x : Int) : Prop := -9223372036854775808 ≤ x ∧ x ≤ 9223372036854775807
/-- A call whose numbers are numbers. -/
def okP (p : Pl) : Prop := p.n.length = 6 ∧ in64 p.op ∧ in64 p.seq ∧ ∀ x ∈ p.n, in64 x
end Go.Proofs.YtccaiippoephbaaGreatDoor.Wds
/- Words: what is read as a call is a call, and is written as it was (mathematics; no program). -/
set_option linter.unusedVariables false
set_option linter.unusedSimpArgs false
set_option maxRecDepth 100000
namespace Go.Proofs.YtccaiippoephbaaGreatDoor.Wds
open Go.RowKit Go.Lib Go.Proofs.YtccaiippoephbaaGreatDoor.Bx Go.Proofs.YtccaiippoephbaaGreatDoor.Frm

theorem back_in (m : Nat) : in64 (back m) := by
  unfold in64 back
  split <;> omega
theorem num_in (r : Rd) : in64 (numR r).1 := back_in _
def pX : Pl := ⟨2, [116], 1, [0, 0, 0, 0, 0, 0], [], [], false, false⟩
end Go.Proofs.YtccaiippoephbaaGreatDoor.Wds
/- Words: rows of things as bytes, there and back (mathematics; no program). -/
set_option maxRecDepth 100000
set_option linter.unusedVariables false
set_option linter.unusedSimpArgs false
namespace Go.Proofs.YtccaiippoephbaaGreatDoor.Wds
open Go.Lib Go.Proofs.YtccaiippoephbaaGreatDoor.Frm

/-- k things, one behind the other, as long as all is there. -/
def manyR {α : Type} (f : Rd → α × Rd) : Nat → Rd → List α × Rd
  | 0, r => ([], r)
  | k + 1, r => if r.bad = true then ([], r) else ((f r).1 :: (manyR f k (f r).2).1, (manyR f k (f r).2).2)
theorem many_bad {α : Type} {f : Rd → α × Rd} {k : Nat} {r : Rd} (h : r.bad = true) : manyR f k r = ([], r) := by
  cases k with
  | zero => rfl
  | succ k => exact if_pos h
theorem many_next {α : Type} {f : Rd → α × Rd} {k : Nat} {r : Rd} (h : r.bad = false) : manyR f (k + 1) r = ((f r).1 :: (manyR f k (f r).2).1, (manyR f k (f r).2).2) := if_neg (by rw [h]; decide)
theorem many_app {α : Type} {f : Rd → α × Rd} {g : α → List UInt8} : ∀ (xs : List α) (b : List UInt8), (∀ x ∈ xs, ∀ b, f ⟨g x ++ b, false⟩ = (x, ⟨b, false⟩)) → manyR f xs.length ⟨xs.flatMap g ++ b, false⟩ = (xs, ⟨b, false⟩)
  | [], b, _ => rfl
  | x :: xs, b, h => by
    rw [List.length_cons, many_next rfl, List.flatMap_cons, List.append_assoc, h x List.mem_cons_self, many_app xs b (fun y hy => h y (List.mem_cons_of_mem _ hy))]
theorem many_took {α : Type} {f : Rd → α × Rd} {g : α → List UInt8} (h : ∀ r, Took r (g (f r).1) (f r).2) : ∀ (k : Nat) (r : Rd), Took r ((manyR f k r).1.flatMap g) (manyR f k r).2
  | 0, r => Took.refl r
  | k + 1, r => by
    cases hb : r.bad with
    | true =>
      rw [many_bad hb]
      exact Took.refl r
    | false =>
      rw [many_next hb, List.flatMap_cons]
      exact (h r).trans (many_took h k _)
theorem many_len {α : Type} {f : Rd → α × Rd} (h : ∀ r, (f r).2.bad = false → r.bad = false) : ∀ (k : Nat) (r : Rd), (manyR f k r).2.bad = false → (manyR f k r).1.length = k ∧ r.bad = false
  | 0, r, hb => ⟨rfl, hb⟩
  | k + 1, r, hb => by
    cases hr : r.bad with
    | true =>
      rw [many_bad hr] at hb
      rw [hr] at hb
      cases hb
    | false =>
      rw [many_next hr] at hb ⊢
      exact ⟨by show (manyR f k (f r).2).1.length + 1 = _; rw [(many_len h k _ hb).1], rfl⟩
theorem many_all {α : Type} {f : Rd → α × Rd} {P : α → Prop} (h : ∀ r, P (f r).1) : ∀ (k : Nat) (r : Rd), ∀ x ∈ (manyR f k r).1, P x
  | 0, r, x, hx => by cases hx
  | k + 1, r, x, hx => by
    cases hr : r.bad with
    | true => rw [many_bad hr] at hx; cases hx
    | false =>
      rw [many_next hr] at hx
      rcases List.mem_cons.1 hx with rfl | hx
      · exact h r
      · exact many_all h k _ x hx
theorem read_many : ∀ (k : Nat) (r : Rd), readN k r = manyR numR k r
  | 0, r => rfl
  | k + 1, r => by
    cases hr : r.bad with
    | true => rw [read_bad hr, many_bad hr]
    | false => rw [read_next hr, many_next hr, read_many k]
/-- A row: its length as a byte, and its things. -/
def rowL {α : Type} (g : α → List UInt8) (xs : List α) : List UInt8 := UInt8.ofNat xs.length :: xs.flatMap g
def rowR {α : Type} (f : Rd → α × Rd) (r : Rd) : List α × Rd := manyR f (lenR r).1 (lenR r).2
theorem list_row (r : Rd) : listR r = rowR numR r := read_many _ _
theorem list_rowL (xs : List Int) : listL xs = rowL numL xs := rfl
/-! runs, entries, answers -/
structure Run where
  i : Int
  l : Int
  o : Bool
  t : List UInt8
abbrev Ent := Aud.En
structure An where
  st : Int
  tok : List UInt8
  num : Int
  at' : Int
  R : List Run
  E : List Ent
def runR (r : Rd) : Run × Rd :=
  let q1 := numR r
  let q2 := numR q1.2
  let q3 := flagR q2.2
  let q4 := textR q3.2
  (⟨q1.1, q2.1, q3.1, q4.1⟩, q4.2)
def entR (r : Rd) : Ent × Rd :=
  let q1 := numR r
  let q2 := numR q1.2
  let q3 := numR q2.2
  let q4 := rowR numR q3.2
  let q5 := rowR numR q4.2
  (⟨q1.1, q2.1, q3.1, q4.1, q5.1⟩, q5.2)
def toldR (s : List UInt8) : An × Rd :=
  let q1 := lenR ⟨s, false⟩
  let q2 := textR q1.2
  let q3 := numR q2.2
  let q4 := numR q3.2
  let q5 := rowR runR q4.2
  let q6 := rowR entR q5.2
  (⟨q1.1, q2.1, q3.1, q4.1, q5.1, q6.1⟩, q6.2)
def n64 (x : Int) : Prop := -9223372036854775808 ≤ x ∧ x ≤ 9223372036854775807
def okEnt (x : Ent) : Prop := n64 x.u ∧ n64 x.o ∧ n64 x.s ∧ x.S.length ≤ 255 ∧ x.L.length ≤ 255 ∧ (∀ y ∈ x.S, n64 y) ∧ ∀ y ∈ x.L, n64 y
end Go.Proofs.YtccaiippoephbaaGreatDoor.Wds
/- Words: answers: what is written, and what is read (mathematics; no program). -/
set_option maxRecDepth 100000
set_option linter.unusedVariables false
set_option linter.unusedSimpArgs false
namespace Go.Proofs.YtccaiippoephbaaGreatDoor.Wds
open Go.Lib Go.Proofs.YtccaiippoephbaaGreatDoor.Frm

/-- An answer that has bytes. -/
def fitA (a : An) : Prop := (0 ≤ a.st ∧ a.st ≤ 255) ∧ a.tok.length ≤ 65535 ∧ a.R.length ≤ 255 ∧ a.E.length ≤ 255 ∧ (∀ x ∈ a.R, x.t.length ≤ 65535) ∧ ∀ x ∈ a.E, x.S.length ≤ 255 ∧ x.L.length ≤ 255
instance (a : An) : Decidable (fitA a) := by unfold fitA; infer_instance
def zeroA : An := ⟨0, [], 0, 0, [], []⟩
def toldE (s : List UInt8) : An × Bool := if (toldR s).2.bad = false ∧ (toldR s).2.s = [] then ((toldR s).1, true) else (zeroA, false)
theorem many_le {α : Type} {f : Rd → α × Rd} : ∀ (k : Nat) (r : Rd), (manyR f k r).1.length ≤ k
  | 0, r => Nat.le_refl _
  | k + 1, r => by
    cases hr : r.bad with
    | true => rw [many_bad hr]; exact Nat.zero_le _
    | false => rw [many_next hr]; exact Nat.succ_le_succ (many_le k _)
theorem len_255 (r : Rd) : (lenR r).1 ≤ 255 := by
  have h : (lenR r).1 < 256 := UInt8.toNat_lt _
  omega
theorem row_le {α : Type} {f : Rd → α × Rd} (r : Rd) : (rowR f r).1.length ≤ 255 := Nat.le_trans (many_le _ _) (len_255 r)
theorem num_n64 (r : Rd) : n64 (numR r).1 := num_in r
theorem ent_ok (r : Rd) : okEnt (entR r).1 := ⟨num_n64 _, num_n64 _, num_n64 _, row_le _, row_le _, many_all num_n64 _ _, many_all num_n64 _ _⟩
end Go.Proofs.YtccaiippoephbaaGreatDoor.Wds
/- Words: runs: rows of them; Same of the plain text. -/
set_option linter.unusedVariables false
set_option linter.unusedSimpArgs false
set_option maxRecDepth 100000
namespace Go.Proofs.YtccaiippoephbaaGreatDoor.Wds
open Go.RowKit Go.Lib Go.Proofs.YtccaiippoephbaaGreatDoor.Bx Go.Proofs.YtccaiippoephbaaGreatDoor.Frm

def runC (y : Run) : List Value := [.int .i64 y.i, .int .i64 y.l, .bool y.o, .string (mkB y.t)]
end Go.Proofs.YtccaiippoephbaaGreatDoor.Wds
/- Words: answers as values; Same of the plain text. -/
set_option linter.unusedVariables false
set_option linter.unusedSimpArgs false
set_option maxRecDepth 100000
namespace Go.Proofs.YtccaiippoephbaaGreatDoor.Wds
open Go.RowKit Go.Lib Go.Proofs.YtccaiippoephbaaGreatDoor.Bx Go.Proofs.YtccaiippoephbaaGreatDoor.Frm

theorem six_cells {w : World} {B : Nat} {x0 x1 x2 x3 x4 x5 : Value} {ty : TypeId} (z : w.heap[B]? = some (.cells #[x0, x1, x2, x3, x4, x5] ty (0, 0))) : w.cell? ⟨B, 0, none⟩ = some x0 ∧ w.cell? ⟨B, 1, none⟩ = some x1 ∧ w.cell? ⟨B, 2, none⟩ = some x2 ∧ w.cell? ⟨B, 3, none⟩ = some x3 ∧ w.cell? ⟨B, 4, none⟩ = some x4 ∧ w.cell? ⟨B, 5, none⟩ = some x5 := by
  refine ⟨?_, ?_, ?_, ?_, ?_, ?_⟩ <;> (rw [cell_of_row _ _ _ _ _ _ z]; rfl)
end Go.Proofs.YtccaiippoephbaaGreatDoor.Wds
