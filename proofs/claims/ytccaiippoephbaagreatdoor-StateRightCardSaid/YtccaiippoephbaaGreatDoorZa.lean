/- Things as bytes, there and back: how a thing is put, and how it is read (mathematics; no program). -/
import Derived.Test.YtccaiippoephbaaGreatDoorWa
set_option linter.unusedVariables false
set_option linter.unusedSimpArgs false
namespace Go.Proofs.YtccaiippoephbaaGreatDoor.Sta
open Go.Lib Go.Proofs.YtccaiippoephbaaGreatDoor.Frm Go.Proofs.YtccaiippoephbaaGreatDoor.Wds

/-- What is put so far, and whether something was wrong. -/
abbrev Q := List UInt8 × Bool
/-- A length in two bytes, the higher first. -/
def pairL (n : Nat) : List UInt8 := [UInt8.ofNat (n / 256), UInt8.ofNat (n % 256)]
theorem pair_len (n : Nat) : (pairL n).length = 2 := rfl
def pairW (n : Int) (q : Q) : Q := if 0 ≤ n ∧ n ≤ 65535 then (q.1 ++ pairL n.toNat, q.2) else (q.1, true)
def pairR (r : Rd) : Nat × Rd := (hd (takeR r 2).1, (takeR r 2).2)
/-- A text as it is put: its length alone, once something was wrong. -/
def textX (bad : Bool) (t : List UInt8) : List UInt8 := if bad = true then pairL t.length else textL t
def tw (t : List UInt8) (q : Q) : Q := if t.length ≤ 65535 then (q.1 ++ textX q.2 t, q.2) else (q.1, true)
def foldW {α : Type} (f : α → Q → Q) : List α → Q → Q
  | [], q => q
  | x :: xs, q => if q.2 = true then q else foldW f xs (f x q)
def listW {α : Type} (f : α → Q → Q) (xs : List α) (q : Q) : Q := foldW f xs (pairW xs.length q)
/-- k things, one behind the other, as long as all is there. -/
def manyR {α : Type} (f : Rd → α × Rd) : Nat → Rd → List α × Rd
  | 0, r => ([], r)
  | k + 1, r => if r.bad = true then ([], r) else ((f r).1 :: (manyR f k (f r).2).1, (manyR f k (f r).2).2)
def listR {α : Type} (f : Rd → α × Rd) (r : Rd) : List α × Rd := manyR f (pairR r).1 (pairR r).2
def n64 (x : Int) : Prop := -9223372036854775808 ≤ x ∧ x ≤ 9223372036854775807
/-- How things of a kind are told as bytes. -/
structure Cod (α : Type) where
  enc : α → List UInt8
  fit : α → Prop
  rng : α → Prop
  put : α → Q → Q
  rd : Rd → α × Rd
structure Cod.Ok {α : Type} (c : Cod α) : Prop where
  put_fit : ∀ x l, c.fit x → c.put x (l, false) = (l ++ c.enc x, false)
  put_bad : ∀ x q, ¬ c.fit x → (c.put x q).2 = true
  put_stay : ∀ x q, q.2 = true → (c.put x q).2 = true
  put_len : ∀ x q, (c.put x q).1.length ≤ q.1.length + (c.enc x).length
  put_pre : ∀ x q, q.1 ≠ [] → (c.put x q).1 ≠ []
  rd_app : ∀ x b, c.fit x → c.rng x → c.rd ⟨c.enc x ++ b, false⟩ = (x, ⟨b, false⟩)
  rd_took : ∀ r, Took r (c.enc (c.rd r).1) (c.rd r).2
  rd_fit : ∀ r, c.fit (c.rd r).1
  rd_rng : ∀ r, c.rng (c.rd r).1
  rd_stuck : ∀ r, r.bad = true → (c.rd r).2.bad = true
  rd_le : ∀ r, (c.rd r).2.s.length ≤ r.s.length
theorem took_trans {r r1 r2 : Rd} {l m : List UInt8} (h1 : Took r l r1) (h2 : Took r1 m r2) : Took r (l ++ m) r2 := fun h => by
  obtain ⟨a, b⟩ := h2 h
  obtain ⟨c, d⟩ := h1 a
  exact ⟨c, by rw [d, b, List.append_assoc]⟩
theorem took_refl (r : Rd) : Took r [] r := fun h => ⟨h, rfl⟩
theorem take_le (r : Rd) (n : Nat) : (takeR r n).2.s.length ≤ r.s.length := by
  unfold takeR
  split
  · exact Nat.le_refl _
  · show (r.s.drop n).length ≤ _
    rw [List.length_drop]; omega
theorem take_stuck (r : Rd) (n : Nat) (h : r.bad = true) : (takeR r n).2.bad = true := by unfold takeR; rw [if_pos (.inl h)]
theorem hd_max (t : List UInt8) : hd t ≤ 65535 := by
  unfold hd
  have h1 := UInt8.toNat_lt (t.getD 0 0)
  have h2 := UInt8.toNat_lt (t.getD 1 0)
  omega
/-! numbers, bools, texts -/
def numC : Cod Int := ⟨numL, fun _ => True, n64, fun n q => (q.1 ++ numL n, q.2), numR⟩
theorem textX_len (bad : Bool) (t : List UInt8) : (textX bad t).length ≤ (textL t).length := by
  unfold textX
  split
  · rw [pair_len]; show 2 ≤ t.length + 2; omega
  · exact Nat.le_refl _
def textC : Cod (List UInt8) := ⟨textL, fun t => t.length ≤ 65535, fun _ => True, tw, textR⟩
theorem textC_ok : textC.Ok where
  put_fit := fun t l h => by show tw t (l, false) = _; unfold tw; exact if_pos h
  put_bad := fun t q h => by show (tw t q).2 = true; unfold tw; rw [if_neg (show ¬ t.length ≤ 65535 from h)]
  put_stay := fun t q h => by
    show (tw t q).2 = true
    unfold tw
    split
    · exact h
    · rfl
  put_len := fun t q => by
    show (tw t q).1.length ≤ _
    unfold tw
    split
    · rw [List.length_append]; exact Nat.add_le_add_left (textX_len _ _) _
    · exact Nat.le_add_right _ _
  put_pre := fun t q h => by
    show (tw t q).1 ≠ []
    unfold tw
    split
    · exact List.append_ne_nil_of_left_ne_nil h _
    · exact h
  rd_app := fun x b h _ => text_app h b
  rd_took := text_took
  rd_fit := fun r => by
    show (textR r).1.length ≤ 65535
    unfold textR
    split
    · exact Nat.zero_le _
    · rw [take_len]; exact hd_max _
  rd_rng := fun _ => trivial
  rd_stuck := fun r h => by
    show (textR r).2.bad = true
    unfold textR
    split
    · rfl
    · exact take_stuck _ _ (take_stuck r 2 h)
  rd_le := fun r => by
    show (textR r).2.s.length ≤ _
    unfold textR
    split
    · exact take_le r 2
    · exact Nat.le_trans (take_le _ _) (take_le r 2)
/-! two, one behind the other -/
def pairC {α β : Type} (a : Cod α) (b : Cod β) : Cod (α × β) :=
  ⟨fun x => a.enc x.1 ++ b.enc x.2, fun x => a.fit x.1 ∧ b.fit x.2, fun x => a.rng x.1 ∧ b.rng x.2, fun x q => b.put x.2 (a.put x.1 q), fun r => (((a.rd r).1, (b.rd (a.rd r).2).1), (b.rd (a.rd r).2).2)⟩
theorem pairC_ok {α β : Type} {a : Cod α} {b : Cod β} (ha : a.Ok) (hb : b.Ok) : (pairC a b).Ok where
  put_fit := fun x l h => by show b.put x.2 (a.put x.1 (l, false)) = (l ++ (a.enc x.1 ++ b.enc x.2), false); rw [ha.put_fit _ _ h.1, hb.put_fit _ _ h.2, List.append_assoc]
  put_bad := fun x q h => by
    show (b.put x.2 (a.put x.1 q)).2 = true
    by_cases h1 : a.fit x.1
    · exact hb.put_bad _ _ (fun h2 => h ⟨h1, h2⟩)
    · exact hb.put_stay _ _ (ha.put_bad _ _ h1)
  put_stay := fun x q h => hb.put_stay _ _ (ha.put_stay _ _ h)
  put_len := fun x q => by
    show (b.put x.2 (a.put x.1 q)).1.length ≤ q.1.length + (a.enc x.1 ++ b.enc x.2).length
    have h1 := hb.put_len x.2 (a.put x.1 q)
    have h2 := ha.put_len x.1 q
    rw [List.length_append]
    omega
  put_pre := fun x q h => hb.put_pre _ _ (ha.put_pre _ _ h)
  rd_app := fun x c hf hr => by
    have h1 : a.rd ⟨(a.enc x.1 ++ b.enc x.2) ++ c, false⟩ = (x.1, ⟨b.enc x.2 ++ c, false⟩) := by rw [List.append_assoc]; exact ha.rd_app _ _ hf.1 hr.1
    show (((a.rd ⟨(a.enc x.1 ++ b.enc x.2) ++ c, false⟩).1, (b.rd (a.rd ⟨(a.enc x.1 ++ b.enc x.2) ++ c, false⟩).2).1), (b.rd (a.rd ⟨(a.enc x.1 ++ b.enc x.2) ++ c, false⟩).2).2) = _
    rw [h1]
    simp only
    rw [hb.rd_app _ _ hf.2 hr.2]
  rd_took := fun r => took_trans (ha.rd_took r) (hb.rd_took _)
  rd_fit := fun r => ⟨ha.rd_fit _, hb.rd_fit _⟩
  rd_rng := fun r => ⟨ha.rd_rng _, hb.rd_rng _⟩
  rd_stuck := fun r h => hb.rd_stuck _ (ha.rd_stuck _ h)
  rd_le := fun r => Nat.le_trans (hb.rd_le _) (ha.rd_le _)
/-! a length, and lists -/
theorem pair_app {n : Nat} (h : n ≤ 65535) (b : List UInt8) : pairR ⟨pairL n ++ b, false⟩ = (n, ⟨b, false⟩) := by
  unfold pairR
  rw [take_app (pair_len n)]
  have e : hd (pairL n) = n := by
    show (UInt8.ofNat (n / 256)).toNat * 256 + (UInt8.ofNat (n % 256)).toNat = n
    rw [UInt8.toNat_ofNat', UInt8.toNat_ofNat']
    omega
  rw [e]
theorem pair_took (r : Rd) : Took r (pairL (pairR r).1) (pairR r).2 := by
  have h := take_took r 2
  have e : pairL (pairR r).1 = (takeR r 2).1 := (two_bytes (take_len r 2)).symm
  rw [e]
  exact h
theorem pair_max (r : Rd) : (pairR r).1 ≤ 65535 := hd_max _
theorem pair_stuck (r : Rd) (h : r.bad = true) : (pairR r).2.bad = true := take_stuck r 2 h
theorem pair_le (r : Rd) : (pairR r).2.s.length ≤ r.s.length := take_le r 2
theorem many_bad {α : Type} {f : Rd → α × Rd} {k : Nat} {r : Rd} (h : r.bad = true) : manyR f k r = ([], r) := by
  cases k with
  | zero => rfl
  | succ k => exact if_pos h
theorem many_next {α : Type} {f : Rd → α × Rd} {k : Nat} {r : Rd} (h : r.bad = false) : manyR f (k + 1) r = ((f r).1 :: (manyR f k (f r).2).1, (manyR f k (f r).2).2) := if_neg (by rw [h]; decide)
theorem many_app {α : Type} {f : Rd → α × Rd} {g : α → List UInt8} : ∀ (xs : List α) (b : List UInt8), (∀ x ∈ xs, ∀ b, f ⟨g x ++ b, false⟩ = (x, ⟨b, false⟩)) → manyR f xs.length ⟨xs.flatMap g ++ b, false⟩ = (xs, ⟨b, false⟩)
  | [], b, _ => rfl
  | x :: xs, b, h => by
    rw [List.length_cons, many_next rfl, List.flatMap_cons, List.append_assoc, h x List.mem_cons_self, many_app xs b (fun y hy => h y (List.mem_cons_of_mem _ hy))]
theorem many_took {α : Type} {f : Rd → α × Rd} {g : α → List UInt8} (h : ∀ r, Took r (g (f r).1) (f r).2) : ∀ (k : Nat) (r : Rd), Took r ((manyR f k r).1.flatMap g) (manyR f k r).2
  | 0, r => took_refl r
  | k + 1, r => by
    cases hb : r.bad with
    | true =>
      rw [many_bad hb]
      exact took_refl r
    | false =>
      rw [many_next hb, List.flatMap_cons]
      exact took_trans (h r) (many_took h k _)
theorem many_len {α : Type} {f : Rd → α × Rd} (h : ∀ r, (f r).2.bad = false → r.bad = false) : ∀ (k : Nat) (r : Rd), (manyR f k r).2.bad = false → (manyR f k r).1.length = k ∧ r.bad = false
  | 0, r, hb => ⟨rfl, hb⟩
  | k + 1, r, hb => by
    cases hr : r.bad with
    | true =>
      rw [many_bad hr] at hb
      rw [hr] at hb
      cases hb
    | false =>
      rw [many_next hr] at hb ⊢
      exact ⟨by show (manyR f k (f r).2).1.length + 1 = _; rw [(many_len h k _ hb).1], rfl⟩
theorem many_all {α : Type} {f : Rd → α × Rd} {P : α → Prop} (h : ∀ r, P (f r).1) : ∀ (k : Nat) (r : Rd), ∀ x ∈ (manyR f k r).1, P x
  | 0, r, x, hx => by cases hx
  | k + 1, r, x, hx => by
    cases hr : r.bad with
    | true => rw [many_bad hr] at hx; cases hx
    | false =>
      rw [many_next hr] at hx
      rcases List.mem_cons.1 hx with rfl | hx
      · exact h r
      · exact many_all h k _ x hx
theorem many_rest {α : Type} {f : Rd → α × Rd} (hf : ∀ r, (f r).2.s.length ≤ r.s.length) : ∀ (k : Nat) (r : Rd), (manyR f k r).2.s.length ≤ r.s.length
  | 0, r => Nat.le_refl _
  | k + 1, r => by
    cases hr : r.bad with
    | true => rw [many_bad hr]; exact Nat.le_refl _
    | false => rw [many_next hr]; exact Nat.le_trans (many_rest hf k _) (hf r)
theorem many_le {α : Type} {f : Rd → α × Rd} : ∀ (k : Nat) (r : Rd), (manyR f k r).1.length ≤ k
  | 0, r => Nat.le_refl _
  | k + 1, r => by
    cases hr : r.bad with
    | true => rw [many_bad hr]; exact Nat.zero_le _
    | false => rw [many_next hr]; exact Nat.succ_le_succ (many_le k _)
theorem fold_stays {α : Type} {f : α → Q → Q} (xs : List α) {q : Q} (h : q.2 = true) : foldW f xs q = q := by
  cases xs with
  | nil => rfl
  | cons x xs => exact if_pos h
theorem fold_fit {α : Type} {f : α → Q → Q} {g : α → List UInt8} : ∀ (xs : List α) (l : List UInt8), (∀ x ∈ xs, ∀ l, f x (l, false) = (l ++ g x, false)) → foldW f xs (l, false) = (l ++ xs.flatMap g, false)
  | [], l, _ => by simp [foldW]
  | x :: xs, l, h => by
    unfold foldW
    rw [if_neg (by simp), h x List.mem_cons_self, fold_fit xs _ (fun y hy => h y (List.mem_cons_of_mem _ hy))]
    simp
theorem fold_stay {α : Type} {f : α → Q → Q} (xs : List α) (q : Q) (h : q.2 = true) : (foldW f xs q).2 = true := by rw [fold_stays xs h]; exact h
theorem fold_bad {α : Type} {f : α → Q → Q} {P : α → Prop} (hf : ∀ x q, ¬ P x → (f x q).2 = true) : ∀ (xs : List α) (q : Q), (∃ x ∈ xs, ¬ P x) → (foldW f xs q).2 = true
  | [], q, h => by obtain ⟨x, h, _⟩ := h; cases h
  | x :: xs, q, h => by
    unfold foldW
    split
    · assumption
    · obtain ⟨y, hy, hn⟩ := h
      rcases List.mem_cons.1 hy with rfl | hy
      · exact fold_stay _ _ (hf y q hn)
      · exact fold_bad hf xs _ ⟨y, hy, hn⟩
theorem fold_len {α : Type} {f : α → Q → Q} {g : α → List UInt8} (h : ∀ x q, (f x q).1.length ≤ q.1.length + (g x).length) : ∀ (xs : List α) (q : Q), (foldW f xs q).1.length ≤ q.1.length + (xs.flatMap g).length
  | [], q => by simp [foldW]
  | x :: xs, q => by
    unfold foldW
    split
    · exact Nat.le_add_right _ _
    · have := fold_len h xs (f x q)
      have := h x q
      rw [List.flatMap_cons, List.length_append]
      omega
theorem fold_pre {α : Type} {f : α → Q → Q} (h : ∀ x q, q.1 ≠ [] → (f x q).1 ≠ []) : ∀ (xs : List α) (q : Q), q.1 ≠ [] → (foldW f xs q).1 ≠ []
  | [], q, hq => hq
  | x :: xs, q, hq => by
    unfold foldW
    split
    · exact hq
    · exact fold_pre h xs _ (h x q hq)
theorem pairW_len (n : Int) (q : Q) : (pairW n q).1.length ≤ q.1.length + 2 := by
  unfold pairW
  split
  · show (q.1 ++ pairL _).length ≤ _; rw [List.length_append]; exact Nat.le_refl _
  · exact Nat.le_add_right _ _
def listC {α : Type} (a : Cod α) : Cod (List α) :=
  ⟨fun xs => pairL xs.length ++ xs.flatMap a.enc, fun xs => xs.length ≤ 65535 ∧ ∀ x ∈ xs, a.fit x, fun xs => ∀ x ∈ xs, a.rng x, listW a.put, listR a.rd⟩
theorem listC_ok {α : Type} {a : Cod α} (ha : a.Ok) : (listC a).Ok where
  put_fit := fun xs l h => by
    show foldW a.put xs (pairW xs.length (l, false)) = _
    have e : pairW (xs.length : Int) (l, false) = (l ++ pairL xs.length, false) := by
      unfold pairW
      rw [if_pos ⟨by omega, by have := h.1; omega⟩, Int.toNat_natCast]
    rw [e, fold_fit xs _ (fun x hx l => ha.put_fit x l (h.2 x hx)), List.append_assoc]
    rfl
  put_bad := fun xs q h => by
    show (foldW a.put xs (pairW xs.length q)).2 = true
    by_cases h1 : xs.length ≤ 65535
    · by_cases h2 : ∀ x ∈ xs, a.fit x
      · exact absurd ⟨h1, h2⟩ h
      · have h3 : ∃ x ∈ xs, ¬ a.fit x := Classical.byContradiction fun h4 => h2 fun x hx => Classical.byContradiction fun h5 => h4 ⟨x, hx, h5⟩
        exact fold_bad ha.put_bad xs _ h3
    · refine fold_stay _ _ ?_
      unfold pairW
      rw [if_neg (by omega)]
  put_stay := fun xs q h => by
    refine fold_stay _ _ ?_
    unfold pairW
    split
    · exact h
    · rfl
  put_len := fun xs q => by
    show (foldW a.put xs (pairW xs.length q)).1.length ≤ q.1.length + (pairL xs.length ++ xs.flatMap a.enc).length
    have h1 := fold_len ha.put_len xs (pairW xs.length q)
    have h2 := pairW_len xs.length q
    rw [List.length_append, pair_len]
    omega
  put_pre := fun xs q h => by
    refine fold_pre ha.put_pre xs _ ?_
    unfold pairW
    split
    · exact List.append_ne_nil_of_left_ne_nil h _
    · exact h
  rd_app := fun xs b hf hr => by
    show manyR a.rd (pairR ⟨(pairL xs.length ++ xs.flatMap a.enc) ++ b, false⟩).1 (pairR ⟨(pairL xs.length ++ xs.flatMap a.enc) ++ b, false⟩).2 = _
    rw [List.append_assoc, pair_app hf.1]
    exact many_app xs b fun x hx b => ha.rd_app x b (hf.2 x hx) (hr x hx)
  rd_took := fun r => fun hb => by
    have hb' : (manyR a.rd (pairR r).1 (pairR r).2).2.bad = false := hb
    have h1 := many_len (fun r h => (ha.rd_took r h).1) (pairR r).1 (pairR r).2 hb'
    have h2 := many_took ha.rd_took (pairR r).1 (pairR r).2 hb'
    have h3 := pair_took r h1.2
    refine ⟨h3.1, ?_⟩
    show r.s = (pairL (manyR a.rd (pairR r).1 (pairR r).2).1.length ++ (manyR a.rd (pairR r).1 (pairR r).2).1.flatMap a.enc) ++ (manyR a.rd (pairR r).1 (pairR r).2).2.s
    rw [h1.1, List.append_assoc, ← h2.2, h3.2]
  rd_fit := fun r => ⟨Nat.le_trans (many_le _ _) (pair_max r), many_all ha.rd_fit _ _⟩
  rd_rng := fun r => many_all ha.rd_rng _ _
  rd_stuck := fun r h => by
    show (manyR a.rd (pairR r).1 (pairR r).2).2.bad = true
    rw [many_bad (pair_stuck r h)]
    exact pair_stuck r h
  rd_le := fun r => Nat.le_trans (many_rest ha.rd_le _ _) (pair_le r)
/-! a state -/
abbrev Lab := Int × Int × List Int × List Int
abbrev Spn := Int × Int × Int
abbrev Sit := Int × Int
abbrev Seg := Int × Int × List UInt8 × List Spn × List Sit
abbrev Doc := Bool × List Seg
abbrev Thg := Int × Int × Int × Int × List UInt8
abbrev Sea := List UInt8 × Int × Int × Int × List UInt8
abbrev Ent := Int × Int × Int × List Int × List Int
abbrev Sta := Int × Int × Int × List Lab × List Doc × List (List Thg) × List Sea × List Ent
def wholeB (r : Rd) : Bool := decide (r.bad = false ∧ r.s = [])
section
variable {α : Type}
variable {c : Cod α} (hc : c.Ok) {z : α}
include hc
end
end Go.Proofs.YtccaiippoephbaaGreatDoor.Sta
/- What lies in memory: a thing's cells, rows of things within things; of which blocks they are (no program's types). -/
set_option linter.unusedVariables false
set_option linter.unusedSimpArgs false
namespace Go.Proofs.YtccaiippoephbaaGreatDoor.Sta
open Go.RowKit Go.Lib Go.Proofs.YtccaiippoephbaaGreatDoor.Frm Go.Proofs.YtccaiippoephbaaGreatDoor.Wds Go.Proofs.YtccaiippoephbaaGreatDoor.Bx

/-- Blocks of which P holds stay. -/
def Keep (P : Nat → Prop) (w w' : World) : Prop := w.heap.size ≤ w'.heap.size ∧ ∀ b, b < w.heap.size → P b → w'.heap[b]? = w.heap[b]?
theorem Keep.below {P : Nat → Prop} {w w' : World} (hb : Below w.heap.size w w') : Keep P w w' := ⟨hb.size, fun b h _ => hb.block b h⟩
theorem Keep.low {P : Nat → Prop} {w w' : World} {B : Nat} (hb : Below B w w') (h : ∀ b, P b → b < B) : Keep P w w' := ⟨hb.size, fun b _ hp => hb.block b (h b hp)⟩
theorem cell_keep {w w' : World} {b o : Nat} (h : w'.heap[b]? = w.heap[b]?) : w'.cell? ⟨b, o, none⟩ = w.cell? ⟨b, o, none⟩ := by
  unfold World.cell?
  simp only [h]
/-- How a thing of a kind lies in memory: how many cells, and what they are. -/
structure Rep (α : Type) where
  k : Nat
  R : (Nat → Prop) → World → List Value → α → Prop
structure Rep.Ok {α : Type} (a : Rep α) : Prop where
  len : ∀ {P : Nat → Prop} {w : World} {cs : List Value} {x : α}, a.R P w cs x → cs.length = a.k
  one : ∀ {P : Nat → Prop} {w : World} {cs : List Value} {x : α}, a.R P w cs x → ∀ u ∈ cs, u.oneCell' = true
  mono : ∀ {P P' : Nat → Prop} {w : World} {cs : List Value} {x : α}, a.R P w cs x → (∀ b, b < w.heap.size → P b → P' b) → a.R P' w cs x
  keep : ∀ {P : Nat → Prop} {w w' : World} {cs : List Value} {x : α}, a.R P w cs x → Keep P w w' → a.R P w' cs x
/-- A row that is read, in blocks of which P holds. -/
def RowP {α : Type} (a : Rep α) (P : Nat → Prop) (w : World) (v : Value) (xs : List α) : Prop :=
  ∃ p : List (List Value × α), p.map Prod.snd = xs ∧ Rk.RowK a.k w v (p.map Prod.fst) ∧ (p = [] ∨ ∃ b off n cap, v = .slice (some ⟨b, off, none⟩) n cap ∧ b < w.heap.size ∧ P b) ∧ ∀ x ∈ p, a.R P w x.1 x.2
theorem RowP.nil_ {α : Type} (a : Rep α) (P : Nat → Prop) (w : World) : RowP a P w (.slice none 0 0) [] := ⟨[], rfl, Rk.RowK.nil_ _ _, .inl rfl, fun _ h => by simp at h⟩
theorem RowP.rows {α : Type} {a : Rep α} {P : Nat → Prop} {w : World} {v : Value} {xs : List α} (h : RowP a P w v xs) : Rk.Rows a.k (a.R P) w v xs := by
  obtain ⟨p, h1, h2, _, h4⟩ := h
  exact ⟨p, h1, h2, h4⟩
theorem RowP.of_rows {α : Type} {a : Rep α} {w : World} {v : Value} {xs : List α} (h : Rk.Rows a.k (a.R fun _ => True) w v xs) : RowP a (fun _ => True) w v xs := by
  obtain ⟨p, h1, h2, h4⟩ := h
  refine ⟨p, h1, h2, ?_, h4⟩
  obtain ⟨_, ad, cap, rfl, _, _, h3⟩ := h2
  rcases h3 with h3 | ⟨b, off, rfl, hlt, _⟩
  · exact .inl (by simpa using h3)
  · exact .inr ⟨b, off, _, cap, rfl, hlt, trivial⟩
theorem RowP.mono {α : Type} {a : Rep α} (ha : a.Ok) {P P' : Nat → Prop} {w : World} {v : Value} {xs : List α} (h : RowP a P w v xs) (hp : ∀ b, b < w.heap.size → P b → P' b) : RowP a P' w v xs := by
  obtain ⟨p, h1, h2, h3, h4⟩ := h
  refine ⟨p, h1, h2, h3.imp id ?_, fun x hx => ha.mono (h4 x hx) hp⟩
  rintro ⟨b, off, n, cap, e, hl, hb⟩
  exact ⟨b, off, n, cap, e, hl, hp b hl hb⟩
theorem RowP.keep {α : Type} {a : Rep α} (ha : a.Ok) {P : Nat → Prop} {w w' : World} {v : Value} {xs : List α} (h : RowP a P w v xs) (hk : Keep P w w') : RowP a P w' v xs := by
  obtain ⟨p, h1, ⟨h0, ad, cap, rfl, h5, h6, h7⟩, h3, h4⟩ := h
  refine ⟨p, h1, ⟨h0, ad, cap, rfl, h5, h6, ?_⟩, h3.imp id ?_, fun x hx => ha.keep (h4 x hx) hk⟩
  · rcases h7 with h7 | ⟨b, off, rfl, hlt, hc⟩
    · exact .inl h7
    · rcases h3 with h3 | ⟨b', off', n, cap', e, hl, hb⟩
      · exact .inl (by rw [h3]; rfl)
      · injection e with e
        injection e with e
        simp only [Addr.mk.injEq] at e
        obtain ⟨rfl, rfl, _⟩ := e
        exact .inr ⟨b, off, rfl, Nat.lt_of_lt_of_le hlt hk.1, fun j hj i u hu => by rw [cell_keep (hk.2 b hlt hb)]; exact hc j hj i u hu⟩
  · rintro ⟨b, off, n, cap, e, hl, hb⟩
    exact ⟨b, off, n, cap, e, Nat.lt_of_lt_of_le hl hk.1, hb⟩
theorem RowP.is_slice {α : Type} {a : Rep α} {P : Nat → Prop} {w : World} {v : Value} {xs : List α} (h : RowP a P w v xs) : ∃ ad cap, v = .slice ad xs.length cap := h.rows.is_slice
theorem RowP.len {α : Type} {a : Rep α} {P : Nat → Prop} {w : World} {ad : Option Addr} {n cap : Nat} {xs : List α} (h : RowP a P w (.slice ad n cap) xs) : n = xs.length ∧ xs.length ≤ cap ∧ cap ≤ maxLen := h.rows.len
theorem RowP.get {α : Type} {a : Rep α} {P : Nat → Prop} {w : World} {ad : Option Addr} {n cap : Nat} {xs : List α} (h : RowP a P w (.slice ad n cap) xs) {j : Nat} (hj : j < xs.length) :
    ∃ b off x, ad = some ⟨b, off, none⟩ ∧ b < w.heap.size ∧ x.length = a.k ∧ a.R P w x xs[j] ∧ ∀ i u, x[i]? = some u → w.cell? ⟨b, off + j * a.k + i, none⟩ = some u := h.rows.get hj
/-! numbers, bools, texts; two, one behind the other; rows -/
def numM : Rep Int := ⟨1, fun _ _ cs x => cs = [.int .i64 x]⟩
def flagM : Rep Bool := ⟨1, fun _ _ cs x => cs = [.bool x]⟩
def textM : Rep (List UInt8) := ⟨1, fun _ _ cs x => cs = [.string (mkB x)]⟩
theorem numM_ok : numM.Ok where
  len := fun h => by rw [show _ = _ from h]; rfl
  one := fun h u hu => by rw [show _ = _ from h] at hu; simp only [List.mem_singleton] at hu; subst hu; rfl
  mono := fun h _ => h
  keep := fun h _ => h
theorem flagM_ok : flagM.Ok where
  len := fun h => by rw [show _ = _ from h]; rfl
  one := fun h u hu => by rw [show _ = _ from h] at hu; simp only [List.mem_singleton] at hu; subst hu; rfl
  mono := fun h _ => h
  keep := fun h _ => h
theorem textM_ok : textM.Ok where
  len := fun h => by rw [show _ = _ from h]; rfl
  one := fun h u hu => by rw [show _ = _ from h] at hu; simp only [List.mem_singleton] at hu; subst hu; rfl
  mono := fun h _ => h
  keep := fun h _ => h
def pairM {α β : Type} (a : Rep α) (b : Rep β) : Rep (α × β) := ⟨a.k + b.k, fun P w cs x => ∃ c d, cs = c ++ d ∧ a.R P w c x.1 ∧ b.R P w d x.2⟩
theorem pairM_ok {α β : Type} {a : Rep α} {b : Rep β} (ha : a.Ok) (hb : b.Ok) : (pairM a b).Ok where
  len := fun ⟨c, d, e, h1, h2⟩ => by rw [e, List.length_append, ha.len h1, hb.len h2]; rfl
  one := fun ⟨c, d, e, h1, h2⟩ u hu => by
    rw [e] at hu
    rcases List.mem_append.1 hu with h | h
    · exact ha.one h1 u h
    · exact hb.one h2 u h
  mono := fun ⟨c, d, e, h1, h2⟩ hp => ⟨c, d, e, ha.mono h1 hp, hb.mono h2 hp⟩
  keep := fun ⟨c, d, e, h1, h2⟩ hk => ⟨c, d, e, ha.keep h1 hk, hb.keep h2 hk⟩
def listM {α : Type} (a : Rep α) : Rep (List α) := ⟨1, fun P w cs xs => ∃ v, cs = [v] ∧ RowP a P w v xs⟩
theorem listM_ok {α : Type} {a : Rep α} (ha : a.Ok) : (listM a).Ok where
  len := fun ⟨v, e, _⟩ => by rw [e]; rfl
  one := fun ⟨v, e, h⟩ u hu => by
    rw [e] at hu
    simp only [List.mem_singleton] at hu
    subst hu
    obtain ⟨ad, cap, rfl⟩ := h.is_slice
    rfl
  mono := fun ⟨v, e, h⟩ hp => ⟨v, e, h.mono ha hp⟩
  keep := fun ⟨v, e, h⟩ hk => ⟨v, e, h.keep ha hk⟩
/-! rows of the call's own -/
def OwnP {α : Type} (e : TypeId) (a : Rep α) (base : Nat) (w : World) (v : Value) (xs : List α) : Prop :=
  ∃ p : List (List Value × α), p.map Prod.snd = xs ∧ Rk.OwnK e a.k base w v (p.map Prod.fst) ∧ ∀ x ∈ p, a.R (fun b => base ≤ b ∧ some b ≠ v.ownBlock) w x.1 x.2
theorem OwnP.nil_ {α : Type} (e : TypeId) (a : Rep α) (base : Nat) (w : World) : OwnP e a base w (.slice none 0 0) [] := ⟨[], rfl, Rk.OwnK.nil_ _ _ _ _, fun _ h => by simp at h⟩
theorem OwnP.is_slice {α : Type} {e : TypeId} {a : Rep α} {base : Nat} {w : World} {v : Value} {xs : List α} (h : OwnP e a base w v xs) : ∃ ad cap, v = .slice ad xs.length cap := by
  obtain ⟨p, h1, h2, _⟩ := h
  obtain ⟨ad, cap, e⟩ := h2.is_slice
  exact ⟨ad, cap, by rw [e, ← h1, List.length_map, List.length_map]⟩
theorem OwnP.block {α : Type} {e : TypeId} {a : Rep α} {base : Nat} {w : World} {v : Value} {xs : List α} (h : OwnP e a base w v xs) : ∀ g, v.ownBlock = some g → base ≤ g ∧ g < w.heap.size := by
  obtain ⟨p, h1, h2, _⟩ := h
  exact h2.block
theorem OwnP.low {α : Type} {e : TypeId} {a : Rep α} {base : Nat} {w : World} {v : Value} {xs : List α} (h : OwnP e a base w v xs) {b : Nat} (hb : b < base) : v.ownBlock ≠ some b := fun e => by
  have := (h.block b e).1
  omega
theorem own_base {e : TypeId} {k base base' : Nat} {w : World} {v : Value} {xs : List (List Value)} (h : Rk.OwnK e k base w v xs) (hb : base' ≤ base) : Rk.OwnK e k base' w v xs := by
  obtain ⟨h1, h2, h3⟩ := h
  refine ⟨h1, h2, ?_⟩
  rcases h3 with h3 | ⟨g, cap, cur, e1, hg, rest⟩
  · exact .inl h3
  · exact .inr ⟨g, cap, cur, e1, Nat.le_trans hb hg, rest⟩
theorem OwnP.base {α : Type} {e : TypeId} {a : Rep α} (ha : a.Ok) {base base' : Nat} {w : World} {v : Value} {xs : List α} (h : OwnP e a base w v xs) (hb : base' ≤ base) : OwnP e a base' w v xs := by
  obtain ⟨p, h1, h2, h3⟩ := h
  exact ⟨p, h1, own_base h2 hb, fun x hx => ha.mono (h3 x hx) fun b _ h => ⟨Nat.le_trans hb h.1, h.2⟩⟩
theorem OwnP.kept {α : Type} {e : TypeId} {a : Rep α} (ha : a.Ok) {base C : Nat} {w w' : World} {v : Value} {xs : List α} (h : OwnP e a base w v xs) (hg : w.grownBy w' (some C)) (hC : C < base) : OwnP e a base w' v xs := by
  have hlow := h.low hC
  obtain ⟨p, h1, h2, h3⟩ := h
  exact ⟨p, h1, h2.kept hg (.inr hlow), fun x hx => ha.keep (h3 x hx) ⟨hg.size, fun b hb hp => hg.block b hb (fun e => by injection e with e; have := hp.1; omega)⟩⟩
theorem OwnP.below {α : Type} {e : TypeId} {a : Rep α} (ha : a.Ok) {base : Nat} {w w' : World} {v : Value} {xs : List α} (h : OwnP e a base w v xs) (hb : Below w.heap.size w w') : OwnP e a base w' v xs := by
  obtain ⟨p, h1, h2, h3⟩ := h
  exact ⟨p, h1, h2.below hb, fun x hx => ha.keep (h3 x hx) (Keep.below hb)⟩
theorem OwnP.rowP {α : Type} {e : TypeId} {a : Rep α} (ha : a.Ok) {base : Nat} {w : World} {v : Value} {xs : List α} (h : OwnP e a base w v xs) : RowP a (fun b => base ≤ b) w v xs := by
  have hblk := h.block
  obtain ⟨p, h1, h2, h3⟩ := h
  refine ⟨p, h1, h2.row, ?_, fun x hx => ha.mono (h3 x hx) fun b _ h => h.1⟩
  obtain ⟨_, ad, cap, rfl, _, _, h7⟩ := h2.row
  rcases h2.2.2 with ⟨e9, h9⟩ | ⟨g, cap', cur, e9, hb, hg, rest⟩
  · refine .inl ?_
    have : p.length = 0 := by simpa using h9
    exact List.eq_nil_of_length_eq_zero this
  · refine .inr ⟨g, 0, _, cap', e9, (Array.getElem?_eq_some_iff.1 hg).1, hb⟩
/-- One element more: what is known ahead of an append, and behind it. -/
theorem OwnP.row {α : Type} {e : TypeId} {a : Rep α} (ha : a.Ok) {base : Nat} {w : World} {v : Value} {X : List α} (h : OwnP e a base w v X) : ∃ xs : List (List Value), xs.length = X.length ∧ Rk.OwnK e a.k base w v xs ∧
    ∀ (cs : List Value) (z : α) (v' : Value) (w' : World), Rk.OwnK e a.k base w' v' (xs ++ [cs]) → w.grownBy w' v.ownBlock → (v'.ownBlock = v.ownBlock ∨ v'.ownBlock = some w.heap.size) → a.R (fun b => base ≤ b ∧ some b ≠ v.ownBlock) w cs z → OwnP e a base w' v' (X ++ [z]) := by
  obtain ⟨p, h1, h2, h3⟩ := h
  refine ⟨p.map Prod.fst, by rw [← h1, List.length_map, List.length_map], h2, fun cs z v' w' ho hg hv hz => ⟨p ++ [(cs, z)], by rw [List.map_append, h1]; rfl, by rw [List.map_append]; exact ho, fun x hx => ?_⟩⟩
  have hR : a.R (fun b => base ≤ b ∧ some b ≠ v.ownBlock) w x.1 x.2 := by
    rcases List.mem_append.1 hx with hx | hx
    · exact h3 x hx
    · simp only [List.mem_singleton] at hx; subst hx; exact hz
  have h5 := ha.mono (P' := fun b => base ≤ b ∧ some b ≠ v.ownBlock ∧ some b ≠ v'.ownBlock) hR (fun b hb hp => ⟨hp.1, hp.2, by
    rcases hv with e | e
    · rw [e]; exact hp.2
    · rw [e]; intro e2; injection e2 with e2; omega⟩)
  have h6 := ha.keep h5 (w' := w') ⟨hg.size, fun b hb hp => hg.block b hb hp.2.1⟩
  exact ha.mono h6 fun b _ hp => ⟨hp.1, hp.2.2⟩
/-! the parts of a state -/
def labM : Rep Lab := pairM numM (pairM numM (pairM (listM numM) (listM numM)))
def spnM : Rep Spn := pairM numM (pairM numM numM)
def sitM : Rep Sit := pairM numM numM
def segM : Rep Seg := pairM numM (pairM numM (pairM textM (pairM (listM spnM) (listM sitM))))
def docM : Rep Doc := pairM flagM (listM segM)
def thgM : Rep Thg := pairM numM (pairM numM (pairM numM (pairM numM textM)))
def stkM : Rep (List Thg) := listM thgM
def seaM : Rep Sea := pairM textM (pairM numM (pairM numM (pairM numM textM)))
def entM : Rep Ent := pairM numM (pairM numM (pairM numM (pairM (listM numM) (listM numM))))
def staM : Rep Sta := pairM numM (pairM numM (pairM numM (pairM (listM labM) (pairM (listM docM) (pairM (listM stkM) (pairM (listM seaM) (listM entM)))))))
theorem spnM_ok : spnM.Ok := pairM_ok numM_ok (pairM_ok numM_ok numM_ok)
theorem sitM_ok : sitM.Ok := pairM_ok numM_ok numM_ok
theorem labM_ok : labM.Ok := pairM_ok numM_ok (pairM_ok numM_ok (pairM_ok (listM_ok numM_ok) (listM_ok numM_ok)))
theorem segM_ok : segM.Ok := pairM_ok numM_ok (pairM_ok numM_ok (pairM_ok textM_ok (pairM_ok (listM_ok spnM_ok) (listM_ok sitM_ok))))
theorem docM_ok : docM.Ok := pairM_ok flagM_ok (listM_ok segM_ok)
theorem thgM_ok : thgM.Ok := pairM_ok numM_ok (pairM_ok numM_ok (pairM_ok numM_ok (pairM_ok numM_ok textM_ok)))
theorem stkM_ok : stkM.Ok := listM_ok thgM_ok
theorem seaM_ok : seaM.Ok := pairM_ok textM_ok (pairM_ok numM_ok (pairM_ok numM_ok (pairM_ok numM_ok textM_ok)))
theorem entM_ok : entM.Ok := pairM_ok numM_ok (pairM_ok numM_ok (pairM_ok numM_ok (pairM_ok (listM_ok numM_ok) (listM_ok numM_ok))))
theorem staM_ok : staM.Ok := pairM_ok numM_ok (pairM_ok numM_ok (pairM_ok numM_ok (pairM_ok (listM_ok labM_ok) (pairM_ok (listM_ok docM_ok) (pairM_ok (listM_ok stkM_ok) (pairM_ok (listM_ok seaM_ok) (listM_ok entM_ok)))))))
/-! their cells, opened -/
theorem spnM_open {P : Nat → Prop} {w : World} {cs : List Value} {x : Spn} (h : spnM.R P w cs x) : cs = [.int .i64 x.1, .int .i64 x.2.1, .int .i64 x.2.2] := by
  obtain ⟨_, _, rfl, e1, _, _, rfl, e2, e3⟩ := h
  rw [show _ = _ from e1, show _ = _ from e2, show _ = _ from e3]
  rfl
theorem sitM_open {P : Nat → Prop} {w : World} {cs : List Value} {x : Sit} (h : sitM.R P w cs x) : cs = [.int .i64 x.1, .int .i64 x.2] := by
  obtain ⟨_, _, rfl, e1, e2⟩ := h
  rw [show _ = _ from e1, show _ = _ from e2]
  rfl
theorem thgM_open {P : Nat → Prop} {w : World} {cs : List Value} {x : Thg} (h : thgM.R P w cs x) : cs = [.int .i64 x.1, .int .i64 x.2.1, .int .i64 x.2.2.1, .int .i64 x.2.2.2.1, .string (mkB x.2.2.2.2)] := by
  obtain ⟨_, _, rfl, e1, _, _, rfl, e2, _, _, rfl, e3, _, _, rfl, e4, e5⟩ := h
  rw [show _ = _ from e1, show _ = _ from e2, show _ = _ from e3, show _ = _ from e4, show _ = _ from e5]
  rfl
theorem seaM_open {P : Nat → Prop} {w : World} {cs : List Value} {x : Sea} (h : seaM.R P w cs x) : cs = [.string (mkB x.1), .int .i64 x.2.1, .int .i64 x.2.2.1, .int .i64 x.2.2.2.1, .string (mkB x.2.2.2.2)] := by
  obtain ⟨_, _, rfl, e1, _, _, rfl, e2, _, _, rfl, e3, _, _, rfl, e4, e5⟩ := h
  rw [show _ = _ from e1, show _ = _ from e2, show _ = _ from e3, show _ = _ from e4, show _ = _ from e5]
  rfl
theorem labM_open {P : Nat → Prop} {w : World} {cs : List Value} {x : Lab} (h : labM.R P w cs x) : ∃ u v, cs = [.int .i64 x.1, .int .i64 x.2.1, u, v] ∧ RowP numM P w u x.2.2.1 ∧ RowP numM P w v x.2.2.2 := by
  obtain ⟨_, _, rfl, e1, _, _, rfl, e2, _, _, rfl, ⟨u, e3, h3⟩, v, e4, h4⟩ := h
  exact ⟨u, v, by rw [show _ = _ from e1, show _ = _ from e2, e3, e4]; rfl, h3, h4⟩
theorem entM_open {P : Nat → Prop} {w : World} {cs : List Value} {x : Ent} (h : entM.R P w cs x) : ∃ u v, cs = [.int .i64 x.1, .int .i64 x.2.1, .int .i64 x.2.2.1, u, v] ∧ RowP numM P w u x.2.2.2.1 ∧ RowP numM P w v x.2.2.2.2 := by
  obtain ⟨_, _, rfl, e1, _, _, rfl, e2, _, _, rfl, e5, _, _, rfl, ⟨u, e3, h3⟩, v, e4, h4⟩ := h
  exact ⟨u, v, by rw [show _ = _ from e1, show _ = _ from e2, show _ = _ from e5, e3, e4]; rfl, h3, h4⟩
theorem segM_open {P : Nat → Prop} {w : World} {cs : List Value} {x : Seg} (h : segM.R P w cs x) : ∃ u v, cs = [.int .i64 x.1, .int .i64 x.2.1, .string (mkB x.2.2.1), u, v] ∧ RowP spnM P w u x.2.2.2.1 ∧ RowP sitM P w v x.2.2.2.2 := by
  obtain ⟨_, _, rfl, e1, _, _, rfl, e2, _, _, rfl, e5, _, _, rfl, ⟨u, e3, h3⟩, v, e4, h4⟩ := h
  exact ⟨u, v, by rw [show _ = _ from e1, show _ = _ from e2, show _ = _ from e5, e3, e4]; rfl, h3, h4⟩
theorem docM_open {P : Nat → Prop} {w : World} {cs : List Value} {x : Doc} (h : docM.R P w cs x) : ∃ u, cs = [.bool x.1, u] ∧ RowP segM P w u x.2 := by
  obtain ⟨_, _, rfl, e1, u, e2, h2⟩ := h
  exact ⟨u, by rw [show _ = _ from e1, e2]; rfl, h2⟩
theorem staM_open {P : Nat → Prop} {w : World} {cs : List Value} {x : Sta} (h : staM.R P w cs x) : ∃ u3 u4 u5 u6 u7, cs = [.int .i64 x.1, .int .i64 x.2.1, .int .i64 x.2.2.1, u3, u4, u5, u6, u7] ∧ RowP labM P w u3 x.2.2.2.1 ∧ RowP docM P w u4 x.2.2.2.2.1 ∧ RowP stkM P w u5 x.2.2.2.2.2.1 ∧ RowP seaM P w u6 x.2.2.2.2.2.2.1 ∧ RowP entM P w u7 x.2.2.2.2.2.2.2 := by
  obtain ⟨_, _, rfl, e1, _, _, rfl, e2, _, _, rfl, e3, _, _, rfl, ⟨u3, e4, h3⟩, _, _, rfl, ⟨u4, e5, h4⟩, _, _, rfl, ⟨u5, e6, h5⟩, _, _, rfl, ⟨u6, e7, h6⟩, u7, e8, h7⟩ := h
  exact ⟨u3, u4, u5, u6, u7, by rw [show _ = _ from e1, show _ = _ from e2, show _ = _ from e3, e4, e5, e6, e7, e8]; rfl, h3, h4, h5, h6, h7⟩
end Go.Proofs.YtccaiippoephbaaGreatDoor.Sta
/- State: cells of its parts, made and opened. -/
set_option linter.unusedVariables false
set_option linter.unusedSimpArgs false
set_option maxRecDepth 100000
namespace Go.Proofs.YtccaiippoephbaaGreatDoor.Sta
open Go.RowKit Go.Lib Go.Proofs.YtccaiippoephbaaGreatDoor.Bx Go.Proofs.YtccaiippoephbaaGreatDoor.Frm Go.Proofs.YtccaiippoephbaaGreatDoor.Wds

theorem spnM_cells {P : Nat → Prop} {w : World} {cs : List Value} {z : Spn} (h : spnM.R P w cs z) : cs = [.int .i64 z.1, .int .i64 z.2.1, .int .i64 z.2.2] := spnM_open h
theorem sitM_cells {P : Nat → Prop} {w : World} {cs : List Value} {z : Sit} (h : sitM.R P w cs z) : cs = [.int .i64 z.1, .int .i64 z.2] := sitM_open h
theorem labM_cells {P : Nat → Prop} {w : World} {cs : List Value} {z : Lab} (h : labM.R P w cs z) : ∃ u2 c2 u3 c3, cs = [.int .i64 z.1, .int .i64 z.2.1, .slice u2 z.2.2.1.length c2, .slice u3 z.2.2.2.length c3] ∧ RowP numM P w (.slice u2 z.2.2.1.length c2) z.2.2.1 ∧ RowP numM P w (.slice u3 z.2.2.2.length c3) z.2.2.2 := by
  obtain ⟨v2, v3, e, h2, h3⟩ := labM_open h
  obtain ⟨u2, c2, rfl⟩ := h2.is_slice
  obtain ⟨u3, c3, rfl⟩ := h3.is_slice
  exact ⟨u2, c2, u3, c3, e, h2, h3⟩
theorem labM_mk {P : Nat → Prop} {w : World} (x0 : Int) (x1 : Int) {v2 : Value} {x2 : List (Int)} (h2 : RowP numM P w v2 x2) {v3 : Value} {x3 : List (Int)} (h3 : RowP numM P w v3 x3) : labM.R P w [.int .i64 x0, .int .i64 x1, v2, v3] (x0, x1, x2, x3) := ⟨[.int .i64 x0], _, rfl, rfl, ⟨[.int .i64 x1], _, rfl, rfl, ⟨[v2], _, rfl, ⟨_, rfl, h2⟩, ⟨_, rfl, h3⟩⟩⟩⟩
theorem segM_cells {P : Nat → Prop} {w : World} {cs : List Value} {z : Seg} (h : segM.R P w cs z) : ∃ u3 c3 u4 c4, cs = [.int .i64 z.1, .int .i64 z.2.1, .string (mkB z.2.2.1), .slice u3 z.2.2.2.1.length c3, .slice u4 z.2.2.2.2.length c4] ∧ RowP spnM P w (.slice u3 z.2.2.2.1.length c3) z.2.2.2.1 ∧ RowP sitM P w (.slice u4 z.2.2.2.2.length c4) z.2.2.2.2 := by
  obtain ⟨v3, v4, e, h3, h4⟩ := segM_open h
  obtain ⟨u3, c3, rfl⟩ := h3.is_slice
  obtain ⟨u4, c4, rfl⟩ := h4.is_slice
  exact ⟨u3, c3, u4, c4, e, h3, h4⟩
theorem segM_mk {P : Nat → Prop} {w : World} (x0 : Int) (x1 : Int) (x2 : List UInt8) {v3 : Value} {x3 : List (Spn)} (h3 : RowP spnM P w v3 x3) {v4 : Value} {x4 : List (Sit)} (h4 : RowP sitM P w v4 x4) : segM.R P w [.int .i64 x0, .int .i64 x1, .string (mkB x2), v3, v4] (x0, x1, x2, x3, x4) := ⟨[.int .i64 x0], _, rfl, rfl, ⟨[.int .i64 x1], _, rfl, rfl, ⟨[.string (mkB x2)], _, rfl, rfl, ⟨[v3], _, rfl, ⟨_, rfl, h3⟩, ⟨_, rfl, h4⟩⟩⟩⟩⟩
theorem docM_cells {P : Nat → Prop} {w : World} {cs : List Value} {z : Doc} (h : docM.R P w cs z) : ∃ u1 c1, cs = [.bool z.1, .slice u1 z.2.length c1] ∧ RowP segM P w (.slice u1 z.2.length c1) z.2 := by
  obtain ⟨v1, e, h1⟩ := docM_open h
  obtain ⟨u1, c1, rfl⟩ := h1.is_slice
  exact ⟨u1, c1, e, h1⟩
theorem thgM_cells {P : Nat → Prop} {w : World} {cs : List Value} {z : Thg} (h : thgM.R P w cs z) : cs = [.int .i64 z.1, .int .i64 z.2.1, .int .i64 z.2.2.1, .int .i64 z.2.2.2.1, .string (mkB z.2.2.2.2)] := thgM_open h
theorem stkM_cells {P : Nat → Prop} {w : World} {cs : List Value} {z : List Thg} (h : stkM.R P w cs z) : ∃ u0 c0, cs = [.slice u0 z.length c0] ∧ RowP thgM P w (.slice u0 z.length c0) z := by
  obtain ⟨v, e, h⟩ := h
  obtain ⟨u0, c0, rfl⟩ := h.is_slice
  exact ⟨u0, c0, e, h⟩
theorem seaM_cells {P : Nat → Prop} {w : World} {cs : List Value} {z : Sea} (h : seaM.R P w cs z) : cs = [.string (mkB z.1), .int .i64 z.2.1, .int .i64 z.2.2.1, .int .i64 z.2.2.2.1, .string (mkB z.2.2.2.2)] := seaM_open h
theorem entM_cells {P : Nat → Prop} {w : World} {cs : List Value} {z : Ent} (h : entM.R P w cs z) : ∃ u3 c3 u4 c4, cs = [.int .i64 z.1, .int .i64 z.2.1, .int .i64 z.2.2.1, .slice u3 z.2.2.2.1.length c3, .slice u4 z.2.2.2.2.length c4] ∧ RowP numM P w (.slice u3 z.2.2.2.1.length c3) z.2.2.2.1 ∧ RowP numM P w (.slice u4 z.2.2.2.2.length c4) z.2.2.2.2 := by
  obtain ⟨v3, v4, e, h3, h4⟩ := entM_open h
  obtain ⟨u3, c3, rfl⟩ := h3.is_slice
  obtain ⟨u4, c4, rfl⟩ := h4.is_slice
  exact ⟨u3, c3, u4, c4, e, h3, h4⟩
theorem staM_cells {P : Nat → Prop} {w : World} {cs : List Value} {z : Sta} (h : staM.R P w cs z) : ∃ u3 c3 u4 c4 u5 c5 u6 c6 u7 c7, cs = [.int .i64 z.1, .int .i64 z.2.1, .int .i64 z.2.2.1, .slice u3 z.2.2.2.1.length c3, .slice u4 z.2.2.2.2.1.length c4, .slice u5 z.2.2.2.2.2.1.length c5, .slice u6 z.2.2.2.2.2.2.1.length c6, .slice u7 z.2.2.2.2.2.2.2.length c7] ∧ RowP labM P w (.slice u3 z.2.2.2.1.length c3) z.2.2.2.1 ∧ RowP docM P w (.slice u4 z.2.2.2.2.1.length c4) z.2.2.2.2.1 ∧ RowP stkM P w (.slice u5 z.2.2.2.2.2.1.length c5) z.2.2.2.2.2.1 ∧ RowP seaM P w (.slice u6 z.2.2.2.2.2.2.1.length c6) z.2.2.2.2.2.2.1 ∧ RowP entM P w (.slice u7 z.2.2.2.2.2.2.2.length c7) z.2.2.2.2.2.2.2 := by
  obtain ⟨v3, v4, v5, v6, v7, e, h3, h4, h5, h6, h7⟩ := staM_open h
  obtain ⟨u3, c3, rfl⟩ := h3.is_slice
  obtain ⟨u4, c4, rfl⟩ := h4.is_slice
  obtain ⟨u5, c5, rfl⟩ := h5.is_slice
  obtain ⟨u6, c6, rfl⟩ := h6.is_slice
  obtain ⟨u7, c7, rfl⟩ := h7.is_slice
  exact ⟨u3, c3, u4, c4, u5, c5, u6, c6, u7, c7, e, h3, h4, h5, h6, h7⟩
theorem staM_mk {P : Nat → Prop} {w : World} (x0 : Int) (x1 : Int) (x2 : Int) {v3 : Value} {x3 : List (Lab)} (h3 : RowP labM P w v3 x3) {v4 : Value} {x4 : List (Doc)} (h4 : RowP docM P w v4 x4) {v5 : Value} {x5 : List (List Thg)} (h5 : RowP stkM P w v5 x5) {v6 : Value} {x6 : List (Sea)} (h6 : RowP seaM P w v6 x6) {v7 : Value} {x7 : List (Ent)} (h7 : RowP entM P w v7 x7) : staM.R P w [.int .i64 x0, .int .i64 x1, .int .i64 x2, v3, v4, v5, v6, v7] (x0, x1, x2, x3, x4, x5, x6, x7) := ⟨[.int .i64 x0], _, rfl, rfl, ⟨[.int .i64 x1], _, rfl, rfl, ⟨[.int .i64 x2], _, rfl, rfl, ⟨[v3], _, rfl, ⟨_, rfl, h3⟩, ⟨[v4], _, rfl, ⟨_, rfl, h4⟩, ⟨[v5], _, rfl, ⟨_, rfl, h5⟩, ⟨[v6], _, rfl, ⟨_, rfl, h6⟩, ⟨_, rfl, h7⟩⟩⟩⟩⟩⟩⟩⟩
theorem infoint : (Tryz.prog.info? 3).map (fun i => (i.zero, i.size, i.bytes)) = some (some (.int .i64 0), 1, 8) := by kernel_rfl
theorem infoSpan : (Tryz.prog.info? 108).map (fun i => (i.zero, i.size, i.bytes)) = some (some (.agg #[.int .i64 0, .int .i64 0, .int .i64 0]), 3, 24) := by kernel_rfl
theorem infoSite : (Tryz.prog.info? 112).map (fun i => (i.zero, i.size, i.bytes)) = some (some (.agg #[.int .i64 0, .int .i64 0]), 2, 16) := by kernel_rfl
theorem infoLabel : (Tryz.prog.info? 45).map (fun i => (i.zero, i.size, i.bytes)) = some (some (.agg #[.int .i64 0, .int .i64 0, .slice none 0 0, .slice none 0 0]), 4, 64) := by kernel_rfl
theorem infoSeg : (Tryz.prog.info? 67).map (fun i => (i.zero, i.size, i.bytes)) = some (some (.agg #[.int .i64 0, .int .i64 0, .string (ByteArray.mk #[]), .slice none 0 0, .slice none 0 0]), 5, 80) := by kernel_rfl
theorem infoStack : (Tryz.prog.info? 53).map (fun i => (i.zero, i.size, i.bytes)) = some (some (.slice none 0 0), 1, 24) := by kernel_rfl
theorem eight_cells {w : World} {B : Nat} {x0 x1 x2 x3 x4 x5 x6 x7 : Value} {ty : TypeId} (z : w.heap[B]? = some (.cells #[x0, x1, x2, x3, x4, x5, x6, x7] ty (0, 0))) : w.cell? ⟨B, 0, none⟩ = some x0 ∧ w.cell? ⟨B, 1, none⟩ = some x1 ∧ w.cell? ⟨B, 2, none⟩ = some x2 ∧ w.cell? ⟨B, 3, none⟩ = some x3 ∧ w.cell? ⟨B, 4, none⟩ = some x4 ∧ w.cell? ⟨B, 5, none⟩ = some x5 ∧ w.cell? ⟨B, 6, none⟩ = some x6 ∧ w.cell? ⟨B, 7, none⟩ = some x7 := by
  refine ⟨?_, ?_, ?_, ?_, ?_, ?_, ?_, ?_⟩ <;> (rw [cell_of_row _ _ _ _ _ _ z]; rfl)
end Go.Proofs.YtccaiippoephbaaGreatDoor.Sta
