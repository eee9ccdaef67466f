/- Words: rows of things as bytes, there and back (mathematics; no program). -/
import Derived.Test.YthegkookfpnbeaaGj
import Derived.Test.YthegkookfpnbeaaGh
import Derived.Test.YthegkookfpnbeaaNd
import Derived.Test.YthegkookfpnbeaaGs
import Derived.Laws.StructEq
import Derived.Deep.Draws
set_option linter.unusedVariables false
set_option linter.unusedSimpArgs false
namespace Go.Proofs.Ythegkookfpnbeaa.Wds
open Go.Lib Go.Proofs.Ythegkookfpnbeaa.Frm

/-- k things, one behind the other, as long as all is there. -/
def manyR {α : Type} (f : Rd → α × Rd) : Nat → Rd → List α × Rd
  | 0, r => ([], r)
  | k + 1, r => if r.bad = true then ([], r) else ((f r).1 :: (manyR f k (f r).2).1, (manyR f k (f r).2).2)
theorem many_bad {α : Type} {f : Rd → α × Rd} {k : Nat} {r : Rd} (h : r.bad = true) : manyR f k r = ([], r) := by
  cases k with
  | zero => rfl
  | succ k => exact if_pos h
theorem many_next {α : Type} {f : Rd → α × Rd} {k : Nat} {r : Rd} (h : r.bad = false) : manyR f (k + 1) r = ((f r).1 :: (manyR f k (f r).2).1, (manyR f k (f r).2).2) := if_neg (by rw [h]; decide)
theorem many_app {α : Type} {f : Rd → α × Rd} {g : α → List UInt8} : ∀ (xs : List α) (b : List UInt8), (∀ x ∈ xs, ∀ b, f ⟨g x ++ b, false⟩ = (x, ⟨b, false⟩)) → manyR f xs.length ⟨xs.flatMap g ++ b, false⟩ = (xs, ⟨b, false⟩)
  | [], b, _ => rfl
  | x :: xs, b, h => by
    rw [List.length_cons, many_next rfl, List.flatMap_cons, List.append_assoc, h x List.mem_cons_self, many_app xs b (fun y hy => h y (List.mem_cons_of_mem _ hy))]
theorem many_took {α : Type} {f : Rd → α × Rd} {g : α → List UInt8} (h : ∀ r, Took r (g (f r).1) (f r).2) : ∀ (k : Nat) (r : Rd), Took r ((manyR f k r).1.flatMap g) (manyR f k r).2
  | 0, r => Took.refl r
  | k + 1, r => by
    cases hb : r.bad with
    | true =>
      rw [many_bad hb]
      exact Took.refl r
    | false =>
      rw [many_next hb, List.flatMap_cons]
      exact (h r).trans (many_took h k _)
theorem many_len {α : Type} {f : Rd → α × Rd} (h : ∀ r, (f r).2.bad = false → r.bad = false) : ∀ (k : Nat) (r : Rd), (manyR f k r).2.bad = false → (manyR f k r).1.length = k ∧ r.bad = false
  | 0, r, hb => ⟨rfl, hb⟩
  | k + 1, r, hb => by
    cases hr : r.bad with
    | true =>
      rw [many_bad hr] at hb
      rw [hr] at hb
      cases hb
    | false =>
      rw [many_next hr] at hb ⊢
      exact ⟨by show (manyR f k (f r).2).1.length + 1 = _; rw [(many_len h k _ hb).1], rfl⟩
theorem many_all {α : Type} {f : Rd → α × Rd} {P : α → Prop} (h : ∀ r, P (f r).1) : ∀ (k : Nat) (r : Rd), ∀ x ∈ (manyR f k r).1, P x
  | 0, r, x, hx => by cases hx
  | k + 1, r, x, hx => by
    cases hr : r.bad with
    | true => rw [many_bad hr] at hx; cases hx
    | false =>
      rw [many_next hr] at hx
      rcases List.mem_cons.1 hx with rfl | hx
      · exact h r
      · exact many_all h k _ x hx
theorem took_bad {α : Type} {f : Rd → α × Rd} {g : α → List UInt8} (h : ∀ r, Took r (g (f r).1) (f r).2) : ∀ r, (f r).2.bad = false → r.bad = false := fun r hb => ((h r) hb).1
theorem read_many : ∀ (k : Nat) (r : Rd), readN k r = manyR numR k r
  | 0, r => rfl
  | k + 1, r => by
    cases hr : r.bad with
    | true => rw [read_bad hr, many_bad hr]
    | false => rw [read_next hr, many_next hr, read_many k]
/-- A row: its length as a byte, and its things. -/
def rowL {α : Type} (g : α → List UInt8) (xs : List α) : List UInt8 := UInt8.ofNat xs.length :: xs.flatMap g
def rowR {α : Type} (f : Rd → α × Rd) (r : Rd) : List α × Rd := manyR f (lenR r).1 (lenR r).2
theorem row_app {α : Type} {f : Rd → α × Rd} {g : α → List UInt8} (xs : List α) (b : List UInt8) (hl : xs.length ≤ 255) (h : ∀ x ∈ xs, ∀ b, f ⟨g x ++ b, false⟩ = (x, ⟨b, false⟩)) : rowR f ⟨rowL g xs ++ b, false⟩ = (xs, ⟨b, false⟩) := by
  unfold rowR rowL
  rw [List.cons_append, len_app hl]
  exact many_app xs b h
theorem row_took {α : Type} {f : Rd → α × Rd} {g : α → List UInt8} (h : ∀ r, Took r (g (f r).1) (f r).2) (r : Rd) : Took r (rowL g (rowR f r).1) (rowR f r).2 := fun hb => by
  have h1 := many_len (took_bad h) (lenR r).1 (lenR r).2 hb
  have h2 := many_took h (lenR r).1 (lenR r).2 hb
  have h3 := len_took r h1.2
  refine ⟨h3.1, ?_⟩
  have e : rowL g (rowR f r).1 = [UInt8.ofNat (lenR r).1] ++ (rowR f r).1.flatMap g := by
    unfold rowL
    rw [show (rowR f r).1.length = (lenR r).1 from h1.1]
    rfl
  rw [e, h3.2, h2.2, List.append_assoc]
  rfl
theorem list_row (r : Rd) : listR r = rowR numR r := read_many _ _
theorem list_rowL (xs : List Int) : listL xs = rowL numL xs := rfl
/-! runs, entries, answers -/
structure Run where
  i : Int
  l : Int
  o : Bool
  t : List UInt8
abbrev Ent := Aud.En
structure An where
  st : Int
  tok : List UInt8
  num : Int
  at' : Int
  R : List Run
  E : List Ent
def runL (x : Run) : List UInt8 := numL x.i ++ (numL x.l ++ (flagL x.o ++ textL x.t))
def entL (x : Ent) : List UInt8 := numL x.u ++ (numL x.o ++ (numL x.s ++ (rowL numL x.S ++ rowL numL x.L)))
def ansL (a : An) : List UInt8 := [UInt8.ofNat a.st.toNat] ++ (textL a.tok ++ (numL a.num ++ (numL a.at' ++ (rowL runL a.R ++ rowL entL a.E))))
def runR (r : Rd) : Run × Rd :=
  let q1 := numR r
  let q2 := numR q1.2
  let q3 := flagR q2.2
  let q4 := textR q3.2
  (⟨q1.1, q2.1, q3.1, q4.1⟩, q4.2)
def entR (r : Rd) : Ent × Rd :=
  let q1 := numR r
  let q2 := numR q1.2
  let q3 := numR q2.2
  let q4 := rowR numR q3.2
  let q5 := rowR numR q4.2
  (⟨q1.1, q2.1, q3.1, q4.1, q5.1⟩, q5.2)
def toldR (s : List UInt8) : An × Rd :=
  let q1 := lenR ⟨s, false⟩
  let q2 := textR q1.2
  let q3 := numR q2.2
  let q4 := numR q3.2
  let q5 := rowR runR q4.2
  let q6 := rowR entR q5.2
  (⟨q1.1, q2.1, q3.1, q4.1, q5.1, q6.1⟩, q6.2)
def n64 (x : Int) : Prop := -9223372036854775808 ≤ x ∧ x ≤ 9223372036854775807
def okRun (x : Run) : Prop := n64 x.i ∧ n64 x.l ∧ x.t.length ≤ 65535
def okEnt (x : Ent) : Prop := n64 x.u ∧ n64 x.o ∧ n64 x.s ∧ x.S.length ≤ 255 ∧ x.L.length ≤ 255 ∧ (∀ y ∈ x.S, n64 y) ∧ ∀ y ∈ x.L, n64 y
def okAn (a : An) : Prop := (0 ≤ a.st ∧ a.st ≤ 255) ∧ a.tok.length ≤ 65535 ∧ n64 a.num ∧ n64 a.at' ∧ a.R.length ≤ 255 ∧ a.E.length ≤ 255 ∧ (∀ x ∈ a.R, okRun x) ∧ ∀ x ∈ a.E, okEnt x
theorem run_app {x : Run} (h : okRun x) (b : List UInt8) : runR ⟨runL x ++ b, false⟩ = (x, ⟨b, false⟩) := by
  unfold runR runL
  simp only [List.append_assoc, num_app h.1, num_app h.2.1, flag_app, text_app h.2.2]
theorem nums_row_app {xs : List Int} (hl : xs.length ≤ 255) (h : ∀ y ∈ xs, n64 y) (b : List UInt8) : rowR numR ⟨rowL numL xs ++ b, false⟩ = (xs, ⟨b, false⟩) := row_app xs b hl fun y hy b => num_app (h y hy) b
theorem ent_app {x : Ent} (h : okEnt x) (b : List UInt8) : entR ⟨entL x ++ b, false⟩ = (x, ⟨b, false⟩) := by
  obtain ⟨h1, h2, h3, h4, h5, h6, h7⟩ := h
  unfold entR entL
  simp only [List.append_assoc, num_app h1, num_app h2, num_app h3, nums_row_app h4 h6, nums_row_app h5 h7]
theorem told_app {a : An} (h : okAn a) (b : List UInt8) : toldR (ansL a ++ b) = (a, ⟨b, false⟩) := by
  obtain ⟨st, tok, num, at', R, E⟩ := a
  obtain ⟨h1, h2, h3, h4, h5, h6, h7, h8⟩ := h
  simp only at h1 h2 h3 h4 h5 h6 h7 h8
  obtain ⟨k, rfl⟩ : ∃ k : Nat, st = (k : Int) := ⟨st.toNat, by omega⟩
  have e1 : ∀ s, lenR ⟨[UInt8.ofNat k] ++ s, false⟩ = (k, ⟨s, false⟩) := fun s => len_app (by omega) s
  have e5 : ∀ s, rowR runR ⟨rowL runL R ++ s, false⟩ = (R, ⟨s, false⟩) := fun s => row_app R s h5 fun x hx b => run_app (h7 x hx) b
  have e6 : ∀ s, rowR entR ⟨rowL entL E ++ s, false⟩ = (E, ⟨s, false⟩) := fun s => row_app E s h6 fun x hx b => ent_app (h8 x hx) b
  unfold toldR ansL
  simp only [List.append_assoc]
  simp only [Int.toNat_natCast, e1, text_app h2, num_app h3, num_app h4, e5, e6]
theorem run_took (r : Rd) : Took r (runL (runR r).1) (runR r).2 := (num_took r).trans ((num_took _).trans ((flag_took _).trans (text_took _)))
theorem ent_took (r : Rd) : Took r (entL (entR r).1) (entR r).2 := (num_took r).trans ((num_took _).trans ((num_took _).trans ((row_took num_took _).trans (row_took num_took _))))
theorem told_took {s : List UInt8} (h : (toldR s).2 = ⟨[], false⟩) : ansL (toldR s).1 = s := by
  have t : Took ⟨s, false⟩ (ansL (toldR s).1) (toldR s).2 := (len_took ⟨s, false⟩).trans ((text_took _).trans ((num_took _).trans ((num_took _).trans ((row_took run_took _).trans (row_took ent_took _)))))
  rw [h] at t
  obtain ⟨_, e⟩ := t rfl
  rw [List.append_nil] at e
  exact e.symm
end Go.Proofs.Ythegkookfpnbeaa.Wds
/- Words: answers: what is written, and what is read (mathematics; no program). -/
set_option linter.unusedVariables false
set_option linter.unusedSimpArgs false
namespace Go.Proofs.Ythegkookfpnbeaa.Wds
open Go.Lib Go.Proofs.Ythegkookfpnbeaa.Frm

/-- An answer that has bytes. -/
def fitA (a : An) : Prop := (0 ≤ a.st ∧ a.st ≤ 255) ∧ a.tok.length ≤ 65535 ∧ a.R.length ≤ 255 ∧ a.E.length ≤ 255 ∧ (∀ x ∈ a.R, x.t.length ≤ 65535) ∧ ∀ x ∈ a.E, x.S.length ≤ 255 ∧ x.L.length ≤ 255
instance (a : An) : Decidable (fitA a) := by unfold fitA; infer_instance
def answerE (a : An) : List UInt8 × Bool := if fitA a then (ansL a, true) else ([], false)
def zeroA : An := ⟨0, [], 0, 0, [], []⟩
def toldE (s : List UInt8) : An × Bool := if (toldR s).2.bad = false ∧ (toldR s).2.s = [] then ((toldR s).1, true) else (zeroA, false)
/-- An answer whose numbers are numbers. -/
def numsA (a : An) : Prop := n64 a.num ∧ n64 a.at' ∧ (∀ x ∈ a.R, n64 x.i ∧ n64 x.l) ∧ ∀ x ∈ a.E, n64 x.u ∧ n64 x.o ∧ n64 x.s ∧ (∀ y ∈ x.S, n64 y) ∧ ∀ y ∈ x.L, n64 y
theorem ok_of {a : An} (h : fitA a) (hn : numsA a) : okAn a := by
  obtain ⟨h1, h2, h3, h4, h5, h6⟩ := h
  obtain ⟨n1, n2, n3, n4⟩ := hn
  exact ⟨h1, h2, n1, n2, h3, h4, fun x hx => ⟨(n3 x hx).1, (n3 x hx).2, h5 x hx⟩, fun x hx => ⟨(n4 x hx).1, (n4 x hx).2.1, (n4 x hx).2.2.1, (h6 x hx).1, (h6 x hx).2, (n4 x hx).2.2.2.1, (n4 x hx).2.2.2.2⟩⟩
theorem fit_of {a : An} (h : okAn a) : fitA a := by
  obtain ⟨h1, h2, _, _, h5, h6, h7, h8⟩ := h
  exact ⟨h1, h2, h5, h6, fun x hx => (h7 x hx).2.2, fun x hx => ⟨(h8 x hx).2.2.2.1, (h8 x hx).2.2.2.2.1⟩⟩
/-- What is written is read. -/
theorem told_answer {a : An} (hn : numsA a) (h : (answerE a).2 = true) : toldE (answerE a).1 = (a, true) := by
  unfold answerE at h ⊢
  by_cases hf : fitA a
  · rw [if_pos hf]
    have ht := told_app (ok_of hf hn) []
    rw [List.append_nil] at ht
    unfold toldE
    rw [ht]
    exact if_pos ⟨rfl, rfl⟩
  · rw [if_neg hf] at h
    cases h
theorem many_le {α : Type} {f : Rd → α × Rd} : ∀ (k : Nat) (r : Rd), (manyR f k r).1.length ≤ k
  | 0, r => Nat.le_refl _
  | k + 1, r => by
    cases hr : r.bad with
    | true => rw [many_bad hr]; exact Nat.zero_le _
    | false => rw [many_next hr]; exact Nat.succ_le_succ (many_le k _)
theorem len_255 (r : Rd) : (lenR r).1 ≤ 255 := by
  have h : (lenR r).1 < 256 := UInt8.toNat_lt _
  omega
theorem row_le {α : Type} {f : Rd → α × Rd} (r : Rd) : (rowR f r).1.length ≤ 255 := Nat.le_trans (many_le _ _) (len_255 r)
theorem num_n64 (r : Rd) : n64 (numR r).1 := num_in r
theorem run_ok (r : Rd) : okRun (runR r).1 := ⟨num_n64 _, num_n64 _, text_le _⟩
theorem ent_ok (r : Rd) : okEnt (entR r).1 := ⟨num_n64 _, num_n64 _, num_n64 _, row_le _, row_le _, many_all num_n64 _ _, many_all num_n64 _ _⟩
theorem told_ok (s : List UInt8) : okAn (toldR s).1 := by
  have h := len_255 ⟨s, false⟩
  exact ⟨⟨by show (0 : Int) ≤ ((lenR ⟨s, false⟩).1 : Int); omega, by show ((lenR ⟨s, false⟩).1 : Int) ≤ 255; omega⟩, text_le _, num_n64 _, num_n64 _, row_le _, row_le _, many_all run_ok _ _, many_all ent_ok _ _⟩
/-- What is read is written as it was. -/
theorem told_yes {s : List UInt8} (h : (toldE s).2 = true) : okAn (toldE s).1 ∧ answerE (toldE s).1 = (s, true) := by
  unfold toldE at h ⊢
  by_cases hc : (toldR s).2.bad = false ∧ (toldR s).2.s = []
  · rw [if_pos hc]
    have hb : ansL (toldR s).1 = s := told_took (by
      obtain ⟨h1, h2⟩ := hc
      generalize (toldR s).2 = r at *
      cases r
      simp only at h1 h2
      rw [h1, h2])
    refine ⟨told_ok s, ?_⟩
    show answerE (toldR s).1 = (s, true)
    unfold answerE
    rw [if_pos (fit_of (told_ok s)), hb]
  · rw [if_neg hc] at h
    cases h
theorem told_no {s : List UInt8} (h : (toldE s).2 = false) : toldE s = (zeroA, false) := by
  unfold toldE at h ⊢
  by_cases hc : (toldR s).2.bad = false ∧ (toldR s).2.s = []
  · rw [if_pos hc] at h; cases h
  · rw [if_neg hc]
theorem told_more {s b : List UInt8} (h : (toldE s).2 = true) (hb : b ≠ []) : (toldE (s ++ b)).2 = false := by
  obtain ⟨ho, hc⟩ := told_yes h
  have hbo : ansL (toldE s).1 = s := by
    unfold answerE at hc
    rw [if_pos (fit_of ho)] at hc
    exact congrArg Prod.fst hc
  have ha := told_app ho b
  rw [hbo] at ha
  unfold toldE
  rw [ha, if_neg]
  rintro ⟨_, h9⟩
  exact hb h9
theorem told_less {s : List UInt8} {k : Nat} (h : (toldE s).2 = true) (hk : k < s.length) : (toldE (s.take k)).2 = false := by
  cases hq : (toldE (s.take k)).2 with
  | false => rfl
  | true =>
    have := told_more (b := s.drop k) hq (by intro e; have h1 := congrArg List.length e; rw [List.length_drop] at h1; simp at h1; omega)
    rw [List.take_append_drop, h] at this
    cases this
end Go.Proofs.Ythegkookfpnbeaa.Wds
/- Words: runs: rows of them; Same of the plain text. -/
set_option linter.unusedVariables false
set_option linter.unusedSimpArgs false
set_option maxRecDepth 100000
namespace Go.Proofs.Ythegkookfpnbeaa.Wds
open Go.RowKit Go.Lib Go.Proofs.Ythegkookfpnbeaa.Bx Go.Proofs.Ythegkookfpnbeaa.Frm

def runC (y : Run) : List Value := [.int .i64 y.i, .int .i64 y.l, .bool y.o, .string (mkB y.t)]
def Rns (w : World) (v : Value) (R : List Run) : Prop := Rk.RowK 4 w v (R.map runC)
theorem Rns.below {w w' : World} {v : Value} {R : List Run} (h : Rns w v R) (hb : Below w.heap.size w w') : Rns w' v R := Rk.RowK.below h hb (Nat.le_refl _)
theorem Rns.nil_ (w : World) : Rns w (.slice none 0 0) [] := Rk.RowK.nil_ _ _
theorem hS_run : Try.prog.underlying 114 = some (.struct (Try.prog.fieldsOf 114)) := by kernel_rfl
theorem guard_run (op : BinOp) (x y : Operand) (xs ys : Array Value) (w : World) : (eqGuard op 114 x y (.agg xs) (.agg ys)).run Try.prog w = .ok () w := run_eqGuard_agg w op _ x y xs ys (by kernel_rfl)
theorem neq_run (a b : Int) (o : Bool) (s : ByteArray) (w : World) : (binOp .neq 114 (.agg #[.int .i64 a, .int .i64 b, .bool o, .string s]) (.agg #[.int .i64 a, .int .i64 b, .bool o, .string s])).run Try.prog w = .ok (.bool false) w := by
  have u3 := Try.underlying3
  have a3 := Try.isAgg3
  have z3 := Try.sizeOf3
  have u4 := Try.underlying4
  have a4 := Try.isAgg4
  have z4 := Try.sizeOf4
  have u9 := Try.underlying9
  have a9 := Try.isAgg9
  have z9 := Try.sizeOf9
  have hp : Try.prog.stoodInHeld 114 = false := by kernel_rfl
  rw [run_neq_struct, show (10000 : Nat) = 9999 + 1 from rfl, run_equalIn_agg w 9999 114 _ _ hS_run hp]
  simp only [Program.fieldsOf, Try.underlying114]
  go_simp
theorem Rns.open_ {w : World} {v : Value} {A : List Run} (h : Rns w v A) : ∃ a cap, v = .slice a A.length cap ∧ A.length ≤ cap ∧ cap ≤ maxLen ∧ ∀ j (hj : j < A.length), ∃ b off, a = some ⟨b, off, none⟩ ∧ b < w.heap.size ∧
    w.cell? ⟨b, off + j * 4, none⟩ = some (.int .i64 A[j].i) ∧ w.cell? ⟨b, off + j * 4 + 1, none⟩ = some (.int .i64 A[j].l) ∧ w.cell? ⟨b, off + j * 4 + 2, none⟩ = some (.bool A[j].o) ∧ w.cell? ⟨b, off + j * 4 + 3, none⟩ = some (.string (mkB A[j].t)) := by
  obtain ⟨_, a, cap, e, h1, h2, h3⟩ := h
  rw [List.length_map] at e h1
  refine ⟨a, cap, e, h1, h2, fun j hj => ?_⟩
  rcases h3 with h3 | ⟨b, off, rfl, hb, hc⟩
  · have : A.length = 0 := by rw [← List.length_map (f := runC), h3]; rfl
    omega
  · have hc' := hc j (by rw [List.length_map]; exact hj)
    simp only [List.getElem_map] at hc'
    exact ⟨b, off, rfl, hb, hc' 0 _ rfl, hc' 1 _ rfl, hc' 2 _ rfl, hc' 3 _ rfl⟩
set_option maxHeartbeats 4000000 in
theorem rsame_any {u v : Value} {R : List Run} (w : World) (h1 : Rns w u R) (h2 : Rns w v R) : Calls Try.prog 49 #[u, v] w fun e w' => e = .returned (.bool true) ∧ Below w.heap.size w w' := by
  obtain ⟨a1, c1, rfl, hl1, hm1, q1⟩ := h1.open_
  obtain ⟨a2, c2, rfl, hl2, hm2, q2⟩ := h2.open_
  obtain ⟨n, hn⟩ : ∃ n, n = R.length := ⟨_, rfl⟩
  rw [← hn] at hl1 hl2 ⊢
  have HN := Lib.hid hn
  have H1 := Lib.hid q1
  have H2 := Lib.hid q2
  have GS := guard_run
  unfold maxLen at hm1 hm2
  clear q1 q2 h1 h2 hn
  go_enter Try.func49, Try.ntmps49
  go_wp2_with fail
  go_loopg [5] n (fun g i wr => ∃ k : Nat, k ≤ n ∧ n - k ≤ g ∧ i = .int .i64 k ∧ Below w.heap.size w wr)
  case atStart => exact ⟨0, Nat.zero_le _, by omega, rfl, Below.refl _ _⟩
  case round =>
    obtain ⟨k, hk, hg, rfl, hbel⟩ := hrel
    have HB := Lib.hid hbel
    by_cases hlt : k < n
    · have hkl : k < R.length := by rw [← HN.out]; exact hlt
      obtain ⟨b1, o1, rfl, lt1, c0, c1, c2, c3⟩ := H1.out k hkl
      obtain ⟨b2, o2, rfl, lt2, d0, d1, d2, d3⟩ := H2.out k hkl
      generalize R[k] = y at *
      obtain ⟨yi, yl, yo, yt⟩ := y
      simp only at c0 c1 c2 c3 d0 d1 d2 d3
      replace c0 := vcell hbel lt1 c0
      replace c1 := vcell hbel lt1 c1
      replace c2 := vcell hbel lt1 c2
      replace c3 := vcell hbel lt1 c3
      replace d0 := vcell hbel lt2 d0
      replace d1 := vcell hbel lt2 d1
      replace d2 := vcell hbel lt2 d2
      replace d3 := vcell hbel lt2 d3
      have NE := fun w => neq_run yi yl yo (mkB yt) w
      have i0 : (0 : Int) ≤ (k : Int) := by omega
      have i1 : (k : Int) < (n : Int) := by omega
      clear hbel H1 H2
      go_upto_region 6 with fail
      go_quiet (fail)
      go_wp2_with fail
      go_roundg (n - (k + 1))
      case measure => omega
      case rel => exact ⟨k + 1, by omega, Nat.le_refl _, by go_num, by first | exact HB.out | exact HB.out.drew | exact d_drews HB.out _⟩
    · obtain rfl : k = n := by omega
      have i1 : ¬ ((k : Int) < (k : Int)) := by omega
      clear hbel H1 H2
      go_wp2_with fail
      go_ret
      exact ⟨by simp, HB.out⟩
end Go.Proofs.Ythegkookfpnbeaa.Wds
/- Words: answers as values; Same of the plain text. -/
set_option linter.unusedVariables false
set_option linter.unusedSimpArgs false
set_option maxRecDepth 100000
namespace Go.Proofs.Ythegkookfpnbeaa.Wds
open Go.RowKit Go.Lib Go.Proofs.Ythegkookfpnbeaa.Bx Go.Proofs.Ythegkookfpnbeaa.Frm

/-- A value that is an answer. -/
def AnV (w : World) (v : Value) (a : An) : Prop := ∃ rv ev, v = .agg #[.int .i64 a.st, .string (mkB a.tok), .int .i64 a.num, .int .i64 a.at', rv, ev] ∧ Rns w rv a.R ∧ Aud.EnsP (fun _ => True) w ev a.E
theorem AnV.below {w w' : World} {v : Value} {a : An} (h : AnV w v a) (hb : Below w.heap.size w w') : AnV w' v a := by
  obtain ⟨rv, ev, e, h1, h2⟩ := h
  exact ⟨rv, ev, e, h1.below hb, h2.below hb⟩
theorem six_cells {w : World} {B : Nat} {x0 x1 x2 x3 x4 x5 : Value} {ty : TypeId} (z : w.heap[B]? = some (.cells #[x0, x1, x2, x3, x4, x5] ty (0, 0))) : w.cell? ⟨B, 0, none⟩ = some x0 ∧ w.cell? ⟨B, 1, none⟩ = some x1 ∧ w.cell? ⟨B, 2, none⟩ = some x2 ∧ w.cell? ⟨B, 3, none⟩ = some x3 ∧ w.cell? ⟨B, 4, none⟩ = some x4 ∧ w.cell? ⟨B, 5, none⟩ = some x5 := by
  refine ⟨?_, ?_, ?_, ?_, ?_, ?_⟩ <;> (rw [cell_of_row _ _ _ _ _ _ z]; rfl)
set_option maxHeartbeats 4000000 in
theorem asame_any {u v : Value} {a : An} (w : World) (h1 : AnV w u a) (h2 : AnV w v a) : Calls Try.prog 21 #[u, v] w fun e w' => e = .returned (.bool true) ∧ Below w.heap.size w w' := by
  obtain ⟨r1, e1, rfl, hr1, he1⟩ := h1
  obtain ⟨r2, e2, rfl, hr2, he2⟩ := h2
  obtain ⟨B0, P0, L0⟩ := box1 w #[.int .i64 a.st, .string (mkB a.tok), .int .i64 a.num, .int .i64 a.at', r1, e1] 46
  obtain ⟨W0, hW0⟩ : ∃ W0, W0 = w.alloc (.cells #[.int .i64 a.st, .string (mkB a.tok), .int .i64 a.num, .int .i64 a.at', r1, e1] 46) := ⟨_, rfl⟩
  rw [← hW0] at B0 P0 L0
  obtain ⟨B1, P1, L1⟩ := box1 W0 #[.int .i64 a.st, .string (mkB a.tok), .int .i64 a.num, .int .i64 a.at', r2, e2] 46
  obtain ⟨W1, hW1⟩ : ∃ W1, W1 = W0.alloc (.cells #[.int .i64 a.st, .string (mkB a.tok), .int .i64 a.num, .int .i64 a.at', r2, e2] 46) := ⟨_, rfl⟩
  rw [← hW1] at B1 P1 L1
  have B01 := below_on B0 B1
  have P0' := (B1.block _ (by omega)).trans P0
  have CR := Lib.hid (rsame_any W1 (hr1.below B01) (hr2.below B01))
  have CE : Hid (∀ w', Below W1.heap.size W1 w' → Calls Try.prog 50 #[e1, e2] w' fun e w'' => e = .returned (.bool true) ∧ Below w'.heap.size w' w'') := fun w' hb => Aud.esame_any w' (he1.below (below_on B01 hb)) (he2.below (below_on B01 hb))
  have HC : Hid (∀ w', Below W1.heap.size W1 w' → w'.heap[w.heap.size]? = some (.cells #[.int .i64 a.st, .string (mkB a.tok), .int .i64 a.num, .int .i64 a.at', r1, e1] 46 (0, 0)) ∧ w'.heap[W0.heap.size]? = some (.cells #[.int .i64 a.st, .string (mkB a.tok), .int .i64 a.num, .int .i64 a.at', r2, e2] 46 (0, 0))) := fun w' hb => ⟨(hb.block _ (by omega)).trans P0', (hb.block _ (by omega)).trans P1⟩
  have HW1 : Hid (W1 = (w.alloc (.cells #[.int .i64 a.st, .string (mkB a.tok), .int .i64 a.num, .int .i64 a.at', r1, e1] 46)).alloc (.cells #[.int .i64 a.st, .string (mkB a.tok), .int .i64 a.num, .int .i64 a.at', r2, e2] 46)) := by show _ = _; rw [hW1, hW0]
  obtain ⟨q1, q2⟩ := HC.out W1 (Below.refl _ _)
  rw [L0] at q2
  obtain ⟨c0, c1, c2, c3, c4, c5⟩ := six_cells q1
  obtain ⟨d0, d1, d2, d3, d4, d5⟩ := six_cells q2
  have HL0 : Hid (W0.heap.size = w.heap.size + 1) := L0
  have HB := Lib.hid B01
  obtain ⟨a1, k1, er1⟩ := Rk.RowK.is_slice hr1
  obtain ⟨a2, k2, er2⟩ := Rk.RowK.is_slice hr2
  generalize mkB a.tok = s at *
  generalize a.st = x0 at *
  generalize a.num = x2 at *
  generalize a.at' = x3 at *
  have ss : (s.toList == s.toList) = true := by simp
  clear B0 P0 L0 B1 P1 L1 hW0 hW1 B01 P0' q1 q2 hr1 hr2 he1 he2 er1 er2
  go_enter Try.func21, Try.ntmps21
  go_upto_region 1 with fail
  rw [← HW1.out]
  go_wp2_with fail
  refine CR.out.mono ?_
  rintro e w2 ⟨rfl, b2⟩
  obtain ⟨q1, q2⟩ := HC.out w2 b2
  rw [HL0.out] at q2
  clear c0 c1 c2 c3 c4 c5 d0 d1 d2 d3 d4 d5
  obtain ⟨c0, c1, c2, c3, c4, c5⟩ := six_cells q1
  obtain ⟨d0, d1, d2, d3, d4, d5⟩ := six_cells q2
  have C2 := Lib.hid (CE.out w2 b2)
  have HB2 := Lib.hid (below_on HB.out b2)
  clear q1 q2 b2 CE HC CR
  go_wp2_with fail
  refine C2.out.mono ?_
  rintro e w3 ⟨rfl, b3⟩
  have HB3 := Lib.hid (below_on HB2.out b3)
  clear b3 C2
  go_wp2_with fail
  go_ret
  exact ⟨rfl, HB3.out⟩
end Go.Proofs.Ythegkookfpnbeaa.Wds
