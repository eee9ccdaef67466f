/- Salt: users; Right of the plain text. -/
import Derived.Test.YtffepndeegbdoaaGreatDoorSv
import Derived.Test.YtffepndeegbdoaaGreatDoorRw
import Derived.OpenShut
import Derived.Lib.Strings
import Derived.BigQuiet
set_option linter.unusedVariables false
set_option linter.unusedSimpArgs false
set_option maxRecDepth 100000
namespace Go.Proofs.YtffepndeegbdoaaGreatDoor.Slt
open Go.RowKit Go.Lib Go.Proofs.YtffepndeegbdoaaGreatDoor.Bx

structure Us where
  n : ByteArray
  s : ByteArray
  l : ByteArray
def UsP (w : World) (x : List Value) (y : Us) : Prop := x = [.string y.n, .string y.s, .string y.l] ∧ y.n.size ≤ 140737488355328 ∧ y.s.size ≤ 140737488355328 ∧ y.l.size ≤ 140737488355328
def Users (w : World) (v : Value) (A : List Us) : Prop := Rk.Rows 3 UsP w v A
theorem Users.below {w w' : World} {v : Value} {A : List Us} (h : Users w v A) (hb : Below w.heap.size w w') : Users w' v A := Rk.Rows.below (R := UsP) (fun h _ => h) h hb
theorem Users.is_slice {w : World} {v : Value} {A : List Us} (h : Users w v A) : ∃ a cap, v = .slice a A.length cap ∧ A.length ≤ cap ∧ cap ≤ maxLen := by
  obtain ⟨a, cap, rfl⟩ := Rk.Rows.is_slice h
  exact ⟨a, cap, rfl, (Rk.Rows.len h).2⟩
def us (A : List Us) (i : Nat) : Us := A.getD i ⟨ByteArray.empty, ByteArray.empty, ByteArray.empty⟩
theorem Users.get {w : World} {a : Option Addr} {n cap : Nat} {A : List Us} (h : Users w (.slice a n cap) A) {j : Nat} (hj : j < A.length) :
    ∃ b off, a = some ⟨b, off, none⟩ ∧ b < w.heap.size ∧ w.cell? ⟨b, off + j * 3, none⟩ = some (.string (us A j).n) ∧ w.cell? ⟨b, off + j * 3 + 1, none⟩ = some (.string (us A j).s) ∧ w.cell? ⟨b, off + j * 3 + 2, none⟩ = some (.string (us A j).l) ∧ (us A j).n.size ≤ 140737488355328 ∧ (us A j).s.size ≤ 140737488355328 ∧ (us A j).l.size ≤ 140737488355328 := by
  obtain ⟨b, off, x, rfl, hb, hl, hx, hc⟩ := Rk.Rows.get h hj
  have e : us A j = A[j] := by unfold us; rw [List.getD_eq_getElem?_getD, List.getElem?_eq_getElem hj]; rfl
  rw [e]
  obtain ⟨rfl, h1, h2, h3⟩ := hx
  exact ⟨b, off, rfl, hb, hc 0 _ rfl, hc 1 _ rfl, hc 2 _ rfl, h1, h2, h3⟩
section
open Go.ChangeShapes Go.WideShapes Go.Deep
variable {H : Type} {enc : TypeId × Value → H}
theorem cellsOf_user : Tryz.prog.cellsOf 44 = 3 := by kernel_rfl
theorem cellsOf_string : Tryz.prog.cellsOf 9 = 1 := by kernel_rfl
theorem us_of {W : World} {m : Nat} {x : DataW H × List MemPlace} {cs : List Value} (hl : cs.length = 3) (ht : DataW.trod enc Tryz.prog W 0 (fun _ => true) true m 44 cs = some x) (hw : ∀ n ∈ x.1.weights Tryz.prog 44, n ≤ 140737488355328) : ∃ y : Us, UsP W cs y := by
  obtain ⟨xs, m, _, hx, _, hxl, hg⟩ := DataW.trod_struct Tryz.underlying44 ht
  match cs, hl with
  | [c0, c1, c2], _ =>
    have hxs : xs.length = 3 := hxl
    match xs, hxs with
    | [x0, x1, x2], _ =>
      have g0 : DataW.trod enc Tryz.prog W 0 (fun _ => true) true m 9 (([c0, c1, c2].drop 0).take (Tryz.prog.cellsOf 9)) = some x0 := hg 0 _ rfl
      have g1 : DataW.trod enc Tryz.prog W 0 (fun _ => true) true m 9 (([c0, c1, c2].drop 1).take (Tryz.prog.cellsOf 9)) = some x1 := hg 1 _ rfl
      have g2 : DataW.trod enc Tryz.prog W 0 (fun _ => true) true m 9 (([c0, c1, c2].drop 2).take (Tryz.prog.cellsOf 9)) = some x2 := hg 2 _ rfl
      rw [cellsOf_string] at g0 g1 g2
      obtain ⟨a0, e0, ex0, w0⟩ := DataW.trod_string Tryz.underlying9 g0
      obtain ⟨a1, e1, ex1, w1⟩ := DataW.trod_string Tryz.underlying9 g1
      obtain ⟨a2, e2, ex2, w2⟩ := DataW.trod_string Tryz.underlying9 g2
      simp at e0 e1 e2
      subst e0 e1 e2
      have hwt : ∀ (j : Nat) (s : ByteArray) (d : DataW H), [x0.1, x1.1, x2.1][j]? = some d → [9, 9, 9][j]? = some 9 → d = .lit (.string s.data.toList) → s.size ≤ 140737488355328 := fun j s d h1 h2 h3 => by
        refine hw s.data.toList.length ?_
        rw [hx]
        simp only [DataW.weights, Tryz.underlying44]
        refine DataW.weights_mem_each (j := j) (t := 9) (d := d) h2 h1 _ ?_
        rw [h3]
        simp [DataW.weights]
      exact ⟨⟨a0, a1, a2⟩, rfl, hwt 0 a0 _ rfl rfl (by rw [ex0]), hwt 1 a1 _ rfl rfl (by rw [ex1]), hwt 2 a2 _ rfl rfl (by rw [ex2])⟩
theorem open_users {W : World} {v : Value} {d : DataW H} {p : List MemPlace} {base : Nat} (hv : Value.okWide Tryz.prog W .any base 22 v) (h : DataW.Trod enc Tryz.prog W 0 (fun _ => true) true 22 v d p) (hw : ∀ n ∈ d.weights Tryz.prog 22, n ≤ 140737488355328) : ∃ A : List Us, Users W v A :=
  Rk.open_rowsw Tryz.underlying22 cellsOf_user (by decide) hv h 140737488355328 hw fun m cs x hl ht hw => us_of hl ht hw
end
def badU (y : Us) : Bool := decide (y.n.size = 0) || decide (20 < y.n.size) || decide (20 < y.s.size) || !sealB (bytesN y.l)
def okAt (A : List Us) (i : Nat) : Bool := !badU (us A i) && (List.range i).all fun k => !decide ((us A k).n = (us A i).n)
def rightU (A : List Us) : Bool := decide (1 ≤ A.length) && decide (A.length ≤ 8) && (List.range A.length).all (okAt A)
theorem right_no {A : List Us} {i : Nat} (hi : i < A.length) (h : okAt A i = false) : rightU A = false := by
  unfold rightU
  have : (List.range A.length).all (okAt A) = false := by
    rw [Bool.eq_false_iff]
    intro h'
    rw [List.all_eq_true] at h'
    have := h' i (List.mem_range.2 hi)
    rw [h] at this
    cases this
  rw [this, Bool.and_false]
theorem right_yes {A : List Us} (h1 : 1 ≤ A.length) (h8 : A.length ≤ 8) (h : ∀ i, i < A.length → okAt A i = true) : rightU A = true := by
  unfold rightU
  rw [decide_eq_true h1, decide_eq_true h8, List.all_eq_true.2 (fun i hi => h i (List.mem_range.1 hi))]
  rfl
theorem ok_bad {A : List Us} {i : Nat} (h : badU (us A i) = true) : okAt A i = false := by unfold okAt; rw [h]; rfl
theorem ok_same {A : List Us} {i k : Nat} (hk : k < i) (h : (us A k).n = (us A i).n) : okAt A i = false := by
  unfold okAt
  have : (List.range i).all (fun k => !decide ((us A k).n = (us A i).n)) = false := by
    rw [Bool.eq_false_iff]
    intro h'
    rw [List.all_eq_true] at h'
    have := h' k (List.mem_range.2 hk)
    rw [decide_eq_true h] at this
    cases this
  rw [this, Bool.and_false]
theorem ok_yes {A : List Us} {i : Nat} (h : badU (us A i) = false) (h' : ∀ k, k < i → (us A k).n ≠ (us A i).n) : okAt A i = true := by
  unfold okAt
  rw [h, List.all_eq_true.2 (fun k hk => by rw [decide_eq_false (h' k (List.mem_range.1 hk))]; rfl)]
  rfl
theorem str_empty (s : ByteArray) : s.toList.isEmpty = decide (s.size = 0) := by
  rw [Lib.toList_data]
  show s.data.toList.isEmpty = decide (s.data.toList.length = 0)
  cases s.data.toList with
  | nil => rfl
  | cons a l => simp
theorem str_eq (s t : ByteArray) : (s.toList == t.toList) = decide (s = t) := by
  rw [Lib.toList_data, Lib.toList_data]
  by_cases h : s = t
  · subst h; simp
  · rw [decide_eq_false h]
    simp only [beq_eq_false_iff_ne, ne_eq]
    intro e
    exact h (by cases s; cases t; congr; exact Array.toList_inj.1 e)
end Go.Proofs.YtffepndeegbdoaaGreatDoor.Slt
