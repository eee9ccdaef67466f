/- Ledger: a ledger in memory; its small calls. -/
import Derived.Test.YtffejfpbeimngaaDoorLa
import Derived.Test.YtffejfpbeimngaaDoorY16n
import Derived.RegionTactic
import Derived.BigRegion
import Derived.BigQuiet
set_option linter.unusedVariables false
set_option linter.unusedSimpArgs false
set_option maxRecDepth 100000
namespace Go.Proofs.YtffejfpbeimngaaDoor.Ldg
open Go.RowKit Go.Lib Go.Proofs.YtffejfpbeimngaaDoor.Bx Go.Proofs.YtffejfpbeimngaaDoor.Frm Go.Proofs.YtffejfpbeimngaaDoor.Wds Go.Proofs.YtffejfpbeimngaaDoor.Plt

/-- A ledger's own fields. -/
structure LS where
  first : Nat
  n : Nat
  p : Nat
  number : Nat
  taken : Nat
structure LS.Ok (l : LS) : Prop where
  f : l.first ≤ 16384
  n1 : 2 ≤ l.n
  n2 : l.n ≤ 16384
  p : l.p < l.n
  num : l.number ≤ 1099511627776
  tk : l.taken ≤ l.n
def ledV (B : Nat) (l : LS) : Array Value := #[.pointer (some ⟨B, 0, none⟩), .int .i64 (l.first : Nat), .int .i64 (l.n : Nat), .int .i64 (l.p : Nat), .int .i64 (l.number : Nat), .int .i64 (l.taken : Nat)]
def Led (w : World) (X B : Nat) (l : LS) : Prop := w.heap[X]? = some (.cells (ledV B l) 53 (0, 0))
theorem six_cells {w : World} {B : Nat} {x0 x1 x2 x3 x4 x5 : Value} {ty : TypeId} (z : w.heap[B]? = some (.cells #[x0, x1, x2, x3, x4, x5] ty (0, 0))) : w.cell? ⟨B, 0, none⟩ = some x0 ∧ w.cell? ⟨B, 1, none⟩ = some x1 ∧ w.cell? ⟨B, 2, none⟩ = some x2 ∧ w.cell? ⟨B, 3, none⟩ = some x3 ∧ w.cell? ⟨B, 4, none⟩ = some x4 ∧ w.cell? ⟨B, 5, none⟩ = some x5 := by
  refine ⟨?_, ?_, ?_, ?_, ?_, ?_⟩ <;> (rw [cell_of_row _ _ _ _ _ _ z]; rfl)
theorem Led.cells {w : World} {X B : Nat} {l : LS} (h : Led w X B l) : w.cell? ⟨X, 0, none⟩ = some (.pointer (some ⟨B, 0, none⟩)) ∧ w.cell? ⟨X, 1, none⟩ = some (.int .i64 (l.first : Nat)) ∧ w.cell? ⟨X, 2, none⟩ = some (.int .i64 (l.n : Nat)) ∧ w.cell? ⟨X, 3, none⟩ = some (.int .i64 (l.p : Nat)) ∧ w.cell? ⟨X, 4, none⟩ = some (.int .i64 (l.number : Nat)) ∧ w.cell? ⟨X, 5, none⟩ = some (.int .i64 (l.taken : Nat)) := six_cells h
theorem Led.lt {w : World} {X B : Nat} {l : LS} (h : Led w X B l) : X < w.heap.size := (Array.getElem?_eq_some_iff.1 h).1
theorem Led.free {w : World} {X B i : Nat} {l : LS} (h : Led w X B l) : w.frozen? ⟨X, i, none⟩ = false := free_at h
theorem Led.same {w w' : World} {X B : Nat} {l : LS} (h : Led w X B l) (hs : w'.heap[X]? = w.heap[X]?) : Led w' X B l := hs.trans h
theorem Led.below {w w' : World} {X B A : Nat} {l : LS} (h : Led w X B l) (hb : Below A w w') (hA : X < A) : Led w' X B l := h.same (hb.block X hA)
theorem tmod_nat (a b : Nat) : Int.tmod (a : Int) (b : Int) = ((a % b : Nat) : Int) := rfl

section
variable {w : World} {X B : Nat} {l : LS}
set_option maxHeartbeats 4000000 in
theorem plate_any (h : Led w X B l) (ok : l.Ok) (i : Nat) (hi : i ≤ 100000) : Calls Tryd.prog 34 #[.pointer (some ⟨X, 0, none⟩), .int .i64 (i : Nat)] w fun e w' => e = .returned (.int .i64 ((l.first + (l.p + i) % l.n : Nat) : Int)) ∧ ∃ q, w' = w.drewN q := by
  obtain ⟨c0, c1, c2, c3, c4, c5⟩ := h.cells
  obtain ⟨o1, o2, o3, o4, o5, o6⟩ := ok
  obtain ⟨first, n, p, number, taken⟩ := l
  simp only at c1 c2 c3 o1 o2 o3 o4 ⊢
  clear c0 c4 c5 o5 o6 h
  obtain ⟨r, hr⟩ : ∃ r, r = (p + i) % n := ⟨_, rfl⟩
  have hrn : r < n := by rw [hr]; exact Nat.mod_lt _ (by omega)
  have HR : Int.tmod ((p : Int) + (i : Int)) (n : Int) = (r : Int) := by rw [hr, ← tmod_nat]; rfl
  have e1 : ((first + (p + i) % n : Nat) : Int) = (first : Int) + (r : Int) := by rw [← hr]; omega
  have hn0 : ¬ (n : Int) = 0 := by omega
  rw [e1]
  clear hr e1
  go_enter Tryd.func34, Tryd.ntmps34
  go_wp2_with fail
  go_quiet (fail)
  go_wp2_with fail
  go_ret
  exact ⟨rfl, nq, rfl⟩
set_option maxHeartbeats 4000000 in
theorem room_any (h : Led w X B l) (ok : l.Ok) : Calls Tryd.prog 15 #[.pointer (some ⟨X, 0, none⟩)] w fun e w' => e = .returned (.int .i64 ((l.n - l.taken : Nat) : Int)) ∧ ∃ q, w' = w.drewN q := by
  obtain ⟨c0, c1, c2, c3, c4, c5⟩ := h.cells
  obtain ⟨o1, o2, o3, o4, o5, o6⟩ := ok
  obtain ⟨first, n, p, number, taken⟩ := l
  simp only at c2 c5 o3 o6 ⊢
  clear c0 c1 c3 c4 o1 o4 o5 h
  have e1 : ((n - taken : Nat) : Int) = (n : Int) - (taken : Int) := by omega
  rw [e1]
  go_enter Tryd.func15, Tryd.ntmps15
  go_wp2_with fail
  go_quiet (fail)
  go_wp2_with fail
  go_ret
  exact ⟨rfl, nq, rfl⟩
set_option maxHeartbeats 4000000 in
theorem next_any (h : Led w X B l) : Calls Tryd.prog 12 #[.pointer (some ⟨X, 0, none⟩)] w fun e w' => e = .returned (.tuple #[.int .i64 (l.p : Nat), .int .i64 (l.number : Nat)]) ∧ ∃ q, w' = w.drewN q := by
  obtain ⟨c0, c1, c2, c3, c4, c5⟩ := h.cells
  obtain ⟨first, n, p, number, taken⟩ := l
  simp only at c3 c4 ⊢
  clear c0 c1 c2 c5 h
  go_enter Tryd.func12, Tryd.ntmps12
  go_wp2_with fail
  go_quiet (fail)
  go_wp2_with fail
  all_goals exact bodyPost_ret (v := .tuple #[.int .i64 (p : Nat), .int .i64 (number : Nat)]) (by simp [results, Tryd.results12, go_sem]) rfl ⟨rfl, nq, rfl⟩
theorem chgX {w w' : World} {X : Nat} (h : Chg (fun g => g = X) w w') (o : Nat) (u : Value) : Chg (fun g => g = X) w (w'.setCell ⟨X, o, none⟩ u) := h.set (F := fun g => g = X) (.inl rfl) u
theorem chgD {w w' : World} {F : Nat → Prop} {n : Nat} (h : Chg F (w.drewN n) w') : Chg F w w' := ⟨h.os, h.tape, h.output, h.size, h.block⟩
/-- What a call leaves that writes into the ledger's own block alone. -/
def Wrote (w : World) (X B : Nat) (l' : LS) : Ending → World → Prop := fun e w' => e = .returned (.tuple #[]) ∧ Led w' X B l' ∧ Chg (fun g => g = X) w w'
set_option maxHeartbeats 4000000 in
theorem cut_any (h : Led w X B l) : Calls Tryd.prog 14 #[.pointer (some ⟨X, 0, none⟩)] w (Wrote w X B ⟨l.first, l.n, l.p, l.number, 0⟩) := by
  obtain ⟨c0, c1, c2, c3, c4, c5⟩ := h.cells
  have f5 := h.free (i := 5)
  have FN : Hid (Wrote w X B ⟨l.first, l.n, l.p, l.number, 0⟩ (.returned (.tuple #[])) (w.setCell ⟨X, 5, none⟩ (.int .i64 0))) :=
    ⟨rfl, set_block h, chgX (Chg.refl _ _) _ _⟩
  clear c0 c1 c2 c3 c4 h
  go_enter Tryd.func14, Tryd.ntmps14
  go_wp2_with fail
  all_goals exact bodyPost_ret (v := .tuple #[]) (by simp [results, Tryd.results14, go_sem]) rfl FN.out
/-- The ledger behind a record of k plates. -/
def LS.past (l : LS) (k : Nat) : LS := ⟨l.first, l.n, (l.p + k) % l.n, l.number + 1, l.taken + k⟩
set_option maxHeartbeats 8000000 in
theorem pass_any (h : Led w X B l) (ok : l.Ok) (s : ByteArray) (hs : s.size ≤ 9223372036854775807) : Calls Tryd.prog 25 #[.pointer (some ⟨X, 0, none⟩), .string s] w (Wrote w X B (l.past (platesN s.size))) := by
  obtain ⟨c0, c1, c2, c3, c4, c5⟩ := h.cells
  have f3 := h.free (i := 3)
  have f4 := h.free (i := 4)
  have f5 := h.free (i := 5)
  obtain ⟨o1, o2, o3, o4, o5, o6⟩ := ok
  have PL := Lib.hid (plates_any s hs)
  have hk2 : platesN s.size ≤ 100000 := by unfold platesN bodN; split <;> omega
  generalize platesN s.size = k at *
  obtain ⟨first, n, p, number, taken⟩ := l
  simp only at c0 c1 c2 c3 c4 c5 o1 o2 o3 o4 o5 o6
  obtain ⟨r, hr⟩ : ∃ r, r = (p + k) % n := ⟨_, rfl⟩
  have HR : Int.tmod ((p : Int) + (k : Int)) (n : Int) = (r : Int) := by rw [hr, ← tmod_nat]; rfl
  have hn0 : ¬ (n : Int) = 0 := by omega
  have hne : ∀ i j : Nat, i ≠ j → (⟨X, i, none⟩ : Addr) ≠ ⟨X, j, none⟩ := fun i j hij e => hij (by injection e)
  have FN : Hid (Wrote w X B (LS.past ⟨first, n, p, number, taken⟩ k) (.returned (.tuple #[])) ((((w.setCell ⟨X, 3, none⟩ (.int .i64 (r : Nat))).drew).setCell ⟨X, 5, none⟩ (.int .i64 ((taken : Int) + (k : Int)))).setCell ⟨X, 4, none⟩ (.int .i64 ((number : Int) + 1)))) := by
    have h0 : Led w X B ⟨first, n, p, number, taken⟩ := h
    have h1 : (w.setCell ⟨X, 3, none⟩ (.int .i64 (r : Nat))).drew.heap[X]? = _ := set_block (i := 3) (u := .int .i64 (r : Nat)) h0
    have h3 := set_block (i := 4) (u := .int .i64 ((number : Int) + 1)) (set_block (i := 5) (u := .int .i64 ((taken : Int) + (k : Int))) h1)
    refine ⟨rfl, ?_, chgX (chgX ((chgX (Chg.refl _ _) _ _).drew) _ _) _ _⟩
    unfold Led
    rw [h3]
    unfold LS.past ledV
    simp only [← hr]
    congr 1
  clear h hr
  go_enter Tryd.func25, Tryd.ntmps25
  go_wp2_with fail
  refine (PL.out _).mono ?_
  rintro e w1 ⟨rfl, rfl⟩
  go_wp2_with fail
  go_region
  go_wp2_with fail
  all_goals exact bodyPost_ret (v := .tuple #[]) (by simp [results, Tryd.results25, go_sem]) rfl FN.out
end
end Go.Proofs.YtffejfpbeimngaaDoor.Ldg
