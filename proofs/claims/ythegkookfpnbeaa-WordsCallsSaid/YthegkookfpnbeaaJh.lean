/- Words: the program's reader: bytes, a number, a text, a bool; or a panic. -/
import Derived.Test.YthegkookfpnbeaaGs
import Derived.Test.YthegkookfpnbeaaShelf
import Derived.Defers
import Derived.Recover
import Derived.Laws.Pointers
import Derived.Laws.BitsLemmas
set_option linter.unusedVariables false
set_option linter.unusedSimpArgs false
set_option maxRecDepth 100000
namespace Go.Proofs.Ythegkookfpnbeaa.Wds
open Go.RowKit Go.Lib Go.Proofs.Ythegkookfpnbeaa.Bx Go.Proofs.Ythegkookfpnbeaa.Frm

/-- The program's reader at block B. -/
def At1 (w : World) (B : Nat) (l : List UInt8) : Prop := w.heap[B]? = some (.cells #[.string (mkB l)] 101 (0, 0))
theorem At1.cell {w : World} {B : Nat} {l : List UInt8} (h : At1 w B l) : w.cell? ⟨B, 0, none⟩ = some (.string (mkB l)) ∧ B < w.heap.size ∧ w.frozen? ⟨B, 0, none⟩ = false := ⟨one_cell h, (Array.getElem?_eq_some_iff.1 h).1, free_at h⟩
theorem At1.below {w w' : World} {B : Nat} {l : List UInt8} (h : At1 w B l) (hb : Below w.heap.size w w') : At1 w' B l := (hb.block B h.cell.2.1).trans h
theorem At1.set {w : World} {B : Nat} {l : List UInt8} (h : At1 w B l) (l' : List UInt8) : At1 (w.setCell ⟨B, 0, none⟩ (.string (mkB l'))) B l' := set_block h
def unr : Value := .iface 130 (.agg #[])
/-- What a step of reading owes: what is read, or a panic. -/
def Got (w : World) (B : Nat) (x : Value) (r : Rd) : Ending → World → Prop := fun e w' => w.grownBy w' (some B) ∧ ((r.bad = false ∧ e = .returned x ∧ At1 w' B r.s) ∨ (r.bad = true ∧ e = .panicked [{ v := unr, recovered := false }]))
theorem hmi : ∀ (x : Value) (w : World), (Instr.makeInterface 130 x).run Try.prog w = .ok (.iface 130 x) w := fun x w => run_makeInterface _ _ _ (by kernel_rfl)
set_option maxHeartbeats 2000000 in
theorem giveup_any (B : Nat) (w : World) : Calls Try.prog 57 #[.pointer (some ⟨B, 0, none⟩)] w fun e w' => e = .panicked [{ v := unr, recovered := false }] ∧ w' = w := by
  have hmi := hmi
  go_enter Try.func57, Try.ntmps57
  go_wp2_with fail
  exact ⟨rfl, rfl, rfl⟩
set_option maxHeartbeats 8000000 in
theorem ptake_any {l : List UInt8} {B : Nat} {w : World} (h : At1 w B l) (n : Nat) (hn : n ≤ 65535) (hl : l.length ≤ 9223372036854775807) : Calls Try.prog 71 #[.pointer (some ⟨B, 0, none⟩), .int .i64 (n : Nat)] w (Got w B (.string (mkB (takeR ⟨l, false⟩ n).1)) (takeR ⟨l, false⟩ n).2) := by
  obtain ⟨c0, hB, f0⟩ := h.cell
  obtain ⟨m, hm⟩ : ∃ m, m = l.length := ⟨_, rfl⟩
  obtain ⟨s, hs⟩ : ∃ s, s = mkB l := ⟨_, rfl⟩
  have hsz : s.size = m := by rw [hs, mkB_size, hm]
  have hmi := hmi
  by_cases hbad : m < n
  · have e : takeR ⟨l, false⟩ n = (List.replicate n 0, ⟨l, true⟩) := by
      unfold takeR
      rw [if_pos (.inr (by rw [← hm]; exact hbad))]
    have g1 : (m : Int) < (n : Int) := by omega
    have g2 : decide ((m : Int) < (n : Int)) = true := decide_eq_true g1
    have FE : Hid (w.grownBy w (some B)) := grown_refl _ _
    have C := Lib.hid (giveup_any B w)
    rw [e]
    rw [← hs] at c0
    clear hs hm h e hl
    go_enter Try.func71, Try.ntmps71
    go_wp2_with fail
    refine C.out.mono ?_
    rintro e w1 ⟨rfl, rfl⟩
    clear C
    go_wp2_with fail
    exact ⟨rfl, FE.out, .inr ⟨rfl, rfl⟩⟩
  · have e : takeR ⟨l, false⟩ n = (l.take n, ⟨l.drop n, false⟩) := by
      unfold takeR
      rw [if_neg (by rw [← hm]; rintro (h | h); cases h; exact hbad h)]
    rw [e]
    have g1 : ¬ (m : Int) < (n : Int) := by omega
    have g2 : decide ((m : Int) < (n : Int)) = false := decide_eq_false g1
    obtain ⟨s1, hs1⟩ : ∃ s1, s1 = mkB (l.take n) := ⟨_, rfl⟩
    obtain ⟨s2, hs2⟩ : ∃ s2, s2 = mkB (l.drop n) := ⟨_, rfl⟩
    have XS1 : ∀ w, (Instr.slice 9 (.string s) none (some (.int .i64 (n : Nat))) none).run Try.prog w = .ok (.string s1) w := fun w => by
      rw [hs, hs1]
      exact slice_to w l (by omega)
    have XS2 : ∀ w, (Instr.slice 9 (.string s) (some (.int .i64 (n : Nat))) none none).run Try.prog w = .ok (.string s2) w := fun w => by
      rw [hs, hs2]
      exact slice_from w l (by omega)
    have n0 : (0 : Int) ≤ (n : Int) := by omega
    have nm : (n : Int) ≤ (m : Int) := by omega
    rw [← hs] at c0
    have HF : Hid (At1 (w.setCell ⟨B, 0, none⟩ (.string s2)) B (l.drop n)) := by
      rw [hs2]
      exact h.set _
    have HG : Hid (w.grownBy (w.setCell ⟨B, 0, none⟩ (.string s2)) (some B)) := grown_put (grown_refl _ _)
    rw [← hs1]
    clear hs hm hs1 hs2 h hl
    go_enter Try.func71, Try.ntmps71
    go_wp2_with fail
    go_ret
    exact ⟨HG.out, .inl ⟨rfl, rfl, HF.out⟩⟩
end Go.Proofs.Ythegkookfpnbeaa.Wds
