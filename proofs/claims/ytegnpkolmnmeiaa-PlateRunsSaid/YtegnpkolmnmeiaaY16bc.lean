/- Plate: the plain text's calls, as calls of a disk. -/
import Derived.Test.YtegnpkolmnmeiaaY16bb
set_option linter.unusedVariables false
set_option linter.unusedSimpArgs false
set_option maxRecDepth 100000
namespace Go.Proofs.Ytegnpkolmnmeiaa.Plt
open Go.RowKit Go.Lib Go.Proofs.Ytegnpkolmnmeiaa.Bx

section
variable {base R c : Nat} {w : World} {F : Nat → Prop} {D : DK}
def RDid (base : Nat) (w : World) (R c : Nat) (F : Nat → Prop) (D' : DK) (r : Value) : Ending → World → Prop := fun e w' =>
  e = .returned r ∧ ∃ F', RDisk base w' R c F' D' ∧ Chg F w w' ∧ ∀ g, F' g → F g ∨ w.heap.size ≤ g
theorem rgetX (i : Int) (h : RDisk base w R c F D) : Calls Try.prog 21 #[.pointer (some ⟨R, 0, none⟩), .int .i64 i] w fun e w' => e = .returned (.tuple #[.string (getS D i), .bool (getB D i)]) ∧ Below w.heap.size w w' := by
  obtain ⟨M1, M2, f1, f2, u, h, _⟩ := h
  exact rget_any i h
theorem rlooseX (h : RDisk base w R c F D) : Calls Try.prog 20 #[.pointer (some ⟨R, 0, none⟩)] w (Listed w (looseL D)) := by
  obtain ⟨M1, M2, f1, f2, u, h, _⟩ := h
  exact rloose_any h
theorem RFt_one {M1 M2 n : Nat} {u : Nat → Value} : ∀ g, OneB R g → RFt R M1 M2 u n g := fun g e => .inl e
theorem RFt_three {M1 M2 n : Nat} {u : Nat → Value} : ∀ g, Three R M1 M2 g → RFt R M1 M2 u n g := by
  rintro g (e | e | e)
  · exact .inl e
  · exact .inr (.inl e)
  · exact .inr (.inr (.inl e))
theorem rlayX (i : Int) (s : ByteArray) (hs : s.size ≤ 9223372036854775807) (h : RDisk base w R c F D) (hc : c ≤ 10000000) (hl : Short D 90000) : Calls Try.prog 14 #[.pointer (some ⟨R, 0, none⟩), .int .i64 i, .string s] w (RDid base w R (c + 1) F (layD D i s) (.bool (layB D i s))) := by
  have hh := h
  obtain ⟨M1, M2, f1, f2, u, h, rfl⟩ := h
  cases hcl : canLay D i s with
  | false =>
    have e1 : layD D i s = D := by unfold layD; rw [hcl]; rfl
    have e2 : layB D i s = false := by unfold layB; rw [hcl]; rfl
    rw [e1, e2]
    refine (rlay_no i s hs h hcl).mono ?_
    rintro e w' ⟨rfl, rfl⟩
    exact ⟨rfl, _, hh.mono (Nat.le_succ c), Chg.refl _ _, fun g q => .inl q⟩
  | true =>
    by_cases h0 : D.left = 0
    · have e1 : layD D i s = ⟨D.n, D.P, true, D.left⟩ := by unfold layD; rw [hcl, if_pos rfl, if_pos h0]
      have e2 : layB D i s = false := by unfold layB; rw [hcl, decide_eq_true h0]; rfl
      rw [e1, e2]
      refine (rlay_off i s h hcl h0).mono ?_
      rintro e w' ⟨rfl, d, k⟩
      exact ⟨rfl, _, ⟨M1, M2, f1, f2, u, d.mono (Nat.le_succ c), rfl⟩, k.mono RFt_one, fun g q => .inl q⟩
    · have e1 : layD D i s = ⟨D.n, laidP D i.toNat s, D.off, dec D.left⟩ := by unfold layD; rw [hcl, if_pos rfl, if_neg h0]
      have e2 : layB D i s = true := by unfold layB; rw [hcl, decide_eq_false h0]; rfl
      rw [e1, e2]
      refine (rlay_yes i s h hc hcl h0 hl).mono ?_
      rintro e w' ⟨rfl, f2', u', d, k, n⟩
      exact ⟨rfl, _, ⟨M1, M2, f1, f2', u', d, rfl⟩, k.mono RFt_three, n⟩
theorem rbarX (h : RDisk base w R c F D) (hc : c ≤ 10000000) : Calls Try.prog 15 #[.pointer (some ⟨R, 0, none⟩)] w (RDid base w R (c + D.n) F (barD D) (.bool (barB D))) := by
  have hh := h
  obtain ⟨M1, M2, f1, f2, u, h, rfl⟩ := h
  cases hcl : D.off with
  | true =>
    have e1 : barD D = D := by unfold barD; rw [hcl]; rfl
    have e2 : barB D = false := by unfold barB; rw [hcl]; rfl
    rw [e1, e2]
    refine (rbar_no h hcl).mono ?_
    rintro e w' ⟨rfl, rfl⟩
    exact ⟨rfl, _, hh.mono (Nat.le_add_right _ _), Chg.refl _ _, fun g q => .inl q⟩
  | false =>
    by_cases h0 : D.left = 0
    · have e1 : barD D = ⟨D.n, D.P, true, D.left⟩ := by unfold barD; rw [hcl, if_pos h0]; rfl
      have e2 : barB D = false := by unfold barB; rw [hcl, decide_eq_true h0]; rfl
      rw [e1, e2]
      refine (rbar_off h hcl h0).mono ?_
      rintro e w' ⟨rfl, d, k⟩
      exact ⟨rfl, _, ⟨M1, M2, f1, f2, u, d.mono (Nat.le_add_right _ _), rfl⟩, k.mono RFt_one, fun g q => .inl q⟩
    · have e1 : barD D = ⟨D.n, fun j => (D.P j).settle, D.off, dec D.left⟩ := by unfold barD; rw [hcl, if_neg h0]; rfl
      have e2 : barB D = true := by unfold barB; rw [hcl, decide_eq_false h0]; rfl
      rw [e1, e2]
      refine (rbar_yes h hc hcl h0).mono ?_
      rintro e w' ⟨rfl, M2', f1', f2', u', d, k, n⟩
      exact ⟨rfl, _, ⟨M1, M2', f1', f2', u', d, rfl⟩, k, n⟩
theorem rfallX {pv : Value} (pk : List Int) (hp : Rk.RowK 1 w pv (cellsZ pk)) (hz : ∀ x ∈ pk, -9223372036854775808 ≤ x ∧ x ≤ 9223372036854775807) (hpb : pk ≠ [] → ∀ b, pv.ownBlock = some b → ¬ F b) (h : RDisk base w R c F D) (hc : c ≤ 10000000) (hl : Short D 90000) : Calls Try.prog 18 #[.pointer (some ⟨R, 0, none⟩), pv] w (RDid base w R (c + D.n) F (fallD D pk) (.tuple #[])) := by
  obtain ⟨M1, M2, f1, f2, u, h, rfl⟩ := h
  refine (rfall_any pk hp hz hpb h hc hl).mono ?_
  rintro e w' ⟨rfl, M2', f1', f2', u', d, k, n⟩
  exact ⟨rfl, _, ⟨M1, M2', f1', f2', u', d, rfl⟩, k, n⟩
theorem rlimX (n : Int) (hn : n ≤ 9223372036854775807) (h : RDisk base w R c F D) : RDisk base (w.setCell ⟨R, 1, none⟩ (.int .i64 (if n < -1 then -1 else n))) R c F (limD D n) ∧ Chg F w (w.setCell ⟨R, 1, none⟩ (.int .i64 (if n < -1 then -1 else n))) ∧ (∃ x, w.cell? ⟨R, 1, none⟩ = some x) ∧ w.frozen? ⟨R, 1, none⟩ = false ∧ ∃ x, w.cell? ⟨R, 0, none⟩ = some x := by
  obtain ⟨M1, M2, f1, f2, u, h, rfl⟩ := h
  obtain ⟨c0, c1, c2, c3, c4, g1, g2, g4⟩ := h.cells
  refine ⟨⟨M1, M2, f1, f2, u, h.set 1 _ D.off (if n < -1 then -1 else n) (by split <;> omega) (by split <;> omega) rfl, rfl⟩, (chg_set _ _ _ _).mono RFt_one, ⟨_, c1⟩, g1, ⟨_, c0⟩⟩
theorem roff (h : RDisk base w R c F D) : w.cell? ⟨R, 2, none⟩ = some (.bool D.off) ∧ ∃ x, w.cell? ⟨R, 0, none⟩ = some x := by
  obtain ⟨M1, M2, f1, f2, u, h, rfl⟩ := h
  exact ⟨h.cells.2.2.1, ⟨_, h.cells.1⟩⟩
end
/-- Both disks, side by side. -/
def Both (b1 b2 B R c n t : Nat) (A : Nat) (w wr : World) (D : DK) : Prop := ∃ F G, Disk b1 wr B F D ∧ RDisk b2 wr R c G D ∧ (∀ g, F g → ¬ G g) ∧ Short D t ∧ D.n = n ∧ Below A w wr
section
variable {b1 b2 B R c n t A : Nat} {w wr w' w'' : World} {F G : Nat → Prop} {D D' : DK}
theorem Both.below (h : Both b1 b2 B R c n t A w wr D) (hA : A ≤ wr.heap.size) (hb : Below wr.heap.size wr w') : Both b1 b2 B R c n t A w w' D := by
  obtain ⟨F, G, h1, h2, h3, h4, h5, h6⟩ := h
  exact ⟨F, G, h1.below hb, h2.below hb, h3, h4, h5, h6.trans (hb.mono hA)⟩
/-- Behind a call of the program and one of the plain text. -/
theorem both_step {c' : Nat} {F' G' : Nat → Prop} (hA1 : A ≤ b1) (hA2 : A ≤ b2) (h1 : Disk b1 wr B F D) (h2 : RDisk b2 wr R c G D) (h3 : ∀ g, F g → ¬ G g) (h6 : Below A w wr) (hA : A ≤ wr.heap.size) (k1 : Disk b1 w' B F' D') (c1 : Chg F wr w') (n1 : ∀ g, F' g → F g ∨ wr.heap.size ≤ g)
    (k2 : RDisk b2 w'' R c' G' D') (c2 : Chg G w' w'') (n2 : ∀ g, G' g → G g ∨ w'.heap.size ≤ g) (hs : Short D' t) (hn : D'.n = n) : Both b1 b2 B R c' n t A w w'' D' := by
  have hF' : ∀ g, F' g → ¬ G g := fun g hg hG => by
    rcases n1 g hg with q | q
    · exact h3 g q hG
    · have := (h2.lt g hG).2
      omega
  refine ⟨F', G', k1.chg c2 hF', k2, fun g hg hG => ?_, hs, hn, ?_⟩
  · rcases n2 g hG with q | q
    · exact hF' g hg q
    · have := (k1.lt g hg).2
      omega
  · have q1 : Below A wr w' := c1.below (fun g hg => Nat.le_trans hA1 (h1.lt g hg).1) hA
    exact h6.trans (q1.trans (c2.below (fun g hg => Nat.le_trans hA2 (h2.lt g hg).1) (Nat.le_trans hA c1.size)))
theorem rdisk_after (h2 : RDisk b2 wr R c G D) (h3 : ∀ g, F g → ¬ G g) (c1 : Chg F wr w') : RDisk b2 w' R c G D := h2.chg c1 (fun g hG hF => h3 g hF hG)
end
theorem rowk_empty {k : Nat} {w w' : World} {v : Value} (h : Rk.RowK k w v []) : Rk.RowK k w' v [] := by
  obtain ⟨h0, a, c, e, h1, h2, _⟩ := h
  exact ⟨h0, a, c, e, h1, h2, .inl rfl⟩
theorem below_drews {B : Nat} {a w : World} (h : Below B a w) (n : Nat) : Below B a (w.drewN n) := ⟨h.os, h.tape, h.output, h.size, h.block⟩
theorem three_at {w : World} {Y : Nat} {a b c : Int} (h : w.heap[Y]? = some (.cells #[.int .i64 a, .int .i64 b, .int .i64 c] 3 (0, 0))) {k : Nat} (hk : k < 3) : ∃ x : Int, w.cell? ⟨Y, k, none⟩ = some (.int .i64 x) := by
  obtain ⟨x0, x1, x2⟩ := three_cells h
  have : k = 0 ∨ k = 1 ∨ k = 2 := by omega
  rcases this with rfl | rfl | rfl
  · exact ⟨_, x0⟩
  · exact ⟨_, x1⟩
  · exact ⟨_, x2⟩
theorem bool_self (b : Bool) : (b != b) = false := by cases b <;> rfl
theorem Both.mono {b1 b2 B R c n t A c' : Nat} {w wr : World} {D : DK} (h : Both b1 b2 B R c n t A w wr D) (hc : c ≤ c') : Both b1 b2 B R c' n t A w wr D := by
  obtain ⟨F, G, h1, h2, h3⟩ := h
  exact ⟨F, G, h1, h2.mono hc, h3⟩
theorem short_lay {D : DK} {t : Nat} (i : Int) (s : ByteArray) (h : Short D t) : Short (layD D i s) (t + 1) ∧ (layD D i s).n = D.n := by
  unfold layD
  split
  · split
    · exact ⟨fun j hj => Nat.le_succ_of_le (h j hj), rfl⟩
    · refine ⟨fun j hj => ?_, rfl⟩
      show (upd D.P i.toNat _ j).l.length ≤ _
      by_cases e : j = i.toNat
      · subst e
        rw [upd_same]
        have := h _ hj
        simp
        omega
      · rw [upd_other _ _ e]
        exact Nat.le_succ_of_le (h j hj)
  · exact ⟨fun j hj => Nat.le_succ_of_le (h j hj), rfl⟩
theorem short_bar {D : DK} {t : Nat} (h : Short D t) : Short (barD D) (t + 1) ∧ (barD D).n = D.n := by
  unfold barD
  split
  · exact ⟨fun j hj => Nat.le_succ_of_le (h j hj), rfl⟩
  · split
    · exact ⟨fun j hj => Nat.le_succ_of_le (h j hj), rfl⟩
    · exact ⟨fun j hj => Nat.zero_le _, rfl⟩
theorem short_fall {D : DK} (pk : List Int) (t : Nat) : Short (fallD D pk) t ∧ (fallD D pk).n = D.n := by
  refine ⟨fun j hj => ?_, rfl⟩
  obtain ⟨s, e, _⟩ := fall_at D pk j hj
  rw [e]
  exact Nat.zero_le _
theorem short_mono {D : DK} {t t' : Nat} (h : Short D t) (ht : t ≤ t') : Short D t' := fun j hj => Nat.le_trans (h j hj) ht
end Go.Proofs.Ytegnpkolmnmeiaa.Plt
