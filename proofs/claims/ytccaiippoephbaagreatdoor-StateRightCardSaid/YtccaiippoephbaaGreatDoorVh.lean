/- Words: the program's reader: an answer. -/
import Derived.Test.YtccaiippoephbaaGreatDoorVg
set_option linter.unusedVariables false
set_option linter.unusedSimpArgs false
set_option maxRecDepth 100000
namespace Go.Proofs.YtccaiippoephbaaGreatDoor.Wds
open Go.RowKit Go.Lib Go.Proofs.YtccaiippoephbaaGreatDoor.Bx Go.Proofs.YtccaiippoephbaaGreatDoor.Frm

/-- An answer of the call's own. -/
def AnO (base : Nat) (w : World) (v : Value) (a : An) : Prop := ∃ rv ev, v = .agg #[.int .i64 a.st, .string (mkB a.tok), .int .i64 a.num, .int .i64 a.at', rv, ev] ∧ Rk.OwnK 138 4 base w rv (a.R.map runC) ∧ Aud.OEn (fun b => base ≤ b) base w ev a.E
theorem AnO.kept {base C : Nat} {w w' : World} {v : Value} {a : An} (h : AnO base w v a) (hg : w.grownBy w' (some C)) (hC : C < base) : AnO base w' v a := by
  obtain ⟨rv, ev, e, h1, h2⟩ := h
  exact ⟨rv, ev, e, h1.kept hg (.inr (h1.low hC)), oen_kept h2 hg (fun b hb => by omega) (fun e => by have := (h2.own C e).1; omega)⟩
theorem AnO.below {base : Nat} {w w' : World} {v : Value} {a : An} (h : AnO base w v a) (hb : Below w.heap.size w w') : AnO base w' v a := by
  obtain ⟨rv, ev, e, h1, h2⟩ := h
  exact ⟨rv, ev, e, h1.below hb, h2.below hb⟩
theorem AnO.base {base base' : Nat} {w : World} {v : Value} {a : An} (h : AnO base w v a) (hb : base' ≤ base) : AnO base' w v a := by
  obtain ⟨rv, ev, e, h1, h2⟩ := h
  exact ⟨rv, ev, e, own_base h1 hb, oen_base h2 hb⟩
theorem AnO.form {base : Nat} {w : World} {v : Value} {a : An} (h : AnO base w v a) : ∃ a4 c4 a5 c5, v = .agg #[.int .i64 a.st, .string (mkB a.tok), .int .i64 a.num, .int .i64 a.at', .slice a4 a.R.length c4, .slice a5 a.E.length c5] := by
  obtain ⟨rv, ev, rfl, h1, h2⟩ := h
  obtain ⟨a4, c4, e4⟩ := h1.is_slice
  obtain ⟨a5, c5, rfl⟩ := h2.is_slice
  rw [List.length_map] at e4
  subst e4
  exact ⟨_, _, _, _, rfl⟩
theorem runs_step {B : Nat} {r : Rd} {x : List Run} {r' : Rd} {w : World} (hx : rowR runR r = (x, r')) (hb : r.bad = false) (hl : r.s.length ≤ 9223372036854775807) (k : At1 w B r.s) : Calls Tryz.prog 135 #[.pointer (some ⟨B, 0, none⟩), .func (.func 136) #[.pointer (some ⟨B, 0, none⟩)] #[]] w (GotP w B (fun w' v => Rk.OwnK 138 4 w.heap.size w' v (x.map runC)) r') := by
  have h := pruns_rd k hl
  rw [← rd_eta hb, hx] at h
  exact h
theorem ents_step {B : Nat} {r : Rd} {x : List Ent} {r' : Rd} {w : World} (hx : rowR entR r = (x, r')) (hb : r.bad = false) (hl : r.s.length ≤ 9223372036854775807) (k : At1 w B r.s) : Calls Tryz.prog 137 #[.pointer (some ⟨B, 0, none⟩), .func (.func 138) #[.pointer (some ⟨B, 0, none⟩)] #[]] w (GotP w B (fun w' v => Aud.OEn (fun b => w.heap.size ≤ b) w.heap.size w' v x) r') := by
  have h := pents_rd k hl
  rw [← rd_eta hb, hx] at h
  exact h
theorem runs_le {r : Rd} {x : List Run} {r' : Rd} {n : Nat} (hx : rowR runR r = (x, r')) (hl : r.s.length ≤ n) : r'.s.length ≤ n := by have := rowR_le runR_le r; rw [hx] at this; exact Nat.le_trans this hl
theorem runs_stuck {r : Rd} {x : List Run} {r' : Rd} (hx : rowR runR r = (x, r')) (h : r.bad = true) : r'.bad = true := by have := rowR_stuck (f := runR) r h; rw [hx] at this; exact this
theorem ents_stuck {r : Rd} {x : List Ent} {r' : Rd} (hx : rowR entR r = (x, r')) (h : r.bad = true) : r'.bad = true := by have := rowR_stuck (f := entR) r h; rw [hx] at this; exact this
set_option maxHeartbeats 4000000 in
theorem pans0_rd {B : Nat} {w : World} (r0 r1 r2 r3 r4 r5 r6 : Rd) (k : Nat) (t : List UInt8) (n1 n2 : Int) (X : List Run) (E : List Ent) (e1 : lenR r0 = (k, r1)) (e2 : textR r1 = (t, r2)) (e3 : numR r2 = (n1, r3)) (e4 : numR r3 = (n2, r4)) (e5 : rowR runR r4 = (X, r5)) (e6 : rowR entR r5 = (E, r6)) (hb : r0.bad = false) (hl : r0.s.length ≤ 9223372036854775807) (h : At1 w B r0.s) : Calls Tryz.prog 109 #[.pointer (some ⟨B, 0, none⟩)] w (GotP w B (fun w' v => AnO w.heap.size w' v ⟨k, t, n1, n2, X, E⟩) r6) := by
  obtain ⟨B0, P0, L0⟩ := box1 w #[.int .i64 0, .string (ByteArray.mk #[]), .int .i64 0, .int .i64 0, .slice none 0 0, .slice none 0 0] 100
  obtain ⟨W0, hW0⟩ : ∃ W0, W0 = w.alloc (.cells #[.int .i64 0, .string (ByteArray.mk #[]), .int .i64 0, .int .i64 0, .slice none 0 0, .slice none 0 0] 100) := ⟨_, rfl⟩
  rw [← hW0] at B0 P0 L0
  obtain ⟨R, hR⟩ : ∃ R, R = w.heap.size := ⟨_, rfl⟩
  rw [← hR] at P0 L0
  have hRB : R ≠ B := by have := h.cell.2.1; omega
  have HW0 := Lib.hid hW0
  have HR := Lib.hid hR
  have HRB := Lib.hid hRB
  have HBB : Hid (B < w.heap.size ∧ W0.heap.size = R + 1) := ⟨h.cell.2.1, L0⟩
  have hmf : ∀ (fn : Fn) (first cap : Array Value) (w : World), (Instr.makeFunc fn first cap).run Tryz.prog w = .ok (.func fn first cap) w := fun _ _ _ _ => rfl
  have l1 := len_le e1 hl
  have l2 := text_le' e2 l1
  have l3 := num_le e3 l2
  have l4 := num_le e4 l3
  have l5 := runs_le e5 l4
  have S6 : Hid (r6.bad = true → r6.bad = true) := fun h => h
  have S5 : Hid (r5.bad = true → r6.bad = true) := fun h => ents_stuck e6 h
  have S4 : Hid (r4.bad = true → r6.bad = true) := fun h => S5.out (runs_stuck e5 h)
  have S3 : Hid (r3.bad = true → r6.bad = true) := fun h => S4.out (num_stuck e4 h)
  have S2 : Hid (r2.bad = true → r6.bad = true) := fun h => S3.out (num_stuck e3 h)
  have S1 : Hid (r1.bad = true → r6.bad = true) := fun h => S2.out (text_stuck e2 h)
  have C1 : Hid (∀ w', r0.bad = false → At1 w' B r0.s → Calls Tryz.prog 132 #[.pointer (some ⟨B, 0, none⟩)] w' (Got w' B (.int .i64 (k : Nat)) r1)) := fun w' hb k => len_step e1 hb hl k
  have C2 : Hid (∀ w', r1.bad = false → At1 w' B r1.s → Calls Tryz.prog 133 #[.pointer (some ⟨B, 0, none⟩)] w' (Got w' B (.string (mkB t)) r2)) := fun w' hb k => text_step e2 hb l1 k
  have C3 : Hid (∀ w', r2.bad = false → At1 w' B r2.s → Calls Tryz.prog 134 #[.pointer (some ⟨B, 0, none⟩)] w' (Got w' B (.int .i64 n1) r3)) := fun w' hb k => num_step e3 hb l2 k
  have C4 : Hid (∀ w', r3.bad = false → At1 w' B r3.s → Calls Tryz.prog 134 #[.pointer (some ⟨B, 0, none⟩)] w' (Got w' B (.int .i64 n2) r4)) := fun w' hb k => num_step e4 hb l3 k
  have C5 : Hid (∀ w', r4.bad = false → At1 w' B r4.s → Calls Tryz.prog 135 #[.pointer (some ⟨B, 0, none⟩), .func (.func 136) #[.pointer (some ⟨B, 0, none⟩)] #[]] w' (GotP w' B (fun w'' v => Rk.OwnK 138 4 w'.heap.size w'' v (X.map runC)) r5)) := fun w' hb k => runs_step e5 hb l4 k
  have C6 : Hid (∀ w', r5.bad = false → At1 w' B r5.s → Calls Tryz.prog 137 #[.pointer (some ⟨B, 0, none⟩), .func (.func 138) #[.pointer (some ⟨B, 0, none⟩)] #[]] w' (GotP w' B (fun w'' v => Aud.OEn (fun b => w'.heap.size ≤ b) w'.heap.size w'' v E) r6)) := fun w' hb k => ents_step e6 hb l5 k
  have Q0 : Hid (r0.bad = false ∧ At1 W0 B r0.s ∧ W0.grownBy W0 (some B)) := ⟨hb, h.below B0, grown_refl _ _⟩
  have HG : Hid (∀ w', W0.grownBy w' (some B) → w.grownBy w' (some B) ∧ w'.heap[R]? = some (.cells #[.int .i64 0, .string (ByteArray.mk #[]), .int .i64 0, .int .i64 0, .slice none 0 0, .slice none 0 0] 100 (0, 0))) := fun w' g => ⟨grown_trans (grown_of _ _ B0 _) g, (g.block R (by omega) (by simpa using hRB)).trans P0⟩
  have HY : Hid (∃ y, y = mkB t) := ⟨_, rfl⟩
  obtain ⟨y, hy⟩ := HY.out
  rw [← hy] at C2
  have HYY := Lib.hid hy
  clear hb h hl hR hW0 B0 P0 L0 l1 l2 l3 l4 l5 e1 e2 e3 e4 e5 e6 hRB hy
  go_enter Tryz.func109, Tryz.ntmps109
  go_upto_region 1 with fail
  rw [← HW0.out, ← HR.out]
  refine region_pure [0, 1, 2, 4, 5, 6, 8, 9, 10, 12, 13, 14, 16, 17, 18, 20, 21, 22] [3, 7, 11, 15, 19, 23, 24, 25] (by kernel_rfl) (by kernel_rfl) (fun d _ _ _ _ h => by cases d <;> exact h) (fun wd hwd => ?_)
  simp only [List.filterMap_cons, List.filterMap_nil, List.getElem?_cons_zero, List.getElem?_cons_succ]
  have QD := Lib.hid (And.intro Q0.out.1 (And.intro (at1_drew Q0.out.2.1 hwd.out) (grown_drew1 Q0.out.2.2 hwd.out)))
  clear Q0 hwd
  repeat (refine Zo.wpPure_step (fun K hK => ?_); go_simp; refine hK _ ?_; clear hK K)
  refine Zo.wpPure_nil ?_
  have Q0 := Lib.hid QD.out
  clear QD
  go_wp2_with fail
  refine (C1.out _ Q0.out.1 Q0.out.2.1).mono ?_
  rintro e w1 ⟨G, (⟨hb, rfl, K⟩ | ⟨hb, rfl⟩)⟩
  rotate_left
  · have FE : Hid (GotP w B (fun w' v => AnO w.heap.size w' v ⟨k, t, n1, n2, X, E⟩) r6 (.panicked [{ v := unr, recovered := false }]) w1) := ⟨(HG.out _ (grown_trans Q0.out.2.2 G)).1, .inr ⟨S1.out hb, rfl⟩⟩
    clear G hb
    go_wp2_with fail
    exact ⟨rfl, FE.out⟩
  have Q1 : Hid (r1.bad = false ∧ At1 w1 B r1.s ∧ W0.grownBy w1 (some B)) := ⟨hb, K, grown_trans Q0.out.2.2 G⟩
  clear G hb K C1 Q0
  go_wp2_with fail
  refine (C2.out _ Q1.out.1 Q1.out.2.1).mono ?_
  rintro e w2 ⟨G, (⟨hb, rfl, K⟩ | ⟨hb, rfl⟩)⟩
  rotate_left
  · have FE : Hid (GotP w B (fun w' v => AnO w.heap.size w' v ⟨k, t, n1, n2, X, E⟩) r6 (.panicked [{ v := unr, recovered := false }]) w2) := ⟨(HG.out _ (grown_trans Q1.out.2.2 G)).1, .inr ⟨S2.out hb, rfl⟩⟩
    clear G hb
    go_wp2_with fail
    exact ⟨rfl, FE.out⟩
  have Q2 : Hid (r2.bad = false ∧ At1 w2 B r2.s ∧ W0.grownBy w2 (some B)) := ⟨hb, K, grown_trans Q1.out.2.2 G⟩
  clear G hb K C2 Q1
  go_wp2_with fail
  refine (C3.out _ Q2.out.1 Q2.out.2.1).mono ?_
  rintro e w3 ⟨G, (⟨hb, rfl, K⟩ | ⟨hb, rfl⟩)⟩
  rotate_left
  · have FE : Hid (GotP w B (fun w' v => AnO w.heap.size w' v ⟨k, t, n1, n2, X, E⟩) r6 (.panicked [{ v := unr, recovered := false }]) w3) := ⟨(HG.out _ (grown_trans Q2.out.2.2 G)).1, .inr ⟨S3.out hb, rfl⟩⟩
    clear G hb
    go_wp2_with fail
    exact ⟨rfl, FE.out⟩
  have Q3 : Hid (r3.bad = false ∧ At1 w3 B r3.s ∧ W0.grownBy w3 (some B)) := ⟨hb, K, grown_trans Q2.out.2.2 G⟩
  clear G hb K C3 Q2
  go_wp2_with fail
  refine (C4.out _ Q3.out.1 Q3.out.2.1).mono ?_
  rintro e w4 ⟨G, (⟨hb, rfl, K⟩ | ⟨hb, rfl⟩)⟩
  rotate_left
  · have FE : Hid (GotP w B (fun w' v => AnO w.heap.size w' v ⟨k, t, n1, n2, X, E⟩) r6 (.panicked [{ v := unr, recovered := false }]) w4) := ⟨(HG.out _ (grown_trans Q3.out.2.2 G)).1, .inr ⟨S4.out hb, rfl⟩⟩
    clear G hb
    go_wp2_with fail
    exact ⟨rfl, FE.out⟩
  have Q4 : Hid (r4.bad = false ∧ At1 w4 B r4.s ∧ W0.grownBy w4 (some B)) := ⟨hb, K, grown_trans Q3.out.2.2 G⟩
  clear G hb K C4 Q3
  go_wp2_with fail
  refine (C5.out _ Q4.out.1 Q4.out.2.1).mono ?_
  rintro e w5 ⟨G, (⟨hb, u5, rfl, O5, K⟩ | ⟨hb, rfl⟩)⟩
  rotate_left
  · have FE : Hid (GotP w B (fun w' v => AnO w.heap.size w' v ⟨k, t, n1, n2, X, E⟩) r6 (.panicked [{ v := unr, recovered := false }]) w5) := ⟨(HG.out _ (grown_trans Q4.out.2.2 G)).1, .inr ⟨S5.out hb, rfl⟩⟩
    clear G hb
    go_wp2_with fail
    exact ⟨rfl, FE.out⟩
  have HO5 : Hid (Rk.OwnK 138 4 (R + 1) w5 u5 (X.map runC)) := own_base O5 (by have := Q4.out.2.2.size; have := HBB.out.2; omega)
  obtain ⟨a5, d5, rfl⟩ := O5.is_slice
  clear O5
  have Q5 : Hid (r5.bad = false ∧ At1 w5 B r5.s ∧ W0.grownBy w5 (some B)) := ⟨hb, K, grown_trans Q4.out.2.2 G⟩
  clear G hb K C5 Q4
  go_wp2_with fail
  refine (C6.out _ Q5.out.1 Q5.out.2.1).mono ?_
  rintro e w6 ⟨G, (⟨hb, u6, rfl, O6, K⟩ | ⟨hb, rfl⟩)⟩
  rotate_left
  · have FE : Hid (GotP w B (fun w' v => AnO w.heap.size w' v ⟨k, t, n1, n2, X, E⟩) r6 (.panicked [{ v := unr, recovered := false }]) w6) := ⟨(HG.out _ (grown_trans Q5.out.2.2 G)).1, .inr ⟨S6.out hb, rfl⟩⟩
    clear G hb
    go_wp2_with fail
    exact ⟨rfl, FE.out⟩
  have HO6 : Hid (Aud.OEn (fun b => R + 1 ≤ b) (R + 1) w6 u6 E) := oen_base O6 (by have := Q5.out.2.2.size; have := HBB.out.2; omega)
  have HO5' : Hid (Rk.OwnK 138 4 (R + 1) w6 (.slice a5 X.length d5) (X.map runC)) := by
    have h := HO5.out.kept G (.inr (HO5.out.low (by have := HBB.out.1; have := HR.out; omega)))
    rw [List.length_map] at h
    exact h
  obtain ⟨a6, d6, rfl⟩ := O6.is_slice
  clear O6
  obtain ⟨k5, hk5⟩ : ∃ k5, k5 = X.length := ⟨_, rfl⟩
  obtain ⟨k6, hk6⟩ : ∃ k6, k6 = E.length := ⟨_, rfl⟩
  rw [← hk6] at HO6 ⊢
  rw [← hk5] at HO5' ⊢
  obtain ⟨g4, z4⟩ := HG.out _ (grown_trans Q5.out.2.2 G)
  obtain ⟨c0, c1, c2, c3, c4, c5⟩ := six_cells z4
  have fr0 := free_at (i := 0) z4
  have fr1 := free_at (i := 1) z4
  have fr2 := free_at (i := 2) z4
  have fr3 := free_at (i := 3) z4
  have fr4 := free_at (i := 4) z4
  have fr5 := free_at (i := 5) z4
  obtain ⟨WN, hWN⟩ : ∃ WN, WN = ((((((((((w6.setCell ⟨R, 0, none⟩ (.int .i64 (k : Nat)))).setCell ⟨R, 1, none⟩ (.string y))).setCell ⟨R, 2, none⟩ (.int .i64 n1))).setCell ⟨R, 3, none⟩ (.int .i64 n2))).setCell ⟨R, 4, none⟩ (.slice a5 k5 d5))).setCell ⟨R, 5, none⟩ (.slice a6 k6 d6) := ⟨_, rfl⟩
  have gN : w6.grownBy WN (some R) := by
    rw [hWN]
    exact grown_put (grown_put (grown_put (grown_put (grown_put (grown_put (grown_refl _ _))))))
  have FE : Hid (GotP w B (fun w' v => AnO w.heap.size w' v ⟨k, t, n1, n2, X, E⟩) r6 (.returned (.agg #[.int .i64 (k : Nat), .string y, .int .i64 n1, .int .i64 n2, .slice a5 k5 d5, .slice a6 k6 d6])) WN) := by
    have hRs : w.heap.size ≤ R := by rw [← HR.out]; exact Nat.le_refl _
    refine ⟨by rw [hWN]; exact grown_new (grown_new (grown_new (grown_new (grown_new (grown_new g4 hRs _) hRs _) hRs _) hRs _) hRs _) hRs _, .inl ⟨hb, _, rfl, ⟨.slice a5 k5 d5, .slice a6 k6 d6, by rw [HYY.out], own_base (HO5'.out.kept gN (.inr (HO5'.out.low (Nat.lt_succ_self R)))) (by omega), oen_base (oen_kept HO6.out gN (fun b hb => by omega) (fun e => by have := (HO6.out.own R e).1; omega)) (by omega)⟩, by rw [hWN]; exact at1_other (at1_other (at1_other (at1_other (at1_other (at1_other K HRB.out) HRB.out) HRB.out) HRB.out) HRB.out) HRB.out⟩⟩
  have zz : WN.heap[R]? = some (.cells #[.int .i64 (k : Nat), .string y, .int .i64 n1, .int .i64 n2, .slice a5 k5 d5, .slice a6 k6 d6] 100 (0, 0)) := by
    rw [hWN]
    exact set_block (set_block (set_block (set_block (set_block (set_block z4)))))
  obtain ⟨y0, y1, y2, y3, y4, y5⟩ := six_cells zz
  have HWN := Lib.hid hWN
  clear hWN zz z4 g4 G hb K C6 Q5 gN hk5 hk6 HO5 HO5' HO6
  go_wp2_with fail
  rw [← HWN.out]
  exact bodyPost_ret (v := .agg #[.int .i64 (k : Nat), .string y, .int .i64 n1, .int .i64 n2, .slice a5 k5 d5, .slice a6 k6 d6]) (by simp [results, Tryz.results109, go_sem, y0, y1, y2, y3, y4, y5, Tryz.isAgg100, Tryz.sizeOf100]) rfl FE.out
theorem pans_rd {B : Nat} {w : World} (s : List UInt8) (hl : s.length ≤ 9223372036854775807) (h : At1 w B s) : Calls Tryz.prog 109 #[.pointer (some ⟨B, 0, none⟩)] w (GotP w B (fun w' v => AnO w.heap.size w' v (toldR s).1) (toldR s).2) :=
  pans0_rd (w := w) ⟨s, false⟩ _ _ _ _ _ _ _ _ _ _ _ _ rfl rfl rfl rfl rfl rfl rfl hl h
end Go.Proofs.YtccaiippoephbaaGreatDoor.Wds
/- Words: the program's Told: an answer of bytes. -/
set_option linter.unusedVariables false
set_option linter.unusedSimpArgs false
set_option maxRecDepth 100000
namespace Go.Proofs.YtccaiippoephbaaGreatDoor.Wds
open Go.RowKit Go.Lib Go.Proofs.YtccaiippoephbaaGreatDoor.Bx Go.Proofs.YtccaiippoephbaaGreatDoor.Frm

theorem ano_zero (base : Nat) (w : World) : AnO base w (.agg #[.int .i64 0, .string (ByteArray.mk #[]), .int .i64 0, .int .i64 0, .slice none 0 0, .slice none 0 0]) zeroA := ⟨_, _, rfl, Rk.OwnK.nil_ _ _ _ _, Aud.OEn.nil_ _ _ _⟩
set_option maxHeartbeats 4000000 in
theorem whole_answer {B : Nat} {w : World} {l : List UInt8} (h : At1 w B l) (a : An) (r : Rd) (f : Value) (hf : f = .func (.func 109) #[.pointer (some ⟨B, 0, none⟩)] #[])
    (C : ∀ w', At1 w' B l → Calls Tryz.prog 109 #[.pointer (some ⟨B, 0, none⟩)] w' (GotP w' B (fun w'' v => AnO w'.heap.size w'' v a) r)) :
    Calls Tryz.prog 108 #[.pointer (some ⟨B, 0, none⟩), f] w fun e w' => (∃ v, e = .returned (.tuple #[v, .bool (wholeB r)]) ∧ AnO w.heap.size w' v (if wholeB r = true then a else zeroA)) ∧ w.grownBy w' (some B) := by
  subst hf
  obtain ⟨B0, P0, L0⟩ := box1 w #[.int .i64 0, .string (ByteArray.mk #[]), .int .i64 0, .int .i64 0, .slice none 0 0, .slice none 0 0] 100
  obtain ⟨W0, hW0⟩ : ∃ W0, W0 = w.alloc (.cells #[.int .i64 0, .string (ByteArray.mk #[]), .int .i64 0, .int .i64 0, .slice none 0 0, .slice none 0 0] 100) := ⟨_, rfl⟩
  rw [← hW0] at B0 P0 L0
  obtain ⟨R, hR⟩ : ∃ R, R = w.heap.size := ⟨_, rfl⟩
  rw [← hR] at P0 L0
  have hRB : R ≠ B := by have := h.cell.2.1; omega
  have HW0 := Lib.hid hW0
  have HR := Lib.hid hR
  have CC := Lib.hid (C W0 (h.below B0))
  rw [L0] at CC
  have HG : Hid (∀ w', W0.grownBy w' (some B) → w.grownBy w' (some B) ∧ w'.heap[R]? = some (.cells #[.int .i64 0, .string (ByteArray.mk #[]), .int .i64 0, .int .i64 0, .slice none 0 0, .slice none 0 0] 100 (0, 0)) ∧ R < w'.heap.size) := fun w' g => ⟨grown_trans (grown_of _ _ B0 _) g, (g.block R (by omega) (by simpa using hRB)).trans P0, by have := g.size; omega⟩
  have HRs : Hid (w.heap.size ≤ R) := by rw [← hR]; exact Nat.le_refl _
  have hmf : ∀ (fn : Fn) (first cap : Array Value) (w : World), (Instr.makeFunc fn first cap).run Tryz.prog w = .ok (.func fn first cap) w := fun _ _ _ _ => rfl
  have hmi := hmi
  clear hR hRB hW0 B0 P0 L0 h C
  obtain ⟨q, hq⟩ : ∃ q, q = (if wholeB r = true then a else zeroA) := ⟨_, rfl⟩
  obtain ⟨bb, hbb⟩ : ∃ bb, bb = wholeB r := ⟨_, rfl⟩
  have HQ := Lib.hid hq
  have HB := Lib.hid hbb
  rw [← hq, ← hbb]
  clear hq hbb
  go_enter_defers Tryz.func108, Tryz.ntmps108
  go_wp2_with fail
  rw [← HW0.out]
  refine CC.out.mono ?_
  rintro e w1 ⟨G, (⟨hb, v, rfl, hv, K⟩ | ⟨hb, rfl⟩)⟩
  · obtain ⟨a4, c4, a5, c5, rfl⟩ := hv.form
    have HV := Lib.hid hv
    clear hv
    generalize a.st = x0 at *
    generalize mkB a.tok = x1 at *
    generalize a.num = x2 at *
    generalize a.at' = x3 at *
    generalize a.R.length = n4 at *
    generalize a.E.length = n5 at *
    obtain ⟨g1, z1, s1⟩ := HG.out _ G
    obtain ⟨B2, P2, L2⟩ := box1 w1 #[.int .i64 x0, .string x1, .int .i64 x2, .int .i64 x3, .slice a4 n4 c4, .slice a5 n5 c5] 100
    obtain ⟨W2, hW2⟩ : ∃ W2, W2 = w1.alloc (.cells #[.int .i64 x0, .string x1, .int .i64 x2, .int .i64 x3, .slice a4 n4 c4, .slice a5 n5 c5] 100) := ⟨_, rfl⟩
    rw [← hW2] at B2 P2 L2
    have z2 : W2.heap[R]? = some (.cells #[.int .i64 0, .string (ByteArray.mk #[]), .int .i64 0, .int .i64 0, .slice none 0 0, .slice none 0 0] 100 (0, 0)) := (B2.block R s1).trans z1
    obtain ⟨d0, d1, d2, d3, d4, d5⟩ := six_cells P2
    obtain ⟨c0, hB, f0⟩ := (K.below B2).cell
    obtain ⟨r0, r1, r2, r3, r4, r5⟩ := six_cells z2
    have fr0 := free_at (i := 0) z2
    have fr1 := free_at (i := 1) z2
    have fr2 := free_at (i := 2) z2
    have fr3 := free_at (i := 3) z2
    have fr4 := free_at (i := 4) z2
    have fr5 := free_at (i := 5) z2
    have HS1 : Hid (w.heap.size ≤ w1.heap.size ∧ R ≠ w1.heap.size) := ⟨Nat.le_trans HRs.out (Nat.le_of_lt s1), by omega⟩
    have HV2 : Hid (AnO (R + 1) W2 (.agg #[.int .i64 x0, .string x1, .int .i64 x2, .int .i64 x3, .slice a4 n4 c4, .slice a5 n5 c5]) a) := HV.out.below B2
    have HW2 := Lib.hid hW2
    have HZ2 := Lib.hid z2
    have HP2 := Lib.hid P2
    have G2 : Hid (w.grownBy W2 (some B)) := grown_below g1 B2
    have HRR : Hid (w.heap.size = R) := HR.out.symm
    by_cases hs : r.s = []
    · have hE := empty_yes
      rw [hs] at c0
      have hw : wholeB r = true := decide_eq_true ⟨hb, hs⟩
      have HQ1 : Hid (q = a) := HQ.out.trans (by rw [hw]; rfl)
      have HQ2 := Lib.hid (HB.out.trans hw)
      obtain ⟨WN, hWN⟩ : ∃ WN, WN = (((((W2.setCell ⟨R, 0, none⟩ (.int .i64 x0)).setCell ⟨R, 1, none⟩ (.string x1)).setCell ⟨R, 2, none⟩ (.int .i64 x2)).setCell ⟨R, 3, none⟩ (.int .i64 x3)).setCell ⟨R, 4, none⟩ (.slice a4 n4 c4)).setCell ⟨R, 5, none⟩ (.slice a5 n5 c5) := ⟨_, rfl⟩
      have zz : WN.heap[R]? = some (.cells #[.int .i64 x0, .string x1, .int .i64 x2, .int .i64 x3, .slice a4 n4 c4, .slice a5 n5 c5] 100 (0, 0)) := by
        rw [hWN]
        exact set_block (set_block (set_block (set_block (set_block (set_block HZ2.out)))))
      have GN : Hid (w.grownBy WN (some B)) := by
        rw [hWN]
        exact grown_new (grown_new (grown_new (grown_new (grown_new (grown_new G2.out HRs.out _) HRs.out _) HRs.out _) HRs.out _) HRs.out _) HRs.out _
      have HVN : Hid (AnO (R + 1) WN (.agg #[.int .i64 x0, .string x1, .int .i64 x2, .int .i64 x3, .slice a4 n4 c4, .slice a5 n5 c5]) a) := HV2.out.kept (C := R) (by rw [hWN]; exact grown_put (grown_put (grown_put (grown_put (grown_put (grown_put (grown_refl _ _))))))) (Nat.lt_succ_self R)
      have HWN := Lib.hid hWN
      have HZZ := Lib.hid zz
      clear G g1 z1 B2 P2 L2 hW2 z2 hb K hs hw hWN zz HG CC HZ2 HV HV2
      go_upto_region 3 with fail
      rw [← HW2.out, HRR.out]
      go_wp2_with fail
      rw [← HWN.out]
      refine leaves_cons (f := 130) (args := #[]) (by simp) (by simp [go_sem]) ?_
      refine (idle_answer _).mono ?_
      rintro e u' w'' ⟨rfl, rfl, b3⟩
      have z3 := (b3.block R (Array.getElem?_eq_some_iff.1 HZZ.out).1).trans HZZ.out
      obtain ⟨y0, y1, y2, y3, y4, y5⟩ := six_cells z3
      have GF := grown_below GN.out b3
      have VF : AnO R w'' (.agg #[.int .i64 x0, .string x1, .int .i64 x2, .int .i64 x3, .slice a4 n4 c4, .slice a5 n5 c5]) q := by rw [HQ1.out]; exact (HVN.out.below b3).base (Nat.le_succ R)
      simp [Leaves, settle, results, Tryz.results108, go_sem, HQ2.out, y0, y1, y2, y3, y4, y5, Tryz.isAgg100, Tryz.sizeOf100]
      exact ⟨by rw [HRR.out]; exact VF, GF⟩
    · have hE := empty_no hs
      have hw : wholeB r = false := decide_eq_false (fun h => hs h.2)
      have HQ1 : Hid (q = zeroA) := HQ.out.trans (by rw [hw]; rfl)
      have HQ2 := Lib.hid (HB.out.trans hw)
      generalize mkB r.s = u at *
      clear G g1 z1 B2 P2 L2 hW2 z2 hb K hs hw HG CC
      go_upto_region 3 with fail
      rw [← HW2.out, HRR.out]
      go_wp2_with fail
      refine (giveup_any B _).mono ?_
      rintro e wg ⟨rfl, rfl⟩
      go_wp2_with fail
      refine leaves_cons (f := 130) (args := #[]) (by simp) (by simp [go_sem]) ?_
      refine (catch_answer [] _).mono ?_
      rintro e u' w'' ⟨rfl, rfl, b3⟩
      have z3 := (b3.block R (Array.getElem?_eq_some_iff.1 HZ2.out).1).trans HZ2.out
      obtain ⟨y0, y1, y2, y3, y4, y5⟩ := six_cells z3
      have GF := grown_below G2.out b3
      have VF := ano_zero R w''
      rw [← HQ1.out] at VF
      simp [Leaves, settle, results, Tryz.results108, go_sem, HQ2.out, y0, y1, y2, y3, y4, y5, Tryz.isAgg100, Tryz.sizeOf100]
      exact ⟨by rw [HRR.out]; exact VF, GF⟩
  · obtain ⟨g1, z1, s1⟩ := HG.out _ G
    have hw : wholeB r = false := decide_eq_false (fun h => by rw [hb] at h; cases h.1)
    have HQ1 : Hid (q = zeroA) := HQ.out.trans (by rw [hw]; rfl)
    have HQ2 := Lib.hid (HB.out.trans hw)
    have HZ1 := Lib.hid z1
    have G1 := Lib.hid g1
    have HRR : Hid (w.heap.size = R) := HR.out.symm
    clear G g1 z1 hb hw HG CC
    go_wp2_with fail
    rw [HRR.out]
    refine leaves_cons (f := 130) (args := #[]) (by simp) (by simp [go_sem]) ?_
    refine (catch_answer [] _).mono ?_
    rintro e u' w'' ⟨rfl, rfl, b3⟩
    have z3 := (b3.block R (Array.getElem?_eq_some_iff.1 HZ1.out).1).trans HZ1.out
    obtain ⟨y0, y1, y2, y3, y4, y5⟩ := six_cells z3
    have GF := grown_below G1.out b3
    have VF := ano_zero R w''
    rw [← HQ1.out] at VF
    simp [Leaves, settle, results, Tryz.results108, go_sem, HQ2.out, y0, y1, y2, y3, y4, y5, Tryz.isAgg100, Tryz.sizeOf100]
    exact ⟨VF, GF⟩
def ToldOk : Prop := ∀ (s : List UInt8) (w : World), s.length ≤ 9223372036854775807 → Calls Tryz.prog 90 #[.string (mkB s)] w fun e w' => ∃ v, e = .returned (.tuple #[v, .bool (toldE s).2]) ∧ AnO w.heap.size w' v (toldE s).1 ∧ Below w.heap.size w w'
theorem told_whole (s : List UInt8) : (toldE s).2 = wholeB (toldR s).2 ∧ (toldE s).1 = if wholeB (toldR s).2 = true then (toldR s).1 else zeroA := by
  unfold toldE wholeB
  by_cases h : (toldR s).2.bad = false ∧ (toldR s).2.s = []
  · rw [if_pos h, decide_eq_true h]
    exact ⟨rfl, rfl⟩
  · rw [if_neg h, decide_eq_false h]
    exact ⟨rfl, rfl⟩
set_option maxHeartbeats 4000000 in
theorem told_ok' : ToldOk := fun s w hs => by
  obtain ⟨t1, t2⟩ := told_whole s
  obtain ⟨B0, P0, L0⟩ := box1 w #[.int .i64 0, .string (ByteArray.mk #[]), .int .i64 0, .int .i64 0, .slice none 0 0, .slice none 0 0] 100
  obtain ⟨W0, hW0⟩ : ∃ W0, W0 = w.alloc (.cells #[.int .i64 0, .string (ByteArray.mk #[]), .int .i64 0, .int .i64 0, .slice none 0 0, .slice none 0 0] 100) := ⟨_, rfl⟩
  rw [← hW0] at B0 P0 L0
  obtain ⟨R, hR⟩ : ∃ R, R = w.heap.size := ⟨_, rfl⟩
  rw [← hR] at L0 P0
  have CO := Lib.hid (fun w => of_rd (mkB s) w)
  have HX : Hid (∀ w1, Below W0.heap.size W0 w1 → ∃ W1 B, W1 = w1.alloc (.cells #[.string (mkB s)] 180) ∧ B = w1.heap.size ∧ R < B ∧ Below R w W1 ∧ W1.heap.size = B + 1 ∧ Calls Tryz.prog 108 #[.pointer (some ⟨B, 0, none⟩), .func (.func 109) #[.pointer (some ⟨B, 0, none⟩)] #[]] W1 (fun e w' => (∃ v, e = .returned (.tuple #[v, .bool (toldE s).2]) ∧ AnO W1.heap.size w' v (toldE s).1) ∧ W1.grownBy w' (some B)) ∧ ∀ w', W1.grownBy w' (some B) → w'.heap[R]? = some (.cells #[.int .i64 0, .string (ByteArray.mk #[]), .int .i64 0, .int .i64 0, .slice none 0 0, .slice none 0 0] 100 (0, 0))) := fun w1 b1 => by
    obtain ⟨B1, P1, L1⟩ := box1 w1 #[.string (mkB s)] 180
    refine ⟨_, _, rfl, rfl, by have := b1.size; omega, by rw [hR]; exact below_on (below_on B0 b1) B1, L1, ?_, fun w' g => ?_⟩
    · have CC := whole_answer (w := w1.alloc (.cells #[.string (mkB s)] 180)) (B := w1.heap.size) P1 (toldR s).1 (toldR s).2 _ rfl (fun w' h => pans_rd s hs h)
      rw [← t2, ← t1] at CC
      exact CC
    · have h1 : R < w1.heap.size := by have := b1.size; omega
      exact (g.block R (by rw [L1]; omega) (by simp; omega)).trans ((B1.block R h1).trans ((b1.block R (by omega)).trans P0))
  have HS0 : Hid (w.heap.size = R) := hR.symm
  have HW0 := Lib.hid hW0
  have hmf : ∀ (fn : Fn) (first cap : Array Value) (w : World), (Instr.makeFunc fn first cap).run Tryz.prog w = .ok (.func fn first cap) w := fun _ _ _ _ => rfl
  generalize (toldE s).2 = b at *
  generalize (toldE s).1 = a at *
  generalize mkB s = u at *
  clear t1 t2 B0 P0 L0 hW0 hR hs
  go_enter Tryz.func90, Tryz.ntmps90
  go_wp2_with fail
  rw [← HW0.out]
  refine (CO.out _).mono ?_
  rintro e w1 ⟨rfl, b1⟩
  obtain ⟨W1, B, hW1, hB, hRB, hBl, hL, hCC, hHG⟩ := HX.out w1 b1
  have HW1 := Lib.hid hW1
  have HBB := Lib.hid hB
  have HRB := Lib.hid hRB
  have HB := Lib.hid hBl
  have HL := Lib.hid hL
  have CC := Lib.hid hCC
  have HG := Lib.hid hHG
  clear hW1 hB hRB hBl hL hCC hHG b1 HX CO
  go_wp2_with fail
  rw [← HW1.out, ← HBB.out, HS0.out]
  refine CC.out.mono ?_
  rintro e w2 ⟨⟨v, rfl, hv⟩, g2⟩
  obtain ⟨a4, c4, a5, c5, rfl⟩ := hv.form
  have HV := Lib.hid hv
  clear hv
  generalize a.st = x0 at *
  generalize mkB a.tok = x1 at *
  generalize a.num = x2 at *
  generalize a.at' = x3 at *
  generalize a.R.length = n4 at *
  generalize a.E.length = n5 at *
  have z2 := HG.out _ g2
  obtain ⟨c0, c1, c2, c3, r4, r5⟩ := six_cells z2
  have fr0 := free_at (i := 0) z2
  have fr1 := free_at (i := 1) z2
  have fr2 := free_at (i := 2) z2
  have fr3 := free_at (i := 3) z2
  have fr4 := free_at (i := 4) z2
  have fr5 := free_at (i := 5) z2
  obtain ⟨WN, hWN⟩ : ∃ WN, WN = (((((w2.setCell ⟨R, 0, none⟩ (.int .i64 x0)).setCell ⟨R, 1, none⟩ (.string x1)).setCell ⟨R, 2, none⟩ (.int .i64 x2)).setCell ⟨R, 3, none⟩ (.int .i64 x3)).setCell ⟨R, 4, none⟩ (.slice a4 n4 c4)).setCell ⟨R, 5, none⟩ (.slice a5 n5 c5) := ⟨_, rfl⟩
  have zz : WN.heap[R]? = some (.cells #[.int .i64 x0, .string x1, .int .i64 x2, .int .i64 x3, .slice a4 n4 c4, .slice a5 n5 c5] 100 (0, 0)) := by
    rw [hWN]
    exact set_block (set_block (set_block (set_block (set_block (set_block z2)))))
  have GN : Below R w WN := by
    have b : Below R w w2 := grown_to HB.out g2 (Nat.le_of_lt HRB.out) (by have := HL.out; have := HRB.out; omega)
    rw [hWN]
    exact below_put (below_put (below_put (below_put (below_put (below_put b (Nat.le_refl R) _) (Nat.le_refl R) _) (Nat.le_refl R) _) (Nat.le_refl R) _) (Nat.le_refl R) _) (Nat.le_refl R) _
  have HVN : Hid (AnO R WN (.agg #[.int .i64 x0, .string x1, .int .i64 x2, .int .i64 x3, .slice a4 n4 c4, .slice a5 n5 c5]) a) := (HV.out.kept (C := R) (by rw [hWN]; exact grown_put (grown_put (grown_put (grown_put (grown_put (grown_put (grown_refl _ _))))))) (by have := HL.out; have := HRB.out; omega)).base (by have := HL.out; have := HRB.out; omega)
  obtain ⟨d0, d1, d2, d3, d4, d5⟩ := six_cells zz
  have HWN := Lib.hid hWN
  have GF := Lib.hid GN
  clear hWN zz GN g2 z2 CC HG HV
  go_wp2_with fail
  rw [← HWN.out]
  exact bodyPost_ret (v := .tuple #[.agg #[.int .i64 x0, .string x1, .int .i64 x2, .int .i64 x3, .slice a4 n4 c4, .slice a5 n5 c5], .bool b]) (by simp [results, Tryz.results90, go_sem, d0, d1, d2, d3, d4, d5, Tryz.isAgg100, Tryz.sizeOf100]) rfl ⟨_, rfl, by rw [HS0.out]; exact HVN.out, by rw [HS0.out]; exact GF.out⟩
end Go.Proofs.YtccaiippoephbaaGreatDoor.Wds
/- Words: the plain text's Told. -/
set_option linter.unusedVariables false
set_option linter.unusedSimpArgs false
set_option maxRecDepth 100000
namespace Go.Proofs.YtccaiippoephbaaGreatDoor.Wds
open Go.RowKit Go.Lib Go.Proofs.YtccaiippoephbaaGreatDoor.Bx Go.Proofs.YtccaiippoephbaaGreatDoor.Frm

/-- What lies there while an answer is read. -/
structure En1 (w0 : World) (R : Nat) (c0 c1 c2 c3 rv ev : Value) (X : List Run) (E : List Ent) (w : World) (r : Rd) : Prop where
  at_ : At w (R + 1) r
  ablk : w.heap[R + 1 + 1]? = some (.cells #[c0, c1, c2, c3, rv, ev] 100 (0, 0))
  rblk : w.heap[R]? = some (.cells #[.int .i64 0, .string (ByteArray.mk #[]), .int .i64 0, .int .i64 0, .slice none 0 0, .slice none 0 0] 100 (0, 0))
  rows : Rk.OwnK 138 4 (R + 1 + 1 + 1) w rv (X.map runC)
  ents : Aud.OEn (fun b => R + 1 + 1 + 1 ≤ b) (R + 1 + 1 + 1) w ev E
  bel : Below R w0 w
  size : R + 1 + 1 + 1 ≤ w.heap.size
theorem En1.grown {w0 w w' : World} {R : Nat} {c0 c1 c2 c3 rv ev : Value} {X : List Run} {E : List Ent} {r r' : Rd} (h : En1 w0 R c0 c1 c2 c3 rv ev X E w r) (g : w.grownBy w' (some (R + 1))) (hA : At w' (R + 1) r') : En1 w0 R c0 c1 c2 c3 rv ev X E w' r' :=
  ⟨hA, (g.block _ (by have := h.size; omega) (fun e => by injection e with e; omega)).trans h.ablk, (g.block _ (by have := h.size; omega) (fun e => by injection e with e; omega)).trans h.rblk, h.rows.kept g (.inr (h.rows.low (by omega))), oen_kept h.ents g (fun b hb => by omega) (fun e => by have := (h.ents.own _ e).1; omega), grown_to h.bel g (Nat.le_succ R) (by have := h.size; omega), Nat.le_trans h.size g.size⟩
theorem En1.below {w0 w w' : World} {R : Nat} {c0 c1 c2 c3 rv ev : Value} {X : List Run} {E : List Ent} {r : Rd} (h : En1 w0 R c0 c1 c2 c3 rv ev X E w r) (b : Below w.heap.size w w') : En1 w0 R c0 c1 c2 c3 rv ev X E w' r :=
  h.grown (grown_of _ _ b _) (h.at_.kept (grown_of _ _ b none))
theorem En1.set0 {w0 w : World} {R : Nat} {c0 c1 c2 c3 rv ev : Value} {X : List Run} {E : List Ent} {r : Rd} (h : En1 w0 R c0 c1 c2 c3 rv ev X E w r) (u : Value) : En1 w0 R u c1 c2 c3 rv ev X E (w.setCell ⟨R + 1 + 1, 0, none⟩ u) r := by
  have g : w.grownBy (w.setCell ⟨R + 1 + 1, 0, none⟩ u) (some (R + 1 + 1)) := grown_put (grown_refl _ _)
  exact ⟨(g.block _ (by have := h.size; omega) (fun e => by injection e with e; omega)).trans h.at_, set_block h.ablk, (g.block _ (by have := h.size; omega) (fun e => by injection e with e; omega)).trans h.rblk, h.rows.kept g (.inr (h.rows.low (by omega))), oen_kept h.ents g (fun b hb => by omega) (fun e => by have := (h.ents.own _ e).1; omega), below_put h.bel (by omega) _, Nat.le_trans h.size g.size⟩
theorem En1.set1 {w0 w : World} {R : Nat} {c0 c1 c2 c3 rv ev : Value} {X : List Run} {E : List Ent} {r : Rd} (h : En1 w0 R c0 c1 c2 c3 rv ev X E w r) (u : Value) : En1 w0 R c0 u c2 c3 rv ev X E (w.setCell ⟨R + 1 + 1, 1, none⟩ u) r := by
  have g : w.grownBy (w.setCell ⟨R + 1 + 1, 1, none⟩ u) (some (R + 1 + 1)) := grown_put (grown_refl _ _)
  exact ⟨(g.block _ (by have := h.size; omega) (fun e => by injection e with e; omega)).trans h.at_, set_block h.ablk, (g.block _ (by have := h.size; omega) (fun e => by injection e with e; omega)).trans h.rblk, h.rows.kept g (.inr (h.rows.low (by omega))), oen_kept h.ents g (fun b hb => by omega) (fun e => by have := (h.ents.own _ e).1; omega), below_put h.bel (by omega) _, Nat.le_trans h.size g.size⟩
theorem En1.set2 {w0 w : World} {R : Nat} {c0 c1 c2 c3 rv ev : Value} {X : List Run} {E : List Ent} {r : Rd} (h : En1 w0 R c0 c1 c2 c3 rv ev X E w r) (u : Value) : En1 w0 R c0 c1 u c3 rv ev X E (w.setCell ⟨R + 1 + 1, 2, none⟩ u) r := by
  have g : w.grownBy (w.setCell ⟨R + 1 + 1, 2, none⟩ u) (some (R + 1 + 1)) := grown_put (grown_refl _ _)
  exact ⟨(g.block _ (by have := h.size; omega) (fun e => by injection e with e; omega)).trans h.at_, set_block h.ablk, (g.block _ (by have := h.size; omega) (fun e => by injection e with e; omega)).trans h.rblk, h.rows.kept g (.inr (h.rows.low (by omega))), oen_kept h.ents g (fun b hb => by omega) (fun e => by have := (h.ents.own _ e).1; omega), below_put h.bel (by omega) _, Nat.le_trans h.size g.size⟩
theorem En1.set3 {w0 w : World} {R : Nat} {c0 c1 c2 c3 rv ev : Value} {X : List Run} {E : List Ent} {r : Rd} (h : En1 w0 R c0 c1 c2 c3 rv ev X E w r) (u : Value) : En1 w0 R c0 c1 c2 u rv ev X E (w.setCell ⟨R + 1 + 1, 3, none⟩ u) r := by
  have g : w.grownBy (w.setCell ⟨R + 1 + 1, 3, none⟩ u) (some (R + 1 + 1)) := grown_put (grown_refl _ _)
  exact ⟨(g.block _ (by have := h.size; omega) (fun e => by injection e with e; omega)).trans h.at_, set_block h.ablk, (g.block _ (by have := h.size; omega) (fun e => by injection e with e; omega)).trans h.rblk, h.rows.kept g (.inr (h.rows.low (by omega))), oen_kept h.ents g (fun b hb => by omega) (fun e => by have := (h.ents.own _ e).1; omega), below_put h.bel (by omega) _, Nat.le_trans h.size g.size⟩
theorem En1.put4 {w0 w1 w9 : World} {R : Nat} {c0 c1 c2 c3 rv ev v9 : Value} {X : List Run} {E : List Ent} {r : Rd} {z : Run} (h : En1 w0 R c0 c1 c2 c3 rv ev X E w1 r) (hE : E = []) (he : ev = .slice none 0 0) (o : Rk.OwnK 138 4 (R + 1 + 1 + 1) w9 v9 (X.map runC ++ [runC z])) (g : w1.grownBy w9 rv.ownBlock) :
    w9.heap[R + 1 + 1]? = some (.cells #[c0, c1, c2, c3, rv, ev] 100 (0, 0)) ∧ Hid (En1 w0 R c0 c1 c2 c3 v9 ev (X ++ [z]) E (w9.setCell ⟨R + 1 + 1, 4, none⟩ v9) r) := by
  have hl : ∀ b, b < R + 1 + 1 + 1 → w9.heap[b]? = w1.heap[b]? := fun b hb => g.block b (by have := h.size; omega) (fun e => h.rows.low hb e.symm)
  have z9 := (hl (R + 1 + 1) (by omega)).trans h.ablk
  refine ⟨z9, ?_⟩
  have g2 : w9.grownBy (w9.setCell ⟨R + 1 + 1, 4, none⟩ v9) (some (R + 1 + 1)) := grown_put (grown_refl _ _)
  have s9 : R + 1 + 1 + 1 ≤ w9.heap.size := Nat.le_trans h.size g.size
  subst hE he
  refine ⟨(g2.block _ (by omega) (fun e => by injection e with e; omega)).trans ((hl (R + 1) (by omega)).trans h.at_), set_block z9, (g2.block _ (by omega) (fun e => by injection e with e; omega)).trans ((hl R (by omega)).trans h.rblk), ?_, Aud.OEn.nil_ _ _ _, below_put (h.bel.grown g (by have := h.size; omega) (fun b e => by have := (h.rows.block b e).1; omega)) (by omega) _, Nat.le_trans s9 g2.size⟩
  have o2 := o.kept g2 (.inr (o.low (by omega)))
  rw [List.map_append]
  exact o2
theorem En1.put5 {w0 w1 w9 : World} {R : Nat} {c0 c1 c2 c3 rv ev v9 : Value} {X : List Run} {E E' : List Ent} {r : Rd} (h : En1 w0 R c0 c1 c2 c3 rv ev X E w1 r) (hne : rv.ownBlock = none ∨ rv.ownBlock ≠ ev.ownBlock) (o : Aud.OEn (fun b => R + 1 + 1 + 1 ≤ b) (R + 1 + 1 + 1) w9 v9 E') (g : w1.grownBy w9 ev.ownBlock) :
    w9.heap[R + 1 + 1]? = some (.cells #[c0, c1, c2, c3, rv, ev] 100 (0, 0)) ∧ Hid (En1 w0 R c0 c1 c2 c3 rv v9 X E' (w9.setCell ⟨R + 1 + 1, 5, none⟩ v9) r) := by
  have hlow : ∀ b, b < R + 1 + 1 + 1 → ev.ownBlock ≠ some b := fun b hb e => by have := (h.ents.own b e).1; omega
  have hl : ∀ b, b < R + 1 + 1 + 1 → w9.heap[b]? = w1.heap[b]? := fun b hb => g.block b (by have := h.size; omega) (fun e => hlow b hb e.symm)
  have z9 := (hl (R + 1 + 1) (by omega)).trans h.ablk
  refine ⟨z9, ?_⟩
  have g2 : w9.grownBy (w9.setCell ⟨R + 1 + 1, 5, none⟩ v9) (some (R + 1 + 1)) := grown_put (grown_refl _ _)
  have s9 : R + 1 + 1 + 1 ≤ w9.heap.size := Nat.le_trans h.size g.size
  have r9 := h.rows.kept g hne
  exact ⟨(g2.block _ (by omega) (fun e => by injection e with e; omega)).trans ((hl (R + 1) (by omega)).trans h.at_), set_block z9, (g2.block _ (by omega) (fun e => by injection e with e; omega)).trans ((hl R (by omega)).trans h.rblk), r9.kept g2 (.inr (r9.low (by omega))), oen_kept o g2 (fun b hb => by omega) (fun e => by have := (o.own _ e).1; omega), below_put (h.bel.grown g (by have := h.size; omega) (fun b e => by have := (h.ents.own b e).1; omega)) (by omega) _, Nat.le_trans s9 g2.size⟩
end Go.Proofs.YtccaiippoephbaaGreatDoor.Wds
/- Words: the plain text's Told: its walk. -/
set_option linter.unusedVariables false
set_option linter.unusedSimpArgs false
set_option maxRecDepth 100000
namespace Go.Proofs.YtccaiippoephbaaGreatDoor.Wds
open Go.RowKit Go.Lib Go.Proofs.YtccaiippoephbaaGreatDoor.Bx Go.Proofs.YtccaiippoephbaaGreatDoor.Frm

theorem at_other {w : World} {B X j : Nat} {r : Rd} {u : Value} (h : At w B r) (hne : X ≠ B) : At (w.setCell ⟨X, j, none⟩ u) B r := (Below.heap_setCell _ _ _ _ (fun e => hne e.symm)).trans h
def RToldOk : Prop := ∀ (s : List UInt8) (w : World), Calls Tryz.prog 51 #[.string (mkB s)] w fun e w' => ∃ v, e = .returned (.tuple #[v, .bool (toldE s).2]) ∧ AnO w.heap.size w' v (toldE s).1 ∧ Below w.heap.size w w'
theorem own_ne_ents {base : Nat} {w : World} {u v : Value} {xs ys : List (List Value)} (h1 : Rk.OwnK 138 4 base w u xs) (h2 : Rk.OwnK 59 5 base w v ys) : u.ownBlock = none ∨ u.ownBlock ≠ v.ownBlock := by
  rcases h1.2.2 with ⟨rfl, _⟩ | ⟨g, cap, cur, rfl, _, hg, _⟩
  · exact .inl rfl
  · rcases h2.2.2 with ⟨rfl, _⟩ | ⟨g', cap', cur', rfl, _, hg', _⟩
    · exact .inr (fun e => by unfold Value.ownBlock at e; cases e)
    · refine .inr (fun e => ?_)
      unfold Value.ownBlock at e
      injection e with e
      subst e
      rw [hg] at hg'
      injection hg' with hg'
      injection hg' with _ h9 _
      revert h9
      decide
set_option maxHeartbeats 16000000 in
theorem rtold_any : RToldOk := fun s w => by
  obtain ⟨R, hR⟩ : ∃ R, R = w.heap.size := ⟨_, rfl⟩
  obtain ⟨B0, P0, L0⟩ := box1 w #[.int .i64 0, .string (ByteArray.mk #[]), .int .i64 0, .int .i64 0, .slice none 0 0, .slice none 0 0] 100
  obtain ⟨W0, hW0⟩ : ∃ W0, W0 = w.alloc (.cells #[.int .i64 0, .string (ByteArray.mk #[]), .int .i64 0, .int .i64 0, .slice none 0 0, .slice none 0 0] 100) := ⟨_, rfl⟩
  rw [← hW0] at B0 P0 L0
  obtain ⟨B1, P1, L1⟩ := box1 W0 #[.string (mkB s), .bool false] 133
  obtain ⟨W1, hW1⟩ : ∃ W1, W1 = W0.alloc (.cells #[.string (mkB s), .bool false] 133) := ⟨_, rfl⟩
  rw [← hW1] at B1 P1 L1
  obtain ⟨B2, P2, L2⟩ := box1 W1 #[.int .i64 0, .string (ByteArray.mk #[]), .int .i64 0, .int .i64 0, .slice none 0 0, .slice none 0 0] 100
  obtain ⟨W2, hW2⟩ : ∃ W2, W2 = W1.alloc (.cells #[.int .i64 0, .string (ByteArray.mk #[]), .int .i64 0, .int .i64 0, .slice none 0 0, .slice none 0 0] 100) := ⟨_, rfl⟩
  rw [← hW2] at B2 P2 L2
  rw [← hR] at P0 L0
  rw [L0] at P1 L1
  rw [L1] at P2 L2
  have HE : Hid (En1 w R (.int .i64 0) (.string (ByteArray.mk #[])) (.int .i64 0) (.int .i64 0) (.slice none 0 0) (.slice none 0 0) [] [] W2 ⟨s, false⟩) := ⟨(B2.block _ (by omega)).trans P1, P2, (B2.block _ (by omega)).trans ((B1.block _ (by omega)).trans P0), Rk.OwnK.nil_ _ _ _ _, Aud.OEn.nil_ _ _ _, by rw [hR]; exact below_on (below_on B0 B1) B2, by omega⟩
  have HW2 : Hid (W2 = ((w.alloc (.cells #[.int .i64 0, .string (ByteArray.mk #[]), .int .i64 0, .int .i64 0, .slice none 0 0, .slice none 0 0] 100)).alloc (.cells #[.string (mkB s), .bool false] 133)).alloc (.cells #[.int .i64 0, .string (ByteArray.mk #[]), .int .i64 0, .int .i64 0, .slice none 0 0, .slice none 0 0] 100)) := by show _ = _; rw [hW2, hW1, hW0]
  have HR0 : Hid (w.heap.size = R) := hR.symm
  obtain ⟨tk, htk⟩ : ∃ tk, tk = (takeR ⟨s, false⟩ 1).1 := ⟨_, rfl⟩
  obtain ⟨r1, hr1⟩ : ∃ r1, r1 = (takeR ⟨s, false⟩ 1).2 := ⟨_, rfl⟩
  obtain ⟨k, hk⟩ : ∃ k, k = (tk.getD 0 0).toNat := ⟨_, rfl⟩
  have htl : tk.length = 1 := by rw [htk]; exact take_len _ _
  have k8 : k < 256 := by rw [hk]; exact UInt8.toNat_lt _
  have XI : ∀ w, (Instr.index 9 (.string (mkB tk)) (.int .i64 0)).run Tryz.prog w = .ok (.int .u8 (k : Nat)) w := fun w => by
    rw [hk]
    exact byte_run w tk .i64 (i := 0) (by omega)
  have C1 : Hid (∀ w', At w' (R + 1) ⟨s, false⟩ → Calls Tryz.prog 72 #[.pointer (some ⟨R + 1, 0, none⟩), .int .i64 1] w' fun e w'' => e = .returned (.string (mkB tk)) ∧ At w'' (R + 1) r1 ∧ w'.grownBy w'' (some (R + 1))) := fun w' h => by have c := take_any ⟨s, false⟩ 1 (R + 1) w' h (by decide) (.inl (by decide)); rw [← htk, ← hr1] at c; exact c
  have hsz : (mkB tk).size = 1 := by rw [mkB_size, htl]
  obtain ⟨t, ht⟩ : ∃ t, t = (textR r1).1 := ⟨_, rfl⟩
  obtain ⟨r2, hr2⟩ : ∃ r2, r2 = (textR r1).2 := ⟨_, rfl⟩
  obtain ⟨n1, hn1⟩ : ∃ n1, n1 = (numR r2).1 := ⟨_, rfl⟩
  obtain ⟨r3, hr3⟩ : ∃ r3, r3 = (numR r2).2 := ⟨_, rfl⟩
  obtain ⟨n2, hn2⟩ : ∃ n2, n2 = (numR r3).1 := ⟨_, rfl⟩
  obtain ⟨r4, hr4⟩ : ∃ r4, r4 = (numR r3).2 := ⟨_, rfl⟩
  obtain ⟨n, hn⟩ : ∃ n, n = (lenR r4).1 := ⟨_, rfl⟩
  obtain ⟨r0, hr0⟩ : ∃ r0, r0 = (lenR r4).2 := ⟨_, rfl⟩
  have C2 : Hid (∀ w', At w' (R + 1) r1 → Calls Tryz.prog 73 #[.pointer (some ⟨R + 1, 0, none⟩)] w' fun e w'' => e = .returned (.string (mkB t)) ∧ At w'' (R + 1) r2 ∧ w'.grownBy w'' (some (R + 1))) := fun w' h => by have c := text_rd r1 (R + 1) w' h; rw [← ht, ← hr2] at c; exact c
  have C3 : Hid (∀ w', At w' (R + 1) r2 → Calls Tryz.prog 74 #[.pointer (some ⟨R + 1, 0, none⟩)] w' fun e w'' => e = .returned (.int .i64 n1) ∧ At w'' (R + 1) r3 ∧ w'.grownBy w'' (some (R + 1))) := fun w' h => by have c := number_rd r2 (R + 1) w' h; rw [← hn1, ← hr3] at c; exact c
  have C4 : Hid (∀ w', At w' (R + 1) r3 → Calls Tryz.prog 74 #[.pointer (some ⟨R + 1, 0, none⟩)] w' fun e w'' => e = .returned (.int .i64 n2) ∧ At w'' (R + 1) r4 ∧ w'.grownBy w'' (some (R + 1))) := fun w' h => by have c := number_rd r3 (R + 1) w' h; rw [← hn2, ← hr4] at c; exact c
  have C5 : Hid (∀ w', At w' (R + 1) r4 → Calls Tryz.prog 75 #[.pointer (some ⟨R + 1, 0, none⟩)] w' fun e w'' => e = .returned (.int .i64 (n : Nat)) ∧ At w'' (R + 1) r0 ∧ w'.grownBy w'' (some (R + 1))) := fun w' h => by have c := len_rd r4 (R + 1) w' h; rw [← hn, ← hr0] at c; exact c
  have n256 : n < 256 := by rw [hn]; exact UInt8.toNat_lt _
  have HNR : Hid ((lenR r4).1 = n ∧ (lenR r4).2 = r0) := ⟨hn.symm, hr0.symm⟩
  have HMOD : Hid (toldR s = (⟨(k : Nat), t, n1, n2, (rowR runR r4).1, (rowR entR (rowR runR r4).2).1⟩, (rowR entR (rowR runR r4).2).2)) := by
    show _ = _
    rw [hr4, hn2, hr3, hn1, hr2, ht, hr1, hk, htk]
    rfl
  obtain ⟨tt, htt⟩ : ∃ tt, tt = mkB t := ⟨_, rfl⟩
  rw [← htt] at C2
  have HTT : Hid (tt = mkB t) := htt
  generalize mkB tk = stk at *
  obtain ⟨c0, c1, c2, c3, c4, c5⟩ := six_cells P2
  have fa0 := free_at (i := 0) P2
  clear htk hr1 hk htl ht hr2 hn1 hr3 hn2 hr4 hn hr0 htt hR B0 P0 L0 B1 P1 L1 B2 P2 L2 hW0 hW1 hW2
  go_enter Tryz.func51, Tryz.ntmps51
  go_upto_region 3 with fail
  rw [← HW2.out, HR0.out]
  clear c0 c1 c2 c3 c4 c5 fa0
  go_wp2_with fail
  refine (C1.out _ HE.out.at_).mono ?_
  rintro e w1 ⟨rfl, K, G⟩
  have HE1 := Lib.hid (HE.out.grown G K)
  obtain ⟨c0, c1, c2, c3, c4, c5⟩ := six_cells HE1.out.ablk
  have fa := free_at (i := 0) HE1.out.ablk
  obtain ⟨V1, hV1⟩ : ∃ V1, V1 = w1.setCell ⟨R + 1 + 1, 0, none⟩ (.int .i64 (k : Nat)) := ⟨_, rfl⟩
  have HF1 := Lib.hid (HE1.out.set0 (.int .i64 (k : Nat)))
  rw [← hV1] at HF1
  have HV1 := Lib.hid hV1
  clear K G C1 HE HE1 hV1
  go_wp2_with fail
  rw [← HV1.out]
  refine (C2.out _ HF1.out.at_).mono ?_
  rintro e w2 ⟨rfl, K, G⟩
  have HE2 := Lib.hid (HF1.out.grown G K)
  clear c0 c1 c2 c3 c4 c5 fa XI hsz k8
  obtain ⟨c0, c1, c2, c3, c4, c5⟩ := six_cells HE2.out.ablk
  have fa := free_at (i := 1) HE2.out.ablk
  obtain ⟨V2, hV2⟩ : ∃ V2, V2 = w2.setCell ⟨R + 1 + 1, 1, none⟩ (.string tt) := ⟨_, rfl⟩
  have HF2 := Lib.hid (HE2.out.set1 (.string tt))
  rw [← hV2] at HF2
  have HV2 := Lib.hid hV2
  clear K G C2 HE2 hV2 HF1
  go_wp2_with fail
  rw [← HV2.out]
  refine (C3.out _ HF2.out.at_).mono ?_
  rintro e w3 ⟨rfl, K, G⟩
  have HE3 := Lib.hid (HF2.out.grown G K)
  clear c0 c1 c2 c3 c4 c5 fa
  obtain ⟨c0, c1, c2, c3, c4, c5⟩ := six_cells HE3.out.ablk
  have fa := free_at (i := 2) HE3.out.ablk
  obtain ⟨V3, hV3⟩ : ∃ V3, V3 = w3.setCell ⟨R + 1 + 1, 2, none⟩ (.int .i64 n1) := ⟨_, rfl⟩
  have HF3 := Lib.hid (HE3.out.set2 (.int .i64 n1))
  rw [← hV3] at HF3
  have HV3 := Lib.hid hV3
  clear K G C3 HE3 hV3 HF2
  go_wp2_with fail
  rw [← HV3.out]
  refine (C4.out _ HF3.out.at_).mono ?_
  rintro e w4 ⟨rfl, K, G⟩
  have HE4 := Lib.hid (HF3.out.grown G K)
  clear c0 c1 c2 c3 c4 c5 fa
  obtain ⟨c0, c1, c2, c3, c4, c5⟩ := six_cells HE4.out.ablk
  have fa := free_at (i := 3) HE4.out.ablk
  obtain ⟨V4, hV4⟩ : ∃ V4, V4 = w4.setCell ⟨R + 1 + 1, 3, none⟩ (.int .i64 n2) := ⟨_, rfl⟩
  have HF4 := Lib.hid (HE4.out.set3 (.int .i64 n2))
  rw [← hV4] at HF4
  have HV4 := Lib.hid hV4
  clear K G C4 HE4 hV4 HF3
  go_wp2_with fail
  rw [← HV4.out]
  refine (C5.out _ HF4.out.at_).mono ?_
  rintro e w5 ⟨rfl, K, G⟩
  have HE0 : Hid (En1 w R (.int .i64 (k : Nat)) (.string tt) (.int .i64 n1) (.int .i64 n2) (.slice none 0 0) (.slice none 0 0) [] [] w5 r0) := HF4.out.grown G K
  clear c0 c1 c2 c3 c4 c5 fa K G C5 HF4
  go_wp2_with fail
  go_loopg [7] n (fun g i_ wr => ∃ (i : Nat) (X : List Run) (rr : Rd) (oa : Option Addr) (oc : Nat), i ≤ n ∧ n - i ≤ g ∧ i_ = .int .i64 (i : Nat) ∧ Hid (X.length = i) ∧ Hid (manyR runR n r0 = (X ++ (manyR runR (n - i) rr).1, (manyR runR (n - i) rr).2)) ∧ Hid (En1 w R (.int .i64 (k : Nat)) (.string tt) (.int .i64 n1) (.int .i64 n2) (.slice oa i oc) (.slice none 0 0) X [] wr rr))
  case atStart => exact ⟨0, [], r0, none, 0, by omega, by omega, rfl, rfl, rfl, HE0⟩
  case round =>
    obtain ⟨i, X, rr, oa, oc, hi, hg, rfl, HXL, HQ, HK⟩ := hrel
    obtain ⟨b0, b1, hbB⟩ := HK.out.at_.cells
    go_upto_region 9 with fail
    go_cut [40] from 31 to 61 (fun v wx => v = .bool (decide (i < n ∧ rr.bad = false)) ∧ wr = wx)
    case first =>
      by_cases hin : i < n
      · have iw : ((i : Nat) : Int) < (n : Int) := by omega
        have d1 : decide (((i : Nat) : Int) < (n : Int)) = true := decide_eq_true iw
        obtain ⟨rs_, rb⟩ := rr
        simp only at b0 b1
        cases rb with
        | true =>
          go_wp2_with fail
          go_meet
          exact ⟨by simp, rfl⟩
        | false =>
          go_wp2_with fail
          go_meet
          exact ⟨by simp [hin], rfl⟩
      · have iw : ¬ ((i : Nat) : Int) < (n : Int) := by omega
        have d1 : decide (((i : Nat) : Int) < (n : Int)) = false := decide_eq_false iw
        go_wp2_with fail
        go_meet
        exact ⟨by simp [hin], rfl⟩
    case rest =>
      obtain ⟨rfl, rfl⟩ := hcut
      by_cases hc : i < n ∧ rr.bad = false
      · rw [decide_eq_true hc]
        obtain ⟨hin, hrb⟩ := hc
        have hX0s : R + 1 + 1 + 1 ≤ wr.heap.size := HK.out.size
        obtain ⟨X0, hX0⟩ : ∃ X0, X0 = wr.heap.size := ⟨_, rfl⟩
        obtain ⟨bx, px, lx⟩ := box1 wr #[.int .i64 0, .int .i64 0, .bool false, .string (ByteArray.mk #[])] 138
        obtain ⟨V0, hV0⟩ : ∃ V0, V0 = wr.alloc (.cells #[.int .i64 0, .int .i64 0, .bool false, .string (ByteArray.mk #[])] 138) := ⟨_, rfl⟩
        rw [← hV0] at bx px lx
        rw [← hX0] at px lx
        have HV0 := Lib.hid hV0
        have HX0 : Hid (X0 = wr.heap.size ∧ R + 1 + 1 + 1 ≤ X0) := ⟨hX0, by rw [hX0]; exact hX0s⟩
        have G0 : Hid (wr.grownBy V0 (some (R + 1))) := grown_of _ _ bx _
        have P0 := Lib.hid px
        have L0 : Hid (X0 < V0.heap.size) := by show _ < _; omega
        have T0 : Hid (At V0 (R + 1) rr) := HK.out.at_.kept (grown_of _ _ bx none)
        clear hX0s hX0 hV0 bx px lx
        obtain ⟨r1, hr1⟩ : ∃ r1, r1 = (numR rr).2 := ⟨_, rfl⟩
        obtain ⟨x1, hx1⟩ : ∃ x1, x1 = (numR rr).1 := ⟨_, rfl⟩
        have D1 : Hid (∀ w', At w' (R + 1) rr → Calls Tryz.prog 74 #[.pointer (some ⟨R + 1, 0, none⟩)] w' fun e w'' => e = .returned (.int .i64 x1) ∧ At w'' (R + 1) r1 ∧ w'.grownBy w'' (some (R + 1))) := fun w' h => by have c := number_rd rr (R + 1) w' h; rw [← hx1, ← hr1] at c; exact c
        obtain ⟨r2, hr2⟩ : ∃ r2, r2 = (numR r1).2 := ⟨_, rfl⟩
        obtain ⟨x2, hx2⟩ : ∃ x2, x2 = (numR r1).1 := ⟨_, rfl⟩
        have D2 : Hid (∀ w', At w' (R + 1) r1 → Calls Tryz.prog 74 #[.pointer (some ⟨R + 1, 0, none⟩)] w' fun e w'' => e = .returned (.int .i64 x2) ∧ At w'' (R + 1) r2 ∧ w'.grownBy w'' (some (R + 1))) := fun w' h => by have c := number_rd r1 (R + 1) w' h; rw [← hx2, ← hr2] at c; exact c
        obtain ⟨r3, hr3⟩ : ∃ r3, r3 = (flagR r2).2 := ⟨_, rfl⟩
        obtain ⟨x3, hx3⟩ : ∃ x3, x3 = (flagR r2).1 := ⟨_, rfl⟩
        have D3 : Hid (∀ w', At w' (R + 1) r2 → Calls Tryz.prog 76 #[.pointer (some ⟨R + 1, 0, none⟩)] w' fun e w'' => e = .returned (.bool x3) ∧ At w'' (R + 1) r3 ∧ w'.grownBy w'' (some (R + 1))) := fun w' h => by have c := flag_rd r2 (R + 1) w' h; rw [← hx3, ← hr3] at c; exact c
        obtain ⟨r4, hr4⟩ : ∃ r4, r4 = (textR r3).2 := ⟨_, rfl⟩
        obtain ⟨x4, hx4⟩ : ∃ x4, x4 = (textR r3).1 := ⟨_, rfl⟩
        have D4 : Hid (∀ w', At w' (R + 1) r3 → Calls Tryz.prog 73 #[.pointer (some ⟨R + 1, 0, none⟩)] w' fun e w'' => e = .returned (.string (mkB x4)) ∧ At w'' (R + 1) r4 ∧ w'.grownBy w'' (some (R + 1))) := fun w' h => by have c := text_rd r3 (R + 1) w' h; rw [← hx4, ← hr4] at c; exact c
        have HSTEP : Hid (runR rr = ((⟨x1, x2, x3, x4⟩ : Run), r4)) := by
          show _ = _
          rw [hx4, hr4, hx3, hr3, hx2, hr2, hx1, hr1]
          rfl
        clear hr1 hx1 hr2 hx2 hr3 hx3 hr4 hx4
        have HQ2 : Hid (manyR runR n r0 = ((X ++ [(⟨x1, x2, x3, x4⟩ : Run)]) ++ (manyR runR (n - (i + 1)) r4).1, (manyR runR (n - (i + 1)) r4).2)) := by
          show _ = _
          rw [HQ.out, show n - i = n - (i + 1) + 1 by omega, many_next hrb, HSTEP.out]
          simp
        clear hrb HQ
        have HYY : Hid (∃ y, y = mkB x4) := ⟨_, rfl⟩
        obtain ⟨y, hy⟩ := HYY.out
        rw [← hy] at D4
        have HY := Lib.hid hy
        clear hy HYY
        go_upto_region 12 with fail
        rw [← HV0.out, ← HX0.out.1]
        go_wp2_with fail
        refine (D1.out _ T0.out).mono ?_
        rintro e w1 ⟨rfl, K, G⟩
        have p1 := (G.block X0 L0.out (fun e => by injection e with e; have := HX0.out.2; omega)).trans P0.out
        obtain ⟨z0, z1, z2, z3⟩ := four_cells p1
        have fz := free_at (i := 0) p1
        obtain ⟨V1, hV1⟩ : ∃ V1, V1 = w1.setCell ⟨X0, 0, none⟩ (.int .i64 x1) := ⟨_, rfl⟩
        have T1 : Hid (At V1 (R + 1) r1) := by rw [hV1]; exact at_other K (by have := HX0.out.2; omega)
        have P1 : Hid (V1.heap[X0]? = some (.cells #[.int .i64 x1, .int .i64 0, .bool false, .string (ByteArray.mk #[])] 138 (0, 0))) := by show _ = _; rw [hV1]; exact set_block p1
        have G1 : Hid (wr.grownBy V1 (some (R + 1))) := by rw [hV1]; exact grown_new (grown_trans G0.out G) (by rw [← HX0.out.1]; exact Nat.le_refl _) _
        have L1 : Hid (X0 < V1.heap.size) := (Array.getElem?_eq_some_iff.1 P1.out).1
        have HV1 := Lib.hid hV1
        clear p1 hV1 K G D1 T0 P0 G0 L0
        go_wp2_with fail
        rw [← HV1.out]
        refine (D2.out _ T1.out).mono ?_
        rintro e w2 ⟨rfl, K, G⟩
        have p2 := (G.block X0 L1.out (fun e => by injection e with e; have := HX0.out.2; omega)).trans P1.out
        obtain ⟨z0, z1, z2, z3⟩ := four_cells p2
        have fz := free_at (i := 1) p2
        obtain ⟨V2, hV2⟩ : ∃ V2, V2 = w2.setCell ⟨X0, 1, none⟩ (.int .i64 x2) := ⟨_, rfl⟩
        have T2 : Hid (At V2 (R + 1) r2) := by rw [hV2]; exact at_other K (by have := HX0.out.2; omega)
        have P2 : Hid (V2.heap[X0]? = some (.cells #[.int .i64 x1, .int .i64 x2, .bool false, .string (ByteArray.mk #[])] 138 (0, 0))) := by show _ = _; rw [hV2]; exact set_block p2
        have G2 : Hid (wr.grownBy V2 (some (R + 1))) := by rw [hV2]; exact grown_new (grown_trans G1.out G) (by rw [← HX0.out.1]; exact Nat.le_refl _) _
        have L2 : Hid (X0 < V2.heap.size) := (Array.getElem?_eq_some_iff.1 P2.out).1
        have HV2 := Lib.hid hV2
        clear p2 hV2 K G D2 T1 P1 G1 L1 
        go_wp2_with fail
        rw [← HV2.out]
        refine (D3.out _ T2.out).mono ?_
        rintro e w3 ⟨rfl, K, G⟩
        have p3 := (G.block X0 L2.out (fun e => by injection e with e; have := HX0.out.2; omega)).trans P2.out
        obtain ⟨z0, z1, z2, z3⟩ := four_cells p3
        have fz := free_at (i := 2) p3
        obtain ⟨V3, hV3⟩ : ∃ V3, V3 = w3.setCell ⟨X0, 2, none⟩ (.bool x3) := ⟨_, rfl⟩
        have T3 : Hid (At V3 (R + 1) r3) := by rw [hV3]; exact at_other K (by have := HX0.out.2; omega)
        have P3 : Hid (V3.heap[X0]? = some (.cells #[.int .i64 x1, .int .i64 x2, .bool x3, .string (ByteArray.mk #[])] 138 (0, 0))) := by show _ = _; rw [hV3]; exact set_block p3
        have G3 : Hid (wr.grownBy V3 (some (R + 1))) := by rw [hV3]; exact grown_new (grown_trans G2.out G) (by rw [← HX0.out.1]; exact Nat.le_refl _) _
        have L3 : Hid (X0 < V3.heap.size) := (Array.getElem?_eq_some_iff.1 P3.out).1
        have HV3 := Lib.hid hV3
        clear p3 hV3 K G D3 T2 P2 G2 L2 
        go_wp2_with fail
        rw [← HV3.out]
        refine (D4.out _ T3.out).mono ?_
        rintro e w4 ⟨rfl, K, G⟩
        have p4 := (G.block X0 L3.out (fun e => by injection e with e; have := HX0.out.2; omega)).trans P3.out
        obtain ⟨z0, z1, z2, z3⟩ := four_cells p4
        have fz := free_at (i := 3) p4
        obtain ⟨V4, hV4⟩ : ∃ V4, V4 = w4.setCell ⟨X0, 3, none⟩ (.string y) := ⟨_, rfl⟩
        have T4 : Hid (At V4 (R + 1) r4) := by rw [hV4]; exact at_other K (by have := HX0.out.2; omega)
        have P4 : Hid (V4.heap[X0]? = some (.cells #[.int .i64 x1, .int .i64 x2, .bool x3, .string y] 138 (0, 0))) := by show _ = _; rw [hV4]; exact set_block p4
        have G4 : Hid (wr.grownBy V4 (some (R + 1))) := by rw [hV4]; exact grown_new (grown_trans G3.out G) (by rw [← HX0.out.1]; exact Nat.le_refl _) _
        have L4 : Hid (X0 < V4.heap.size) := (Array.getElem?_eq_some_iff.1 P4.out).1
        have HV4 := Lib.hid hV4
        clear p4 hV4 K G D4 T3 P3 G3 L3 
        have EM := Lib.hid (HK.out.grown G4.out T4.out)
        obtain ⟨g0, g1, g2, g3, g4, g5⟩ := six_cells EM.out.ablk
        obtain ⟨z0, z1, z2, z3⟩ := four_cells P4.out
        obtain ⟨WA, hWA⟩ : ∃ WA, WA = V4.alloc (.cells #[.int .i64 x1, .int .i64 x2, .bool x3, .string y] 138) := ⟨_, rfl⟩
        have bA : Below V4.heap.size V4 WA := by rw [hWA]; exact (box1 _ _ _).1
        have EA := Lib.hid (EM.out.below bA)
        have A1 : Hid (Rk.OwnK 138 4 (R + 1 + 1 + 1) WA (.slice oa i oc) (X.map runC)) := EA.out.rows
        have A2 : Hid (Rk.RowK 4 WA (.slice (some ⟨V4.heap.size, 0, none⟩) 1 1) [runC (⟨x1, x2, x3, x4⟩ : Run)]) := by
          show Rk.RowK _ _ _ _
          rw [hWA]
          unfold runC
          simp only
          rw [← HY.out]
          exact Rk.row_one (e := 138) (heap_alloc_new _ _) rfl
        have A3 : Hid ((X.map runC).length + [runC (⟨x1, x2, x3, x4⟩ : Run)].length ≤ 100000) := by show _ ≤ _; rw [List.length_map, HXL.out, List.length_singleton]; omega
        have A4 : Hid (R + 1 + 1 + 1 ≤ WA.heap.size) := EA.out.size
        have HWA := Lib.hid hWA
        clear bA hWA
        go_upto_region 16 with fail
        rw [← HV4.out]
        clear z0 z1 z2 z3
        obtain ⟨z0, z1, z2, z3⟩ := four_cells P4.out
        go_wp2_with (at_builtin; rw [← HWA.out]; refine Rk.wpList_append_rowk rfl _ _ 98 138 4 40 _ Tryz.underlying98 infoRn rfl (by decide) (by decide) rfl (R + 1 + 1 + 1) _ _ (X.map runC) [runC (⟨x1, x2, x3, x4⟩ : Run)] rfl rfl A1.out A2.out (runC_one _) A3.out A4.out ?_)
        intro v9 w9 h5 gg5 k5
        obtain ⟨zA, HE9⟩ := EA.out.put4 (z := ⟨x1, x2, x3, x4⟩) rfl rfl h5 gg5
        obtain ⟨y0, y1, y2, y3, y4, y5⟩ := six_cells zA
        have fA := free_at (i := 4) zA
        obtain ⟨a6, c6, rfl⟩ := h5.is_slice
        have hl6 : (X.map runC ++ [runC (⟨x1, x2, x3, x4⟩ : Run)]).length = i + 1 := by rw [List.length_append, List.length_map, HXL.out]; rfl
        rw [hl6] at HE9 ⊢
        clear h5 gg5 k5 A1 A2 A3 A4 hl6 zA EA EM g0 g1 g2 g3 g4 g5 z0 z1 z2 z3
        go_wp2_with fail
        go_roundg (n - (i + 1))
        case measure => omega
        case rel => exact ⟨i + 1, X ++ [⟨x1, x2, x3, x4⟩], r4, a6, c6, by omega, Nat.le_refl _, by go_num, by show _ = _; rw [List.length_append, HXL.out]; rfl, HQ2, HE9⟩
      · rw [decide_eq_false hc]
        obtain ⟨rn, hrn⟩ : ∃ rn, rn = i := ⟨_, rfl⟩
        have HROWS : Hid (manyR runR n r0 = (X, rr)) := by
          have h := HQ.out
          rw [show (manyR runR (n - i) rr) = ([], rr) from by
            by_cases hb : rr.bad = true
            · exact many_bad hb
            · rw [show n - i = 0 from by
                by_cases h9 : i < n
                · exact absurd ⟨h9, by cases hq : rr.bad with
                    | false => rfl
                    | true => exact absurd hq hb⟩ hc
                · omega]
              rfl] at h
          simp only [List.append_nil] at h
          exact h
        clear hc HQ b0 b1 hbB
        obtain ⟨ne, hne⟩ : ∃ ne, ne = (lenR rr).1 := ⟨_, rfl⟩
        obtain ⟨re, hre⟩ : ∃ re, re = (lenR rr).2 := ⟨_, rfl⟩
        have CL : Hid (∀ w', At w' (R + 1) rr → Calls Tryz.prog 75 #[.pointer (some ⟨R + 1, 0, none⟩)] w' fun e w'' => e = .returned (.int .i64 (ne : Nat)) ∧ At w'' (R + 1) re ∧ w'.grownBy w'' (some (R + 1))) := fun w' h => by have c := len_rd rr (R + 1) w' h; rw [← hne, ← hre] at c; exact c
        have hne8 : ne < 256 := by rw [hne]; exact UInt8.toNat_lt _
        have HMOD2 : Hid (toldR s = (⟨(k : Nat), t, n1, n2, X, (manyR entR ne re).1⟩, (manyR entR ne re).2)) := by
          show _ = _
          rw [hne, hre, HMOD.out]
          unfold rowR
          rw [HNR.out.1, HNR.out.2, HROWS.out]
        clear hne hre HMOD HROWS
        rw [← hrn] at HK ⊢
        have HXL2 := HXL
        clear hrn HXL hi hg HNR n256
        go_wp2_with fail
        refine (CL.out _ HK.out.at_).mono ?_
        rintro e w8 ⟨rfl, K8, G8⟩
        have HE0 : Hid (En1 w R (.int .i64 (k : Nat)) (.string tt) (.int .i64 n1) (.int .i64 n2) (.slice oa rn oc) (.slice none 0 0) X [] w8 re) := HK.out.grown G8 K8
        clear HK K8 G8 CL
        obtain ⟨XR, hXR⟩ : ∃ XR, XR = X := ⟨_, rfl⟩
        rw [← hXR] at HE0 HMOD2
        clear hXR HXL2
        obtain ⟨ra, hra⟩ : ∃ ra, ra = oa := ⟨_, rfl⟩
        obtain ⟨rc, hrc⟩ : ∃ rc, rc = oc := ⟨_, rfl⟩
        rw [← hra, ← hrc] at HE0
        clear hra hrc
        obtain ⟨n', hn'⟩ : ∃ n', n' = ne := ⟨_, rfl⟩
        obtain ⟨r0', hr0'⟩ : ∃ r0', r0' = re := ⟨_, rfl⟩
        rw [← hn', ← hr0'] at HMOD2
        rw [← hr0'] at HE0
        rw [← hn'] at hne8 ⊢
        clear hn' hr0'
        clear X
        have HMOD := HMOD2
        clear HMOD2
        go_wp2_with fail
        go_loopg [9] n' (fun g i_ wr => ∃ (i : Nat) (X : List Ent) (rr : Rd) (oa : Option Addr) (oc : Nat), i ≤ n' ∧ n' - i ≤ g ∧ i_ = .int .i64 (i : Nat) ∧ Hid (X.length = i) ∧ Hid (manyR entR n' r0' = (X ++ (manyR entR (n' - i) rr).1, (manyR entR (n' - i) rr).2)) ∧ Hid (En1 w R (.int .i64 (k : Nat)) (.string tt) (.int .i64 n1) (.int .i64 n2) (.slice ra rn rc) (.slice oa i oc) XR X wr rr))
        case atStart => exact ⟨0, [], r0', none, 0, by omega, by omega, rfl, rfl, rfl, HE0⟩
        case round =>
          obtain ⟨i, X, rr, oa, oc, hi, hg, rfl, HXL, HQ, HK⟩ := hrel
          obtain ⟨b0, b1, hbB⟩ := HK.out.at_.cells
          go_upto_region 19 with fail
          go_cut [73] from 64 to 97 (fun v wx => v = .bool (decide (i < n' ∧ rr.bad = false)) ∧ wr = wx)
          case first =>
            by_cases hin : i < n'
            · have iw : ((i : Nat) : Int) < (n' : Int) := by omega
              have d1 : decide (((i : Nat) : Int) < (n' : Int)) = true := decide_eq_true iw
              obtain ⟨rs_, rb⟩ := rr
              simp only at b0 b1
              cases rb with
              | true =>
                go_wp2_with fail
                go_meet
                exact ⟨by simp, rfl⟩
              | false =>
                go_wp2_with fail
                go_meet
                exact ⟨by simp [hin], rfl⟩
            · have iw : ¬ ((i : Nat) : Int) < (n' : Int) := by omega
              have d1 : decide (((i : Nat) : Int) < (n' : Int)) = false := decide_eq_false iw
              go_wp2_with fail
              go_meet
              exact ⟨by simp [hin], rfl⟩
          case rest =>
            obtain ⟨rfl, rfl⟩ := hcut
            by_cases hc : i < n' ∧ rr.bad = false
            · rw [decide_eq_true hc]
              obtain ⟨hin, hrb⟩ := hc
              have hX0s : R + 1 + 1 + 1 ≤ wr.heap.size := HK.out.size
              obtain ⟨X0, hX0⟩ : ∃ X0, X0 = wr.heap.size := ⟨_, rfl⟩
              obtain ⟨bx, px, lx⟩ := box1 wr #[.int .i64 0, .int .i64 0, .int .i64 0, .slice none 0 0, .slice none 0 0] 59
              obtain ⟨V0, hV0⟩ : ∃ V0, V0 = wr.alloc (.cells #[.int .i64 0, .int .i64 0, .int .i64 0, .slice none 0 0, .slice none 0 0] 59) := ⟨_, rfl⟩
              rw [← hV0] at bx px lx
              rw [← hX0] at px lx
              have HV0 := Lib.hid hV0
              have HX0 : Hid (X0 = wr.heap.size ∧ R + 1 + 1 + 1 ≤ X0) := ⟨hX0, by rw [hX0]; exact hX0s⟩
              have G0 : Hid (wr.grownBy V0 (some (R + 1))) := grown_of _ _ bx _
              have P0 := Lib.hid px
              have L0 : Hid (X0 < V0.heap.size) := by show _ < _; omega
              have T0 : Hid (At V0 (R + 1) rr) := HK.out.at_.kept (grown_of _ _ bx none)
              clear hX0s hX0 hV0 bx px lx
              obtain ⟨r1, hr1⟩ : ∃ r1, r1 = (numR rr).2 := ⟨_, rfl⟩
              obtain ⟨x1, hx1⟩ : ∃ x1, x1 = (numR rr).1 := ⟨_, rfl⟩
              have D1 : Hid (∀ w', At w' (R + 1) rr → Calls Tryz.prog 74 #[.pointer (some ⟨R + 1, 0, none⟩)] w' fun e w'' => e = .returned (.int .i64 x1) ∧ At w'' (R + 1) r1 ∧ w'.grownBy w'' (some (R + 1))) := fun w' h => by have c := number_rd rr (R + 1) w' h; rw [← hx1, ← hr1] at c; exact c
              obtain ⟨r2, hr2⟩ : ∃ r2, r2 = (numR r1).2 := ⟨_, rfl⟩
              obtain ⟨x2, hx2⟩ : ∃ x2, x2 = (numR r1).1 := ⟨_, rfl⟩
              have D2 : Hid (∀ w', At w' (R + 1) r1 → Calls Tryz.prog 74 #[.pointer (some ⟨R + 1, 0, none⟩)] w' fun e w'' => e = .returned (.int .i64 x2) ∧ At w'' (R + 1) r2 ∧ w'.grownBy w'' (some (R + 1))) := fun w' h => by have c := number_rd r1 (R + 1) w' h; rw [← hx2, ← hr2] at c; exact c
              obtain ⟨r3, hr3⟩ : ∃ r3, r3 = (numR r2).2 := ⟨_, rfl⟩
              obtain ⟨x3, hx3⟩ : ∃ x3, x3 = (numR r2).1 := ⟨_, rfl⟩
              have D3 : Hid (∀ w', At w' (R + 1) r2 → Calls Tryz.prog 74 #[.pointer (some ⟨R + 1, 0, none⟩)] w' fun e w'' => e = .returned (.int .i64 x3) ∧ At w'' (R + 1) r3 ∧ w'.grownBy w'' (some (R + 1))) := fun w' h => by have c := number_rd r2 (R + 1) w' h; rw [← hx3, ← hr3] at c; exact c
              obtain ⟨r4, hr4⟩ : ∃ r4, r4 = (listR r3).2 := ⟨_, rfl⟩
              obtain ⟨x4, hx4⟩ : ∃ x4, x4 = (listR r3).1 := ⟨_, rfl⟩
              have D4 : Hid (∀ w', At w' (R + 1) r3 → Calls Tryz.prog 77 #[.pointer (some ⟨R + 1, 0, none⟩)] w' fun e w'' => ∃ v, e = .returned v ∧ Rk.OwnK 3 1 w'.heap.size w'' v (cellsI x4) ∧ At w'' (R + 1) r4 ∧ w'.grownBy w'' (some (R + 1))) := fun w' h => by have c := list_rd r3 (R + 1) w' h; rw [← hx4, ← hr4] at c; exact c
              obtain ⟨r5, hr5⟩ : ∃ r5, r5 = (listR r4).2 := ⟨_, rfl⟩
              obtain ⟨x5, hx5⟩ : ∃ x5, x5 = (listR r4).1 := ⟨_, rfl⟩
              have D5 : Hid (∀ w', At w' (R + 1) r4 → Calls Tryz.prog 77 #[.pointer (some ⟨R + 1, 0, none⟩)] w' fun e w'' => ∃ v, e = .returned v ∧ Rk.OwnK 3 1 w'.heap.size w'' v (cellsI x5) ∧ At w'' (R + 1) r5 ∧ w'.grownBy w'' (some (R + 1))) := fun w' h => by have c := list_rd r4 (R + 1) w' h; rw [← hx5, ← hr5] at c; exact c
              have HSTEP : Hid (entR rr = ((⟨x1, x2, x3, x4, x5⟩ : Ent), r5)) := by
                show _ = _
                rw [hx5, hr5, hx4, hr4, hx3, hr3, hx2, hr2, hx1, hr1]
                unfold entR; simp only [list_row]
              have HNUM : Hid (okEnt (⟨x1, x2, x3, x4, x5⟩ : Ent)) := by
                have h := ent_ok rr
                rw [HSTEP.out] at h
                exact h
              clear hr1 hx1 hr2 hx2 hr3 hx3 hr4 hx4 hr5 hx5
              have HQ2 : Hid (manyR entR n' r0' = ((X ++ [(⟨x1, x2, x3, x4, x5⟩ : Ent)]) ++ (manyR entR (n' - (i + 1)) r5).1, (manyR entR (n' - (i + 1)) r5).2)) := by
                show _ = _
                rw [HQ.out, show n' - i = n' - (i + 1) + 1 by omega, many_next hrb, HSTEP.out]
                simp
              clear hrb HQ
              go_upto_region 22 with fail
              rw [← HV0.out, ← HX0.out.1]
              go_wp2_with fail
              refine (D1.out _ T0.out).mono ?_
              rintro e w1 ⟨rfl, K, G⟩
              have p1 := (G.block X0 L0.out (fun e => by injection e with e; have := HX0.out.2; omega)).trans P0.out
              obtain ⟨z0, z1, z2, z3, z4⟩ := five_cells p1
              have fz := free_at (i := 0) p1
              obtain ⟨V1, hV1⟩ : ∃ V1, V1 = w1.setCell ⟨X0, 0, none⟩ (.int .i64 x1) := ⟨_, rfl⟩
              have T1 : Hid (At V1 (R + 1) r1) := by rw [hV1]; exact at_other K (by have := HX0.out.2; omega)
              have P1 : Hid (V1.heap[X0]? = some (.cells #[.int .i64 x1, .int .i64 0, .int .i64 0, .slice none 0 0, .slice none 0 0] 59 (0, 0))) := by show _ = _; rw [hV1]; exact set_block p1
              have G1 : Hid (wr.grownBy V1 (some (R + 1))) := by rw [hV1]; exact grown_new (grown_trans G0.out G) (by rw [← HX0.out.1]; exact Nat.le_refl _) _
              have L1 : Hid (X0 < V1.heap.size) := (Array.getElem?_eq_some_iff.1 P1.out).1
              have HV1 := Lib.hid hV1
              clear p1 hV1 K G D1 T0 P0 G0 L0
              go_wp2_with fail
              rw [← HV1.out]
              refine (D2.out _ T1.out).mono ?_
              rintro e w2 ⟨rfl, K, G⟩
              have p2 := (G.block X0 L1.out (fun e => by injection e with e; have := HX0.out.2; omega)).trans P1.out
              obtain ⟨z0, z1, z2, z3, z4⟩ := five_cells p2
              have fz := free_at (i := 1) p2
              obtain ⟨V2, hV2⟩ : ∃ V2, V2 = w2.setCell ⟨X0, 1, none⟩ (.int .i64 x2) := ⟨_, rfl⟩
              have T2 : Hid (At V2 (R + 1) r2) := by rw [hV2]; exact at_other K (by have := HX0.out.2; omega)
              have P2 : Hid (V2.heap[X0]? = some (.cells #[.int .i64 x1, .int .i64 x2, .int .i64 0, .slice none 0 0, .slice none 0 0] 59 (0, 0))) := by show _ = _; rw [hV2]; exact set_block p2
              have G2 : Hid (wr.grownBy V2 (some (R + 1))) := by rw [hV2]; exact grown_new (grown_trans G1.out G) (by rw [← HX0.out.1]; exact Nat.le_refl _) _
              have L2 : Hid (X0 < V2.heap.size) := (Array.getElem?_eq_some_iff.1 P2.out).1
              have HV2 := Lib.hid hV2
              clear p2 hV2 K G D2 T1 P1 G1 L1 
              go_wp2_with fail
              rw [← HV2.out]
              refine (D3.out _ T2.out).mono ?_
              rintro e w3 ⟨rfl, K, G⟩
              have p3 := (G.block X0 L2.out (fun e => by injection e with e; have := HX0.out.2; omega)).trans P2.out
              obtain ⟨z0, z1, z2, z3, z4⟩ := five_cells p3
              have fz := free_at (i := 2) p3
              obtain ⟨V3, hV3⟩ : ∃ V3, V3 = w3.setCell ⟨X0, 2, none⟩ (.int .i64 x3) := ⟨_, rfl⟩
              have T3 : Hid (At V3 (R + 1) r3) := by rw [hV3]; exact at_other K (by have := HX0.out.2; omega)
              have P3 : Hid (V3.heap[X0]? = some (.cells #[.int .i64 x1, .int .i64 x2, .int .i64 x3, .slice none 0 0, .slice none 0 0] 59 (0, 0))) := by show _ = _; rw [hV3]; exact set_block p3
              have G3 : Hid (wr.grownBy V3 (some (R + 1))) := by rw [hV3]; exact grown_new (grown_trans G2.out G) (by rw [← HX0.out.1]; exact Nat.le_refl _) _
              have L3 : Hid (X0 < V3.heap.size) := (Array.getElem?_eq_some_iff.1 P3.out).1
              have HV3 := Lib.hid hV3
              clear p3 hV3 K G D3 T2 P2 G2 L2 
              go_wp2_with fail
              rw [← HV3.out]
              refine (D4.out _ T3.out).mono ?_
              rintro e w4 ⟨u4, rfl, O4, K, G⟩
              have HO4 : Hid (Rk.OwnK 3 1 (X0 + 1) w4 u4 (cellsI x4)) := own_base O4 (by have := L3.out; omega)
              obtain ⟨a4, d4, rfl⟩ := O4.is_slice
              rw [cellsI_len] at HO4 ⊢
              obtain ⟨n4, hn4⟩ : ∃ n4, n4 = x4.length := ⟨_, rfl⟩
              rw [← hn4] at HO4 ⊢
              have HN4 := Lib.hid hn4
              clear O4 hn4
              have p4 := (G.block X0 L3.out (fun e => by injection e with e; have := HX0.out.2; omega)).trans P3.out
              obtain ⟨z0, z1, z2, z3, z4⟩ := five_cells p4
              have fz := free_at (i := 3) p4
              obtain ⟨V4, hV4⟩ : ∃ V4, V4 = w4.setCell ⟨X0, 3, none⟩ (.slice a4 n4 d4) := ⟨_, rfl⟩
              have T4 : Hid (At V4 (R + 1) r4) := by rw [hV4]; exact at_other K (by have := HX0.out.2; omega)
              have P4 : Hid (V4.heap[X0]? = some (.cells #[.int .i64 x1, .int .i64 x2, .int .i64 x3, .slice a4 n4 d4, .slice none 0 0] 59 (0, 0))) := by show _ = _; rw [hV4]; exact set_block p4
              have G4 : Hid (wr.grownBy V4 (some (R + 1))) := by rw [hV4]; exact grown_new (grown_trans G3.out G) (by rw [← HX0.out.1]; exact Nat.le_refl _) _
              have L4 : Hid (X0 < V4.heap.size) := (Array.getElem?_eq_some_iff.1 P4.out).1
              have HV4 := Lib.hid hV4
              have HP4_4 : Hid (Rk.OwnK 3 1 (X0 + 1) V4 (.slice a4 n4 d4) (cellsI x4)) := by
                have q : Rk.OwnK 3 1 (X0 + 1) w4 (.slice a4 n4 d4) (cellsI x4) := HO4.out
                rw [hV4]
                exact q.kept (grown_put (hb := X0) (grown_refl _ _)) (.inr (q.low (by omega)))
              clear p4 hV4 K G D4 T3 P3 G3 L3 
              go_wp2_with fail
              rw [← HV4.out]
              refine (D5.out _ T4.out).mono ?_
              rintro e w5 ⟨u5, rfl, O5, K, G⟩
              have HO5 : Hid (Rk.OwnK 3 1 (X0 + 1) w5 u5 (cellsI x5)) := own_base O5 (by have := L4.out; omega)
              obtain ⟨a5, d5, rfl⟩ := O5.is_slice
              rw [cellsI_len] at HO5 ⊢
              obtain ⟨n5, hn5⟩ : ∃ n5, n5 = x5.length := ⟨_, rfl⟩
              rw [← hn5] at HO5 ⊢
              have HN5 := Lib.hid hn5
              clear O5 hn5
              have p5 := (G.block X0 L4.out (fun e => by injection e with e; have := HX0.out.2; omega)).trans P4.out
              obtain ⟨z0, z1, z2, z3, z4⟩ := five_cells p5
              have fz := free_at (i := 4) p5
              obtain ⟨V5, hV5⟩ : ∃ V5, V5 = w5.setCell ⟨X0, 4, none⟩ (.slice a5 n5 d5) := ⟨_, rfl⟩
              have T5 : Hid (At V5 (R + 1) r5) := by rw [hV5]; exact at_other K (by have := HX0.out.2; omega)
              have P5 : Hid (V5.heap[X0]? = some (.cells #[.int .i64 x1, .int .i64 x2, .int .i64 x3, .slice a4 n4 d4, .slice a5 n5 d5] 59 (0, 0))) := by show _ = _; rw [hV5]; exact set_block p5
              have G5 : Hid (wr.grownBy V5 (some (R + 1))) := by rw [hV5]; exact grown_new (grown_trans G4.out G) (by rw [← HX0.out.1]; exact Nat.le_refl _) _
              have L5 : Hid (X0 < V5.heap.size) := (Array.getElem?_eq_some_iff.1 P5.out).1
              have HV5 := Lib.hid hV5
              have HP4_5 : Hid (Rk.OwnK 3 1 (X0 + 1) V5 (.slice a4 n4 d4) (cellsI x4)) := by
                have q : Rk.OwnK 3 1 (X0 + 1) w5 (.slice a4 n4 d4) (cellsI x4) := HP4_4.out.kept G (.inr (HP4_4.out.low (by have := HX0.out.2; omega)))
                rw [hV5]
                exact q.kept (grown_put (hb := X0) (grown_refl _ _)) (.inr (q.low (by omega)))
              have HP5_5 : Hid (Rk.OwnK 3 1 (X0 + 1) V5 (.slice a5 n5 d5) (cellsI x5)) := by
                have q : Rk.OwnK 3 1 (X0 + 1) w5 (.slice a5 n5 d5) (cellsI x5) := HO5.out
                rw [hV5]
                exact q.kept (grown_put (hb := X0) (grown_refl _ _)) (.inr (q.low (by omega)))
              clear p5 hV5 K G D5 T4 P4 G4 L4 
              have EM := Lib.hid (HK.out.grown G5.out T5.out)
              obtain ⟨g0, g1, g2, g3, g4, g5⟩ := six_cells EM.out.ablk
              obtain ⟨WA, hWA⟩ : ∃ WA, WA = V5.alloc (.cells #[.int .i64 x1, .int .i64 x2, .int .i64 x3, .slice a4 n4 d4, .slice a5 n5 d5] 59) := ⟨_, rfl⟩
              have bA : Below V5.heap.size V5 WA := by rw [hWA]; exact (box1 _ _ _).1
              have EA := Lib.hid (EM.out.below bA)
              have hEn : Aud.EnP (fun b => R + 1 + 1 + 1 ≤ b ∧ some b ≠ (Value.slice oa i oc).ownBlock) WA [.int .i64 x1, .int .i64 x2, .int .i64 x3, .slice a4 n4 d4, .slice a5 n5 d5] (⟨x1, x2, x3, x4, x5⟩ : Ent) := by
                have q4 := ints_own (HP4_5.out.below bA) HNUM.out.2.2.2.2.2.1
                have q5 := ints_own (HP5_5.out.below bA) HNUM.out.2.2.2.2.2.2
                have hmn : ∀ b, X0 + 1 ≤ b → R + 1 + 1 + 1 ≤ b ∧ some b ≠ (Value.slice oa i oc).ownBlock := fun b hb => ⟨by have := HX0.out.2; omega, fun e => by have h1 := (HK.out.ents.own b e.symm).2; have h2 := HX0.out.1; omega⟩
                exact ⟨_, _, rfl, ⟨HNUM.out.1, HNUM.out.2.1, HNUM.out.2.2.1⟩, q4.mono fun b _ hb => hmn b hb, q5.mono fun b _ hb => hmn b hb⟩
              obtain ⟨xs, hxs, HOX, HROW⟩ := EA.out.ents.row
              have A1 : Hid (Rk.OwnK 59 5 (R + 1 + 1 + 1) WA (.slice oa i oc) xs) := HOX
              have A2 : Hid (Rk.RowK 5 WA (.slice (some ⟨V5.heap.size, 0, none⟩) 1 1) [[.int .i64 x1, .int .i64 x2, .int .i64 x3, .slice a4 n4 d4, .slice a5 n5 d5]]) := by
                show Rk.RowK _ _ _ _
                rw [hWA]
                exact Rk.row_one (e := 59) (heap_alloc_new _ _) rfl
              have A3 : Hid (xs.length + ([[.int .i64 x1, .int .i64 x2, .int .i64 x3, .slice a4 n4 d4, .slice a5 n5 d5]] : List (List Value)).length ≤ 100000) := by show _ ≤ _; rw [hxs, HXL.out, List.length_singleton]; omega
              have A4 : Hid (R + 1 + 1 + 1 ≤ WA.heap.size) := EA.out.size
              have HONE := Lib.hid hEn.one
              have HRW : Hid (∀ (v' : Value) (w' : World), Rk.OwnK 59 5 (R + 1 + 1 + 1) w' v' (xs ++ [[.int .i64 x1, .int .i64 x2, .int .i64 x3, .slice a4 n4 d4, .slice a5 n5 d5]]) → WA.grownBy w' (Value.slice oa i oc).ownBlock → (v'.ownBlock = (Value.slice oa i oc).ownBlock ∨ v'.ownBlock = some WA.heap.size) → Aud.OEn (fun b => R + 1 + 1 + 1 ≤ b) (R + 1 + 1 + 1) w' v' (X ++ [(⟨x1, x2, x3, x4, x5⟩ : Ent)])) := fun v' w' h5 g5 k5 => HROW [([.int .i64 x1, .int .i64 x2, .int .i64 x3, .slice a4 n4 d4, .slice a5 n5 d5], ⟨x1, x2, x3, x4, x5⟩)] v' w' h5 g5 k5 (fun x hx => by
                simp only [List.mem_singleton] at hx
                subst hx
                exact hEn)
              have HNE : Hid ((Value.slice ra rn rc).ownBlock = none ∨ (Value.slice ra rn rc).ownBlock ≠ (Value.slice oa i oc).ownBlock) := own_ne_ents EA.out.rows HOX
              have HWA := Lib.hid hWA
              clear bA hWA hEn hxs HOX HROW
              go_upto_region 27 with fail
              rw [← HV5.out]
              obtain ⟨z0, z1, z2, z3, z4⟩ := five_cells P5.out
              go_wp2_with (at_builtin; rw [← HWA.out]; refine Rk.wpList_append_rowk rfl _ _ 29 59 5 72 _ Tryz.underlying29 Aud.infoEn rfl (by decide) (by decide) rfl (R + 1 + 1 + 1) _ _ xs [[.int .i64 x1, .int .i64 x2, .int .i64 x3, .slice a4 n4 d4, .slice a5 n5 d5]] rfl rfl A1.out A2.out (fun y hy => by simp only [List.mem_singleton] at hy; subst hy; exact HONE.out) A3.out A4.out ?_)
              intro v9 w9 h5 gg5 k5
              have ho := HRW.out v9 w9 h5 gg5 k5
              obtain ⟨zA, HE9⟩ := EA.out.put5 HNE.out ho gg5
              obtain ⟨y0, y1, y2, y3, y4, y5⟩ := six_cells zA
              have fA := free_at (i := 5) zA
              obtain ⟨a6, c6, rfl⟩ := ho.is_slice
              have hl6 : (X ++ [(⟨x1, x2, x3, x4, x5⟩ : Ent)]).length = i + 1 := by rw [List.length_append, HXL.out]; rfl
              rw [hl6] at HE9 ⊢
              clear h5 gg5 k5 A1 A2 A3 A4 hl6 zA EA EM g0 g1 g2 g3 g4 g5 z0 z1 z2 z3 z4 ho HRW HNE HONE
              go_wp2_with fail
              go_roundg (n' - (i + 1))
              case measure => omega
              case rel => exact ⟨i + 1, X ++ [⟨x1, x2, x3, x4, x5⟩], r5, a6, c6, by omega, Nat.le_refl _, by go_num, by show _ = _; rw [List.length_append, HXL.out]; rfl, HQ2, HE9⟩
            · rw [decide_eq_false hc]
              have HRF : Hid (toldR s = (⟨(k : Nat), t, n1, n2, XR, X⟩, rr)) := by
                have h := HQ.out
                rw [show (manyR entR (n' - i) rr) = ([], rr) from by
                  by_cases hb : rr.bad = true
                  · exact many_bad hb
                  · rw [show n' - i = 0 from by
                      by_cases h9 : i < n'
                      · exact absurd ⟨h9, by cases hq : rr.bad with
                          | false => rfl
                          | true => exact absurd hq hb⟩ hc
                      · omega]
                    rfl] at h
                simp only [List.append_nil] at h
                show _ = _
                rw [HMOD.out, h]
              clear hc HQ
              obtain ⟨g0, g1, g2, g3, g4, g5⟩ := six_cells HK.out.ablk
              obtain ⟨q0, q1, q2, q3, q4, q5⟩ := six_cells HK.out.rblk
              have fr0 := free_at (i := 0) HK.out.rblk
              have fr1 := free_at (i := 1) HK.out.rblk
              have fr2 := free_at (i := 2) HK.out.rblk
              have fr3 := free_at (i := 3) HK.out.rblk
              have fr4 := free_at (i := 4) HK.out.rblk
              have fr5 := free_at (i := 5) HK.out.rblk
              have HRS : Hid (w.heap.size = R) := HR0
              obtain ⟨rs_, rb⟩ := rr
              simp only at b0 b1
              by_cases hok : rb = false ∧ rs_ = []
              · obtain ⟨rfl, rfl⟩ := hok
                have hE := empty_yes
                have HTD : Hid (toldE s = (⟨(k : Nat), t, n1, n2, XR, X⟩, true)) := by show _ = _; unfold toldE; rw [HRF.out]; exact if_pos ⟨rfl, rfl⟩
                obtain ⟨WN, hWN⟩ : ∃ WN, WN = (((((wr.setCell ⟨R, 0, none⟩ (.int .i64 (k : Nat))).setCell ⟨R, 1, none⟩ (.string tt)).setCell ⟨R, 2, none⟩ (.int .i64 n1)).setCell ⟨R, 3, none⟩ (.int .i64 n2)).setCell ⟨R, 4, none⟩ (.slice ra rn rc)).setCell ⟨R, 5, none⟩ (.slice oa i oc) := ⟨_, rfl⟩
                have zz : WN.heap[R]? = some (.cells #[.int .i64 (k : Nat), .string tt, .int .i64 n1, .int .i64 n2, .slice ra rn rc, .slice oa i oc] 100 (0, 0)) := by rw [hWN]; exact set_block (set_block (set_block (set_block (set_block (set_block HK.out.rblk)))))
                have gN : wr.grownBy WN (some R) := by rw [hWN]; exact grown_put (grown_put (grown_put (grown_put (grown_put (grown_put (grown_refl _ _))))))
                have BF : Hid (Below w.heap.size w WN) := by
                  show Below _ _ _
                  rw [HRS.out, hWN]
                  exact below_put (below_put (below_put (below_put (below_put (below_put HK.out.bel (Nat.le_refl R) _) (Nat.le_refl R) _) (Nat.le_refl R) _) (Nat.le_refl R) _) (Nat.le_refl R) _) (Nat.le_refl R) _
                have VF : Hid (AnO R WN (.agg #[.int .i64 (k : Nat), .string tt, .int .i64 n1, .int .i64 n2, .slice ra rn rc, .slice oa i oc]) ⟨(k : Nat), t, n1, n2, XR, X⟩) := ⟨_, _, by rw [HTT.out], own_base (HK.out.rows.kept gN (.inr (HK.out.rows.low (by omega)))) (by omega), oen_base (oen_kept HK.out.ents gN (fun b hb => by omega) (fun e => by have := (HK.out.ents.own _ e).1; omega)) (by omega)⟩
                obtain ⟨y0, y1, y2, y3, y4, y5⟩ := six_cells zz
                have HWN := Lib.hid hWN
                clear hWN zz gN HK HRF
                go_wp2_with fail
                rw [← HWN.out]
                exact bodyPost_ret (v := .tuple #[.agg #[.int .i64 (k : Nat), .string tt, .int .i64 n1, .int .i64 n2, .slice ra rn rc, .slice oa i oc], .bool true]) (by simp [results, Tryz.results51, go_sem, y0, y1, y2, y3, y4, y5, Tryz.isAgg100, Tryz.sizeOf100]) rfl ⟨_, by rw [HTD.out], by rw [HTD.out, HRS.out]; exact VF.out, BF.out⟩
              · have HTD : Hid (toldE s = (zeroA, false)) := by show _ = _; unfold toldE; rw [HRF.out]; exact if_neg hok
                obtain ⟨WN, hWN⟩ : ∃ WN, WN = (((((wr.setCell ⟨R, 0, none⟩ (.int .i64 0)).setCell ⟨R, 1, none⟩ (.string (ByteArray.mk #[]))).setCell ⟨R, 2, none⟩ (.int .i64 0)).setCell ⟨R, 3, none⟩ (.int .i64 0)).setCell ⟨R, 4, none⟩ (.slice none 0 0)).setCell ⟨R, 5, none⟩ (.slice none 0 0) := ⟨_, rfl⟩
                have zz : WN.heap[R]? = some (.cells #[.int .i64 0, .string (ByteArray.mk #[]), .int .i64 0, .int .i64 0, .slice none 0 0, .slice none 0 0] 100 (0, 0)) := by rw [hWN]; exact set_block (set_block (set_block (set_block (set_block (set_block HK.out.rblk)))))
                have BF : Hid (Below w.heap.size w WN) := by
                  show Below _ _ _
                  rw [HRS.out, hWN]
                  exact below_put (below_put (below_put (below_put (below_put (below_put HK.out.bel (Nat.le_refl R) _) (Nat.le_refl R) _) (Nat.le_refl R) _) (Nat.le_refl R) _) (Nat.le_refl R) _) (Nat.le_refl R) _
                obtain ⟨y0, y1, y2, y3, y4, y5⟩ := six_cells zz
                have HWN := Lib.hid hWN
                clear hWN zz HK HRF
                cases rb with
                | true =>
                  clear hok
                  go_wp2_with fail
                  rw [← HWN.out]
                  exact bodyPost_ret (v := .tuple #[.agg #[.int .i64 0, .string (ByteArray.mk #[]), .int .i64 0, .int .i64 0, .slice none 0 0, .slice none 0 0], .bool false]) (by simp [results, Tryz.results51, go_sem, y0, y1, y2, y3, y4, y5, Tryz.isAgg100, Tryz.sizeOf100]) rfl ⟨_, by rw [HTD.out], by rw [HTD.out]; exact ano_zero _ _, BF.out⟩
                | false =>
                  have hE : (mkB rs_).toList.isEmpty = false := empty_no (fun e => hok ⟨rfl, e⟩)
                  generalize mkB rs_ = us at *
                  clear hok
                  go_wp2_with fail
                  rw [← HWN.out]
                  exact bodyPost_ret (v := .tuple #[.agg #[.int .i64 0, .string (ByteArray.mk #[]), .int .i64 0, .int .i64 0, .slice none 0 0, .slice none 0 0], .bool false]) (by simp [results, Tryz.results51, go_sem, y0, y1, y2, y3, y4, y5, Tryz.isAgg100, Tryz.sizeOf100]) rfl ⟨_, by rw [HTD.out], by rw [HTD.out]; exact ano_zero _ _, BF.out⟩
end Go.Proofs.YtccaiippoephbaaGreatDoor.Wds
