/- Words: the program's reader: an answer. -/
import Derived.Test.YthegkookfpnbeaaNf
set_option linter.unusedVariables false
set_option linter.unusedSimpArgs false
set_option maxRecDepth 100000
namespace Go.Proofs.Ythegkookfpnbeaa.Wds
open Go.RowKit Go.Lib Go.Proofs.Ythegkookfpnbeaa.Bx Go.Proofs.Ythegkookfpnbeaa.Frm

/-- An answer of the call's own. -/
def AnO (base : Nat) (w : World) (v : Value) (a : An) : Prop := ∃ rv ev, v = .agg #[.int .i64 a.st, .string (mkB a.tok), .int .i64 a.num, .int .i64 a.at', rv, ev] ∧ Rk.OwnK 114 4 base w rv (a.R.map runC) ∧ Aud.OEn (fun b => base ≤ b) base w ev a.E
theorem AnO.kept {base C : Nat} {w w' : World} {v : Value} {a : An} (h : AnO base w v a) (hg : w.grownBy w' (some C)) (hC : C < base) : AnO base w' v a := by
  obtain ⟨rv, ev, e, h1, h2⟩ := h
  exact ⟨rv, ev, e, h1.kept hg (.inr (h1.low hC)), oen_kept h2 hg (fun b hb => by omega) (fun e => by have := (h2.own C e).1; omega)⟩
theorem AnO.below {base : Nat} {w w' : World} {v : Value} {a : An} (h : AnO base w v a) (hb : Below w.heap.size w w') : AnO base w' v a := by
  obtain ⟨rv, ev, e, h1, h2⟩ := h
  exact ⟨rv, ev, e, h1.below hb, h2.below hb⟩
theorem AnO.base {base base' : Nat} {w : World} {v : Value} {a : An} (h : AnO base w v a) (hb : base' ≤ base) : AnO base' w v a := by
  obtain ⟨rv, ev, e, h1, h2⟩ := h
  exact ⟨rv, ev, e, own_base h1 hb, oen_base h2 hb⟩
theorem AnO.anv {base : Nat} {w : World} {v : Value} {a : An} (h : AnO base w v a) : AnV w v a := by
  obtain ⟨rv, ev, e, h1, h2⟩ := h
  exact ⟨rv, ev, e, h1.row, Aud.EnsP.mono h2.ens fun b _ _ => trivial⟩
theorem AnO.form {base : Nat} {w : World} {v : Value} {a : An} (h : AnO base w v a) : ∃ a4 c4 a5 c5, v = .agg #[.int .i64 a.st, .string (mkB a.tok), .int .i64 a.num, .int .i64 a.at', .slice a4 a.R.length c4, .slice a5 a.E.length c5] := by
  obtain ⟨rv, ev, rfl, h1, h2⟩ := h
  obtain ⟨a4, c4, e4⟩ := h1.is_slice
  obtain ⟨a5, c5, rfl⟩ := h2.is_slice
  rw [List.length_map] at e4
  subst e4
  exact ⟨_, _, _, _, rfl⟩
theorem runs_step {B : Nat} {r : Rd} {x : List Run} {r' : Rd} {w : World} (hx : rowR runR r = (x, r')) (hb : r.bad = false) (hl : r.s.length ≤ 9223372036854775807) (k : At1 w B r.s) : Calls Try.prog 66 #[.pointer (some ⟨B, 0, none⟩), .func (.func 67) #[.pointer (some ⟨B, 0, none⟩)] #[]] w (GotP w B (fun w' v => Rk.OwnK 114 4 w.heap.size w' v (x.map runC)) r') := by
  have h := pruns_rd k hl
  rw [← rd_eta hb, hx] at h
  exact h
theorem ents_step {B : Nat} {r : Rd} {x : List Ent} {r' : Rd} {w : World} (hx : rowR entR r = (x, r')) (hb : r.bad = false) (hl : r.s.length ≤ 9223372036854775807) (k : At1 w B r.s) : Calls Try.prog 68 #[.pointer (some ⟨B, 0, none⟩), .func (.func 69) #[.pointer (some ⟨B, 0, none⟩)] #[]] w (GotP w B (fun w' v => Aud.OEn (fun b => w.heap.size ≤ b) w.heap.size w' v x) r') := by
  have h := pents_rd k hl
  rw [← rd_eta hb, hx] at h
  exact h
theorem runs_le {r : Rd} {x : List Run} {r' : Rd} {n : Nat} (hx : rowR runR r = (x, r')) (hl : r.s.length ≤ n) : r'.s.length ≤ n := by have := rowR_le runR_le r; rw [hx] at this; exact Nat.le_trans this hl
theorem runs_stuck {r : Rd} {x : List Run} {r' : Rd} (hx : rowR runR r = (x, r')) (h : r.bad = true) : r'.bad = true := by have := rowR_stuck (f := runR) r h; rw [hx] at this; exact this
theorem ents_stuck {r : Rd} {x : List Ent} {r' : Rd} (hx : rowR entR r = (x, r')) (h : r.bad = true) : r'.bad = true := by have := rowR_stuck (f := entR) r h; rw [hx] at this; exact this
set_option maxHeartbeats 4000000 in
theorem pans0_rd {B : Nat} {w : World} (r0 r1 r2 r3 r4 r5 r6 : Rd) (k : Nat) (t : List UInt8) (n1 n2 : Int) (X : List Run) (E : List Ent) (e1 : lenR r0 = (k, r1)) (e2 : textR r1 = (t, r2)) (e3 : numR r2 = (n1, r3)) (e4 : numR r3 = (n2, r4)) (e5 : rowR runR r4 = (X, r5)) (e6 : rowR entR r5 = (E, r6)) (hb : r0.bad = false) (hl : r0.s.length ≤ 9223372036854775807) (h : At1 w B r0.s) : Calls Try.prog 48 #[.pointer (some ⟨B, 0, none⟩)] w (GotP w B (fun w' v => AnO w.heap.size w' v ⟨k, t, n1, n2, X, E⟩) r6) := by
  obtain ⟨B0, P0, L0⟩ := box1 w #[.int .i64 0, .string (ByteArray.mk #[]), .int .i64 0, .int .i64 0, .slice none 0 0, .slice none 0 0] 46
  obtain ⟨W0, hW0⟩ : ∃ W0, W0 = w.alloc (.cells #[.int .i64 0, .string (ByteArray.mk #[]), .int .i64 0, .int .i64 0, .slice none 0 0, .slice none 0 0] 46) := ⟨_, rfl⟩
  rw [← hW0] at B0 P0 L0
  obtain ⟨R, hR⟩ : ∃ R, R = w.heap.size := ⟨_, rfl⟩
  rw [← hR] at P0 L0
  have hRB : R ≠ B := by have := h.cell.2.1; omega
  have HW0 := Lib.hid hW0
  have HR := Lib.hid hR
  have HRB := Lib.hid hRB
  have HBB : Hid (B < w.heap.size ∧ W0.heap.size = R + 1) := ⟨h.cell.2.1, L0⟩
  have hmf : ∀ (fn : Fn) (first cap : Array Value) (w : World), (Instr.makeFunc fn first cap).run Try.prog w = .ok (.func fn first cap) w := fun _ _ _ _ => rfl
  have l1 := len_le e1 hl
  have l2 := text_le' e2 l1
  have l3 := num_le e3 l2
  have l4 := num_le e4 l3
  have l5 := runs_le e5 l4
  have S6 : Hid (r6.bad = true → r6.bad = true) := fun h => h
  have S5 : Hid (r5.bad = true → r6.bad = true) := fun h => ents_stuck e6 h
  have S4 : Hid (r4.bad = true → r6.bad = true) := fun h => S5.out (runs_stuck e5 h)
  have S3 : Hid (r3.bad = true → r6.bad = true) := fun h => S4.out (num_stuck e4 h)
  have S2 : Hid (r2.bad = true → r6.bad = true) := fun h => S3.out (num_stuck e3 h)
  have S1 : Hid (r1.bad = true → r6.bad = true) := fun h => S2.out (text_stuck e2 h)
  have C1 : Hid (∀ w', r0.bad = false → At1 w' B r0.s → Calls Try.prog 58 #[.pointer (some ⟨B, 0, none⟩)] w' (Got w' B (.int .i64 (k : Nat)) r1)) := fun w' hb k => len_step e1 hb hl k
  have C2 : Hid (∀ w', r1.bad = false → At1 w' B r1.s → Calls Try.prog 59 #[.pointer (some ⟨B, 0, none⟩)] w' (Got w' B (.string (mkB t)) r2)) := fun w' hb k => text_step e2 hb l1 k
  have C3 : Hid (∀ w', r2.bad = false → At1 w' B r2.s → Calls Try.prog 60 #[.pointer (some ⟨B, 0, none⟩)] w' (Got w' B (.int .i64 n1) r3)) := fun w' hb k => num_step e3 hb l2 k
  have C4 : Hid (∀ w', r3.bad = false → At1 w' B r3.s → Calls Try.prog 60 #[.pointer (some ⟨B, 0, none⟩)] w' (Got w' B (.int .i64 n2) r4)) := fun w' hb k => num_step e4 hb l3 k
  have C5 : Hid (∀ w', r4.bad = false → At1 w' B r4.s → Calls Try.prog 66 #[.pointer (some ⟨B, 0, none⟩), .func (.func 67) #[.pointer (some ⟨B, 0, none⟩)] #[]] w' (GotP w' B (fun w'' v => Rk.OwnK 114 4 w'.heap.size w'' v (X.map runC)) r5)) := fun w' hb k => runs_step e5 hb l4 k
  have C6 : Hid (∀ w', r5.bad = false → At1 w' B r5.s → Calls Try.prog 68 #[.pointer (some ⟨B, 0, none⟩), .func (.func 69) #[.pointer (some ⟨B, 0, none⟩)] #[]] w' (GotP w' B (fun w'' v => Aud.OEn (fun b => w'.heap.size ≤ b) w'.heap.size w'' v E) r6)) := fun w' hb k => ents_step e6 hb l5 k
  have Q0 : Hid (r0.bad = false ∧ At1 W0 B r0.s ∧ W0.grownBy W0 (some B)) := ⟨hb, h.below B0, grown_refl _ _⟩
  have HG : Hid (∀ w', W0.grownBy w' (some B) → w.grownBy w' (some B) ∧ w'.heap[R]? = some (.cells #[.int .i64 0, .string (ByteArray.mk #[]), .int .i64 0, .int .i64 0, .slice none 0 0, .slice none 0 0] 46 (0, 0))) := fun w' g => ⟨grown_trans (grown_of _ _ B0 _) g, (g.block R (by omega) (by simpa using hRB)).trans P0⟩
  have HY : Hid (∃ y, y = mkB t) := ⟨_, rfl⟩
  obtain ⟨y, hy⟩ := HY.out
  rw [← hy] at C2
  have HYY := Lib.hid hy
  clear hb h hl hR hW0 B0 P0 L0 l1 l2 l3 l4 l5 e1 e2 e3 e4 e5 e6 hRB hy
  go_enter Try.func48, Try.ntmps48
  go_upto_region 1 with fail
  rw [← HW0.out, ← HR.out]
  refine region_pure [0, 1, 2, 4, 5, 6, 8, 9, 10, 12, 13, 14, 16, 17, 18, 20, 21, 22] [3, 7, 11, 15, 19, 23, 24, 25] (by kernel_rfl) (by kernel_rfl) (fun d _ _ _ _ h => by cases d <;> exact h) (fun wd hwd => ?_)
  simp only [List.filterMap_cons, List.filterMap_nil, List.getElem?_cons_zero, List.getElem?_cons_succ]
  have QD := Lib.hid (And.intro Q0.out.1 (And.intro (at1_drew Q0.out.2.1 hwd.out) (grown_drew1 Q0.out.2.2 hwd.out)))
  clear Q0 hwd
  repeat (refine Zo.wpPure_step (fun K hK => ?_); go_simp; refine hK _ ?_; clear hK K)
  refine Zo.wpPure_nil ?_
  have Q0 := Lib.hid QD.out
  clear QD
  go_wp2_with fail
  refine (C1.out _ Q0.out.1 Q0.out.2.1).mono ?_
  rintro e w1 ⟨G, (⟨hb, rfl, K⟩ | ⟨hb, rfl⟩)⟩
  rotate_left
  · have FE : Hid (GotP w B (fun w' v => AnO w.heap.size w' v ⟨k, t, n1, n2, X, E⟩) r6 (.panicked [{ v := unr, recovered := false }]) w1) := ⟨(HG.out _ (grown_trans Q0.out.2.2 G)).1, .inr ⟨S1.out hb, rfl⟩⟩
    clear G hb
    go_wp2_with fail
    exact ⟨rfl, FE.out⟩
  have Q1 : Hid (r1.bad = false ∧ At1 w1 B r1.s ∧ W0.grownBy w1 (some B)) := ⟨hb, K, grown_trans Q0.out.2.2 G⟩
  clear G hb K C1 Q0
  go_wp2_with fail
  refine (C2.out _ Q1.out.1 Q1.out.2.1).mono ?_
  rintro e w2 ⟨G, (⟨hb, rfl, K⟩ | ⟨hb, rfl⟩)⟩
  rotate_left
  · have FE : Hid (GotP w B (fun w' v => AnO w.heap.size w' v ⟨k, t, n1, n2, X, E⟩) r6 (.panicked [{ v := unr, recovered := false }]) w2) := ⟨(HG.out _ (grown_trans Q1.out.2.2 G)).1, .inr ⟨S2.out hb, rfl⟩⟩
    clear G hb
    go_wp2_with fail
    exact ⟨rfl, FE.out⟩
  have Q2 : Hid (r2.bad = false ∧ At1 w2 B r2.s ∧ W0.grownBy w2 (some B)) := ⟨hb, K, grown_trans Q1.out.2.2 G⟩
  clear G hb K C2 Q1
  go_wp2_with fail
  refine (C3.out _ Q2.out.1 Q2.out.2.1).mono ?_
  rintro e w3 ⟨G, (⟨hb, rfl, K⟩ | ⟨hb, rfl⟩)⟩
  rotate_left
  · have FE : Hid (GotP w B (fun w' v => AnO w.heap.size w' v ⟨k, t, n1, n2, X, E⟩) r6 (.panicked [{ v := unr, recovered := false }]) w3) := ⟨(HG.out _ (grown_trans Q2.out.2.2 G)).1, .inr ⟨S3.out hb, rfl⟩⟩
    clear G hb
    go_wp2_with fail
    exact ⟨rfl, FE.out⟩
  have Q3 : Hid (r3.bad = false ∧ At1 w3 B r3.s ∧ W0.grownBy w3 (some B)) := ⟨hb, K, grown_trans Q2.out.2.2 G⟩
  clear G hb K C3 Q2
  go_wp2_with fail
  refine (C4.out _ Q3.out.1 Q3.out.2.1).mono ?_
  rintro e w4 ⟨G, (⟨hb, rfl, K⟩ | ⟨hb, rfl⟩)⟩
  rotate_left
  · have FE : Hid (GotP w B (fun w' v => AnO w.heap.size w' v ⟨k, t, n1, n2, X, E⟩) r6 (.panicked [{ v := unr, recovered := false }]) w4) := ⟨(HG.out _ (grown_trans Q3.out.2.2 G)).1, .inr ⟨S4.out hb, rfl⟩⟩
    clear G hb
    go_wp2_with fail
    exact ⟨rfl, FE.out⟩
  have Q4 : Hid (r4.bad = false ∧ At1 w4 B r4.s ∧ W0.grownBy w4 (some B)) := ⟨hb, K, grown_trans Q3.out.2.2 G⟩
  clear G hb K C4 Q3
  go_wp2_with fail
  refine (C5.out _ Q4.out.1 Q4.out.2.1).mono ?_
  rintro e w5 ⟨G, (⟨hb, u5, rfl, O5, K⟩ | ⟨hb, rfl⟩)⟩
  rotate_left
  · have FE : Hid (GotP w B (fun w' v => AnO w.heap.size w' v ⟨k, t, n1, n2, X, E⟩) r6 (.panicked [{ v := unr, recovered := false }]) w5) := ⟨(HG.out _ (grown_trans Q4.out.2.2 G)).1, .inr ⟨S5.out hb, rfl⟩⟩
    clear G hb
    go_wp2_with fail
    exact ⟨rfl, FE.out⟩
  have HO5 : Hid (Rk.OwnK 114 4 (R + 1) w5 u5 (X.map runC)) := own_base O5 (by have := Q4.out.2.2.size; have := HBB.out.2; omega)
  obtain ⟨a5, d5, rfl⟩ := O5.is_slice
  clear O5
  have Q5 : Hid (r5.bad = false ∧ At1 w5 B r5.s ∧ W0.grownBy w5 (some B)) := ⟨hb, K, grown_trans Q4.out.2.2 G⟩
  clear G hb K C5 Q4
  go_wp2_with fail
  refine (C6.out _ Q5.out.1 Q5.out.2.1).mono ?_
  rintro e w6 ⟨G, (⟨hb, u6, rfl, O6, K⟩ | ⟨hb, rfl⟩)⟩
  rotate_left
  · have FE : Hid (GotP w B (fun w' v => AnO w.heap.size w' v ⟨k, t, n1, n2, X, E⟩) r6 (.panicked [{ v := unr, recovered := false }]) w6) := ⟨(HG.out _ (grown_trans Q5.out.2.2 G)).1, .inr ⟨S6.out hb, rfl⟩⟩
    clear G hb
    go_wp2_with fail
    exact ⟨rfl, FE.out⟩
  have HO6 : Hid (Aud.OEn (fun b => R + 1 ≤ b) (R + 1) w6 u6 E) := oen_base O6 (by have := Q5.out.2.2.size; have := HBB.out.2; omega)
  have HO5' : Hid (Rk.OwnK 114 4 (R + 1) w6 (.slice a5 X.length d5) (X.map runC)) := by
    have h := HO5.out.kept G (.inr (HO5.out.low (by have := HBB.out.1; have := HR.out; omega)))
    rw [List.length_map] at h
    exact h
  obtain ⟨a6, d6, rfl⟩ := O6.is_slice
  clear O6
  obtain ⟨k5, hk5⟩ : ∃ k5, k5 = X.length := ⟨_, rfl⟩
  obtain ⟨k6, hk6⟩ : ∃ k6, k6 = E.length := ⟨_, rfl⟩
  rw [← hk6] at HO6 ⊢
  rw [← hk5] at HO5' ⊢
  obtain ⟨g4, z4⟩ := HG.out _ (grown_trans Q5.out.2.2 G)
  obtain ⟨c0, c1, c2, c3, c4, c5⟩ := six_cells z4
  have fr0 := free_at (i := 0) z4
  have fr1 := free_at (i := 1) z4
  have fr2 := free_at (i := 2) z4
  have fr3 := free_at (i := 3) z4
  have fr4 := free_at (i := 4) z4
  have fr5 := free_at (i := 5) z4
  obtain ⟨WN, hWN⟩ : ∃ WN, WN = ((((((((((w6.setCell ⟨R, 0, none⟩ (.int .i64 (k : Nat)))).setCell ⟨R, 1, none⟩ (.string y))).setCell ⟨R, 2, none⟩ (.int .i64 n1))).setCell ⟨R, 3, none⟩ (.int .i64 n2))).setCell ⟨R, 4, none⟩ (.slice a5 k5 d5))).setCell ⟨R, 5, none⟩ (.slice a6 k6 d6) := ⟨_, rfl⟩
  have gN : w6.grownBy WN (some R) := by
    rw [hWN]
    exact grown_put (grown_put (grown_put (grown_put (grown_put (grown_put (grown_refl _ _))))))
  have FE : Hid (GotP w B (fun w' v => AnO w.heap.size w' v ⟨k, t, n1, n2, X, E⟩) r6 (.returned (.agg #[.int .i64 (k : Nat), .string y, .int .i64 n1, .int .i64 n2, .slice a5 k5 d5, .slice a6 k6 d6])) WN) := by
    have hRs : w.heap.size ≤ R := by rw [← HR.out]; exact Nat.le_refl _
    refine ⟨by rw [hWN]; exact grown_new (grown_new (grown_new (grown_new (grown_new (grown_new g4 hRs _) hRs _) hRs _) hRs _) hRs _) hRs _, .inl ⟨hb, _, rfl, ⟨.slice a5 k5 d5, .slice a6 k6 d6, by rw [HYY.out], own_base (HO5'.out.kept gN (.inr (HO5'.out.low (Nat.lt_succ_self R)))) (by omega), oen_base (oen_kept HO6.out gN (fun b hb => by omega) (fun e => by have := (HO6.out.own R e).1; omega)) (by omega)⟩, by rw [hWN]; exact at1_other (at1_other (at1_other (at1_other (at1_other (at1_other K HRB.out) HRB.out) HRB.out) HRB.out) HRB.out) HRB.out⟩⟩
  have zz : WN.heap[R]? = some (.cells #[.int .i64 (k : Nat), .string y, .int .i64 n1, .int .i64 n2, .slice a5 k5 d5, .slice a6 k6 d6] 46 (0, 0)) := by
    rw [hWN]
    exact set_block (set_block (set_block (set_block (set_block (set_block z4)))))
  obtain ⟨y0, y1, y2, y3, y4, y5⟩ := six_cells zz
  have HWN := Lib.hid hWN
  clear hWN zz z4 g4 G hb K C6 Q5 gN hk5 hk6 HO5 HO5' HO6
  go_wp2_with fail
  rw [← HWN.out]
  exact bodyPost_ret (v := .agg #[.int .i64 (k : Nat), .string y, .int .i64 n1, .int .i64 n2, .slice a5 k5 d5, .slice a6 k6 d6]) (by simp [results, Try.results48, go_sem, y0, y1, y2, y3, y4, y5, Try.isAgg46, Try.sizeOf46]) rfl FE.out
theorem pans_rd {B : Nat} {w : World} (s : List UInt8) (hl : s.length ≤ 9223372036854775807) (h : At1 w B s) : Calls Try.prog 48 #[.pointer (some ⟨B, 0, none⟩)] w (GotP w B (fun w' v => AnO w.heap.size w' v (toldR s).1) (toldR s).2) :=
  pans0_rd (w := w) ⟨s, false⟩ _ _ _ _ _ _ _ _ _ _ _ _ rfl rfl rfl rfl rfl rfl rfl hl h
end Go.Proofs.Ythegkookfpnbeaa.Wds
/- Words: the program's Told: an answer of bytes. -/
set_option linter.unusedVariables false
set_option linter.unusedSimpArgs false
set_option maxRecDepth 100000
namespace Go.Proofs.Ythegkookfpnbeaa.Wds
open Go.RowKit Go.Lib Go.Proofs.Ythegkookfpnbeaa.Bx Go.Proofs.Ythegkookfpnbeaa.Frm

theorem ano_zero (base : Nat) (w : World) : AnO base w (.agg #[.int .i64 0, .string (ByteArray.mk #[]), .int .i64 0, .int .i64 0, .slice none 0 0, .slice none 0 0]) zeroA := ⟨_, _, rfl, Rk.OwnK.nil_ _ _ _ _, Aud.OEn.nil_ _ _ _⟩
set_option maxHeartbeats 4000000 in
theorem whole_answer {B : Nat} {w : World} {l : List UInt8} (h : At1 w B l) (a : An) (r : Rd) (f : Value) (hf : f = .func (.func 48) #[.pointer (some ⟨B, 0, none⟩)] #[])
    (C : ∀ w', At1 w' B l → Calls Try.prog 48 #[.pointer (some ⟨B, 0, none⟩)] w' (GotP w' B (fun w'' v => AnO w'.heap.size w'' v a) r)) :
    Calls Try.prog 47 #[.pointer (some ⟨B, 0, none⟩), f] w fun e w' => (∃ v, e = .returned (.tuple #[v, .bool (wholeB r)]) ∧ AnO w.heap.size w' v (if wholeB r = true then a else zeroA)) ∧ w.grownBy w' (some B) := by
  subst hf
  obtain ⟨B0, P0, L0⟩ := box1 w #[.int .i64 0, .string (ByteArray.mk #[]), .int .i64 0, .int .i64 0, .slice none 0 0, .slice none 0 0] 46
  obtain ⟨W0, hW0⟩ : ∃ W0, W0 = w.alloc (.cells #[.int .i64 0, .string (ByteArray.mk #[]), .int .i64 0, .int .i64 0, .slice none 0 0, .slice none 0 0] 46) := ⟨_, rfl⟩
  rw [← hW0] at B0 P0 L0
  obtain ⟨R, hR⟩ : ∃ R, R = w.heap.size := ⟨_, rfl⟩
  rw [← hR] at P0 L0
  have hRB : R ≠ B := by have := h.cell.2.1; omega
  have HW0 := Lib.hid hW0
  have HR := Lib.hid hR
  have CC := Lib.hid (C W0 (h.below B0))
  rw [L0] at CC
  have HG : Hid (∀ w', W0.grownBy w' (some B) → w.grownBy w' (some B) ∧ w'.heap[R]? = some (.cells #[.int .i64 0, .string (ByteArray.mk #[]), .int .i64 0, .int .i64 0, .slice none 0 0, .slice none 0 0] 46 (0, 0)) ∧ R < w'.heap.size) := fun w' g => ⟨grown_trans (grown_of _ _ B0 _) g, (g.block R (by omega) (by simpa using hRB)).trans P0, by have := g.size; omega⟩
  have HRs : Hid (w.heap.size ≤ R) := by rw [← hR]; exact Nat.le_refl _
  have hmf : ∀ (fn : Fn) (first cap : Array Value) (w : World), (Instr.makeFunc fn first cap).run Try.prog w = .ok (.func fn first cap) w := fun _ _ _ _ => rfl
  have hmi := hmi
  clear hR hRB hW0 B0 P0 L0 h C
  obtain ⟨q, hq⟩ : ∃ q, q = (if wholeB r = true then a else zeroA) := ⟨_, rfl⟩
  obtain ⟨bb, hbb⟩ : ∃ bb, bb = wholeB r := ⟨_, rfl⟩
  have HQ := Lib.hid hq
  have HB := Lib.hid hbb
  rw [← hq, ← hbb]
  clear hq hbb
  go_enter_defers Try.func47, Try.ntmps47
  go_wp2_with fail
  rw [← HW0.out]
  refine CC.out.mono ?_
  rintro e w1 ⟨G, (⟨hb, v, rfl, hv, K⟩ | ⟨hb, rfl⟩)⟩
  · obtain ⟨a4, c4, a5, c5, rfl⟩ := hv.form
    have HV := Lib.hid hv
    clear hv
    generalize a.st = x0 at *
    generalize mkB a.tok = x1 at *
    generalize a.num = x2 at *
    generalize a.at' = x3 at *
    generalize a.R.length = n4 at *
    generalize a.E.length = n5 at *
    obtain ⟨g1, z1, s1⟩ := HG.out _ G
    obtain ⟨B2, P2, L2⟩ := box1 w1 #[.int .i64 x0, .string x1, .int .i64 x2, .int .i64 x3, .slice a4 n4 c4, .slice a5 n5 c5] 46
    obtain ⟨W2, hW2⟩ : ∃ W2, W2 = w1.alloc (.cells #[.int .i64 x0, .string x1, .int .i64 x2, .int .i64 x3, .slice a4 n4 c4, .slice a5 n5 c5] 46) := ⟨_, rfl⟩
    rw [← hW2] at B2 P2 L2
    have z2 : W2.heap[R]? = some (.cells #[.int .i64 0, .string (ByteArray.mk #[]), .int .i64 0, .int .i64 0, .slice none 0 0, .slice none 0 0] 46 (0, 0)) := (B2.block R s1).trans z1
    obtain ⟨d0, d1, d2, d3, d4, d5⟩ := six_cells P2
    obtain ⟨c0, hB, f0⟩ := (K.below B2).cell
    obtain ⟨r0, r1, r2, r3, r4, r5⟩ := six_cells z2
    have fr0 := free_at (i := 0) z2
    have fr1 := free_at (i := 1) z2
    have fr2 := free_at (i := 2) z2
    have fr3 := free_at (i := 3) z2
    have fr4 := free_at (i := 4) z2
    have fr5 := free_at (i := 5) z2
    have HS1 : Hid (w.heap.size ≤ w1.heap.size ∧ R ≠ w1.heap.size) := ⟨Nat.le_trans HRs.out (Nat.le_of_lt s1), by omega⟩
    have HV2 : Hid (AnO (R + 1) W2 (.agg #[.int .i64 x0, .string x1, .int .i64 x2, .int .i64 x3, .slice a4 n4 c4, .slice a5 n5 c5]) a) := HV.out.below B2
    have HW2 := Lib.hid hW2
    have HZ2 := Lib.hid z2
    have HP2 := Lib.hid P2
    have G2 : Hid (w.grownBy W2 (some B)) := grown_below g1 B2
    have HRR : Hid (w.heap.size = R) := HR.out.symm
    by_cases hs : r.s = []
    · have hE := empty_yes
      rw [hs] at c0
      have hw : wholeB r = true := decide_eq_true ⟨hb, hs⟩
      have HQ1 : Hid (q = a) := HQ.out.trans (by rw [hw]; rfl)
      have HQ2 := Lib.hid (HB.out.trans hw)
      obtain ⟨WN, hWN⟩ : ∃ WN, WN = (((((W2.setCell ⟨R, 0, none⟩ (.int .i64 x0)).setCell ⟨R, 1, none⟩ (.string x1)).setCell ⟨R, 2, none⟩ (.int .i64 x2)).setCell ⟨R, 3, none⟩ (.int .i64 x3)).setCell ⟨R, 4, none⟩ (.slice a4 n4 c4)).setCell ⟨R, 5, none⟩ (.slice a5 n5 c5) := ⟨_, rfl⟩
      have zz : WN.heap[R]? = some (.cells #[.int .i64 x0, .string x1, .int .i64 x2, .int .i64 x3, .slice a4 n4 c4, .slice a5 n5 c5] 46 (0, 0)) := by
        rw [hWN]
        exact set_block (set_block (set_block (set_block (set_block (set_block HZ2.out)))))
      have GN : Hid (w.grownBy WN (some B)) := by
        rw [hWN]
        exact grown_new (grown_new (grown_new (grown_new (grown_new (grown_new G2.out HRs.out _) HRs.out _) HRs.out _) HRs.out _) HRs.out _) HRs.out _
      have HVN : Hid (AnO (R + 1) WN (.agg #[.int .i64 x0, .string x1, .int .i64 x2, .int .i64 x3, .slice a4 n4 c4, .slice a5 n5 c5]) a) := HV2.out.kept (C := R) (by rw [hWN]; exact grown_put (grown_put (grown_put (grown_put (grown_put (grown_put (grown_refl _ _))))))) (Nat.lt_succ_self R)
      have HWN := Lib.hid hWN
      have HZZ := Lib.hid zz
      clear G g1 z1 B2 P2 L2 hW2 z2 hb K hs hw hWN zz HG CC HZ2 HV HV2
      go_upto_region 3 with fail
      rw [← HW2.out, HRR.out]
      go_wp2_with fail
      rw [← HWN.out]
      refine leaves_cons (f := 65) (args := #[]) (by simp) (by simp [go_sem]) ?_
      refine (idle_answer _).mono ?_
      rintro e u' w'' ⟨rfl, rfl, b3⟩
      have z3 := (b3.block R (Array.getElem?_eq_some_iff.1 HZZ.out).1).trans HZZ.out
      obtain ⟨y0, y1, y2, y3, y4, y5⟩ := six_cells z3
      have GF := grown_below GN.out b3
      have VF : AnO R w'' (.agg #[.int .i64 x0, .string x1, .int .i64 x2, .int .i64 x3, .slice a4 n4 c4, .slice a5 n5 c5]) q := by rw [HQ1.out]; exact (HVN.out.below b3).base (Nat.le_succ R)
      simp [Leaves, settle, results, Try.results47, go_sem, HQ2.out, y0, y1, y2, y3, y4, y5, Try.isAgg46, Try.sizeOf46]
      exact ⟨by rw [HRR.out]; exact VF, GF⟩
    · have hE := empty_no hs
      have hw : wholeB r = false := decide_eq_false (fun h => hs h.2)
      have HQ1 : Hid (q = zeroA) := HQ.out.trans (by rw [hw]; rfl)
      have HQ2 := Lib.hid (HB.out.trans hw)
      generalize mkB r.s = u at *
      clear G g1 z1 B2 P2 L2 hW2 z2 hb K hs hw HG CC
      go_upto_region 3 with fail
      rw [← HW2.out, HRR.out]
      go_wp2_with fail
      refine (giveup_any B _).mono ?_
      rintro e wg ⟨rfl, rfl⟩
      go_wp2_with fail
      refine leaves_cons (f := 65) (args := #[]) (by simp) (by simp [go_sem]) ?_
      refine (catch_answer [] _).mono ?_
      rintro e u' w'' ⟨rfl, rfl, b3⟩
      have z3 := (b3.block R (Array.getElem?_eq_some_iff.1 HZ2.out).1).trans HZ2.out
      obtain ⟨y0, y1, y2, y3, y4, y5⟩ := six_cells z3
      have GF := grown_below G2.out b3
      have VF := ano_zero R w''
      rw [← HQ1.out] at VF
      simp [Leaves, settle, results, Try.results47, go_sem, HQ2.out, y0, y1, y2, y3, y4, y5, Try.isAgg46, Try.sizeOf46]
      exact ⟨by rw [HRR.out]; exact VF, GF⟩
  · obtain ⟨g1, z1, s1⟩ := HG.out _ G
    have hw : wholeB r = false := decide_eq_false (fun h => by rw [hb] at h; cases h.1)
    have HQ1 : Hid (q = zeroA) := HQ.out.trans (by rw [hw]; rfl)
    have HQ2 := Lib.hid (HB.out.trans hw)
    have HZ1 := Lib.hid z1
    have G1 := Lib.hid g1
    have HRR : Hid (w.heap.size = R) := HR.out.symm
    clear G g1 z1 hb hw HG CC
    go_wp2_with fail
    rw [HRR.out]
    refine leaves_cons (f := 65) (args := #[]) (by simp) (by simp [go_sem]) ?_
    refine (catch_answer [] _).mono ?_
    rintro e u' w'' ⟨rfl, rfl, b3⟩
    have z3 := (b3.block R (Array.getElem?_eq_some_iff.1 HZ1.out).1).trans HZ1.out
    obtain ⟨y0, y1, y2, y3, y4, y5⟩ := six_cells z3
    have GF := grown_below G1.out b3
    have VF := ano_zero R w''
    rw [← HQ1.out] at VF
    simp [Leaves, settle, results, Try.results47, go_sem, HQ2.out, y0, y1, y2, y3, y4, y5, Try.isAgg46, Try.sizeOf46]
    exact ⟨VF, GF⟩
def ToldOk : Prop := ∀ (s : List UInt8) (w : World), s.length ≤ 9223372036854775807 → Calls Try.prog 20 #[.string (mkB s)] w fun e w' => ∃ v, e = .returned (.tuple #[v, .bool (toldE s).2]) ∧ AnO w.heap.size w' v (toldE s).1 ∧ Below w.heap.size w w'
theorem told_whole (s : List UInt8) : (toldE s).2 = wholeB (toldR s).2 ∧ (toldE s).1 = if wholeB (toldR s).2 = true then (toldR s).1 else zeroA := by
  unfold toldE wholeB
  by_cases h : (toldR s).2.bad = false ∧ (toldR s).2.s = []
  · rw [if_pos h, decide_eq_true h]
    exact ⟨rfl, rfl⟩
  · rw [if_neg h, decide_eq_false h]
    exact ⟨rfl, rfl⟩
set_option maxHeartbeats 4000000 in
theorem told_ok' : ToldOk := fun s w hs => by
  obtain ⟨t1, t2⟩ := told_whole s
  obtain ⟨B0, P0, L0⟩ := box1 w #[.int .i64 0, .string (ByteArray.mk #[]), .int .i64 0, .int .i64 0, .slice none 0 0, .slice none 0 0] 46
  obtain ⟨W0, hW0⟩ : ∃ W0, W0 = w.alloc (.cells #[.int .i64 0, .string (ByteArray.mk #[]), .int .i64 0, .int .i64 0, .slice none 0 0, .slice none 0 0] 46) := ⟨_, rfl⟩
  rw [← hW0] at B0 P0 L0
  obtain ⟨R, hR⟩ : ∃ R, R = w.heap.size := ⟨_, rfl⟩
  rw [← hR] at L0 P0
  have CO := Lib.hid (fun w => of_rd (mkB s) w)
  have HX : Hid (∀ w1, Below W0.heap.size W0 w1 → ∃ W1 B, W1 = w1.alloc (.cells #[.string (mkB s)] 101) ∧ B = w1.heap.size ∧ R < B ∧ Below R w W1 ∧ W1.heap.size = B + 1 ∧ Calls Try.prog 47 #[.pointer (some ⟨B, 0, none⟩), .func (.func 48) #[.pointer (some ⟨B, 0, none⟩)] #[]] W1 (fun e w' => (∃ v, e = .returned (.tuple #[v, .bool (toldE s).2]) ∧ AnO W1.heap.size w' v (toldE s).1) ∧ W1.grownBy w' (some B)) ∧ ∀ w', W1.grownBy w' (some B) → w'.heap[R]? = some (.cells #[.int .i64 0, .string (ByteArray.mk #[]), .int .i64 0, .int .i64 0, .slice none 0 0, .slice none 0 0] 46 (0, 0))) := fun w1 b1 => by
    obtain ⟨B1, P1, L1⟩ := box1 w1 #[.string (mkB s)] 101
    refine ⟨_, _, rfl, rfl, by have := b1.size; omega, by rw [hR]; exact below_on (below_on B0 b1) B1, L1, ?_, fun w' g => ?_⟩
    · have CC := whole_answer (w := w1.alloc (.cells #[.string (mkB s)] 101)) (B := w1.heap.size) P1 (toldR s).1 (toldR s).2 _ rfl (fun w' h => pans_rd s hs h)
      rw [← t2, ← t1] at CC
      exact CC
    · have h1 : R < w1.heap.size := by have := b1.size; omega
      exact (g.block R (by rw [L1]; omega) (by simp; omega)).trans ((B1.block R h1).trans ((b1.block R (by omega)).trans P0))
  have HS0 : Hid (w.heap.size = R) := hR.symm
  have HW0 := Lib.hid hW0
  have hmf : ∀ (fn : Fn) (first cap : Array Value) (w : World), (Instr.makeFunc fn first cap).run Try.prog w = .ok (.func fn first cap) w := fun _ _ _ _ => rfl
  generalize (toldE s).2 = b at *
  generalize (toldE s).1 = a at *
  generalize mkB s = u at *
  clear t1 t2 B0 P0 L0 hW0 hR hs
  go_enter Try.func20, Try.ntmps20
  go_wp2_with fail
  rw [← HW0.out]
  refine (CO.out _).mono ?_
  rintro e w1 ⟨rfl, b1⟩
  obtain ⟨W1, B, hW1, hB, hRB, hBl, hL, hCC, hHG⟩ := HX.out w1 b1
  have HW1 := Lib.hid hW1
  have HBB := Lib.hid hB
  have HRB := Lib.hid hRB
  have HB := Lib.hid hBl
  have HL := Lib.hid hL
  have CC := Lib.hid hCC
  have HG := Lib.hid hHG
  clear hW1 hB hRB hBl hL hCC hHG b1 HX CO
  go_wp2_with fail
  rw [← HW1.out, ← HBB.out, HS0.out]
  refine CC.out.mono ?_
  rintro e w2 ⟨⟨v, rfl, hv⟩, g2⟩
  obtain ⟨a4, c4, a5, c5, rfl⟩ := hv.form
  have HV := Lib.hid hv
  clear hv
  generalize a.st = x0 at *
  generalize mkB a.tok = x1 at *
  generalize a.num = x2 at *
  generalize a.at' = x3 at *
  generalize a.R.length = n4 at *
  generalize a.E.length = n5 at *
  have z2 := HG.out _ g2
  obtain ⟨c0, c1, c2, c3, r4, r5⟩ := six_cells z2
  have fr0 := free_at (i := 0) z2
  have fr1 := free_at (i := 1) z2
  have fr2 := free_at (i := 2) z2
  have fr3 := free_at (i := 3) z2
  have fr4 := free_at (i := 4) z2
  have fr5 := free_at (i := 5) z2
  obtain ⟨WN, hWN⟩ : ∃ WN, WN = (((((w2.setCell ⟨R, 0, none⟩ (.int .i64 x0)).setCell ⟨R, 1, none⟩ (.string x1)).setCell ⟨R, 2, none⟩ (.int .i64 x2)).setCell ⟨R, 3, none⟩ (.int .i64 x3)).setCell ⟨R, 4, none⟩ (.slice a4 n4 c4)).setCell ⟨R, 5, none⟩ (.slice a5 n5 c5) := ⟨_, rfl⟩
  have zz : WN.heap[R]? = some (.cells #[.int .i64 x0, .string x1, .int .i64 x2, .int .i64 x3, .slice a4 n4 c4, .slice a5 n5 c5] 46 (0, 0)) := by
    rw [hWN]
    exact set_block (set_block (set_block (set_block (set_block (set_block z2)))))
  have GN : Below R w WN := by
    have b : Below R w w2 := grown_to HB.out g2 (Nat.le_of_lt HRB.out) (by have := HL.out; have := HRB.out; omega)
    rw [hWN]
    exact below_put (below_put (below_put (below_put (below_put (below_put b (Nat.le_refl R) _) (Nat.le_refl R) _) (Nat.le_refl R) _) (Nat.le_refl R) _) (Nat.le_refl R) _) (Nat.le_refl R) _
  have HVN : Hid (AnO R WN (.agg #[.int .i64 x0, .string x1, .int .i64 x2, .int .i64 x3, .slice a4 n4 c4, .slice a5 n5 c5]) a) := (HV.out.kept (C := R) (by rw [hWN]; exact grown_put (grown_put (grown_put (grown_put (grown_put (grown_put (grown_refl _ _))))))) (by have := HL.out; have := HRB.out; omega)).base (by have := HL.out; have := HRB.out; omega)
  obtain ⟨d0, d1, d2, d3, d4, d5⟩ := six_cells zz
  have HWN := Lib.hid hWN
  have GF := Lib.hid GN
  clear hWN zz GN g2 z2 CC HG HV
  go_wp2_with fail
  rw [← HWN.out]
  exact bodyPost_ret (v := .tuple #[.agg #[.int .i64 x0, .string x1, .int .i64 x2, .int .i64 x3, .slice a4 n4 c4, .slice a5 n5 c5], .bool b]) (by simp [results, Try.results20, go_sem, d0, d1, d2, d3, d4, d5, Try.isAgg46, Try.sizeOf46]) rfl ⟨_, rfl, by rw [HS0.out]; exact HVN.out, by rw [HS0.out]; exact GF.out⟩
end Go.Proofs.Ythegkookfpnbeaa.Wds
