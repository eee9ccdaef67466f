/- Words: the program's reader: a call, and what gives up. -/
import Derived.Test.YthegkookfpnbeaaJl
set_option linter.unusedVariables false
set_option linter.unusedSimpArgs false
set_option maxRecDepth 100000
namespace Go.Proofs.Ythegkookfpnbeaa.Wds
open Go.RowKit Go.Lib Go.Proofs.Ythegkookfpnbeaa.Bx Go.Proofs.Ythegkookfpnbeaa.Frm

theorem grown_new {W w1 : World} {row : Option Nat} {R j : Nat} (h : W.grownBy w1 row) (hR : W.heap.size ≤ R) (u : Value) : W.grownBy (w1.setCell ⟨R, j, none⟩ u) row := by
  have b0 : Below 0 w1 (w1.setCell ⟨R, j, none⟩ u) := (Below.refl 0 w1).setCell (p := ⟨R, j, none⟩) (Nat.zero_le _) u
  exact ⟨b0.os.trans h.os, b0.tape.trans h.tape, b0.output.trans h.output, Nat.le_trans h.size b0.size, fun k hk hn => (Below.heap_setCell _ _ _ _ (fun e => by have e : k = R := e; omega)).trans (h.block k hk hn)⟩
theorem at1_other {w : World} {B R j : Nat} {l : List UInt8} {u : Value} (h : At1 w B l) (hne : R ≠ B) : At1 (w.setCell ⟨R, j, none⟩ u) B l := (Below.heap_setCell _ _ _ _ (fun e => hne e.symm)).trans h
theorem at1_drew {w wd : World} {B : Nat} {l : List UInt8} (h : At1 w B l) (e : wd = w.drew) : At1 wd B l := by subst e; exact h
theorem grown_drew1 {W w wd : World} {row : Option Nat} (h : W.grownBy w row) (e : wd = w.drew) : W.grownBy wd row := by subst e; exact grown_below h (Below.drew (Below.refl _ _))
theorem tail_stuck (k : Nat) (r : Rd) (h : r.bad = true) : (tailW k r).bad = true := by
  have h1 : ∀ (n : Nat) (r : Rd), r.bad = true → (numsR n r).2.bad = true := by
    intro n
    induction n with
    | zero => exact fun r h => h
    | succ n ih => exact fun r h => ih _ (numR_stuck r h)
  have h2 : ∀ (c : Prop) [Decidable c] (r : Rd), r.bad = true → (skipT c r).2.bad = true := fun c _ r h => by
    unfold skipT
    split
    · exact textR_stuck r h
    · exact h
  have h3 : ∀ (c : Prop) [Decidable c] (r : Rd), r.bad = true → (skipF c r).2.bad = true := fun c _ r h => by
    unfold skipF
    split
    · exact flagR_stuck r h
    · exact h
  unfold tailW
  split
  · rfl
  · exact h3 _ _ (h3 _ _ (h2 _ _ (h2 _ _ (h1 _ _ h))))
set_option maxHeartbeats 4000000 in
theorem pcall_rd {B : Nat} {w : World} (r0 r1 r2 r3 : Rd) (k : Nat) (t : List UInt8) (n : Int) (e1 : lenR r0 = (k, r1)) (e2 : textR r1 = (t, r2)) (e3 : numR r2 = (n, r3)) (hb : r0.bad = false) (hl : r0.s.length ≤ 9223372036854775807) (h : At1 w B r0.s) : Calls Try.prog 35 #[.pointer (some ⟨B, 0, none⟩)] w (Got w B (.agg #[.string (mkB t), .int .i64 n, askV (tailR k r3).1]) (tailW k r3)) := by
  obtain ⟨B0, P0, L0⟩ := box1 w #[.string (ByteArray.mk #[]), .int .i64 0, .nilIface] 30
  obtain ⟨W0, hW0⟩ : ∃ W0, W0 = w.alloc (.cells #[.string (ByteArray.mk #[]), .int .i64 0, .nilIface] 30) := ⟨_, rfl⟩
  rw [← hW0] at B0 P0 L0
  obtain ⟨R, hR⟩ : ∃ R, R = w.heap.size := ⟨_, rfl⟩
  rw [← hR] at P0 L0
  have hRB : R ≠ B := by have := h.cell.2.1; omega
  have HW0 := Lib.hid hW0
  have HR := Lib.hid hR
  have hk : k ≤ 255 := by have h9 : (lenR r0).1 < 256 := UInt8.toNat_lt _; rw [e1] at h9; exact Nat.le_of_lt_succ h9
  have k8 : IntKind.u8.wrap (k : Int) = (k : Int) := IntWalk.u8_in _ (by omega)
  obtain ⟨V, hV⟩ : ∃ V, V = askV (tailR k r3).1 := ⟨_, rfl⟩
  obtain ⟨r4, hr4⟩ : ∃ r4, r4 = tailW k r3 := ⟨_, rfl⟩
  have HVF : Hid (V = .nilIface ∨ ∃ t x, V = .iface t x) := by rw [hV]; exact askV_form _
  have l1 := len_le e1 hl
  have l2 := text_le' e2 l1
  have l3 := num_le e3 l2
  have S3 : Hid (r3.bad = true → r4.bad = true) := fun h => by rw [hr4]; exact tail_stuck k r3 h
  have S2 : Hid (r2.bad = true → r4.bad = true) := fun h => S3.out (num_stuck e3 h)
  have S1 : Hid (r1.bad = true → r4.bad = true) := fun h => S2.out (text_stuck e2 h)
  have C1 : Hid (∀ w', r0.bad = false → At1 w' B r0.s → Calls Try.prog 58 #[.pointer (some ⟨B, 0, none⟩)] w' (Got w' B (.int .i64 (k : Nat)) r1)) := fun w' hb k => len_step e1 hb hl k
  have C2 : Hid (∀ w', r1.bad = false → At1 w' B r1.s → Calls Try.prog 59 #[.pointer (some ⟨B, 0, none⟩)] w' (Got w' B (.string (mkB t)) r2)) := fun w' hb k => text_step e2 hb l1 k
  have C3 : Hid (∀ w', r2.bad = false → At1 w' B r2.s → Calls Try.prog 60 #[.pointer (some ⟨B, 0, none⟩)] w' (Got w' B (.int .i64 n) r3)) := fun w' hb k => num_step e3 hb l2 k
  have C4 : Hid (∀ w', r3.bad = false → At1 w' B r3.s → Calls Try.prog 61 #[.pointer (some ⟨B, 0, none⟩), .int .u8 (k : Nat)] w' (Got w' B V r4)) := fun w' hb kk => by rw [hV, hr4]; exact pask_rd k hk r3 hb l3 kk
  have g0 : W0.grownBy W0 (some B) := grown_refl _ _
  have Q0 : Hid (r0.bad = false ∧ At1 W0 B r0.s ∧ W0.grownBy W0 (some B)) := ⟨hb, h.below B0, g0⟩
  have HG : Hid (∀ w', W0.grownBy w' (some B) → w.grownBy w' (some B) ∧ w'.heap[R]? = some (.cells #[.string (ByteArray.mk #[]), .int .i64 0, .nilIface] 30 (0, 0))) := fun w' g => ⟨grown_trans (grown_of _ _ B0 _) g, (g.block R (by omega) (by simpa using hRB)).trans P0⟩
  rw [← hV, ← hr4]
  generalize mkB t = y at *
  have HRB := Lib.hid hRB
  clear hb h hl hR hW0 B0 P0 L0 hV hr4 l1 l2 l3 e1 e2 e3 g0
  go_enter Try.func35, Try.ntmps35
  go_wp2_with fail
  rw [← HW0.out, ← HR.out]
  refine (C1.out _ Q0.out.1 Q0.out.2.1).mono ?_
  rintro e w1 ⟨G, (⟨hb, rfl, K⟩ | ⟨hb, rfl⟩)⟩
  rotate_left
  · have FE : Hid (Got w B (.agg #[.string y, .int .i64 n, V]) r4 (.panicked [{ v := unr, recovered := false }]) w1) := ⟨(HG.out _ (grown_trans Q0.out.2.2 G)).1, .inr ⟨S1.out hb, rfl⟩⟩
    clear G hb
    go_wp2_with fail
    exact ⟨rfl, FE.out⟩
  have Q1 : Hid (r1.bad = false ∧ At1 w1 B r1.s ∧ W0.grownBy w1 (some B)) := ⟨hb, K, grown_trans Q0.out.2.2 G⟩
  clear G hb K C1 Q0
  go_upto_region 2 with fail
  refine region_pure [0, 1, 2, 4, 5, 6, 8, 9] [3, 7, 10, 11, 12] (by kernel_rfl) (by kernel_rfl) (fun d _ _ _ _ h => by cases d <;> exact h) (fun wd hwd => ?_)
  simp only [List.filterMap_cons, List.filterMap_nil, List.getElem?_cons_zero, List.getElem?_cons_succ]
  have QD := Lib.hid (And.intro Q1.out.1 (And.intro (at1_drew Q1.out.2.1 hwd.out) (grown_drew1 Q1.out.2.2 hwd.out)))
  clear Q1 hwd
  repeat (refine Zo.wpPure_step (fun K hK => ?_); go_simp; refine hK _ ?_; clear hK K)
  refine Zo.wpPure_nil ?_
  have Q1 := Lib.hid QD.out
  clear QD
  go_wp2_with fail
  refine (C2.out _ Q1.out.1 Q1.out.2.1).mono ?_
  rintro e w2 ⟨G, (⟨hb, rfl, K⟩ | ⟨hb, rfl⟩)⟩
  rotate_left
  · have FE : Hid (Got w B (.agg #[.string y, .int .i64 n, V]) r4 (.panicked [{ v := unr, recovered := false }]) w2) := ⟨(HG.out _ (grown_trans Q1.out.2.2 G)).1, .inr ⟨S2.out hb, rfl⟩⟩
    clear G hb
    go_wp2_with fail
    exact ⟨rfl, FE.out⟩
  have Q2 : Hid (r2.bad = false ∧ At1 w2 B r2.s ∧ W0.grownBy w2 (some B)) := ⟨hb, K, grown_trans Q1.out.2.2 G⟩
  clear G hb K C2 Q1
  go_wp2_with fail
  refine (C3.out _ Q2.out.1 Q2.out.2.1).mono ?_
  rintro e w3 ⟨G, (⟨hb, rfl, K⟩ | ⟨hb, rfl⟩)⟩
  rotate_left
  · have FE : Hid (Got w B (.agg #[.string y, .int .i64 n, V]) r4 (.panicked [{ v := unr, recovered := false }]) w3) := ⟨(HG.out _ (grown_trans Q2.out.2.2 G)).1, .inr ⟨S3.out hb, rfl⟩⟩
    clear G hb
    go_wp2_with fail
    exact ⟨rfl, FE.out⟩
  have Q3 : Hid (r3.bad = false ∧ At1 w3 B r3.s ∧ W0.grownBy w3 (some B)) := ⟨hb, K, grown_trans Q2.out.2.2 G⟩
  clear G hb K C3 Q2
  go_wp2_with fail
  refine (C4.out _ Q3.out.1 Q3.out.2.1).mono ?_
  rintro e w4 ⟨G, (⟨hb, rfl, K⟩ | ⟨hb, rfl⟩)⟩
  rotate_left
  · have FE : Hid (Got w B (.agg #[.string y, .int .i64 n, V]) r4 (.panicked [{ v := unr, recovered := false }]) w4) := ⟨(HG.out _ (grown_trans Q3.out.2.2 G)).1, .inr ⟨hb, rfl⟩⟩
    clear G hb
    go_wp2_with fail
    exact ⟨rfl, FE.out⟩
  rcases HVF.out with rfl | ⟨tt, xx, rfl⟩
  · clear HVF
    obtain ⟨g4, z4⟩ := HG.out _ (grown_trans Q3.out.2.2 G)
    obtain ⟨c0, c1, c2⟩ := three_cells z4
    have fr := fun i => free_at (i := i) z4
    obtain ⟨WN, hWN⟩ : ∃ WN, WN = ((w4.setCell ⟨R, 0, none⟩ (.string y)).setCell ⟨R, 1, none⟩ (.int .i64 n)).setCell ⟨R, 2, none⟩ .nilIface := ⟨_, rfl⟩
    have FE : Hid (Got w B (.agg #[.string y, .int .i64 n, .nilIface]) r4 (.returned (.agg #[.string y, .int .i64 n, .nilIface])) WN) := by
      rw [hWN]
      have hRs : w.heap.size ≤ R := by rw [← HR.out]; exact Nat.le_refl _
      exact ⟨grown_new (grown_new (grown_new g4 hRs _) hRs _) hRs _, .inl ⟨hb, rfl, at1_other (at1_other (at1_other K HRB.out) HRB.out) HRB.out⟩⟩
    have zz : WN.heap[R]? = some (.cells #[.string y, .int .i64 n, .nilIface] 30 (0, 0)) := by
      rw [hWN]
      exact set_block (set_block (set_block z4))
    obtain ⟨y0, y1, y2⟩ := three_cells zz
    have HWN := Lib.hid hWN
    clear hWN zz z4 g4 G hb K C4 Q3
    go_wp2_with fail
    rw [← HWN.out]
    exact bodyPost_ret (v := .agg #[.string y, .int .i64 n, .nilIface]) (by simp [results, Try.results35, go_sem, y0, y1, y2, Try.isAgg30, Try.sizeOf30]) rfl FE.out
  · clear HVF
    obtain ⟨g4, z4⟩ := HG.out _ (grown_trans Q3.out.2.2 G)
    obtain ⟨c0, c1, c2⟩ := three_cells z4
    have fr := fun i => free_at (i := i) z4
    obtain ⟨WN, hWN⟩ : ∃ WN, WN = ((w4.setCell ⟨R, 0, none⟩ (.string y)).setCell ⟨R, 1, none⟩ (.int .i64 n)).setCell ⟨R, 2, none⟩ (.iface tt xx) := ⟨_, rfl⟩
    have FE : Hid (Got w B (.agg #[.string y, .int .i64 n, (.iface tt xx)]) r4 (.returned (.agg #[.string y, .int .i64 n, (.iface tt xx)])) WN) := by
      rw [hWN]
      have hRs : w.heap.size ≤ R := by rw [← HR.out]; exact Nat.le_refl _
      exact ⟨grown_new (grown_new (grown_new g4 hRs _) hRs _) hRs _, .inl ⟨hb, rfl, at1_other (at1_other (at1_other K HRB.out) HRB.out) HRB.out⟩⟩
    have zz : WN.heap[R]? = some (.cells #[.string y, .int .i64 n, (.iface tt xx)] 30 (0, 0)) := by
      rw [hWN]
      exact set_block (set_block (set_block z4))
    obtain ⟨y0, y1, y2⟩ := three_cells zz
    have HWN := Lib.hid hWN
    clear hWN zz z4 g4 G hb K C4 Q3
    go_wp2_with fail
    rw [← HWN.out]
    exact bodyPost_ret (v := .agg #[.string y, .int .i64 n, (.iface tt xx)]) (by simp [results, Try.results35, go_sem, y0, y1, y2, Try.isAgg30, Try.sizeOf30]) rfl FE.out
end Go.Proofs.Ythegkookfpnbeaa.Wds
