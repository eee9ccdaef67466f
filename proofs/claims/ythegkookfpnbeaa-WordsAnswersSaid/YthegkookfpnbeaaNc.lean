/- Words: the program's reader: a call, and what gives up. -/
import Derived.Test.YthegkookfpnbeaaNb
set_option linter.unusedVariables false
set_option linter.unusedSimpArgs false
set_option maxRecDepth 100000
namespace Go.Proofs.Ythegkookfpnbeaa.Wds
open Go.RowKit Go.Lib Go.Proofs.Ythegkookfpnbeaa.Bx Go.Proofs.Ythegkookfpnbeaa.Frm

theorem grown_new {W w1 : World} {row : Option Nat} {R j : Nat} (h : W.grownBy w1 row) (hR : W.heap.size ≤ R) (u : Value) : W.grownBy (w1.setCell ⟨R, j, none⟩ u) row := by
  have b0 : Below 0 w1 (w1.setCell ⟨R, j, none⟩ u) := (Below.refl 0 w1).setCell (p := ⟨R, j, none⟩) (Nat.zero_le _) u
  exact ⟨b0.os.trans h.os, b0.tape.trans h.tape, b0.output.trans h.output, Nat.le_trans h.size b0.size, fun k hk hn => (Below.heap_setCell _ _ _ _ (fun e => by have e : k = R := e; omega)).trans (h.block k hk hn)⟩
theorem at1_other {w : World} {B R j : Nat} {l : List UInt8} {u : Value} (h : At1 w B l) (hne : R ≠ B) : At1 (w.setCell ⟨R, j, none⟩ u) B l := (Below.heap_setCell _ _ _ _ (fun e => hne e.symm)).trans h
theorem at1_drew {w wd : World} {B : Nat} {l : List UInt8} (h : At1 w B l) (e : wd = w.drew) : At1 wd B l := by subst e; exact h
theorem grown_drew1 {W w wd : World} {row : Option Nat} (h : W.grownBy w row) (e : wd = w.drew) : W.grownBy wd row := by subst e; exact grown_below h (Below.drew (Below.refl _ _))
theorem tail_stuck (k : Nat) (r : Rd) (h : r.bad = true) : (tailW k r).bad = true := by
  have h1 : ∀ (n : Nat) (r : Rd), r.bad = true → (numsR n r).2.bad = true := by
    intro n
    induction n with
    | zero => exact fun r h => h
    | succ n ih => exact fun r h => ih _ (numR_stuck r h)
  have h2 : ∀ (c : Prop) [Decidable c] (r : Rd), r.bad = true → (skipT c r).2.bad = true := fun c _ r h => by
    unfold skipT
    split
    · exact textR_stuck r h
    · exact h
  have h3 : ∀ (c : Prop) [Decidable c] (r : Rd), r.bad = true → (skipF c r).2.bad = true := fun c _ r h => by
    unfold skipF
    split
    · exact flagR_stuck r h
    · exact h
  unfold tailW
  split
  · rfl
  · exact h3 _ _ (h3 _ _ (h2 _ _ (h2 _ _ (h1 _ _ h))))
set_option maxHeartbeats 4000000 in
theorem pcall_rd {B : Nat} {w : World} (r0 r1 r2 r3 : Rd) (k : Nat) (t : List UInt8) (n : Int) (e1 : lenR r0 = (k, r1)) (e2 : textR r1 = (t, r2)) (e3 : numR r2 = (n, r3)) (hb : r0.bad = false) (hl : r0.s.length ≤ 9223372036854775807) (h : At1 w B r0.s) : Calls Try.prog 35 #[.pointer (some ⟨B, 0, none⟩)] w (Got w B (.agg #[.string (mkB t), .int .i64 n, askV (tailR k r3).1]) (tailW k r3)) := by
  obtain ⟨B0, P0, L0⟩ := box1 w #[.string (ByteArray.mk #[]), .int .i64 0, .nilIface] 30
  obtain ⟨W0, hW0⟩ : ∃ W0, W0 = w.alloc (.cells #[.string (ByteArray.mk #[]), .int .i64 0, .nilIface] 30) := ⟨_, rfl⟩
  rw [← hW0] at B0 P0 L0
  obtain ⟨R, hR⟩ : ∃ R, R = w.heap.size := ⟨_, rfl⟩
  rw [← hR] at P0 L0
  have hRB : R ≠ B := by have := h.cell.2.1; omega
  have HW0 := Lib.hid hW0
  have HR := Lib.hid hR
  have hk : k ≤ 255 := by have h9 : (lenR r0).1 < 256 := UInt8.toNat_lt _; rw [e1] at h9; exact Nat.le_of_lt_succ h9
  have k8 : IntKind.u8.wrap (k : Int) = (k : Int) := IntWalk.u8_in _ (by omega)
  obtain ⟨V, hV⟩ : ∃ V, V = askV (tailR k r3).1 := ⟨_, rfl⟩
  obtain ⟨r4, hr4⟩ : ∃ r4, r4 = tailW k r3 := ⟨_, rfl⟩
  have HVF : Hid (V = .nilIface ∨ ∃ t x, V = .iface t x) := by rw [hV]; exact askV_form _
  have l1 := len_le e1 hl
  have l2 := text_le' e2 l1
  have l3 := num_le e3 l2
  have S3 : Hid (r3.bad = true → r4.bad = true) := fun h => by rw [hr4]; exact tail_stuck k r3 h
  have S2 : Hid (r2.bad = true → r4.bad = true) := fun h => S3.out (num_stuck e3 h)
  have S1 : Hid (r1.bad = true → r4.bad = true) := fun h => S2.out (text_stuck e2 h)
  have C1 : Hid (∀ w', r0.bad = false → At1 w' B r0.s → Calls Try.prog 58 #[.pointer (some ⟨B, 0, none⟩)] w' (Got w' B (.int .i64 (k : Nat)) r1)) := fun w' hb k => len_step e1 hb hl k
  have C2 : Hid (∀ w', r1.bad = false → At1 w' B r1.s → Calls Try.prog 59 #[.pointer (some ⟨B, 0, none⟩)] w' (Got w' B (.string (mkB t)) r2)) := fun w' hb k => text_step e2 hb l1 k
  have C3 : Hid (∀ w', r2.bad = false → At1 w' B r2.s → Calls Try.prog 60 #[.pointer (some ⟨B, 0, none⟩)] w' (Got w' B (.int .i64 n) r3)) := fun w' hb k => num_step e3 hb l2 k
  have C4 : Hid (∀ w', r3.bad = false → At1 w' B r3.s → Calls Try.prog 61 #[.pointer (some ⟨B, 0, none⟩), .int .u8 (k : Nat)] w' (Got w' B V r4)) := fun w' hb kk => by rw [hV, hr4]; exact pask_rd k hk r3 hb l3 kk
  have g0 : W0.grownBy W0 (some B) := grown_refl _ _
  have Q0 : Hid (r0.bad = false ∧ At1 W0 B r0.s ∧ W0.grownBy W0 (some B)) := ⟨hb, h.below B0, g0⟩
  have HG : Hid (∀ w', W0.grownBy w' (some B) → w.grownBy w' (some B) ∧ w'.heap[R]? = some (.cells #[.string (ByteArray.mk #[]), .int .i64 0, .nilIface] 30 (0, 0))) := fun w' g => ⟨grown_trans (grown_of _ _ B0 _) g, (g.block R (by omega) (by simpa using hRB)).trans P0⟩
  rw [← hV, ← hr4]
  generalize mkB t = y at *
  have HRB := Lib.hid hRB
  clear hb h hl hR hW0 B0 P0 L0 hV hr4 l1 l2 l3 e1 e2 e3 g0
  go_enter Try.func35, Try.ntmps35
  go_wp2_with fail
  rw [← HW0.out, ← HR.out]
  refine (C1.out _ Q0.out.1 Q0.out.2.1).mono ?_
  rintro e w1 ⟨G, (⟨hb, rfl, K⟩ | ⟨hb, rfl⟩)⟩
  rotate_left
  · have FE : Hid (Got w B (.agg #[.string y, .int .i64 n, V]) r4 (.panicked [{ v := unr, recovered := false }]) w1) := ⟨(HG.out _ (grown_trans Q0.out.2.2 G)).1, .inr ⟨S1.out hb, rfl⟩⟩
    clear G hb
    go_wp2_with fail
    exact ⟨rfl, FE.out⟩
  have Q1 : Hid (r1.bad = false ∧ At1 w1 B r1.s ∧ W0.grownBy w1 (some B)) := ⟨hb, K, grown_trans Q0.out.2.2 G⟩
  clear G hb K C1 Q0
  go_upto_region 2 with fail
  refine region_pure [0, 1, 2, 4, 5, 6, 8, 9] [3, 7, 10, 11, 12] (by kernel_rfl) (by kernel_rfl) (fun d _ _ _ _ h => by cases d <;> exact h) (fun wd hwd => ?_)
  simp only [List.filterMap_cons, List.filterMap_nil, List.getElem?_cons_zero, List.getElem?_cons_succ]
  have QD := Lib.hid (And.intro Q1.out.1 (And.intro (at1_drew Q1.out.2.1 hwd.out) (grown_drew1 Q1.out.2.2 hwd.out)))
  clear Q1 hwd
  repeat (refine Zo.wpPure_step (fun K hK => ?_); go_simp; refine hK _ ?_; clear hK K)
  refine Zo.wpPure_nil ?_
  have Q1 := Lib.hid QD.out
  clear QD
  go_wp2_with fail
  refine (C2.out _ Q1.out.1 Q1.out.2.1).mono ?_
  rintro e w2 ⟨G, (⟨hb, rfl, K⟩ | ⟨hb, rfl⟩)⟩
  rotate_left
  · have FE : Hid (Got w B (.agg #[.string y, .int .i64 n, V]) r4 (.panicked [{ v := unr, recovered := false }]) w2) := ⟨(HG.out _ (grown_trans Q1.out.2.2 G)).1, .inr ⟨S2.out hb, rfl⟩⟩
    clear G hb
    go_wp2_with fail
    exact ⟨rfl, FE.out⟩
  have Q2 : Hid (r2.bad = false ∧ At1 w2 B r2.s ∧ W0.grownBy w2 (some B)) := ⟨hb, K, grown_trans Q1.out.2.2 G⟩
  clear G hb K C2 Q1
  go_wp2_with fail
  refine (C3.out _ Q2.out.1 Q2.out.2.1).mono ?_
  rintro e w3 ⟨G, (⟨hb, rfl, K⟩ | ⟨hb, rfl⟩)⟩
  rotate_left
  · have FE : Hid (Got w B (.agg #[.string y, .int .i64 n, V]) r4 (.panicked [{ v := unr, recovered := false }]) w3) := ⟨(HG.out _ (grown_trans Q2.out.2.2 G)).1, .inr ⟨S3.out hb, rfl⟩⟩
    clear G hb
    go_wp2_with fail
    exact ⟨rfl, FE.out⟩
  have Q3 : Hid (r3.bad = false ∧ At1 w3 B r3.s ∧ W0.grownBy w3 (some B)) := ⟨hb, K, grown_trans Q2.out.2.2 G⟩
  clear G hb K C3 Q2
  go_wp2_with fail
  refine (C4.out _ Q3.out.1 Q3.out.2.1).mono ?_
  rintro e w4 ⟨G, (⟨hb, rfl, K⟩ | ⟨hb, rfl⟩)⟩
  rotate_left
  · have FE : Hid (Got w B (.agg #[.string y, .int .i64 n, V]) r4 (.panicked [{ v := unr, recovered := false }]) w4) := ⟨(HG.out _ (grown_trans Q3.out.2.2 G)).1, .inr ⟨hb, rfl⟩⟩
    clear G hb
    go_wp2_with fail
    exact ⟨rfl, FE.out⟩
  rcases HVF.out with rfl | ⟨tt, xx, rfl⟩
  · clear HVF
    obtain ⟨g4, z4⟩ := HG.out _ (grown_trans Q3.out.2.2 G)
    obtain ⟨c0, c1, c2⟩ := three_cells z4
    have fr := fun i => free_at (i := i) z4
    obtain ⟨WN, hWN⟩ : ∃ WN, WN = ((w4.setCell ⟨R, 0, none⟩ (.string y)).setCell ⟨R, 1, none⟩ (.int .i64 n)).setCell ⟨R, 2, none⟩ .nilIface := ⟨_, rfl⟩
    have FE : Hid (Got w B (.agg #[.string y, .int .i64 n, .nilIface]) r4 (.returned (.agg #[.string y, .int .i64 n, .nilIface])) WN) := by
      rw [hWN]
      have hRs : w.heap.size ≤ R := by rw [← HR.out]; exact Nat.le_refl _
      exact ⟨grown_new (grown_new (grown_new g4 hRs _) hRs _) hRs _, .inl ⟨hb, rfl, at1_other (at1_other (at1_other K HRB.out) HRB.out) HRB.out⟩⟩
    have zz : WN.heap[R]? = some (.cells #[.string y, .int .i64 n, .nilIface] 30 (0, 0)) := by
      rw [hWN]
      exact set_block (set_block (set_block z4))
    obtain ⟨y0, y1, y2⟩ := three_cells zz
    have HWN := Lib.hid hWN
    clear hWN zz z4 g4 G hb K C4 Q3
    go_wp2_with fail
    rw [← HWN.out]
    exact bodyPost_ret (v := .agg #[.string y, .int .i64 n, .nilIface]) (by simp [results, Try.results35, go_sem, y0, y1, y2, Try.isAgg30, Try.sizeOf30]) rfl FE.out
  · clear HVF
    obtain ⟨g4, z4⟩ := HG.out _ (grown_trans Q3.out.2.2 G)
    obtain ⟨c0, c1, c2⟩ := three_cells z4
    have fr := fun i => free_at (i := i) z4
    obtain ⟨WN, hWN⟩ : ∃ WN, WN = ((w4.setCell ⟨R, 0, none⟩ (.string y)).setCell ⟨R, 1, none⟩ (.int .i64 n)).setCell ⟨R, 2, none⟩ (.iface tt xx) := ⟨_, rfl⟩
    have FE : Hid (Got w B (.agg #[.string y, .int .i64 n, (.iface tt xx)]) r4 (.returned (.agg #[.string y, .int .i64 n, (.iface tt xx)])) WN) := by
      rw [hWN]
      have hRs : w.heap.size ≤ R := by rw [← HR.out]; exact Nat.le_refl _
      exact ⟨grown_new (grown_new (grown_new g4 hRs _) hRs _) hRs _, .inl ⟨hb, rfl, at1_other (at1_other (at1_other K HRB.out) HRB.out) HRB.out⟩⟩
    have zz : WN.heap[R]? = some (.cells #[.string y, .int .i64 n, (.iface tt xx)] 30 (0, 0)) := by
      rw [hWN]
      exact set_block (set_block (set_block z4))
    obtain ⟨y0, y1, y2⟩ := three_cells zz
    have HWN := Lib.hid hWN
    clear hWN zz z4 g4 G hb K C4 Q3
    go_wp2_with fail
    rw [← HWN.out]
    exact bodyPost_ret (v := .agg #[.string y, .int .i64 n, (.iface tt xx)]) (by simp [results, Try.results35, go_sem, y0, y1, y2, Try.isAgg30, Try.sizeOf30]) rfl FE.out
end Go.Proofs.Ythegkookfpnbeaa.Wds
/- Words: what gives up is caught. -/
set_option linter.unusedVariables false
set_option linter.unusedSimpArgs false
set_option maxRecDepth 100000
namespace Go.Proofs.Ythegkookfpnbeaa.Wds
open Go.RowKit Go.Lib Go.Proofs.Ythegkookfpnbeaa.Bx Go.Proofs.Ythegkookfpnbeaa.Frm

theorem isU (v : Value) (w : World) : (Instr.typeAssert (.iface 130 v) 20 130 true).run Try.prog w = .ok (.tuple #[v, .bool true]) w := by
  simp [Instr.typeAssert, run_underlying Try.underlying130]
theorem noU (w : World) : (Instr.typeAssert .nilIface 20 130 true).run Try.prog w = .ok (.tuple #[.agg #[], .bool false]) w := by
  simp [Instr.typeAssert, run_underlying Try.underlying130, Try.zeroValue130]
set_option maxHeartbeats 2000000 in
theorem catch_call (older : List PanicEntry) (w : World) :
    CallsD Try.prog 56 #[] (.panicking ({ v := unr, recovered := false } :: older)) w fun e u' w' =>
      e = .returned (.tuple #[]) ∧ u' = .panicking ({ v := unr, recovered := true } :: older) ∧ Below w.heap.size w w' := by
  have yes := isU (.agg #[])
  unfold unr
  refine callsD_of_wpS Try.func56 rfl fun c₀ cs hu => ?_
  apply wpS_seq
  apply wpS_region
  simp [wpOpsS, go_sem, recoverD, hu, Try.ntmps56, Exit.thenS]
  refine wpS_of_wp ?_
  rw [show ((Array.replicate 16 undef).setIfInBounds 3 (Value.iface 130 (.agg #[]))).setIfInBounds 0 (Value.iface 130 (.agg #[])) = #[Value.iface 130 (.agg #[]), undef, undef, Value.iface 130 (.agg #[]), undef, undef, undef, undef, undef, undef, undef, undef, undef, undef, undef, undef] from rfl]
  generalize hQ : (fun (e : Exit) (a' : Act) (w' : World) => bodyPostS _ _ _ _ _ e a' _ w') = Q
  clear hu
  have FB := (box1 w #[] 130).1
  go_wp2_with fail
  subst hQ
  simp_all [bodyPostS, results, Try.results56]
set_option maxHeartbeats 2000000 in
theorem idle_call (w : World) :
    CallsD Try.prog 56 #[] .returning w fun e u' w' => e = .returned (.tuple #[]) ∧ u' = .returning ∧ Below w.heap.size w w' := by
  have no := noU
  refine callsD_of_wpS Try.func56 rfl fun c₀ cs hu => ?_
  apply wpS_seq
  apply wpS_region
  simp [wpOpsS, go_sem, recoverD, hu, Try.ntmps56, Exit.thenS]
  refine wpS_of_wp ?_
  rw [show ((Array.replicate 16 undef).setIfInBounds 3 Value.nilIface).setIfInBounds 0 Value.nilIface = #[Value.nilIface, undef, undef, Value.nilIface, undef, undef, undef, undef, undef, undef, undef, undef, undef, undef, undef, undef] from rfl]
  generalize hQ : (fun (e : Exit) (a' : Act) (w' : World) => bodyPostS _ _ _ _ _ e a' _ w') = Q
  have FB := (box1 w #[] 130).1
  have HU := Lib.hid hu
  clear hu
  go_wp2_with fail
  have hu := HU.out
  subst hQ
  simp_all [bodyPostS, results, Try.results56]
  rw [← hu]
set_option maxHeartbeats 2000000 in
theorem catch_answer (older : List PanicEntry) (w : World) :
    CallsD Try.prog 65 #[] (.panicking ({ v := unr, recovered := false } :: older)) w fun e u' w' =>
      e = .returned (.tuple #[]) ∧ u' = .panicking ({ v := unr, recovered := true } :: older) ∧ Below w.heap.size w w' := by
  have yes := isU (.agg #[])
  unfold unr
  refine callsD_of_wpS Try.func65 rfl fun c₀ cs hu => ?_
  apply wpS_seq
  apply wpS_region
  simp [wpOpsS, go_sem, recoverD, hu, Try.ntmps65, Exit.thenS]
  refine wpS_of_wp ?_
  rw [show ((Array.replicate 16 undef).setIfInBounds 3 (Value.iface 130 (.agg #[]))).setIfInBounds 0 (Value.iface 130 (.agg #[])) = #[Value.iface 130 (.agg #[]), undef, undef, Value.iface 130 (.agg #[]), undef, undef, undef, undef, undef, undef, undef, undef, undef, undef, undef, undef] from rfl]
  generalize hQ : (fun (e : Exit) (a' : Act) (w' : World) => bodyPostS _ _ _ _ _ e a' _ w') = Q
  clear hu
  have FB := (box1 w #[] 130).1
  go_wp2_with fail
  subst hQ
  simp_all [bodyPostS, results, Try.results65]
set_option maxHeartbeats 2000000 in
theorem idle_answer (w : World) :
    CallsD Try.prog 65 #[] .returning w fun e u' w' => e = .returned (.tuple #[]) ∧ u' = .returning ∧ Below w.heap.size w w' := by
  have no := noU
  refine callsD_of_wpS Try.func65 rfl fun c₀ cs hu => ?_
  apply wpS_seq
  apply wpS_region
  simp [wpOpsS, go_sem, recoverD, hu, Try.ntmps65, Exit.thenS]
  refine wpS_of_wp ?_
  rw [show ((Array.replicate 16 undef).setIfInBounds 3 Value.nilIface).setIfInBounds 0 Value.nilIface = #[Value.nilIface, undef, undef, Value.nilIface, undef, undef, undef, undef, undef, undef, undef, undef, undef, undef, undef, undef] from rfl]
  generalize hQ : (fun (e : Exit) (a' : Act) (w' : World) => bodyPostS _ _ _ _ _ e a' _ w') = Q
  have FB := (box1 w #[] 130).1
  have HU := Lib.hid hu
  clear hu
  go_wp2_with fail
  have hu := HU.out
  subst hQ
  simp_all [bodyPostS, results, Try.results65]
  rw [← hu]
end Go.Proofs.Ythegkookfpnbeaa.Wds
/- Words: the program's Ask: a call of bytes. -/
set_option linter.unusedVariables false
set_option linter.unusedSimpArgs false
set_option maxRecDepth 100000
namespace Go.Proofs.Ythegkookfpnbeaa.Wds
open Go.RowKit Go.Lib Go.Proofs.Ythegkookfpnbeaa.Bx Go.Proofs.Ythegkookfpnbeaa.Frm

theorem empty_yes : (mkB []).toList.isEmpty = true := by rw [Lib.toList_data]; rfl
theorem empty_no {l : List UInt8} (h : l ≠ []) : (mkB l).toList.isEmpty = false := by
  rw [Lib.toList_data, mkB_data]
  cases l with
  | nil => exact absurd rfl h
  | cons x l => rfl
/-- All that was to be read was, and nothing is left. -/
def wholeB (r : Rd) : Bool := decide (r.bad = false ∧ r.s = [])
set_option maxHeartbeats 4000000 in
theorem whole_call {B : Nat} {w : World} {l : List UInt8} (h : At1 w B l) (x0 : ByteArray) (x1 : Int) (x2 : Value) (hx : x2 = .nilIface ∨ ∃ t x, x2 = .iface t x) (r : Rd) (f : Value) (hf : f = .func (.func 35) #[.pointer (some ⟨B, 0, none⟩)] #[])
    (C : ∀ w', At1 w' B l → Calls Try.prog 35 #[.pointer (some ⟨B, 0, none⟩)] w' (Got w' B (.agg #[.string x0, .int .i64 x1, x2]) r)) :
    Calls Try.prog 34 #[.pointer (some ⟨B, 0, none⟩), f] w fun e w' => e = .returned (.tuple #[if wholeB r = true then .agg #[.string x0, .int .i64 x1, x2] else .agg #[.string (ByteArray.mk #[]), .int .i64 0, .nilIface], .bool (wholeB r)]) ∧ w.grownBy w' (some B) := by
  subst hf
  obtain ⟨B0, P0, L0⟩ := box1 w #[.string (ByteArray.mk #[]), .int .i64 0, .nilIface] 30
  obtain ⟨W0, hW0⟩ : ∃ W0, W0 = w.alloc (.cells #[.string (ByteArray.mk #[]), .int .i64 0, .nilIface] 30) := ⟨_, rfl⟩
  rw [← hW0] at B0 P0 L0
  obtain ⟨R, hR⟩ : ∃ R, R = w.heap.size := ⟨_, rfl⟩
  rw [← hR] at P0 L0
  have hRB : R ≠ B := by have := h.cell.2.1; omega
  have HW0 := Lib.hid hW0
  have HR := Lib.hid hR
  have CC := Lib.hid (C W0 (h.below B0))
  have HG : Hid (∀ w', W0.grownBy w' (some B) → w.grownBy w' (some B) ∧ w'.heap[R]? = some (.cells #[.string (ByteArray.mk #[]), .int .i64 0, .nilIface] 30 (0, 0)) ∧ R < w'.heap.size) := fun w' g => ⟨grown_trans (grown_of _ _ B0 _) g, (g.block R (by omega) (by simpa using hRB)).trans P0, by have := g.size; omega⟩
  have HRs : Hid (w.heap.size ≤ R) := by rw [← hR]; exact Nat.le_refl _
  have hmf : ∀ (fn : Fn) (first cap : Array Value) (w : World), (Instr.makeFunc fn first cap).run Try.prog w = .ok (.func fn first cap) w := fun _ _ _ _ => rfl
  have hmi := hmi
  clear hR hRB hW0 B0 P0 L0 h C
  rcases hx with rfl | ⟨tt, xx, rfl⟩
  · obtain ⟨q, hq⟩ : ∃ q, q = (if wholeB r = true then (Value.agg #[.string x0, .int .i64 x1, .nilIface]) else (Value.agg #[.string (ByteArray.mk #[]), .int .i64 0, .nilIface])) := ⟨_, rfl⟩
    obtain ⟨bb, hbb⟩ : ∃ bb, bb = wholeB r := ⟨_, rfl⟩
    have HQ := Lib.hid hq
    have HB := Lib.hid hbb
    rw [← hq, ← hbb]
    clear hq hbb
    go_enter_defers Try.func34, Try.ntmps34
    go_wp2_with fail
    rw [← HW0.out]
    refine CC.out.mono ?_
    rintro e w1 ⟨G, (⟨hb, rfl, K⟩ | ⟨hb, rfl⟩)⟩
    · obtain ⟨g1, z1, s1⟩ := HG.out _ G
      obtain ⟨B2, P2, L2⟩ := box1 w1 #[.string x0, .int .i64 x1, .nilIface] 30
      obtain ⟨W2, hW2⟩ : ∃ W2, W2 = w1.alloc (.cells #[.string x0, .int .i64 x1, .nilIface] 30) := ⟨_, rfl⟩
      rw [← hW2] at B2 P2 L2
      have z2 : W2.heap[R]? = some (.cells #[.string (ByteArray.mk #[]), .int .i64 0, .nilIface] 30 (0, 0)) := (B2.block R s1).trans z1
      obtain ⟨a0, a1, a2⟩ := three_cells P2
      obtain ⟨c0, hB, f0⟩ := (K.below B2).cell
      obtain ⟨r0, r1, r2⟩ := three_cells z2
      have fr0 := free_at (i := 0) z2
      have fr1 := free_at (i := 1) z2
      have fr2 := free_at (i := 2) z2
      have HS1 : Hid (w.heap.size ≤ w1.heap.size ∧ R ≠ w1.heap.size) := ⟨Nat.le_trans HRs.out (Nat.le_of_lt s1), by omega⟩
      have HW2 := Lib.hid hW2
      have HZ2 := Lib.hid z2
      have HP2 := Lib.hid P2
      have G2 : Hid (w.grownBy W2 (some B)) := grown_below g1 B2
      have HRR : Hid (w.heap.size = R) := HR.out.symm
      by_cases hs : r.s = []
      · have hE := empty_yes
        rw [hs] at c0
        have hw : wholeB r = true := decide_eq_true ⟨hb, hs⟩
        have HQ1 : Hid (q = (Value.agg #[.string x0, .int .i64 x1, .nilIface])) := HQ.out.trans (by rw [hw]; rfl)
        have HQ2 := Lib.hid (HB.out.trans hw)
        obtain ⟨WN, hWN⟩ : ∃ WN, WN = ((W2.setCell ⟨R, 0, none⟩ (.string x0)).setCell ⟨R, 1, none⟩ (.int .i64 x1)).setCell ⟨R, 2, none⟩ .nilIface := ⟨_, rfl⟩
        have zz : WN.heap[R]? = some (.cells #[.string x0, .int .i64 x1, .nilIface] 30 (0, 0)) := by
          rw [hWN]
          exact set_block (set_block (set_block HZ2.out))
        have GN : Hid (w.grownBy WN (some B)) := by
          rw [hWN]
          exact grown_new (grown_new (grown_new G2.out HRs.out _) HRs.out _) HRs.out _
        have HWN := Lib.hid hWN
        have HZZ := Lib.hid zz
        clear G g1 z1 B2 P2 L2 hW2 z2 hb K hs hw hWN zz HG CC HZ2
        go_upto_region 3 with fail
        rw [← HW2.out, HRR.out]
        go_wp2_with fail
        rw [← HWN.out]
        refine leaves_cons (f := 56) (args := #[]) (by simp) (by simp [go_sem]) ?_
        refine (idle_call _).mono ?_
        rintro e u' w'' ⟨rfl, rfl, b3⟩
        have z3 := (b3.block R (Array.getElem?_eq_some_iff.1 HZZ.out).1).trans HZZ.out
        obtain ⟨y0, y1, y2⟩ := three_cells z3
        have GF := grown_below GN.out b3
        simp [Leaves, settle, results, Try.results34, go_sem, HQ1.out, HQ2.out, y0, y1, y2, Try.isAgg30, Try.sizeOf30]
        exact GF
      · have hE := empty_no hs
        have hw : wholeB r = false := decide_eq_false (fun h => hs h.2)
        have HQ1 : Hid (q = (Value.agg #[.string (ByteArray.mk #[]), .int .i64 0, .nilIface])) := HQ.out.trans (by rw [hw]; rfl)
        have HQ2 := Lib.hid (HB.out.trans hw)
        generalize mkB r.s = u at *
        clear G g1 z1 B2 P2 L2 hW2 z2 hb K hs hw HG CC
        go_upto_region 3 with fail
        rw [← HW2.out, HRR.out]
        go_wp2_with fail
        refine (giveup_any B _).mono ?_
        rintro e wg ⟨rfl, rfl⟩
        go_wp2_with fail
        refine leaves_cons (f := 56) (args := #[]) (by simp) (by simp [go_sem]) ?_
        refine (catch_call [] _).mono ?_
        rintro e u' w'' ⟨rfl, rfl, b3⟩
        have z3 := (b3.block R (Array.getElem?_eq_some_iff.1 HZ2.out).1).trans HZ2.out
        obtain ⟨y0, y1, y2⟩ := three_cells z3
        have GF := grown_below G2.out b3
        simp [Leaves, settle, results, Try.results34, go_sem, HQ1.out, HQ2.out, y0, y1, y2, Try.isAgg30, Try.sizeOf30]
        exact GF
    · obtain ⟨g1, z1, s1⟩ := HG.out _ G
      have hw : wholeB r = false := decide_eq_false (fun h => by rw [hb] at h; cases h.1)
      have HQ1 : Hid (q = (Value.agg #[.string (ByteArray.mk #[]), .int .i64 0, .nilIface])) := HQ.out.trans (by rw [hw]; rfl)
      have HQ2 := Lib.hid (HB.out.trans hw)
      have HZ1 := Lib.hid z1
      have G1 := Lib.hid g1
      have HRR : Hid (w.heap.size = R) := HR.out.symm
      clear G g1 z1 hb hw HG CC
      go_wp2_with fail
      rw [HRR.out]
      refine leaves_cons (f := 56) (args := #[]) (by simp) (by simp [go_sem]) ?_
      refine (catch_call [] _).mono ?_
      rintro e u' w'' ⟨rfl, rfl, b3⟩
      have z3 := (b3.block R (Array.getElem?_eq_some_iff.1 HZ1.out).1).trans HZ1.out
      obtain ⟨y0, y1, y2⟩ := three_cells z3
      have GF := grown_below G1.out b3
      simp [Leaves, settle, results, Try.results34, go_sem, HQ1.out, HQ2.out, y0, y1, y2, Try.isAgg30, Try.sizeOf30]
      exact GF
  · obtain ⟨q, hq⟩ : ∃ q, q = (if wholeB r = true then (Value.agg #[.string x0, .int .i64 x1, (.iface tt xx)]) else (Value.agg #[.string (ByteArray.mk #[]), .int .i64 0, .nilIface])) := ⟨_, rfl⟩
    obtain ⟨bb, hbb⟩ : ∃ bb, bb = wholeB r := ⟨_, rfl⟩
    have HQ := Lib.hid hq
    have HB := Lib.hid hbb
    rw [← hq, ← hbb]
    clear hq hbb
    go_enter_defers Try.func34, Try.ntmps34
    go_wp2_with fail
    rw [← HW0.out]
    refine CC.out.mono ?_
    rintro e w1 ⟨G, (⟨hb, rfl, K⟩ | ⟨hb, rfl⟩)⟩
    · obtain ⟨g1, z1, s1⟩ := HG.out _ G
      obtain ⟨B2, P2, L2⟩ := box1 w1 #[.string x0, .int .i64 x1, (.iface tt xx)] 30
      obtain ⟨W2, hW2⟩ : ∃ W2, W2 = w1.alloc (.cells #[.string x0, .int .i64 x1, (.iface tt xx)] 30) := ⟨_, rfl⟩
      rw [← hW2] at B2 P2 L2
      have z2 : W2.heap[R]? = some (.cells #[.string (ByteArray.mk #[]), .int .i64 0, .nilIface] 30 (0, 0)) := (B2.block R s1).trans z1
      obtain ⟨a0, a1, a2⟩ := three_cells P2
      obtain ⟨c0, hB, f0⟩ := (K.below B2).cell
      obtain ⟨r0, r1, r2⟩ := three_cells z2
      have fr0 := free_at (i := 0) z2
      have fr1 := free_at (i := 1) z2
      have fr2 := free_at (i := 2) z2
      have HS1 : Hid (w.heap.size ≤ w1.heap.size ∧ R ≠ w1.heap.size) := ⟨Nat.le_trans HRs.out (Nat.le_of_lt s1), by omega⟩
      have HW2 := Lib.hid hW2
      have HZ2 := Lib.hid z2
      have HP2 := Lib.hid P2
      have G2 : Hid (w.grownBy W2 (some B)) := grown_below g1 B2
      have HRR : Hid (w.heap.size = R) := HR.out.symm
      by_cases hs : r.s = []
      · have hE := empty_yes
        rw [hs] at c0
        have hw : wholeB r = true := decide_eq_true ⟨hb, hs⟩
        have HQ1 : Hid (q = (Value.agg #[.string x0, .int .i64 x1, (.iface tt xx)])) := HQ.out.trans (by rw [hw]; rfl)
        have HQ2 := Lib.hid (HB.out.trans hw)
        obtain ⟨WN, hWN⟩ : ∃ WN, WN = ((W2.setCell ⟨R, 0, none⟩ (.string x0)).setCell ⟨R, 1, none⟩ (.int .i64 x1)).setCell ⟨R, 2, none⟩ (.iface tt xx) := ⟨_, rfl⟩
        have zz : WN.heap[R]? = some (.cells #[.string x0, .int .i64 x1, (.iface tt xx)] 30 (0, 0)) := by
          rw [hWN]
          exact set_block (set_block (set_block HZ2.out))
        have GN : Hid (w.grownBy WN (some B)) := by
          rw [hWN]
          exact grown_new (grown_new (grown_new G2.out HRs.out _) HRs.out _) HRs.out _
        have HWN := Lib.hid hWN
        have HZZ := Lib.hid zz
        clear G g1 z1 B2 P2 L2 hW2 z2 hb K hs hw hWN zz HG CC HZ2
        go_upto_region 3 with fail
        rw [← HW2.out, HRR.out]
        go_wp2_with fail
        rw [← HWN.out]
        refine leaves_cons (f := 56) (args := #[]) (by simp) (by simp [go_sem]) ?_
        refine (idle_call _).mono ?_
        rintro e u' w'' ⟨rfl, rfl, b3⟩
        have z3 := (b3.block R (Array.getElem?_eq_some_iff.1 HZZ.out).1).trans HZZ.out
        obtain ⟨y0, y1, y2⟩ := three_cells z3
        have GF := grown_below GN.out b3
        simp [Leaves, settle, results, Try.results34, go_sem, HQ1.out, HQ2.out, y0, y1, y2, Try.isAgg30, Try.sizeOf30]
        exact GF
      · have hE := empty_no hs
        have hw : wholeB r = false := decide_eq_false (fun h => hs h.2)
        have HQ1 : Hid (q = (Value.agg #[.string (ByteArray.mk #[]), .int .i64 0, .nilIface])) := HQ.out.trans (by rw [hw]; rfl)
        have HQ2 := Lib.hid (HB.out.trans hw)
        generalize mkB r.s = u at *
        clear G g1 z1 B2 P2 L2 hW2 z2 hb K hs hw HG CC
        go_upto_region 3 with fail
        rw [← HW2.out, HRR.out]
        go_wp2_with fail
        refine (giveup_any B _).mono ?_
        rintro e wg ⟨rfl, rfl⟩
        go_wp2_with fail
        refine leaves_cons (f := 56) (args := #[]) (by simp) (by simp [go_sem]) ?_
        refine (catch_call [] _).mono ?_
        rintro e u' w'' ⟨rfl, rfl, b3⟩
        have z3 := (b3.block R (Array.getElem?_eq_some_iff.1 HZ2.out).1).trans HZ2.out
        obtain ⟨y0, y1, y2⟩ := three_cells z3
        have GF := grown_below G2.out b3
        simp [Leaves, settle, results, Try.results34, go_sem, HQ1.out, HQ2.out, y0, y1, y2, Try.isAgg30, Try.sizeOf30]
        exact GF
    · obtain ⟨g1, z1, s1⟩ := HG.out _ G
      have hw : wholeB r = false := decide_eq_false (fun h => by rw [hb] at h; cases h.1)
      have HQ1 : Hid (q = (Value.agg #[.string (ByteArray.mk #[]), .int .i64 0, .nilIface])) := HQ.out.trans (by rw [hw]; rfl)
      have HQ2 := Lib.hid (HB.out.trans hw)
      have HZ1 := Lib.hid z1
      have G1 := Lib.hid g1
      have HRR : Hid (w.heap.size = R) := HR.out.symm
      clear G g1 z1 hb hw HG CC
      go_wp2_with fail
      rw [HRR.out]
      refine leaves_cons (f := 56) (args := #[]) (by simp) (by simp [go_sem]) ?_
      refine (catch_call [] _).mono ?_
      rintro e u' w'' ⟨rfl, rfl, b3⟩
      have z3 := (b3.block R (Array.getElem?_eq_some_iff.1 HZ1.out).1).trans HZ1.out
      obtain ⟨y0, y1, y2⟩ := three_cells z3
      have GF := grown_below G1.out b3
      simp [Leaves, settle, results, Try.results34, go_sem, HQ1.out, HQ2.out, y0, y1, y2, Try.isAgg30, Try.sizeOf30]
      exact GF
end Go.Proofs.Ythegkookfpnbeaa.Wds
/- Words: the program's Ask. -/
set_option linter.unusedVariables false
set_option linter.unusedSimpArgs false
set_option maxRecDepth 100000
namespace Go.Proofs.Ythegkookfpnbeaa.Wds
open Go.RowKit Go.Lib Go.Proofs.Ythegkookfpnbeaa.Bx Go.Proofs.Ythegkookfpnbeaa.Frm

set_option maxHeartbeats 2000000 in
theorem of_rd (s : ByteArray) (w : World) : Calls Try.prog 33 #[.string s] w fun e w' => e = .returned (.agg #[.string s]) ∧ Below w.heap.size w w' := by
  obtain ⟨B0, P0, L0⟩ := box1 w #[.string s] 98
  have d0 := one_cell P0
  have FE := Lib.hid B0
  clear P0 B0 L0
  go_enter Try.func33, Try.ntmps33
  go_wp2_with fail
  exact bodyPost_ret (v := .agg #[.string s]) (by simp [results, Try.results33, go_sem, d0, Try.isAgg98, Try.sizeOf98]) rfl ⟨rfl, FE.out⟩
theorem ask_parts (s : List UInt8) : ∃ (k : Nat) (t : List UInt8) (n : Int) (r1 r2 r3 : Rd), lenR ⟨s, false⟩ = (k, r1) ∧ textR r1 = (t, r2) ∧ numR r2 = (n, r3) ∧ wholeB (tailW k r3) = (askE s).2 ∧ (if wholeB (tailW k r3) = true then Value.agg #[.string (mkB t), .int .i64 n, askV (tailR k r3).1] else .agg #[.string (ByteArray.mk #[]), .int .i64 0, .nilIface]) = callV (askE s) := by
  obtain ⟨k, hk⟩ : ∃ k, k = (lenR ⟨s, false⟩).1 := ⟨_, rfl⟩
  obtain ⟨r3, hr3⟩ : ∃ r3, r3 = (numR (textR (lenR ⟨s, false⟩).2).2).2 := ⟨_, rfl⟩
  have e1 : (askR s).2 = (tailR k r3).2 := by rw [hk, hr3]; rfl
  have e2 : askV (askR s).1 = askV (tailR k r3).1 := by rw [hk, hr3]; rfl
  have e3 : opE (askR s).1 = 0 ↔ k = 0 ∨ 15 < k := by
    have : (askR s).1.op = (k : Int) := by rw [hk]; rfl
    unfold opE
    rw [this]
    split <;> omega
  have e4 : wholeB (tailW k r3) = (askE s).2 := by
    unfold wholeB tailW askE
    by_cases ho : k = 0 ∨ 15 < k
    · rw [if_pos ho, if_neg (fun h => h.2.2 (e3.2 ho))]
      exact decide_eq_false (fun h => by cases h.1)
    · rw [if_neg ho]
      by_cases hc : (tailR k r3).2.bad = false ∧ (tailR k r3).2.s = []
      · rw [decide_eq_true hc, if_pos ⟨by rw [e1]; exact hc.1, by rw [e1]; exact hc.2, fun h => ho (e3.1 h)⟩]
      · rw [decide_eq_false hc, if_neg (fun h => hc ⟨by rw [← e1]; exact h.1, by rw [← e1]; exact h.2.1⟩)]
  refine ⟨k, (textR (lenR ⟨s, false⟩).2).1, (numR (textR (lenR ⟨s, false⟩).2).2).1, (lenR ⟨s, false⟩).2, (textR (lenR ⟨s, false⟩).2).2, r3, by rw [hk], rfl, by rw [hr3], e4, ?_⟩
  rw [e4]
  unfold callV
  by_cases hq : (askE s).2 = true
  · rw [if_pos hq, if_pos hq]
    have ha : (askE s).1 = (askR s).1 := by
      unfold askE at hq ⊢
      split at hq
      · rename_i h; rw [if_pos h]
      · cases hq
    rw [ha, e2]
    rfl
  · rw [if_neg hq, if_neg hq]
theorem callV_form (q : Pl × Bool) : ∃ y0 y1 y2, callV q = .agg #[.string y0, .int .i64 y1, y2] ∧ (y2 = .nilIface ∨ ∃ t x, y2 = .iface t x) := by
  unfold callV
  split
  · exact ⟨_, _, _, rfl, askV_form _⟩
  · exact ⟨_, _, _, rfl, .inl rfl⟩
set_option maxHeartbeats 4000000 in
theorem ask_ok : AskOk := fun s w hs => by
  obtain ⟨k, t, n, r1, r2, r3, e1, e2, e3, e4, e5⟩ := ask_parts s
  obtain ⟨y0, y1, y2, ey, hy⟩ := callV_form (askE s)
  obtain ⟨B0, P0, L0⟩ := box1 w #[.string (ByteArray.mk #[]), .int .i64 0, .nilIface] 30
  obtain ⟨W0, hW0⟩ : ∃ W0, W0 = w.alloc (.cells #[.string (ByteArray.mk #[]), .int .i64 0, .nilIface] 30) := ⟨_, rfl⟩
  rw [← hW0] at B0 P0 L0
  obtain ⟨R, hR⟩ : ∃ R, R = w.heap.size := ⟨_, rfl⟩
  rw [← hR] at L0 P0
  rw [ey]
  have CO := Lib.hid (fun w => of_rd (mkB s) w)
  have HX : Hid (∀ w1, Below W0.heap.size W0 w1 → ∃ W1 B, W1 = w1.alloc (.cells #[.string (mkB s)] 101) ∧ B = w1.heap.size ∧ R < B ∧ Below R w W1 ∧ W1.heap.size = B + 1 ∧ Calls Try.prog 34 #[.pointer (some ⟨B, 0, none⟩), .func (.func 35) #[.pointer (some ⟨B, 0, none⟩)] #[]] W1 (fun e w' => e = .returned (.tuple #[.agg #[.string y0, .int .i64 y1, y2], .bool (askE s).2]) ∧ W1.grownBy w' (some B)) ∧ ∀ w', W1.grownBy w' (some B) → w'.heap[R]? = some (.cells #[.string (ByteArray.mk #[]), .int .i64 0, .nilIface] 30 (0, 0))) := fun w1 b1 => by
    obtain ⟨B1, P1, L1⟩ := box1 w1 #[.string (mkB s)] 101
    refine ⟨_, _, rfl, rfl, by have := b1.size; omega, by rw [hR]; exact below_on (below_on B0 b1) B1, L1, ?_, fun w' g => ?_⟩
    · have CC := whole_call (w := w1.alloc (.cells #[.string (mkB s)] 101)) (B := w1.heap.size) P1 (mkB t) n (askV (tailR k r3).1) (askV_form _) (tailW k r3) _ rfl (fun w' h => pcall_rd ⟨s, false⟩ r1 r2 r3 k t n e1 e2 e3 rfl (by show s.length ≤ _; omega) h)
      rw [e5, e4, ey] at CC
      exact CC
    · have h1 : R < w1.heap.size := by have := b1.size; omega
      exact (g.block R (by rw [L1]; omega) (by simp; omega)).trans ((B1.block R h1).trans ((b1.block R (by omega)).trans P0))
  have HS0 : Hid (w.heap.size = R) := hR.symm
  have HW0 := Lib.hid hW0
  have hmf : ∀ (fn : Fn) (first cap : Array Value) (w : World), (Instr.makeFunc fn first cap).run Try.prog w = .ok (.func fn first cap) w := fun _ _ _ _ => rfl
  generalize (askE s).2 = b at *
  generalize mkB s = u at *
  clear e1 e2 e3 e4 e5 ey B0 P0 L0 hW0 hR hs
  rcases hy with rfl | ⟨tt, xx, rfl⟩
  · go_enter Try.func13, Try.ntmps13
    go_wp2_with fail
    rw [← HW0.out]
    refine (CO.out _).mono ?_
    rintro e w1 ⟨rfl, b1⟩
    obtain ⟨W1, B, hW1, hB, hRB, hBl, hL, hCC, hHG⟩ := HX.out w1 b1
    have HW1 := Lib.hid hW1
    have HBB := Lib.hid hB
    have HRB := Lib.hid hRB
    have HB := Lib.hid hBl
    have HL := Lib.hid hL
    have CC := Lib.hid hCC
    have HG := Lib.hid hHG
    clear hW1 hB hRB hBl hL hCC hHG b1 HX CO
    go_wp2_with fail
    rw [← HW1.out, ← HBB.out, HS0.out]
    refine CC.out.mono ?_
    rintro e w2 ⟨rfl, g2⟩
    have z2 := HG.out _ g2
    obtain ⟨c0, c1, c2⟩ := three_cells z2
    have fr0 := free_at (i := 0) z2
    have fr1 := free_at (i := 1) z2
    have fr2 := free_at (i := 2) z2
    obtain ⟨WN, hWN⟩ : ∃ WN, WN = ((w2.setCell ⟨R, 0, none⟩ (.string y0)).setCell ⟨R, 1, none⟩ (.int .i64 y1)).setCell ⟨R, 2, none⟩ .nilIface := ⟨_, rfl⟩
    have zz : WN.heap[R]? = some (.cells #[.string y0, .int .i64 y1, .nilIface] 30 (0, 0)) := by
      rw [hWN]
      exact set_block (set_block (set_block z2))
    have GN : Below w.heap.size w WN := by
      have b : Below R w w2 := grown_to HB.out g2 (Nat.le_of_lt HRB.out) (by have := HL.out; have := HRB.out; omega)
      rw [hWN, HS0.out]
      exact below_put (below_put (below_put b (Nat.le_refl R) _) (Nat.le_refl R) _) (Nat.le_refl R) _
    obtain ⟨d0, d1, d2⟩ := three_cells zz
    have HWN := Lib.hid hWN
    have GF := Lib.hid GN
    clear hWN zz GN g2 z2 CC HG
    go_wp2_with fail
    rw [← HWN.out]
    exact bodyPost_ret (v := .tuple #[.agg #[.string y0, .int .i64 y1, .nilIface], .bool b]) (by simp [results, Try.results13, go_sem, d0, d1, d2, Try.isAgg30, Try.sizeOf30]) rfl ⟨rfl, GF.out⟩
  · go_enter Try.func13, Try.ntmps13
    go_wp2_with fail
    rw [← HW0.out]
    refine (CO.out _).mono ?_
    rintro e w1 ⟨rfl, b1⟩
    obtain ⟨W1, B, hW1, hB, hRB, hBl, hL, hCC, hHG⟩ := HX.out w1 b1
    have HW1 := Lib.hid hW1
    have HBB := Lib.hid hB
    have HRB := Lib.hid hRB
    have HB := Lib.hid hBl
    have HL := Lib.hid hL
    have CC := Lib.hid hCC
    have HG := Lib.hid hHG
    clear hW1 hB hRB hBl hL hCC hHG b1 HX CO
    go_wp2_with fail
    rw [← HW1.out, ← HBB.out, HS0.out]
    refine CC.out.mono ?_
    rintro e w2 ⟨rfl, g2⟩
    have z2 := HG.out _ g2
    obtain ⟨c0, c1, c2⟩ := three_cells z2
    have fr0 := free_at (i := 0) z2
    have fr1 := free_at (i := 1) z2
    have fr2 := free_at (i := 2) z2
    obtain ⟨WN, hWN⟩ : ∃ WN, WN = ((w2.setCell ⟨R, 0, none⟩ (.string y0)).setCell ⟨R, 1, none⟩ (.int .i64 y1)).setCell ⟨R, 2, none⟩ (.iface tt xx) := ⟨_, rfl⟩
    have zz : WN.heap[R]? = some (.cells #[.string y0, .int .i64 y1, (.iface tt xx)] 30 (0, 0)) := by
      rw [hWN]
      exact set_block (set_block (set_block z2))
    have GN : Below w.heap.size w WN := by
      have b : Below R w w2 := grown_to HB.out g2 (Nat.le_of_lt HRB.out) (by have := HL.out; have := HRB.out; omega)
      rw [hWN, HS0.out]
      exact below_put (below_put (below_put b (Nat.le_refl R) _) (Nat.le_refl R) _) (Nat.le_refl R) _
    obtain ⟨d0, d1, d2⟩ := three_cells zz
    have HWN := Lib.hid hWN
    have GF := Lib.hid GN
    clear hWN zz GN g2 z2 CC HG
    go_wp2_with fail
    rw [← HWN.out]
    exact bodyPost_ret (v := .tuple #[.agg #[.string y0, .int .i64 y1, (.iface tt xx)], .bool b]) (by simp [results, Try.results13, go_sem, d0, d1, d2, Try.isAgg30, Try.sizeOf30]) rfl ⟨rfl, GF.out⟩
end Go.Proofs.Ythegkookfpnbeaa.Wds
