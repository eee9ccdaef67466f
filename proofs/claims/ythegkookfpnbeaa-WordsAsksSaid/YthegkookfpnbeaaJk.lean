/- Words: the program's reader: what is asked. -/
import Derived.Test.YthegkookfpnbeaaJj
import Derived.Test.YthegkookfpnbeaaZo
set_option linter.unusedVariables false
set_option linter.unusedSimpArgs false
set_option maxRecDepth 100000
namespace Go.Proofs.Ythegkookfpnbeaa.Wds
open Go.RowKit Go.Lib Go.Proofs.Ythegkookfpnbeaa.Bx Go.Proofs.Ythegkookfpnbeaa.Frm

theorem region_pure {P : Program} {Q : Exit → Act → World → Prop} {id : Nat} {a : Act} {w : World} {l : List Oper} (hd tl : List Nat) (hm : P.follows .mixedOrders = true) (hB : (Region.noSelect l.toArray && Zo.orderB .any l.toArray tl hd (Array.replicate l.length false) && decide (hd.length + tl.length ≤ l.length)) = true)
    (hQ : ∀ d v c a w, Q (.panic c) (Act.put a d v) w → Q (.panic c) a w)
    (h : ∀ wd : World, Hid (wd = w.drew) → Zo.wpPure P l.toArray (fun a' => wpList P l.toArray Q (tl.filterMap fun i => l[i]?) a' wd) (hd.filterMap fun i => l[i]?) a) : (Code.region id l.toArray true).wp P Q a w := Zo.region_order hd tl hm hB hQ (h _ rfl)
theorem take_le (r : Rd) (n : Nat) : (takeR r n).2.s.length ≤ r.s.length := by
  unfold takeR
  split
  · exact Nat.le_refl _
  · show (r.s.drop n).length ≤ _
    rw [List.length_drop]; omega
theorem take_stuck (r : Rd) (n : Nat) (h : r.bad = true) : (takeR r n).2.bad = true := by unfold takeR; rw [if_pos (.inl h)]
theorem numR_le (r : Rd) : (numR r).2.s.length ≤ r.s.length := take_le r 8
theorem numR_stuck (r : Rd) (h : r.bad = true) : (numR r).2.bad = true := take_stuck r 8 h
theorem lenR_le (r : Rd) : (lenR r).2.s.length ≤ r.s.length := take_le r 1
theorem lenR_stuck (r : Rd) (h : r.bad = true) : (lenR r).2.bad = true := take_stuck r 1 h
theorem flagR_le (r : Rd) : (flagR r).2.s.length ≤ r.s.length := by
  unfold flagR
  simp only
  split
  · exact take_le r 1
  · exact take_le r 1
theorem flagR_stuck (r : Rd) (h : r.bad = true) : (flagR r).2.bad = true := by
  unfold flagR
  simp only
  split
  · rfl
  · exact take_stuck r 1 h
theorem textR_le (r : Rd) : (textR r).2.s.length ≤ r.s.length := by
  unfold textR
  split
  · exact take_le r 2
  · exact Nat.le_trans (take_le _ _) (take_le r 2)
theorem textR_stuck (r : Rd) (h : r.bad = true) : (textR r).2.bad = true := by
  unfold textR
  split
  · rfl
  · exact take_stuck _ _ (take_stuck r 2 h)
theorem rd_eta {r : Rd} (h : r.bad = false) : r = ⟨r.s, false⟩ := by cases r; simp only at h; rw [h]
theorem num_step {B : Nat} {r : Rd} {x : Int} {r' : Rd} {w : World} (hx : numR r = (x, r')) (hb : r.bad = false) (hl : r.s.length ≤ 9223372036854775807) (k : At1 w B r.s) : Calls Try.prog 60 #[.pointer (some ⟨B, 0, none⟩)] w (Got w B (.int .i64 x) r') := by
  have h := pnum_rd k hl
  rw [← rd_eta hb, hx] at h
  exact h
theorem text_step {B : Nat} {r : Rd} {x : List UInt8} {r' : Rd} {w : World} (hx : textR r = (x, r')) (hb : r.bad = false) (hl : r.s.length ≤ 9223372036854775807) (k : At1 w B r.s) : Calls Try.prog 59 #[.pointer (some ⟨B, 0, none⟩)] w (Got w B (.string (mkB x)) r') := by
  have h := ptext_rd k hl
  rw [← rd_eta hb, hx] at h
  exact h
theorem flag_step {B : Nat} {r : Rd} {x : Bool} {r' : Rd} {w : World} (hx : flagR r = (x, r')) (hb : r.bad = false) (hl : r.s.length ≤ 9223372036854775807) (k : At1 w B r.s) : Calls Try.prog 74 #[.pointer (some ⟨B, 0, none⟩)] w (Got w B (.bool x) r') := by
  have h := pbool_rd k hl
  rw [← rd_eta hb, hx] at h
  exact h
theorem len_step {B : Nat} {r : Rd} {x : Nat} {r' : Rd} {w : World} (hx : lenR r = (x, r')) (hb : r.bad = false) (hl : r.s.length ≤ 9223372036854775807) (k : At1 w B r.s) : Calls Try.prog 58 #[.pointer (some ⟨B, 0, none⟩)] w (Got w B (.int .i64 (x : Nat)) r') := by
  have h := pbyte_rd k hl
  rw [← rd_eta hb, hx] at h
  exact h
theorem num_le {r : Rd} {x : Int} {r' : Rd} {n : Nat} (hx : numR r = (x, r')) (hl : r.s.length ≤ n) : r'.s.length ≤ n := by have := numR_le r; rw [hx] at this; exact Nat.le_trans this hl
theorem text_le' {r : Rd} {x : List UInt8} {r' : Rd} {n : Nat} (hx : textR r = (x, r')) (hl : r.s.length ≤ n) : r'.s.length ≤ n := by have := textR_le r; rw [hx] at this; exact Nat.le_trans this hl
theorem flag_le {r : Rd} {x : Bool} {r' : Rd} {n : Nat} (hx : flagR r = (x, r')) (hl : r.s.length ≤ n) : r'.s.length ≤ n := by have := flagR_le r; rw [hx] at this; exact Nat.le_trans this hl
theorem len_le {r : Rd} {x : Nat} {r' : Rd} {n : Nat} (hx : lenR r = (x, r')) (hl : r.s.length ≤ n) : r'.s.length ≤ n := by have := lenR_le r; rw [hx] at this; exact Nat.le_trans this hl
theorem num_stuck {r : Rd} {x : Int} {r' : Rd} (hx : numR r = (x, r')) (h : r.bad = true) : r'.bad = true := by have := numR_stuck r h; rw [hx] at this; exact this
theorem text_stuck {r : Rd} {x : List UInt8} {r' : Rd} (hx : textR r = (x, r')) (h : r.bad = true) : r'.bad = true := by have := textR_stuck r h; rw [hx] at this; exact this
theorem flag_stuck {r : Rd} {x : Bool} {r' : Rd} (hx : flagR r = (x, r')) (h : r.bad = true) : r'.bad = true := by have := flagR_stuck r h; rw [hx] at this; exact this
theorem len_stuck {r : Rd} {x : Nat} {r' : Rd} (hx : lenR r = (x, r')) (h : r.bad = true) : r'.bad = true := by have := lenR_stuck r h; rw [hx] at this; exact this
set_option maxHeartbeats 4000000 in
theorem prd1 {B : Nat} {w : World} (r0 : Rd) (r1 : Rd) (r2 : Rd) (x1 : List UInt8) (x2 : List UInt8) (e1 : textR r0 = (x1, r1)) (e2 : textR r1 = (x2, r2)) (hb0 : r0.bad = false) (hl : r0.s.length ≤ 9223372036854775807) (h : At1 w B r0.s) : Calls Try.prog 61 #[.pointer (some ⟨B, 0, none⟩), .int .u8 1] w (Got w B (.iface 64 (.agg #[.string (mkB x1), .string (mkB x2)])) r2) := by
  have hmi : ∀ (x : Value) (w : World), (Instr.makeInterface 64 x).run Try.prog w = .ok (.iface 64 x) w := fun x w => run_makeInterface _ _ _ (by kernel_rfl)
  have l0 := hl
  have l1 := text_le' e1 l0
  have l2 := text_le' e2 l1
  have S2 : Hid (r2.bad = true → r2.bad = true) := fun h => h
  have S1 : Hid (r1.bad = true → r2.bad = true) := fun h => S2.out (text_stuck e2 h)
  have C1 : Hid (∀ w', r0.bad = false → At1 w' B r0.s → Calls Try.prog 59 #[.pointer (some ⟨B, 0, none⟩)] w' (Got w' B (.string (mkB x1)) r1)) := fun w' hb k => text_step e1 hb l0 k
  have C2 : Hid (∀ w', r1.bad = false → At1 w' B r1.s → Calls Try.prog 59 #[.pointer (some ⟨B, 0, none⟩)] w' (Got w' B (.string (mkB x2)) r2)) := fun w' hb k => text_step e2 hb l1 k
  have Q0 : Hid (∀ wd, wd = w.drew → r0.bad = false ∧ At1 wd B r0.s ∧ w.grownBy wd (some B)) := fun wd e => by subst e; exact ⟨hb0, h, grown_below (grown_refl _ _) (Below.drew (Below.refl _ _))⟩
  clear h hl hb0 l0 l1 l2 e1 e2
  generalize mkB x1 = y1 at *
  generalize mkB x2 = y2 at *
  go_enter Try.func61, Try.ntmps61
  go_upto_region 3 with fail
  refine region_pure [0, 1, 2, 4, 5, 6] [3, 7, 8, 9, 10] (by kernel_rfl) (by kernel_rfl) (fun d _ _ _ _ h => by cases d <;> exact h) (fun wd hwd => ?_)
  simp only [List.filterMap_cons, List.filterMap_nil, List.getElem?_cons_zero, List.getElem?_cons_succ]
  replace Q0 := Lib.hid (Q0.out wd hwd.out)
  clear hwd
  repeat (refine Zo.wpPure_step (fun K hK => ?_); go_simp; refine hK _ ?_; clear hK K)
  refine Zo.wpPure_nil ?_
  go_wp2_with fail
  refine (C1.out _ Q0.out.1 Q0.out.2.1).mono ?_
  rintro e w1 ⟨G, (⟨hb, rfl, K⟩ | ⟨hb, rfl⟩)⟩
  rotate_left
  · have FE : Hid (Got w B (.iface 64 (.agg #[.string y1, .string y2])) r2 (.panicked [{ v := unr, recovered := false }]) w1) := ⟨grown_trans Q0.out.2.2 G, .inr ⟨S1.out hb, rfl⟩⟩
    clear G hb
    go_wp2_with fail
    exact ⟨rfl, FE.out⟩
  have Q1 : Hid (r1.bad = false ∧ At1 w1 B r1.s ∧ w.grownBy w1 (some B)) := ⟨hb, K, grown_trans Q0.out.2.2 G⟩
  clear G hb K C1 Q0
  go_wp2_with fail
  refine (C2.out _ Q1.out.1 Q1.out.2.1).mono ?_
  rintro e w2 ⟨G, (⟨hb, rfl, K⟩ | ⟨hb, rfl⟩)⟩
  rotate_left
  · have FE : Hid (Got w B (.iface 64 (.agg #[.string y1, .string y2])) r2 (.panicked [{ v := unr, recovered := false }]) w2) := ⟨grown_trans Q1.out.2.2 G, .inr ⟨S2.out hb, rfl⟩⟩
    clear G hb
    go_wp2_with fail
    exact ⟨rfl, FE.out⟩
  have Q2 : Hid (r2.bad = false ∧ At1 w2 B r2.s ∧ w.grownBy w2 (some B)) := ⟨hb, K, grown_trans Q1.out.2.2 G⟩
  clear G hb K C2 Q1
  have FE : Hid (Got w B (.iface 64 (.agg #[.string y1, .string y2])) r2 (.returned (.iface 64 (.agg #[.string y1, .string y2]))) w2) := ⟨Q2.out.2.2, .inl ⟨Q2.out.1, rfl, Q2.out.2.1⟩⟩
  go_wp2_with fail
  all_goals exact bodyPost_ret (v := .iface 64 (.agg #[.string y1, .string y2])) (by simp [results, Try.results61, go_sem]) rfl FE.out
set_option maxHeartbeats 4000000 in
theorem prd2 {B : Nat} {w : World} (r0 : Rd)    (hb0 : r0.bad = false) (hl : r0.s.length ≤ 9223372036854775807) (h : At1 w B r0.s) : Calls Try.prog 61 #[.pointer (some ⟨B, 0, none⟩), .int .u8 2] w (Got w B (.iface 28 (.agg #[])) r0) := by
  have hmi : ∀ (x : Value) (w : World), (Instr.makeInterface 28 x).run Try.prog w = .ok (.iface 28 x) w := fun x w => run_makeInterface _ _ _ (by kernel_rfl)
  have FE : Hid (Got w B (.iface 28 (.agg #[])) r0 (.returned (.iface 28 (.agg #[]))) w) := ⟨grown_refl _ _, .inl ⟨hb0, rfl, h⟩⟩
  clear h hl hb0
  go_enter Try.func61, Try.ntmps61
  go_wp2_with fail
  all_goals exact bodyPost_ret (v := .iface 28 (.agg #[])) (by simp [results, Try.results61, go_sem]) rfl FE.out
set_option maxHeartbeats 4000000 in
theorem prd3 {B : Nat} {w : World} (r0 : Rd) (r1 : Rd) (x1 : Int) (e1 : numR r0 = (x1, r1)) (hb0 : r0.bad = false) (hl : r0.s.length ≤ 9223372036854775807) (h : At1 w B r0.s) : Calls Try.prog 61 #[.pointer (some ⟨B, 0, none⟩), .int .u8 3] w (Got w B (.iface 66 (.agg #[.int .i64 x1])) r1) := by
  have hmi : ∀ (x : Value) (w : World), (Instr.makeInterface 66 x).run Try.prog w = .ok (.iface 66 x) w := fun x w => run_makeInterface _ _ _ (by kernel_rfl)
  have l0 := hl
  have l1 := num_le e1 l0
  have S1 : Hid (r1.bad = true → r1.bad = true) := fun h => h
  have C1 : Hid (∀ w', r0.bad = false → At1 w' B r0.s → Calls Try.prog 60 #[.pointer (some ⟨B, 0, none⟩)] w' (Got w' B (.int .i64 x1) r1)) := fun w' hb k => num_step e1 hb l0 k
  have Q0 : Hid (r0.bad = false ∧ At1 w B r0.s ∧ w.grownBy w (some B)) := ⟨hb0, h, grown_refl _ _⟩
  clear h hl hb0 l0 l1 e1
  go_enter Try.func61, Try.ntmps61
  go_wp2_with fail
  refine (C1.out _ Q0.out.1 Q0.out.2.1).mono ?_
  rintro e w1 ⟨G, (⟨hb, rfl, K⟩ | ⟨hb, rfl⟩)⟩
  rotate_left
  · have FE : Hid (Got w B (.iface 66 (.agg #[.int .i64 x1])) r1 (.panicked [{ v := unr, recovered := false }]) w1) := ⟨grown_trans Q0.out.2.2 G, .inr ⟨S1.out hb, rfl⟩⟩
    clear G hb
    go_wp2_with fail
    exact ⟨rfl, FE.out⟩
  have Q1 : Hid (r1.bad = false ∧ At1 w1 B r1.s ∧ w.grownBy w1 (some B)) := ⟨hb, K, grown_trans Q0.out.2.2 G⟩
  clear G hb K C1 Q0
  have FE : Hid (Got w B (.iface 66 (.agg #[.int .i64 x1])) r1 (.returned (.iface 66 (.agg #[.int .i64 x1]))) w1) := ⟨Q1.out.2.2, .inl ⟨Q1.out.1, rfl, Q1.out.2.1⟩⟩
  go_wp2_with fail
  all_goals exact bodyPost_ret (v := .iface 66 (.agg #[.int .i64 x1])) (by simp [results, Try.results61, go_sem]) rfl FE.out
set_option maxHeartbeats 4000000 in
theorem prd4 {B : Nat} {w : World} (r0 : Rd) (r1 : Rd) (r2 : Rd) (r3 : Rd) (r4 : Rd) (x1 : Int) (x2 : Int) (x3 : Int) (x4 : List UInt8) (e1 : numR r0 = (x1, r1)) (e2 : numR r1 = (x2, r2)) (e3 : numR r2 = (x3, r3)) (e4 : textR r3 = (x4, r4)) (hb0 : r0.bad = false) (hl : r0.s.length ≤ 9223372036854775807) (h : At1 w B r0.s) : Calls Try.prog 61 #[.pointer (some ⟨B, 0, none⟩), .int .u8 4] w (Got w B (.iface 68 (.agg #[.int .i64 x1, .int .i64 x2, .int .i64 x3, .string (mkB x4)])) r4) := by
  have hmi : ∀ (x : Value) (w : World), (Instr.makeInterface 68 x).run Try.prog w = .ok (.iface 68 x) w := fun x w => run_makeInterface _ _ _ (by kernel_rfl)
  have l0 := hl
  have l1 := num_le e1 l0
  have l2 := num_le e2 l1
  have l3 := num_le e3 l2
  have l4 := text_le' e4 l3
  have S4 : Hid (r4.bad = true → r4.bad = true) := fun h => h
  have S3 : Hid (r3.bad = true → r4.bad = true) := fun h => S4.out (text_stuck e4 h)
  have S2 : Hid (r2.bad = true → r4.bad = true) := fun h => S3.out (num_stuck e3 h)
  have S1 : Hid (r1.bad = true → r4.bad = true) := fun h => S2.out (num_stuck e2 h)
  have C1 : Hid (∀ w', r0.bad = false → At1 w' B r0.s → Calls Try.prog 60 #[.pointer (some ⟨B, 0, none⟩)] w' (Got w' B (.int .i64 x1) r1)) := fun w' hb k => num_step e1 hb l0 k
  have C2 : Hid (∀ w', r1.bad = false → At1 w' B r1.s → Calls Try.prog 60 #[.pointer (some ⟨B, 0, none⟩)] w' (Got w' B (.int .i64 x2) r2)) := fun w' hb k => num_step e2 hb l1 k
  have C3 : Hid (∀ w', r2.bad = false → At1 w' B r2.s → Calls Try.prog 60 #[.pointer (some ⟨B, 0, none⟩)] w' (Got w' B (.int .i64 x3) r3)) := fun w' hb k => num_step e3 hb l2 k
  have C4 : Hid (∀ w', r3.bad = false → At1 w' B r3.s → Calls Try.prog 59 #[.pointer (some ⟨B, 0, none⟩)] w' (Got w' B (.string (mkB x4)) r4)) := fun w' hb k => text_step e4 hb l3 k
  have Q0 : Hid (∀ wd, wd = w.drew → r0.bad = false ∧ At1 wd B r0.s ∧ w.grownBy wd (some B)) := fun wd e => by subst e; exact ⟨hb0, h, grown_below (grown_refl _ _) (Below.drew (Below.refl _ _))⟩
  clear h hl hb0 l0 l1 l2 l3 l4 e1 e2 e3 e4
  generalize mkB x4 = y4 at *
  go_enter Try.func61, Try.ntmps61
  go_upto_region 9 with fail
  refine region_pure [0, 1, 2, 4, 5, 6, 8, 9, 10, 12, 13, 14] [3, 7, 11, 15, 16, 17, 18] (by kernel_rfl) (by kernel_rfl) (fun d _ _ _ _ h => by cases d <;> exact h) (fun wd hwd => ?_)
  simp only [List.filterMap_cons, List.filterMap_nil, List.getElem?_cons_zero, List.getElem?_cons_succ]
  replace Q0 := Lib.hid (Q0.out wd hwd.out)
  clear hwd
  repeat (refine Zo.wpPure_step (fun K hK => ?_); go_simp; refine hK _ ?_; clear hK K)
  refine Zo.wpPure_nil ?_
  go_wp2_with fail
  refine (C1.out _ Q0.out.1 Q0.out.2.1).mono ?_
  rintro e w1 ⟨G, (⟨hb, rfl, K⟩ | ⟨hb, rfl⟩)⟩
  rotate_left
  · have FE : Hid (Got w B (.iface 68 (.agg #[.int .i64 x1, .int .i64 x2, .int .i64 x3, .string y4])) r4 (.panicked [{ v := unr, recovered := false }]) w1) := ⟨grown_trans Q0.out.2.2 G, .inr ⟨S1.out hb, rfl⟩⟩
    clear G hb
    go_wp2_with fail
    exact ⟨rfl, FE.out⟩
  have Q1 : Hid (r1.bad = false ∧ At1 w1 B r1.s ∧ w.grownBy w1 (some B)) := ⟨hb, K, grown_trans Q0.out.2.2 G⟩
  clear G hb K C1 Q0
  go_wp2_with fail
  refine (C2.out _ Q1.out.1 Q1.out.2.1).mono ?_
  rintro e w2 ⟨G, (⟨hb, rfl, K⟩ | ⟨hb, rfl⟩)⟩
  rotate_left
  · have FE : Hid (Got w B (.iface 68 (.agg #[.int .i64 x1, .int .i64 x2, .int .i64 x3, .string y4])) r4 (.panicked [{ v := unr, recovered := false }]) w2) := ⟨grown_trans Q1.out.2.2 G, .inr ⟨S2.out hb, rfl⟩⟩
    clear G hb
    go_wp2_with fail
    exact ⟨rfl, FE.out⟩
  have Q2 : Hid (r2.bad = false ∧ At1 w2 B r2.s ∧ w.grownBy w2 (some B)) := ⟨hb, K, grown_trans Q1.out.2.2 G⟩
  clear G hb K C2 Q1
  go_wp2_with fail
  refine (C3.out _ Q2.out.1 Q2.out.2.1).mono ?_
  rintro e w3 ⟨G, (⟨hb, rfl, K⟩ | ⟨hb, rfl⟩)⟩
  rotate_left
  · have FE : Hid (Got w B (.iface 68 (.agg #[.int .i64 x1, .int .i64 x2, .int .i64 x3, .string y4])) r4 (.panicked [{ v := unr, recovered := false }]) w3) := ⟨grown_trans Q2.out.2.2 G, .inr ⟨S3.out hb, rfl⟩⟩
    clear G hb
    go_wp2_with fail
    exact ⟨rfl, FE.out⟩
  have Q3 : Hid (r3.bad = false ∧ At1 w3 B r3.s ∧ w.grownBy w3 (some B)) := ⟨hb, K, grown_trans Q2.out.2.2 G⟩
  clear G hb K C3 Q2
  go_wp2_with fail
  refine (C4.out _ Q3.out.1 Q3.out.2.1).mono ?_
  rintro e w4 ⟨G, (⟨hb, rfl, K⟩ | ⟨hb, rfl⟩)⟩
  rotate_left
  · have FE : Hid (Got w B (.iface 68 (.agg #[.int .i64 x1, .int .i64 x2, .int .i64 x3, .string y4])) r4 (.panicked [{ v := unr, recovered := false }]) w4) := ⟨grown_trans Q3.out.2.2 G, .inr ⟨S4.out hb, rfl⟩⟩
    clear G hb
    go_wp2_with fail
    exact ⟨rfl, FE.out⟩
  have Q4 : Hid (r4.bad = false ∧ At1 w4 B r4.s ∧ w.grownBy w4 (some B)) := ⟨hb, K, grown_trans Q3.out.2.2 G⟩
  clear G hb K C4 Q3
  have FE : Hid (Got w B (.iface 68 (.agg #[.int .i64 x1, .int .i64 x2, .int .i64 x3, .string y4])) r4 (.returned (.iface 68 (.agg #[.int .i64 x1, .int .i64 x2, .int .i64 x3, .string y4]))) w4) := ⟨Q4.out.2.2, .inl ⟨Q4.out.1, rfl, Q4.out.2.1⟩⟩
  go_wp2_with fail
  all_goals exact bodyPost_ret (v := .iface 68 (.agg #[.int .i64 x1, .int .i64 x2, .int .i64 x3, .string y4])) (by simp [results, Try.results61, go_sem]) rfl FE.out
set_option maxHeartbeats 4000000 in
theorem prd5 {B : Nat} {w : World} (r0 : Rd) (r1 : Rd) (r2 : Rd) (r3 : Rd) (r4 : Rd) (x1 : Int) (x2 : Int) (x3 : Int) (x4 : Int) (e1 : numR r0 = (x1, r1)) (e2 : numR r1 = (x2, r2)) (e3 : numR r2 = (x3, r3)) (e4 : numR r3 = (x4, r4)) (hb0 : r0.bad = false) (hl : r0.s.length ≤ 9223372036854775807) (h : At1 w B r0.s) : Calls Try.prog 61 #[.pointer (some ⟨B, 0, none⟩), .int .u8 5] w (Got w B (.iface 70 (.agg #[.int .i64 x1, .int .i64 x2, .int .i64 x3, .int .i64 x4])) r4) := by
  have hmi : ∀ (x : Value) (w : World), (Instr.makeInterface 70 x).run Try.prog w = .ok (.iface 70 x) w := fun x w => run_makeInterface _ _ _ (by kernel_rfl)
  have l0 := hl
  have l1 := num_le e1 l0
  have l2 := num_le e2 l1
  have l3 := num_le e3 l2
  have l4 := num_le e4 l3
  have S4 : Hid (r4.bad = true → r4.bad = true) := fun h => h
  have S3 : Hid (r3.bad = true → r4.bad = true) := fun h => S4.out (num_stuck e4 h)
  have S2 : Hid (r2.bad = true → r4.bad = true) := fun h => S3.out (num_stuck e3 h)
  have S1 : Hid (r1.bad = true → r4.bad = true) := fun h => S2.out (num_stuck e2 h)
  have C1 : Hid (∀ w', r0.bad = false → At1 w' B r0.s → Calls Try.prog 60 #[.pointer (some ⟨B, 0, none⟩)] w' (Got w' B (.int .i64 x1) r1)) := fun w' hb k => num_step e1 hb l0 k
  have C2 : Hid (∀ w', r1.bad = false → At1 w' B r1.s → Calls Try.prog 60 #[.pointer (some ⟨B, 0, none⟩)] w' (Got w' B (.int .i64 x2) r2)) := fun w' hb k => num_step e2 hb l1 k
  have C3 : Hid (∀ w', r2.bad = false → At1 w' B r2.s → Calls Try.prog 60 #[.pointer (some ⟨B, 0, none⟩)] w' (Got w' B (.int .i64 x3) r3)) := fun w' hb k => num_step e3 hb l2 k
  have C4 : Hid (∀ w', r3.bad = false → At1 w' B r3.s → Calls Try.prog 60 #[.pointer (some ⟨B, 0, none⟩)] w' (Got w' B (.int .i64 x4) r4)) := fun w' hb k => num_step e4 hb l3 k
  have Q0 : Hid (∀ wd, wd = w.drew → r0.bad = false ∧ At1 wd B r0.s ∧ w.grownBy wd (some B)) := fun wd e => by subst e; exact ⟨hb0, h, grown_below (grown_refl _ _) (Below.drew (Below.refl _ _))⟩
  clear h hl hb0 l0 l1 l2 l3 l4 e1 e2 e3 e4
  go_enter Try.func61, Try.ntmps61
  go_upto_region 11 with fail
  refine region_pure [0, 1, 2, 4, 5, 6, 8, 9, 10, 12, 13, 14] [3, 7, 11, 15, 16, 17, 18] (by kernel_rfl) (by kernel_rfl) (fun d _ _ _ _ h => by cases d <;> exact h) (fun wd hwd => ?_)
  simp only [List.filterMap_cons, List.filterMap_nil, List.getElem?_cons_zero, List.getElem?_cons_succ]
  replace Q0 := Lib.hid (Q0.out wd hwd.out)
  clear hwd
  repeat (refine Zo.wpPure_step (fun K hK => ?_); go_simp; refine hK _ ?_; clear hK K)
  refine Zo.wpPure_nil ?_
  go_wp2_with fail
  refine (C1.out _ Q0.out.1 Q0.out.2.1).mono ?_
  rintro e w1 ⟨G, (⟨hb, rfl, K⟩ | ⟨hb, rfl⟩)⟩
  rotate_left
  · have FE : Hid (Got w B (.iface 70 (.agg #[.int .i64 x1, .int .i64 x2, .int .i64 x3, .int .i64 x4])) r4 (.panicked [{ v := unr, recovered := false }]) w1) := ⟨grown_trans Q0.out.2.2 G, .inr ⟨S1.out hb, rfl⟩⟩
    clear G hb
    go_wp2_with fail
    exact ⟨rfl, FE.out⟩
  have Q1 : Hid (r1.bad = false ∧ At1 w1 B r1.s ∧ w.grownBy w1 (some B)) := ⟨hb, K, grown_trans Q0.out.2.2 G⟩
  clear G hb K C1 Q0
  go_wp2_with fail
  refine (C2.out _ Q1.out.1 Q1.out.2.1).mono ?_
  rintro e w2 ⟨G, (⟨hb, rfl, K⟩ | ⟨hb, rfl⟩)⟩
  rotate_left
  · have FE : Hid (Got w B (.iface 70 (.agg #[.int .i64 x1, .int .i64 x2, .int .i64 x3, .int .i64 x4])) r4 (.panicked [{ v := unr, recovered := false }]) w2) := ⟨grown_trans Q1.out.2.2 G, .inr ⟨S2.out hb, rfl⟩⟩
    clear G hb
    go_wp2_with fail
    exact ⟨rfl, FE.out⟩
  have Q2 : Hid (r2.bad = false ∧ At1 w2 B r2.s ∧ w.grownBy w2 (some B)) := ⟨hb, K, grown_trans Q1.out.2.2 G⟩
  clear G hb K C2 Q1
  go_wp2_with fail
  refine (C3.out _ Q2.out.1 Q2.out.2.1).mono ?_
  rintro e w3 ⟨G, (⟨hb, rfl, K⟩ | ⟨hb, rfl⟩)⟩
  rotate_left
  · have FE : Hid (Got w B (.iface 70 (.agg #[.int .i64 x1, .int .i64 x2, .int .i64 x3, .int .i64 x4])) r4 (.panicked [{ v := unr, recovered := false }]) w3) := ⟨grown_trans Q2.out.2.2 G, .inr ⟨S3.out hb, rfl⟩⟩
    clear G hb
    go_wp2_with fail
    exact ⟨rfl, FE.out⟩
  have Q3 : Hid (r3.bad = false ∧ At1 w3 B r3.s ∧ w.grownBy w3 (some B)) := ⟨hb, K, grown_trans Q2.out.2.2 G⟩
  clear G hb K C3 Q2
  go_wp2_with fail
  refine (C4.out _ Q3.out.1 Q3.out.2.1).mono ?_
  rintro e w4 ⟨G, (⟨hb, rfl, K⟩ | ⟨hb, rfl⟩)⟩
  rotate_left
  · have FE : Hid (Got w B (.iface 70 (.agg #[.int .i64 x1, .int .i64 x2, .int .i64 x3, .int .i64 x4])) r4 (.panicked [{ v := unr, recovered := false }]) w4) := ⟨grown_trans Q3.out.2.2 G, .inr ⟨S4.out hb, rfl⟩⟩
    clear G hb
    go_wp2_with fail
    exact ⟨rfl, FE.out⟩
  have Q4 : Hid (r4.bad = false ∧ At1 w4 B r4.s ∧ w.grownBy w4 (some B)) := ⟨hb, K, grown_trans Q3.out.2.2 G⟩
  clear G hb K C4 Q3
  have FE : Hid (Got w B (.iface 70 (.agg #[.int .i64 x1, .int .i64 x2, .int .i64 x3, .int .i64 x4])) r4 (.returned (.iface 70 (.agg #[.int .i64 x1, .int .i64 x2, .int .i64 x3, .int .i64 x4]))) w4) := ⟨Q4.out.2.2, .inl ⟨Q4.out.1, rfl, Q4.out.2.1⟩⟩
  go_wp2_with fail
  all_goals exact bodyPost_ret (v := .iface 70 (.agg #[.int .i64 x1, .int .i64 x2, .int .i64 x3, .int .i64 x4])) (by simp [results, Try.results61, go_sem]) rfl FE.out
set_option maxHeartbeats 4000000 in
theorem prd6 {B : Nat} {w : World} (r0 : Rd) (r1 : Rd) (r2 : Rd) (r3 : Rd) (r4 : Rd) (r5 : Rd) (x1 : Int) (x2 : Int) (x3 : Int) (x4 : Int) (x5 : Int) (e1 : numR r0 = (x1, r1)) (e2 : numR r1 = (x2, r2)) (e3 : numR r2 = (x3, r3)) (e4 : numR r3 = (x4, r4)) (e5 : numR r4 = (x5, r5)) (hb0 : r0.bad = false) (hl : r0.s.length ≤ 9223372036854775807) (h : At1 w B r0.s) : Calls Try.prog 61 #[.pointer (some ⟨B, 0, none⟩), .int .u8 6] w (Got w B (.iface 72 (.agg #[.int .i64 x1, .int .i64 x2, .int .i64 x3, .int .i64 x4, .int .i64 x5])) r5) := by
  have hmi : ∀ (x : Value) (w : World), (Instr.makeInterface 72 x).run Try.prog w = .ok (.iface 72 x) w := fun x w => run_makeInterface _ _ _ (by kernel_rfl)
  have l0 := hl
  have l1 := num_le e1 l0
  have l2 := num_le e2 l1
  have l3 := num_le e3 l2
  have l4 := num_le e4 l3
  have l5 := num_le e5 l4
  have S5 : Hid (r5.bad = true → r5.bad = true) := fun h => h
  have S4 : Hid (r4.bad = true → r5.bad = true) := fun h => S5.out (num_stuck e5 h)
  have S3 : Hid (r3.bad = true → r5.bad = true) := fun h => S4.out (num_stuck e4 h)
  have S2 : Hid (r2.bad = true → r5.bad = true) := fun h => S3.out (num_stuck e3 h)
  have S1 : Hid (r1.bad = true → r5.bad = true) := fun h => S2.out (num_stuck e2 h)
  have C1 : Hid (∀ w', r0.bad = false → At1 w' B r0.s → Calls Try.prog 60 #[.pointer (some ⟨B, 0, none⟩)] w' (Got w' B (.int .i64 x1) r1)) := fun w' hb k => num_step e1 hb l0 k
  have C2 : Hid (∀ w', r1.bad = false → At1 w' B r1.s → Calls Try.prog 60 #[.pointer (some ⟨B, 0, none⟩)] w' (Got w' B (.int .i64 x2) r2)) := fun w' hb k => num_step e2 hb l1 k
  have C3 : Hid (∀ w', r2.bad = false → At1 w' B r2.s → Calls Try.prog 60 #[.pointer (some ⟨B, 0, none⟩)] w' (Got w' B (.int .i64 x3) r3)) := fun w' hb k => num_step e3 hb l2 k
  have C4 : Hid (∀ w', r3.bad = false → At1 w' B r3.s → Calls Try.prog 60 #[.pointer (some ⟨B, 0, none⟩)] w' (Got w' B (.int .i64 x4) r4)) := fun w' hb k => num_step e4 hb l3 k
  have C5 : Hid (∀ w', r4.bad = false → At1 w' B r4.s → Calls Try.prog 60 #[.pointer (some ⟨B, 0, none⟩)] w' (Got w' B (.int .i64 x5) r5)) := fun w' hb k => num_step e5 hb l4 k
  have Q0 : Hid (∀ wd, wd = w.drew → r0.bad = false ∧ At1 wd B r0.s ∧ w.grownBy wd (some B)) := fun wd e => by subst e; exact ⟨hb0, h, grown_below (grown_refl _ _) (Below.drew (Below.refl _ _))⟩
  clear h hl hb0 l0 l1 l2 l3 l4 l5 e1 e2 e3 e4 e5
  go_enter Try.func61, Try.ntmps61
  go_upto_region 13 with fail
  refine region_pure [0, 1, 2, 4, 5, 6, 8, 9, 10, 12, 13, 14, 16, 17, 18] [3, 7, 11, 15, 19, 20, 21, 22] (by kernel_rfl) (by kernel_rfl) (fun d _ _ _ _ h => by cases d <;> exact h) (fun wd hwd => ?_)
  simp only [List.filterMap_cons, List.filterMap_nil, List.getElem?_cons_zero, List.getElem?_cons_succ]
  replace Q0 := Lib.hid (Q0.out wd hwd.out)
  clear hwd
  repeat (refine Zo.wpPure_step (fun K hK => ?_); go_simp; refine hK _ ?_; clear hK K)
  refine Zo.wpPure_nil ?_
  go_wp2_with fail
  refine (C1.out _ Q0.out.1 Q0.out.2.1).mono ?_
  rintro e w1 ⟨G, (⟨hb, rfl, K⟩ | ⟨hb, rfl⟩)⟩
  rotate_left
  · have FE : Hid (Got w B (.iface 72 (.agg #[.int .i64 x1, .int .i64 x2, .int .i64 x3, .int .i64 x4, .int .i64 x5])) r5 (.panicked [{ v := unr, recovered := false }]) w1) := ⟨grown_trans Q0.out.2.2 G, .inr ⟨S1.out hb, rfl⟩⟩
    clear G hb
    go_wp2_with fail
    exact ⟨rfl, FE.out⟩
  have Q1 : Hid (r1.bad = false ∧ At1 w1 B r1.s ∧ w.grownBy w1 (some B)) := ⟨hb, K, grown_trans Q0.out.2.2 G⟩
  clear G hb K C1 Q0
  go_wp2_with fail
  refine (C2.out _ Q1.out.1 Q1.out.2.1).mono ?_
  rintro e w2 ⟨G, (⟨hb, rfl, K⟩ | ⟨hb, rfl⟩)⟩
  rotate_left
  · have FE : Hid (Got w B (.iface 72 (.agg #[.int .i64 x1, .int .i64 x2, .int .i64 x3, .int .i64 x4, .int .i64 x5])) r5 (.panicked [{ v := unr, recovered := false }]) w2) := ⟨grown_trans Q1.out.2.2 G, .inr ⟨S2.out hb, rfl⟩⟩
    clear G hb
    go_wp2_with fail
    exact ⟨rfl, FE.out⟩
  have Q2 : Hid (r2.bad = false ∧ At1 w2 B r2.s ∧ w.grownBy w2 (some B)) := ⟨hb, K, grown_trans Q1.out.2.2 G⟩
  clear G hb K C2 Q1
  go_wp2_with fail
  refine (C3.out _ Q2.out.1 Q2.out.2.1).mono ?_
  rintro e w3 ⟨G, (⟨hb, rfl, K⟩ | ⟨hb, rfl⟩)⟩
  rotate_left
  · have FE : Hid (Got w B (.iface 72 (.agg #[.int .i64 x1, .int .i64 x2, .int .i64 x3, .int .i64 x4, .int .i64 x5])) r5 (.panicked [{ v := unr, recovered := false }]) w3) := ⟨grown_trans Q2.out.2.2 G, .inr ⟨S3.out hb, rfl⟩⟩
    clear G hb
    go_wp2_with fail
    exact ⟨rfl, FE.out⟩
  have Q3 : Hid (r3.bad = false ∧ At1 w3 B r3.s ∧ w.grownBy w3 (some B)) := ⟨hb, K, grown_trans Q2.out.2.2 G⟩
  clear G hb K C3 Q2
  go_wp2_with fail
  refine (C4.out _ Q3.out.1 Q3.out.2.1).mono ?_
  rintro e w4 ⟨G, (⟨hb, rfl, K⟩ | ⟨hb, rfl⟩)⟩
  rotate_left
  · have FE : Hid (Got w B (.iface 72 (.agg #[.int .i64 x1, .int .i64 x2, .int .i64 x3, .int .i64 x4, .int .i64 x5])) r5 (.panicked [{ v := unr, recovered := false }]) w4) := ⟨grown_trans Q3.out.2.2 G, .inr ⟨S4.out hb, rfl⟩⟩
    clear G hb
    go_wp2_with fail
    exact ⟨rfl, FE.out⟩
  have Q4 : Hid (r4.bad = false ∧ At1 w4 B r4.s ∧ w.grownBy w4 (some B)) := ⟨hb, K, grown_trans Q3.out.2.2 G⟩
  clear G hb K C4 Q3
  go_wp2_with fail
  refine (C5.out _ Q4.out.1 Q4.out.2.1).mono ?_
  rintro e w5 ⟨G, (⟨hb, rfl, K⟩ | ⟨hb, rfl⟩)⟩
  rotate_left
  · have FE : Hid (Got w B (.iface 72 (.agg #[.int .i64 x1, .int .i64 x2, .int .i64 x3, .int .i64 x4, .int .i64 x5])) r5 (.panicked [{ v := unr, recovered := false }]) w5) := ⟨grown_trans Q4.out.2.2 G, .inr ⟨S5.out hb, rfl⟩⟩
    clear G hb
    go_wp2_with fail
    exact ⟨rfl, FE.out⟩
  have Q5 : Hid (r5.bad = false ∧ At1 w5 B r5.s ∧ w.grownBy w5 (some B)) := ⟨hb, K, grown_trans Q4.out.2.2 G⟩
  clear G hb K C5 Q4
  have FE : Hid (Got w B (.iface 72 (.agg #[.int .i64 x1, .int .i64 x2, .int .i64 x3, .int .i64 x4, .int .i64 x5])) r5 (.returned (.iface 72 (.agg #[.int .i64 x1, .int .i64 x2, .int .i64 x3, .int .i64 x4, .int .i64 x5]))) w5) := ⟨Q5.out.2.2, .inl ⟨Q5.out.1, rfl, Q5.out.2.1⟩⟩
  go_wp2_with fail
  all_goals exact bodyPost_ret (v := .iface 72 (.agg #[.int .i64 x1, .int .i64 x2, .int .i64 x3, .int .i64 x4, .int .i64 x5])) (by simp [results, Try.results61, go_sem]) rfl FE.out
set_option maxHeartbeats 4000000 in
theorem prd7 {B : Nat} {w : World} (r0 : Rd) (r1 : Rd) (r2 : Rd) (r3 : Rd) (r4 : Rd) (r5 : Rd) (r6 : Rd) (x1 : Int) (x2 : Int) (x3 : Int) (x4 : Int) (x5 : Int) (x6 : Int) (e1 : numR r0 = (x1, r1)) (e2 : numR r1 = (x2, r2)) (e3 : numR r2 = (x3, r3)) (e4 : numR r3 = (x4, r4)) (e5 : numR r4 = (x5, r5)) (e6 : numR r5 = (x6, r6)) (hb0 : r0.bad = false) (hl : r0.s.length ≤ 9223372036854775807) (h : At1 w B r0.s) : Calls Try.prog 61 #[.pointer (some ⟨B, 0, none⟩), .int .u8 7] w (Got w B (.iface 74 (.agg #[.int .i64 x1, .int .i64 x2, .int .i64 x3, .int .i64 x4, .int .i64 x5, .int .i64 x6])) r6) := by
  have hmi : ∀ (x : Value) (w : World), (Instr.makeInterface 74 x).run Try.prog w = .ok (.iface 74 x) w := fun x w => run_makeInterface _ _ _ (by kernel_rfl)
  have l0 := hl
  have l1 := num_le e1 l0
  have l2 := num_le e2 l1
  have l3 := num_le e3 l2
  have l4 := num_le e4 l3
  have l5 := num_le e5 l4
  have l6 := num_le e6 l5
  have S6 : Hid (r6.bad = true → r6.bad = true) := fun h => h
  have S5 : Hid (r5.bad = true → r6.bad = true) := fun h => S6.out (num_stuck e6 h)
  have S4 : Hid (r4.bad = true → r6.bad = true) := fun h => S5.out (num_stuck e5 h)
  have S3 : Hid (r3.bad = true → r6.bad = true) := fun h => S4.out (num_stuck e4 h)
  have S2 : Hid (r2.bad = true → r6.bad = true) := fun h => S3.out (num_stuck e3 h)
  have S1 : Hid (r1.bad = true → r6.bad = true) := fun h => S2.out (num_stuck e2 h)
  have C1 : Hid (∀ w', r0.bad = false → At1 w' B r0.s → Calls Try.prog 60 #[.pointer (some ⟨B, 0, none⟩)] w' (Got w' B (.int .i64 x1) r1)) := fun w' hb k => num_step e1 hb l0 k
  have C2 : Hid (∀ w', r1.bad = false → At1 w' B r1.s → Calls Try.prog 60 #[.pointer (some ⟨B, 0, none⟩)] w' (Got w' B (.int .i64 x2) r2)) := fun w' hb k => num_step e2 hb l1 k
  have C3 : Hid (∀ w', r2.bad = false → At1 w' B r2.s → Calls Try.prog 60 #[.pointer (some ⟨B, 0, none⟩)] w' (Got w' B (.int .i64 x3) r3)) := fun w' hb k => num_step e3 hb l2 k
  have C4 : Hid (∀ w', r3.bad = false → At1 w' B r3.s → Calls Try.prog 60 #[.pointer (some ⟨B, 0, none⟩)] w' (Got w' B (.int .i64 x4) r4)) := fun w' hb k => num_step e4 hb l3 k
  have C5 : Hid (∀ w', r4.bad = false → At1 w' B r4.s → Calls Try.prog 60 #[.pointer (some ⟨B, 0, none⟩)] w' (Got w' B (.int .i64 x5) r5)) := fun w' hb k => num_step e5 hb l4 k
  have C6 : Hid (∀ w', r5.bad = false → At1 w' B r5.s → Calls Try.prog 60 #[.pointer (some ⟨B, 0, none⟩)] w' (Got w' B (.int .i64 x6) r6)) := fun w' hb k => num_step e6 hb l5 k
  have Q0 : Hid (∀ wd, wd = w.drew → r0.bad = false ∧ At1 wd B r0.s ∧ w.grownBy wd (some B)) := fun wd e => by subst e; exact ⟨hb0, h, grown_below (grown_refl _ _) (Below.drew (Below.refl _ _))⟩
  clear h hl hb0 l0 l1 l2 l3 l4 l5 l6 e1 e2 e3 e4 e5 e6
  go_enter Try.func61, Try.ntmps61
  go_upto_region 15 with fail
  refine region_pure [0, 1, 2, 4, 5, 6, 8, 9, 10, 12, 13, 14, 16, 17, 18, 20, 21, 22] [3, 7, 11, 15, 19, 23, 24, 25, 26] (by kernel_rfl) (by kernel_rfl) (fun d _ _ _ _ h => by cases d <;> exact h) (fun wd hwd => ?_)
  simp only [List.filterMap_cons, List.filterMap_nil, List.getElem?_cons_zero, List.getElem?_cons_succ]
  replace Q0 := Lib.hid (Q0.out wd hwd.out)
  clear hwd
  repeat (refine Zo.wpPure_step (fun K hK => ?_); go_simp; refine hK _ ?_; clear hK K)
  refine Zo.wpPure_nil ?_
  go_wp2_with fail
  refine (C1.out _ Q0.out.1 Q0.out.2.1).mono ?_
  rintro e w1 ⟨G, (⟨hb, rfl, K⟩ | ⟨hb, rfl⟩)⟩
  rotate_left
  · have FE : Hid (Got w B (.iface 74 (.agg #[.int .i64 x1, .int .i64 x2, .int .i64 x3, .int .i64 x4, .int .i64 x5, .int .i64 x6])) r6 (.panicked [{ v := unr, recovered := false }]) w1) := ⟨grown_trans Q0.out.2.2 G, .inr ⟨S1.out hb, rfl⟩⟩
    clear G hb
    go_wp2_with fail
    exact ⟨rfl, FE.out⟩
  have Q1 : Hid (r1.bad = false ∧ At1 w1 B r1.s ∧ w.grownBy w1 (some B)) := ⟨hb, K, grown_trans Q0.out.2.2 G⟩
  clear G hb K C1 Q0
  go_wp2_with fail
  refine (C2.out _ Q1.out.1 Q1.out.2.1).mono ?_
  rintro e w2 ⟨G, (⟨hb, rfl, K⟩ | ⟨hb, rfl⟩)⟩
  rotate_left
  · have FE : Hid (Got w B (.iface 74 (.agg #[.int .i64 x1, .int .i64 x2, .int .i64 x3, .int .i64 x4, .int .i64 x5, .int .i64 x6])) r6 (.panicked [{ v := unr, recovered := false }]) w2) := ⟨grown_trans Q1.out.2.2 G, .inr ⟨S2.out hb, rfl⟩⟩
    clear G hb
    go_wp2_with fail
    exact ⟨rfl, FE.out⟩
  have Q2 : Hid (r2.bad = false ∧ At1 w2 B r2.s ∧ w.grownBy w2 (some B)) := ⟨hb, K, grown_trans Q1.out.2.2 G⟩
  clear G hb K C2 Q1
  go_wp2_with fail
  refine (C3.out _ Q2.out.1 Q2.out.2.1).mono ?_
  rintro e w3 ⟨G, (⟨hb, rfl, K⟩ | ⟨hb, rfl⟩)⟩
  rotate_left
  · have FE : Hid (Got w B (.iface 74 (.agg #[.int .i64 x1, .int .i64 x2, .int .i64 x3, .int .i64 x4, .int .i64 x5, .int .i64 x6])) r6 (.panicked [{ v := unr, recovered := false }]) w3) := ⟨grown_trans Q2.out.2.2 G, .inr ⟨S3.out hb, rfl⟩⟩
    clear G hb
    go_wp2_with fail
    exact ⟨rfl, FE.out⟩
  have Q3 : Hid (r3.bad = false ∧ At1 w3 B r3.s ∧ w.grownBy w3 (some B)) := ⟨hb, K, grown_trans Q2.out.2.2 G⟩
  clear G hb K C3 Q2
  go_wp2_with fail
  refine (C4.out _ Q3.out.1 Q3.out.2.1).mono ?_
  rintro e w4 ⟨G, (⟨hb, rfl, K⟩ | ⟨hb, rfl⟩)⟩
  rotate_left
  · have FE : Hid (Got w B (.iface 74 (.agg #[.int .i64 x1, .int .i64 x2, .int .i64 x3, .int .i64 x4, .int .i64 x5, .int .i64 x6])) r6 (.panicked [{ v := unr, recovered := false }]) w4) := ⟨grown_trans Q3.out.2.2 G, .inr ⟨S4.out hb, rfl⟩⟩
    clear G hb
    go_wp2_with fail
    exact ⟨rfl, FE.out⟩
  have Q4 : Hid (r4.bad = false ∧ At1 w4 B r4.s ∧ w.grownBy w4 (some B)) := ⟨hb, K, grown_trans Q3.out.2.2 G⟩
  clear G hb K C4 Q3
  go_wp2_with fail
  refine (C5.out _ Q4.out.1 Q4.out.2.1).mono ?_
  rintro e w5 ⟨G, (⟨hb, rfl, K⟩ | ⟨hb, rfl⟩)⟩
  rotate_left
  · have FE : Hid (Got w B (.iface 74 (.agg #[.int .i64 x1, .int .i64 x2, .int .i64 x3, .int .i64 x4, .int .i64 x5, .int .i64 x6])) r6 (.panicked [{ v := unr, recovered := false }]) w5) := ⟨grown_trans Q4.out.2.2 G, .inr ⟨S5.out hb, rfl⟩⟩
    clear G hb
    go_wp2_with fail
    exact ⟨rfl, FE.out⟩
  have Q5 : Hid (r5.bad = false ∧ At1 w5 B r5.s ∧ w.grownBy w5 (some B)) := ⟨hb, K, grown_trans Q4.out.2.2 G⟩
  clear G hb K C5 Q4
  go_wp2_with fail
  refine (C6.out _ Q5.out.1 Q5.out.2.1).mono ?_
  rintro e w6 ⟨G, (⟨hb, rfl, K⟩ | ⟨hb, rfl⟩)⟩
  rotate_left
  · have FE : Hid (Got w B (.iface 74 (.agg #[.int .i64 x1, .int .i64 x2, .int .i64 x3, .int .i64 x4, .int .i64 x5, .int .i64 x6])) r6 (.panicked [{ v := unr, recovered := false }]) w6) := ⟨grown_trans Q5.out.2.2 G, .inr ⟨S6.out hb, rfl⟩⟩
    clear G hb
    go_wp2_with fail
    exact ⟨rfl, FE.out⟩
  have Q6 : Hid (r6.bad = false ∧ At1 w6 B r6.s ∧ w.grownBy w6 (some B)) := ⟨hb, K, grown_trans Q5.out.2.2 G⟩
  clear G hb K C6 Q5
  have FE : Hid (Got w B (.iface 74 (.agg #[.int .i64 x1, .int .i64 x2, .int .i64 x3, .int .i64 x4, .int .i64 x5, .int .i64 x6])) r6 (.returned (.iface 74 (.agg #[.int .i64 x1, .int .i64 x2, .int .i64 x3, .int .i64 x4, .int .i64 x5, .int .i64 x6]))) w6) := ⟨Q6.out.2.2, .inl ⟨Q6.out.1, rfl, Q6.out.2.1⟩⟩
  go_wp2_with fail
  all_goals exact bodyPost_ret (v := .iface 74 (.agg #[.int .i64 x1, .int .i64 x2, .int .i64 x3, .int .i64 x4, .int .i64 x5, .int .i64 x6])) (by simp [results, Try.results61, go_sem]) rfl FE.out
set_option maxHeartbeats 4000000 in
theorem prd8 {B : Nat} {w : World} (r0 : Rd) (r1 : Rd) (x1 : Int) (e1 : numR r0 = (x1, r1)) (hb0 : r0.bad = false) (hl : r0.s.length ≤ 9223372036854775807) (h : At1 w B r0.s) : Calls Try.prog 61 #[.pointer (some ⟨B, 0, none⟩), .int .u8 8] w (Got w B (.iface 76 (.agg #[.int .i64 x1])) r1) := by
  have hmi : ∀ (x : Value) (w : World), (Instr.makeInterface 76 x).run Try.prog w = .ok (.iface 76 x) w := fun x w => run_makeInterface _ _ _ (by kernel_rfl)
  have l0 := hl
  have l1 := num_le e1 l0
  have S1 : Hid (r1.bad = true → r1.bad = true) := fun h => h
  have C1 : Hid (∀ w', r0.bad = false → At1 w' B r0.s → Calls Try.prog 60 #[.pointer (some ⟨B, 0, none⟩)] w' (Got w' B (.int .i64 x1) r1)) := fun w' hb k => num_step e1 hb l0 k
  have Q0 : Hid (r0.bad = false ∧ At1 w B r0.s ∧ w.grownBy w (some B)) := ⟨hb0, h, grown_refl _ _⟩
  clear h hl hb0 l0 l1 e1
  go_enter Try.func61, Try.ntmps61
  go_wp2_with fail
  refine (C1.out _ Q0.out.1 Q0.out.2.1).mono ?_
  rintro e w1 ⟨G, (⟨hb, rfl, K⟩ | ⟨hb, rfl⟩)⟩
  rotate_left
  · have FE : Hid (Got w B (.iface 76 (.agg #[.int .i64 x1])) r1 (.panicked [{ v := unr, recovered := false }]) w1) := ⟨grown_trans Q0.out.2.2 G, .inr ⟨S1.out hb, rfl⟩⟩
    clear G hb
    go_wp2_with fail
    exact ⟨rfl, FE.out⟩
  have Q1 : Hid (r1.bad = false ∧ At1 w1 B r1.s ∧ w.grownBy w1 (some B)) := ⟨hb, K, grown_trans Q0.out.2.2 G⟩
  clear G hb K C1 Q0
  have FE : Hid (Got w B (.iface 76 (.agg #[.int .i64 x1])) r1 (.returned (.iface 76 (.agg #[.int .i64 x1]))) w1) := ⟨Q1.out.2.2, .inl ⟨Q1.out.1, rfl, Q1.out.2.1⟩⟩
  go_wp2_with fail
  all_goals exact bodyPost_ret (v := .iface 76 (.agg #[.int .i64 x1])) (by simp [results, Try.results61, go_sem]) rfl FE.out
set_option maxHeartbeats 4000000 in
theorem prd9 {B : Nat} {w : World} (r0 : Rd) (r1 : Rd) (x1 : Int) (e1 : numR r0 = (x1, r1)) (hb0 : r0.bad = false) (hl : r0.s.length ≤ 9223372036854775807) (h : At1 w B r0.s) : Calls Try.prog 61 #[.pointer (some ⟨B, 0, none⟩), .int .u8 9] w (Got w B (.iface 77 (.agg #[.int .i64 x1])) r1) := by
  have hmi : ∀ (x : Value) (w : World), (Instr.makeInterface 77 x).run Try.prog w = .ok (.iface 77 x) w := fun x w => run_makeInterface _ _ _ (by kernel_rfl)
  have l0 := hl
  have l1 := num_le e1 l0
  have S1 : Hid (r1.bad = true → r1.bad = true) := fun h => h
  have C1 : Hid (∀ w', r0.bad = false → At1 w' B r0.s → Calls Try.prog 60 #[.pointer (some ⟨B, 0, none⟩)] w' (Got w' B (.int .i64 x1) r1)) := fun w' hb k => num_step e1 hb l0 k
  have Q0 : Hid (r0.bad = false ∧ At1 w B r0.s ∧ w.grownBy w (some B)) := ⟨hb0, h, grown_refl _ _⟩
  clear h hl hb0 l0 l1 e1
  go_enter Try.func61, Try.ntmps61
  go_wp2_with fail
  refine (C1.out _ Q0.out.1 Q0.out.2.1).mono ?_
  rintro e w1 ⟨G, (⟨hb, rfl, K⟩ | ⟨hb, rfl⟩)⟩
  rotate_left
  · have FE : Hid (Got w B (.iface 77 (.agg #[.int .i64 x1])) r1 (.panicked [{ v := unr, recovered := false }]) w1) := ⟨grown_trans Q0.out.2.2 G, .inr ⟨S1.out hb, rfl⟩⟩
    clear G hb
    go_wp2_with fail
    exact ⟨rfl, FE.out⟩
  have Q1 : Hid (r1.bad = false ∧ At1 w1 B r1.s ∧ w.grownBy w1 (some B)) := ⟨hb, K, grown_trans Q0.out.2.2 G⟩
  clear G hb K C1 Q0
  have FE : Hid (Got w B (.iface 77 (.agg #[.int .i64 x1])) r1 (.returned (.iface 77 (.agg #[.int .i64 x1]))) w1) := ⟨Q1.out.2.2, .inl ⟨Q1.out.1, rfl, Q1.out.2.1⟩⟩
  go_wp2_with fail
  all_goals exact bodyPost_ret (v := .iface 77 (.agg #[.int .i64 x1])) (by simp [results, Try.results61, go_sem]) rfl FE.out
set_option maxHeartbeats 4000000 in
theorem prd10 {B : Nat} {w : World} (r0 : Rd) (r1 : Rd) (x1 : Int) (e1 : numR r0 = (x1, r1)) (hb0 : r0.bad = false) (hl : r0.s.length ≤ 9223372036854775807) (h : At1 w B r0.s) : Calls Try.prog 61 #[.pointer (some ⟨B, 0, none⟩), .int .u8 10] w (Got w B (.iface 78 (.agg #[.int .i64 x1])) r1) := by
  have hmi : ∀ (x : Value) (w : World), (Instr.makeInterface 78 x).run Try.prog w = .ok (.iface 78 x) w := fun x w => run_makeInterface _ _ _ (by kernel_rfl)
  have l0 := hl
  have l1 := num_le e1 l0
  have S1 : Hid (r1.bad = true → r1.bad = true) := fun h => h
  have C1 : Hid (∀ w', r0.bad = false → At1 w' B r0.s → Calls Try.prog 60 #[.pointer (some ⟨B, 0, none⟩)] w' (Got w' B (.int .i64 x1) r1)) := fun w' hb k => num_step e1 hb l0 k
  have Q0 : Hid (r0.bad = false ∧ At1 w B r0.s ∧ w.grownBy w (some B)) := ⟨hb0, h, grown_refl _ _⟩
  clear h hl hb0 l0 l1 e1
  go_enter Try.func61, Try.ntmps61
  go_wp2_with fail
  refine (C1.out _ Q0.out.1 Q0.out.2.1).mono ?_
  rintro e w1 ⟨G, (⟨hb, rfl, K⟩ | ⟨hb, rfl⟩)⟩
  rotate_left
  · have FE : Hid (Got w B (.iface 78 (.agg #[.int .i64 x1])) r1 (.panicked [{ v := unr, recovered := false }]) w1) := ⟨grown_trans Q0.out.2.2 G, .inr ⟨S1.out hb, rfl⟩⟩
    clear G hb
    go_wp2_with fail
    exact ⟨rfl, FE.out⟩
  have Q1 : Hid (r1.bad = false ∧ At1 w1 B r1.s ∧ w.grownBy w1 (some B)) := ⟨hb, K, grown_trans Q0.out.2.2 G⟩
  clear G hb K C1 Q0
  have FE : Hid (Got w B (.iface 78 (.agg #[.int .i64 x1])) r1 (.returned (.iface 78 (.agg #[.int .i64 x1]))) w1) := ⟨Q1.out.2.2, .inl ⟨Q1.out.1, rfl, Q1.out.2.1⟩⟩
  go_wp2_with fail
  all_goals exact bodyPost_ret (v := .iface 78 (.agg #[.int .i64 x1])) (by simp [results, Try.results61, go_sem]) rfl FE.out
set_option maxHeartbeats 4000000 in
theorem prd11 {B : Nat} {w : World} (r0 : Rd) (r1 : Rd) (r2 : Rd) (r3 : Rd) (x1 : Int) (x2 : Int) (x3 : Int) (e1 : numR r0 = (x1, r1)) (e2 : numR r1 = (x2, r2)) (e3 : numR r2 = (x3, r3)) (hb0 : r0.bad = false) (hl : r0.s.length ≤ 9223372036854775807) (h : At1 w B r0.s) : Calls Try.prog 61 #[.pointer (some ⟨B, 0, none⟩), .int .u8 11] w (Got w B (.iface 80 (.agg #[.int .i64 x1, .int .i64 x2, .int .i64 x3])) r3) := by
  have hmi : ∀ (x : Value) (w : World), (Instr.makeInterface 80 x).run Try.prog w = .ok (.iface 80 x) w := fun x w => run_makeInterface _ _ _ (by kernel_rfl)
  have l0 := hl
  have l1 := num_le e1 l0
  have l2 := num_le e2 l1
  have l3 := num_le e3 l2
  have S3 : Hid (r3.bad = true → r3.bad = true) := fun h => h
  have S2 : Hid (r2.bad = true → r3.bad = true) := fun h => S3.out (num_stuck e3 h)
  have S1 : Hid (r1.bad = true → r3.bad = true) := fun h => S2.out (num_stuck e2 h)
  have C1 : Hid (∀ w', r0.bad = false → At1 w' B r0.s → Calls Try.prog 60 #[.pointer (some ⟨B, 0, none⟩)] w' (Got w' B (.int .i64 x1) r1)) := fun w' hb k => num_step e1 hb l0 k
  have C2 : Hid (∀ w', r1.bad = false → At1 w' B r1.s → Calls Try.prog 60 #[.pointer (some ⟨B, 0, none⟩)] w' (Got w' B (.int .i64 x2) r2)) := fun w' hb k => num_step e2 hb l1 k
  have C3 : Hid (∀ w', r2.bad = false → At1 w' B r2.s → Calls Try.prog 60 #[.pointer (some ⟨B, 0, none⟩)] w' (Got w' B (.int .i64 x3) r3)) := fun w' hb k => num_step e3 hb l2 k
  have Q0 : Hid (∀ wd, wd = w.drew → r0.bad = false ∧ At1 wd B r0.s ∧ w.grownBy wd (some B)) := fun wd e => by subst e; exact ⟨hb0, h, grown_below (grown_refl _ _) (Below.drew (Below.refl _ _))⟩
  clear h hl hb0 l0 l1 l2 l3 e1 e2 e3
  go_enter Try.func61, Try.ntmps61
  go_upto_region 23 with fail
  refine region_pure [0, 1, 2, 4, 5, 6, 8, 9, 10] [3, 7, 11, 12, 13, 14] (by kernel_rfl) (by kernel_rfl) (fun d _ _ _ _ h => by cases d <;> exact h) (fun wd hwd => ?_)
  simp only [List.filterMap_cons, List.filterMap_nil, List.getElem?_cons_zero, List.getElem?_cons_succ]
  replace Q0 := Lib.hid (Q0.out wd hwd.out)
  clear hwd
  repeat (refine Zo.wpPure_step (fun K hK => ?_); go_simp; refine hK _ ?_; clear hK K)
  refine Zo.wpPure_nil ?_
  go_wp2_with fail
  refine (C1.out _ Q0.out.1 Q0.out.2.1).mono ?_
  rintro e w1 ⟨G, (⟨hb, rfl, K⟩ | ⟨hb, rfl⟩)⟩
  rotate_left
  · have FE : Hid (Got w B (.iface 80 (.agg #[.int .i64 x1, .int .i64 x2, .int .i64 x3])) r3 (.panicked [{ v := unr, recovered := false }]) w1) := ⟨grown_trans Q0.out.2.2 G, .inr ⟨S1.out hb, rfl⟩⟩
    clear G hb
    go_wp2_with fail
    exact ⟨rfl, FE.out⟩
  have Q1 : Hid (r1.bad = false ∧ At1 w1 B r1.s ∧ w.grownBy w1 (some B)) := ⟨hb, K, grown_trans Q0.out.2.2 G⟩
  clear G hb K C1 Q0
  go_wp2_with fail
  refine (C2.out _ Q1.out.1 Q1.out.2.1).mono ?_
  rintro e w2 ⟨G, (⟨hb, rfl, K⟩ | ⟨hb, rfl⟩)⟩
  rotate_left
  · have FE : Hid (Got w B (.iface 80 (.agg #[.int .i64 x1, .int .i64 x2, .int .i64 x3])) r3 (.panicked [{ v := unr, recovered := false }]) w2) := ⟨grown_trans Q1.out.2.2 G, .inr ⟨S2.out hb, rfl⟩⟩
    clear G hb
    go_wp2_with fail
    exact ⟨rfl, FE.out⟩
  have Q2 : Hid (r2.bad = false ∧ At1 w2 B r2.s ∧ w.grownBy w2 (some B)) := ⟨hb, K, grown_trans Q1.out.2.2 G⟩
  clear G hb K C2 Q1
  go_wp2_with fail
  refine (C3.out _ Q2.out.1 Q2.out.2.1).mono ?_
  rintro e w3 ⟨G, (⟨hb, rfl, K⟩ | ⟨hb, rfl⟩)⟩
  rotate_left
  · have FE : Hid (Got w B (.iface 80 (.agg #[.int .i64 x1, .int .i64 x2, .int .i64 x3])) r3 (.panicked [{ v := unr, recovered := false }]) w3) := ⟨grown_trans Q2.out.2.2 G, .inr ⟨S3.out hb, rfl⟩⟩
    clear G hb
    go_wp2_with fail
    exact ⟨rfl, FE.out⟩
  have Q3 : Hid (r3.bad = false ∧ At1 w3 B r3.s ∧ w.grownBy w3 (some B)) := ⟨hb, K, grown_trans Q2.out.2.2 G⟩
  clear G hb K C3 Q2
  have FE : Hid (Got w B (.iface 80 (.agg #[.int .i64 x1, .int .i64 x2, .int .i64 x3])) r3 (.returned (.iface 80 (.agg #[.int .i64 x1, .int .i64 x2, .int .i64 x3]))) w3) := ⟨Q3.out.2.2, .inl ⟨Q3.out.1, rfl, Q3.out.2.1⟩⟩
  go_wp2_with fail
  all_goals exact bodyPost_ret (v := .iface 80 (.agg #[.int .i64 x1, .int .i64 x2, .int .i64 x3])) (by simp [results, Try.results61, go_sem]) rfl FE.out
set_option maxHeartbeats 4000000 in
theorem prd12 {B : Nat} {w : World} (r0 : Rd) (r1 : Rd) (r2 : Rd) (x1 : Int) (x2 : Int) (e1 : numR r0 = (x1, r1)) (e2 : numR r1 = (x2, r2)) (hb0 : r0.bad = false) (hl : r0.s.length ≤ 9223372036854775807) (h : At1 w B r0.s) : Calls Try.prog 61 #[.pointer (some ⟨B, 0, none⟩), .int .u8 12] w (Got w B (.iface 82 (.agg #[.int .i64 x1, .int .i64 x2])) r2) := by
  have hmi : ∀ (x : Value) (w : World), (Instr.makeInterface 82 x).run Try.prog w = .ok (.iface 82 x) w := fun x w => run_makeInterface _ _ _ (by kernel_rfl)
  have l0 := hl
  have l1 := num_le e1 l0
  have l2 := num_le e2 l1
  have S2 : Hid (r2.bad = true → r2.bad = true) := fun h => h
  have S1 : Hid (r1.bad = true → r2.bad = true) := fun h => S2.out (num_stuck e2 h)
  have C1 : Hid (∀ w', r0.bad = false → At1 w' B r0.s → Calls Try.prog 60 #[.pointer (some ⟨B, 0, none⟩)] w' (Got w' B (.int .i64 x1) r1)) := fun w' hb k => num_step e1 hb l0 k
  have C2 : Hid (∀ w', r1.bad = false → At1 w' B r1.s → Calls Try.prog 60 #[.pointer (some ⟨B, 0, none⟩)] w' (Got w' B (.int .i64 x2) r2)) := fun w' hb k => num_step e2 hb l1 k
  have Q0 : Hid (∀ wd, wd = w.drew → r0.bad = false ∧ At1 wd B r0.s ∧ w.grownBy wd (some B)) := fun wd e => by subst e; exact ⟨hb0, h, grown_below (grown_refl _ _) (Below.drew (Below.refl _ _))⟩
  clear h hl hb0 l0 l1 l2 e1 e2
  go_enter Try.func61, Try.ntmps61
  go_upto_region 25 with fail
  refine region_pure [0, 1, 2, 4, 5, 6] [3, 7, 8, 9, 10] (by kernel_rfl) (by kernel_rfl) (fun d _ _ _ _ h => by cases d <;> exact h) (fun wd hwd => ?_)
  simp only [List.filterMap_cons, List.filterMap_nil, List.getElem?_cons_zero, List.getElem?_cons_succ]
  replace Q0 := Lib.hid (Q0.out wd hwd.out)
  clear hwd
  repeat (refine Zo.wpPure_step (fun K hK => ?_); go_simp; refine hK _ ?_; clear hK K)
  refine Zo.wpPure_nil ?_
  go_wp2_with fail
  refine (C1.out _ Q0.out.1 Q0.out.2.1).mono ?_
  rintro e w1 ⟨G, (⟨hb, rfl, K⟩ | ⟨hb, rfl⟩)⟩
  rotate_left
  · have FE : Hid (Got w B (.iface 82 (.agg #[.int .i64 x1, .int .i64 x2])) r2 (.panicked [{ v := unr, recovered := false }]) w1) := ⟨grown_trans Q0.out.2.2 G, .inr ⟨S1.out hb, rfl⟩⟩
    clear G hb
    go_wp2_with fail
    exact ⟨rfl, FE.out⟩
  have Q1 : Hid (r1.bad = false ∧ At1 w1 B r1.s ∧ w.grownBy w1 (some B)) := ⟨hb, K, grown_trans Q0.out.2.2 G⟩
  clear G hb K C1 Q0
  go_wp2_with fail
  refine (C2.out _ Q1.out.1 Q1.out.2.1).mono ?_
  rintro e w2 ⟨G, (⟨hb, rfl, K⟩ | ⟨hb, rfl⟩)⟩
  rotate_left
  · have FE : Hid (Got w B (.iface 82 (.agg #[.int .i64 x1, .int .i64 x2])) r2 (.panicked [{ v := unr, recovered := false }]) w2) := ⟨grown_trans Q1.out.2.2 G, .inr ⟨S2.out hb, rfl⟩⟩
    clear G hb
    go_wp2_with fail
    exact ⟨rfl, FE.out⟩
  have Q2 : Hid (r2.bad = false ∧ At1 w2 B r2.s ∧ w.grownBy w2 (some B)) := ⟨hb, K, grown_trans Q1.out.2.2 G⟩
  clear G hb K C2 Q1
  have FE : Hid (Got w B (.iface 82 (.agg #[.int .i64 x1, .int .i64 x2])) r2 (.returned (.iface 82 (.agg #[.int .i64 x1, .int .i64 x2]))) w2) := ⟨Q2.out.2.2, .inl ⟨Q2.out.1, rfl, Q2.out.2.1⟩⟩
  go_wp2_with fail
  all_goals exact bodyPost_ret (v := .iface 82 (.agg #[.int .i64 x1, .int .i64 x2])) (by simp [results, Try.results61, go_sem]) rfl FE.out
set_option maxHeartbeats 4000000 in
theorem prd13 {B : Nat} {w : World} (r0 : Rd) (r1 : Rd) (r2 : Rd) (r3 : Rd) (x1 : Int) (x2 : Int) (x3 : Int) (e1 : numR r0 = (x1, r1)) (e2 : numR r1 = (x2, r2)) (e3 : numR r2 = (x3, r3)) (hb0 : r0.bad = false) (hl : r0.s.length ≤ 9223372036854775807) (h : At1 w B r0.s) : Calls Try.prog 61 #[.pointer (some ⟨B, 0, none⟩), .int .u8 13] w (Got w B (.iface 84 (.agg #[.int .i64 x1, .int .i64 x2, .int .i64 x3])) r3) := by
  have hmi : ∀ (x : Value) (w : World), (Instr.makeInterface 84 x).run Try.prog w = .ok (.iface 84 x) w := fun x w => run_makeInterface _ _ _ (by kernel_rfl)
  have l0 := hl
  have l1 := num_le e1 l0
  have l2 := num_le e2 l1
  have l3 := num_le e3 l2
  have S3 : Hid (r3.bad = true → r3.bad = true) := fun h => h
  have S2 : Hid (r2.bad = true → r3.bad = true) := fun h => S3.out (num_stuck e3 h)
  have S1 : Hid (r1.bad = true → r3.bad = true) := fun h => S2.out (num_stuck e2 h)
  have C1 : Hid (∀ w', r0.bad = false → At1 w' B r0.s → Calls Try.prog 60 #[.pointer (some ⟨B, 0, none⟩)] w' (Got w' B (.int .i64 x1) r1)) := fun w' hb k => num_step e1 hb l0 k
  have C2 : Hid (∀ w', r1.bad = false → At1 w' B r1.s → Calls Try.prog 60 #[.pointer (some ⟨B, 0, none⟩)] w' (Got w' B (.int .i64 x2) r2)) := fun w' hb k => num_step e2 hb l1 k
  have C3 : Hid (∀ w', r2.bad = false → At1 w' B r2.s → Calls Try.prog 60 #[.pointer (some ⟨B, 0, none⟩)] w' (Got w' B (.int .i64 x3) r3)) := fun w' hb k => num_step e3 hb l2 k
  have Q0 : Hid (∀ wd, wd = w.drew → r0.bad = false ∧ At1 wd B r0.s ∧ w.grownBy wd (some B)) := fun wd e => by subst e; exact ⟨hb0, h, grown_below (grown_refl _ _) (Below.drew (Below.refl _ _))⟩
  clear h hl hb0 l0 l1 l2 l3 e1 e2 e3
  go_enter Try.func61, Try.ntmps61
  go_upto_region 27 with fail
  refine region_pure [0, 1, 2, 4, 5, 6, 8, 9, 10] [3, 7, 11, 12, 13, 14] (by kernel_rfl) (by kernel_rfl) (fun d _ _ _ _ h => by cases d <;> exact h) (fun wd hwd => ?_)
  simp only [List.filterMap_cons, List.filterMap_nil, List.getElem?_cons_zero, List.getElem?_cons_succ]
  replace Q0 := Lib.hid (Q0.out wd hwd.out)
  clear hwd
  repeat (refine Zo.wpPure_step (fun K hK => ?_); go_simp; refine hK _ ?_; clear hK K)
  refine Zo.wpPure_nil ?_
  go_wp2_with fail
  refine (C1.out _ Q0.out.1 Q0.out.2.1).mono ?_
  rintro e w1 ⟨G, (⟨hb, rfl, K⟩ | ⟨hb, rfl⟩)⟩
  rotate_left
  · have FE : Hid (Got w B (.iface 84 (.agg #[.int .i64 x1, .int .i64 x2, .int .i64 x3])) r3 (.panicked [{ v := unr, recovered := false }]) w1) := ⟨grown_trans Q0.out.2.2 G, .inr ⟨S1.out hb, rfl⟩⟩
    clear G hb
    go_wp2_with fail
    exact ⟨rfl, FE.out⟩
  have Q1 : Hid (r1.bad = false ∧ At1 w1 B r1.s ∧ w.grownBy w1 (some B)) := ⟨hb, K, grown_trans Q0.out.2.2 G⟩
  clear G hb K C1 Q0
  go_wp2_with fail
  refine (C2.out _ Q1.out.1 Q1.out.2.1).mono ?_
  rintro e w2 ⟨G, (⟨hb, rfl, K⟩ | ⟨hb, rfl⟩)⟩
  rotate_left
  · have FE : Hid (Got w B (.iface 84 (.agg #[.int .i64 x1, .int .i64 x2, .int .i64 x3])) r3 (.panicked [{ v := unr, recovered := false }]) w2) := ⟨grown_trans Q1.out.2.2 G, .inr ⟨S2.out hb, rfl⟩⟩
    clear G hb
    go_wp2_with fail
    exact ⟨rfl, FE.out⟩
  have Q2 : Hid (r2.bad = false ∧ At1 w2 B r2.s ∧ w.grownBy w2 (some B)) := ⟨hb, K, grown_trans Q1.out.2.2 G⟩
  clear G hb K C2 Q1
  go_wp2_with fail
  refine (C3.out _ Q2.out.1 Q2.out.2.1).mono ?_
  rintro e w3 ⟨G, (⟨hb, rfl, K⟩ | ⟨hb, rfl⟩)⟩
  rotate_left
  · have FE : Hid (Got w B (.iface 84 (.agg #[.int .i64 x1, .int .i64 x2, .int .i64 x3])) r3 (.panicked [{ v := unr, recovered := false }]) w3) := ⟨grown_trans Q2.out.2.2 G, .inr ⟨S3.out hb, rfl⟩⟩
    clear G hb
    go_wp2_with fail
    exact ⟨rfl, FE.out⟩
  have Q3 : Hid (r3.bad = false ∧ At1 w3 B r3.s ∧ w.grownBy w3 (some B)) := ⟨hb, K, grown_trans Q2.out.2.2 G⟩
  clear G hb K C3 Q2
  have FE : Hid (Got w B (.iface 84 (.agg #[.int .i64 x1, .int .i64 x2, .int .i64 x3])) r3 (.returned (.iface 84 (.agg #[.int .i64 x1, .int .i64 x2, .int .i64 x3]))) w3) := ⟨Q3.out.2.2, .inl ⟨Q3.out.1, rfl, Q3.out.2.1⟩⟩
  go_wp2_with fail
  all_goals exact bodyPost_ret (v := .iface 84 (.agg #[.int .i64 x1, .int .i64 x2, .int .i64 x3])) (by simp [results, Try.results61, go_sem]) rfl FE.out
set_option maxHeartbeats 4000000 in
theorem prd14 {B : Nat} {w : World} (r0 : Rd) (r1 : Rd) (r2 : Rd) (r3 : Rd) (r4 : Rd) (x1 : Int) (x2 : Int) (x3 : Bool) (x4 : Bool) (e1 : numR r0 = (x1, r1)) (e2 : numR r1 = (x2, r2)) (e3 : flagR r2 = (x3, r3)) (e4 : flagR r3 = (x4, r4)) (hb0 : r0.bad = false) (hl : r0.s.length ≤ 9223372036854775807) (h : At1 w B r0.s) : Calls Try.prog 61 #[.pointer (some ⟨B, 0, none⟩), .int .u8 14] w (Got w B (.iface 86 (.agg #[.int .i64 x1, .int .i64 x2, .bool x3, .bool x4])) r4) := by
  have hmi : ∀ (x : Value) (w : World), (Instr.makeInterface 86 x).run Try.prog w = .ok (.iface 86 x) w := fun x w => run_makeInterface _ _ _ (by kernel_rfl)
  have l0 := hl
  have l1 := num_le e1 l0
  have l2 := num_le e2 l1
  have l3 := flag_le e3 l2
  have l4 := flag_le e4 l3
  have S4 : Hid (r4.bad = true → r4.bad = true) := fun h => h
  have S3 : Hid (r3.bad = true → r4.bad = true) := fun h => S4.out (flag_stuck e4 h)
  have S2 : Hid (r2.bad = true → r4.bad = true) := fun h => S3.out (flag_stuck e3 h)
  have S1 : Hid (r1.bad = true → r4.bad = true) := fun h => S2.out (num_stuck e2 h)
  have C1 : Hid (∀ w', r0.bad = false → At1 w' B r0.s → Calls Try.prog 60 #[.pointer (some ⟨B, 0, none⟩)] w' (Got w' B (.int .i64 x1) r1)) := fun w' hb k => num_step e1 hb l0 k
  have C2 : Hid (∀ w', r1.bad = false → At1 w' B r1.s → Calls Try.prog 60 #[.pointer (some ⟨B, 0, none⟩)] w' (Got w' B (.int .i64 x2) r2)) := fun w' hb k => num_step e2 hb l1 k
  have C3 : Hid (∀ w', r2.bad = false → At1 w' B r2.s → Calls Try.prog 74 #[.pointer (some ⟨B, 0, none⟩)] w' (Got w' B (.bool x3) r3)) := fun w' hb k => flag_step e3 hb l2 k
  have C4 : Hid (∀ w', r3.bad = false → At1 w' B r3.s → Calls Try.prog 74 #[.pointer (some ⟨B, 0, none⟩)] w' (Got w' B (.bool x4) r4)) := fun w' hb k => flag_step e4 hb l3 k
  have Q0 : Hid (∀ wd, wd = w.drew → r0.bad = false ∧ At1 wd B r0.s ∧ w.grownBy wd (some B)) := fun wd e => by subst e; exact ⟨hb0, h, grown_below (grown_refl _ _) (Below.drew (Below.refl _ _))⟩
  clear h hl hb0 l0 l1 l2 l3 l4 e1 e2 e3 e4
  go_enter Try.func61, Try.ntmps61
  go_upto_region 29 with fail
  refine region_pure [0, 1, 2, 4, 5, 6, 8, 9, 10, 12, 13, 14] [3, 7, 11, 15, 16, 17, 18] (by kernel_rfl) (by kernel_rfl) (fun d _ _ _ _ h => by cases d <;> exact h) (fun wd hwd => ?_)
  simp only [List.filterMap_cons, List.filterMap_nil, List.getElem?_cons_zero, List.getElem?_cons_succ]
  replace Q0 := Lib.hid (Q0.out wd hwd.out)
  clear hwd
  repeat (refine Zo.wpPure_step (fun K hK => ?_); go_simp; refine hK _ ?_; clear hK K)
  refine Zo.wpPure_nil ?_
  go_wp2_with fail
  refine (C1.out _ Q0.out.1 Q0.out.2.1).mono ?_
  rintro e w1 ⟨G, (⟨hb, rfl, K⟩ | ⟨hb, rfl⟩)⟩
  rotate_left
  · have FE : Hid (Got w B (.iface 86 (.agg #[.int .i64 x1, .int .i64 x2, .bool x3, .bool x4])) r4 (.panicked [{ v := unr, recovered := false }]) w1) := ⟨grown_trans Q0.out.2.2 G, .inr ⟨S1.out hb, rfl⟩⟩
    clear G hb
    go_wp2_with fail
    exact ⟨rfl, FE.out⟩
  have Q1 : Hid (r1.bad = false ∧ At1 w1 B r1.s ∧ w.grownBy w1 (some B)) := ⟨hb, K, grown_trans Q0.out.2.2 G⟩
  clear G hb K C1 Q0
  go_wp2_with fail
  refine (C2.out _ Q1.out.1 Q1.out.2.1).mono ?_
  rintro e w2 ⟨G, (⟨hb, rfl, K⟩ | ⟨hb, rfl⟩)⟩
  rotate_left
  · have FE : Hid (Got w B (.iface 86 (.agg #[.int .i64 x1, .int .i64 x2, .bool x3, .bool x4])) r4 (.panicked [{ v := unr, recovered := false }]) w2) := ⟨grown_trans Q1.out.2.2 G, .inr ⟨S2.out hb, rfl⟩⟩
    clear G hb
    go_wp2_with fail
    exact ⟨rfl, FE.out⟩
  have Q2 : Hid (r2.bad = false ∧ At1 w2 B r2.s ∧ w.grownBy w2 (some B)) := ⟨hb, K, grown_trans Q1.out.2.2 G⟩
  clear G hb K C2 Q1
  go_wp2_with fail
  refine (C3.out _ Q2.out.1 Q2.out.2.1).mono ?_
  rintro e w3 ⟨G, (⟨hb, rfl, K⟩ | ⟨hb, rfl⟩)⟩
  rotate_left
  · have FE : Hid (Got w B (.iface 86 (.agg #[.int .i64 x1, .int .i64 x2, .bool x3, .bool x4])) r4 (.panicked [{ v := unr, recovered := false }]) w3) := ⟨grown_trans Q2.out.2.2 G, .inr ⟨S3.out hb, rfl⟩⟩
    clear G hb
    go_wp2_with fail
    exact ⟨rfl, FE.out⟩
  have Q3 : Hid (r3.bad = false ∧ At1 w3 B r3.s ∧ w.grownBy w3 (some B)) := ⟨hb, K, grown_trans Q2.out.2.2 G⟩
  clear G hb K C3 Q2
  go_wp2_with fail
  refine (C4.out _ Q3.out.1 Q3.out.2.1).mono ?_
  rintro e w4 ⟨G, (⟨hb, rfl, K⟩ | ⟨hb, rfl⟩)⟩
  rotate_left
  · have FE : Hid (Got w B (.iface 86 (.agg #[.int .i64 x1, .int .i64 x2, .bool x3, .bool x4])) r4 (.panicked [{ v := unr, recovered := false }]) w4) := ⟨grown_trans Q3.out.2.2 G, .inr ⟨S4.out hb, rfl⟩⟩
    clear G hb
    go_wp2_with fail
    exact ⟨rfl, FE.out⟩
  have Q4 : Hid (r4.bad = false ∧ At1 w4 B r4.s ∧ w.grownBy w4 (some B)) := ⟨hb, K, grown_trans Q3.out.2.2 G⟩
  clear G hb K C4 Q3
  have FE : Hid (Got w B (.iface 86 (.agg #[.int .i64 x1, .int .i64 x2, .bool x3, .bool x4])) r4 (.returned (.iface 86 (.agg #[.int .i64 x1, .int .i64 x2, .bool x3, .bool x4]))) w4) := ⟨Q4.out.2.2, .inl ⟨Q4.out.1, rfl, Q4.out.2.1⟩⟩
  go_wp2_with fail
  all_goals exact bodyPost_ret (v := .iface 86 (.agg #[.int .i64 x1, .int .i64 x2, .bool x3, .bool x4])) (by simp [results, Try.results61, go_sem]) rfl FE.out
set_option maxHeartbeats 4000000 in
theorem prd15 {B : Nat} {w : World} (r0 : Rd) (r1 : Rd) (r2 : Rd) (x1 : Int) (x2 : Int) (e1 : numR r0 = (x1, r1)) (e2 : numR r1 = (x2, r2)) (hb0 : r0.bad = false) (hl : r0.s.length ≤ 9223372036854775807) (h : At1 w B r0.s) : Calls Try.prog 61 #[.pointer (some ⟨B, 0, none⟩), .int .u8 15] w (Got w B (.iface 88 (.agg #[.int .i64 x1, .int .i64 x2])) r2) := by
  have hmi : ∀ (x : Value) (w : World), (Instr.makeInterface 88 x).run Try.prog w = .ok (.iface 88 x) w := fun x w => run_makeInterface _ _ _ (by kernel_rfl)
  have l0 := hl
  have l1 := num_le e1 l0
  have l2 := num_le e2 l1
  have S2 : Hid (r2.bad = true → r2.bad = true) := fun h => h
  have S1 : Hid (r1.bad = true → r2.bad = true) := fun h => S2.out (num_stuck e2 h)
  have C1 : Hid (∀ w', r0.bad = false → At1 w' B r0.s → Calls Try.prog 60 #[.pointer (some ⟨B, 0, none⟩)] w' (Got w' B (.int .i64 x1) r1)) := fun w' hb k => num_step e1 hb l0 k
  have C2 : Hid (∀ w', r1.bad = false → At1 w' B r1.s → Calls Try.prog 60 #[.pointer (some ⟨B, 0, none⟩)] w' (Got w' B (.int .i64 x2) r2)) := fun w' hb k => num_step e2 hb l1 k
  have Q0 : Hid (∀ wd, wd = w.drew → r0.bad = false ∧ At1 wd B r0.s ∧ w.grownBy wd (some B)) := fun wd e => by subst e; exact ⟨hb0, h, grown_below (grown_refl _ _) (Below.drew (Below.refl _ _))⟩
  clear h hl hb0 l0 l1 l2 e1 e2
  go_enter Try.func61, Try.ntmps61
  go_upto_region 31 with fail
  refine region_pure [0, 1, 2, 4, 5, 6] [3, 7, 8, 9, 10] (by kernel_rfl) (by kernel_rfl) (fun d _ _ _ _ h => by cases d <;> exact h) (fun wd hwd => ?_)
  simp only [List.filterMap_cons, List.filterMap_nil, List.getElem?_cons_zero, List.getElem?_cons_succ]
  replace Q0 := Lib.hid (Q0.out wd hwd.out)
  clear hwd
  repeat (refine Zo.wpPure_step (fun K hK => ?_); go_simp; refine hK _ ?_; clear hK K)
  refine Zo.wpPure_nil ?_
  go_wp2_with fail
  refine (C1.out _ Q0.out.1 Q0.out.2.1).mono ?_
  rintro e w1 ⟨G, (⟨hb, rfl, K⟩ | ⟨hb, rfl⟩)⟩
  rotate_left
  · have FE : Hid (Got w B (.iface 88 (.agg #[.int .i64 x1, .int .i64 x2])) r2 (.panicked [{ v := unr, recovered := false }]) w1) := ⟨grown_trans Q0.out.2.2 G, .inr ⟨S1.out hb, rfl⟩⟩
    clear G hb
    go_wp2_with fail
    exact ⟨rfl, FE.out⟩
  have Q1 : Hid (r1.bad = false ∧ At1 w1 B r1.s ∧ w.grownBy w1 (some B)) := ⟨hb, K, grown_trans Q0.out.2.2 G⟩
  clear G hb K C1 Q0
  go_wp2_with fail
  refine (C2.out _ Q1.out.1 Q1.out.2.1).mono ?_
  rintro e w2 ⟨G, (⟨hb, rfl, K⟩ | ⟨hb, rfl⟩)⟩
  rotate_left
  · have FE : Hid (Got w B (.iface 88 (.agg #[.int .i64 x1, .int .i64 x2])) r2 (.panicked [{ v := unr, recovered := false }]) w2) := ⟨grown_trans Q1.out.2.2 G, .inr ⟨S2.out hb, rfl⟩⟩
    clear G hb
    go_wp2_with fail
    exact ⟨rfl, FE.out⟩
  have Q2 : Hid (r2.bad = false ∧ At1 w2 B r2.s ∧ w.grownBy w2 (some B)) := ⟨hb, K, grown_trans Q1.out.2.2 G⟩
  clear G hb K C2 Q1
  have FE : Hid (Got w B (.iface 88 (.agg #[.int .i64 x1, .int .i64 x2])) r2 (.returned (.iface 88 (.agg #[.int .i64 x1, .int .i64 x2]))) w2) := ⟨Q2.out.2.2, .inl ⟨Q2.out.1, rfl, Q2.out.2.1⟩⟩
  go_wp2_with fail
  all_goals exact bodyPost_ret (v := .iface 88 (.agg #[.int .i64 x1, .int .i64 x2])) (by simp [results, Try.results61, go_sem]) rfl FE.out
set_option maxHeartbeats 4000000 in
theorem prd_none {B : Nat} {w : World} (k : Nat) (hk : k ≤ 255) (hk2 : k = 0 ∨ 15 < k) (X : Value) (r : Rd) (hr : r.bad = true) : Calls Try.prog 61 #[.pointer (some ⟨B, 0, none⟩), .int .u8 (k : Nat)] w (Got w B X r) := by
  have hmi := hmi
  have FE : Hid (Got w B X r (.panicked [{ v := unr, recovered := false }]) w) := ⟨grown_refl _ _, .inr ⟨hr, rfl⟩⟩
  have n1 : ¬ (k : Int) = 1 := by omega
  have n2 : ¬ (k : Int) = 2 := by omega
  have n3 : ¬ (k : Int) = 3 := by omega
  have n4 : ¬ (k : Int) = 4 := by omega
  have n5 : ¬ (k : Int) = 5 := by omega
  have n6 : ¬ (k : Int) = 6 := by omega
  have n7 : ¬ (k : Int) = 7 := by omega
  have n8 : ¬ (k : Int) = 8 := by omega
  have n9 : ¬ (k : Int) = 9 := by omega
  have n10 : ¬ (k : Int) = 10 := by omega
  have n11 : ¬ (k : Int) = 11 := by omega
  have n12 : ¬ (k : Int) = 12 := by omega
  have n13 : ¬ (k : Int) = 13 := by omega
  have n14 : ¬ (k : Int) = 14 := by omega
  have n15 : ¬ (k : Int) = 15 := by omega
  clear hr hk hk2
  have C := Lib.hid (giveup_any B w)
  go_enter Try.func61, Try.ntmps61
  go_wp2_with fail
  refine C.out.mono ?_
  rintro e w1 ⟨rfl, rfl⟩
  clear C
  go_wp2_with fail
  exact ⟨rfl, FE.out⟩
end Go.Proofs.Ythegkookfpnbeaa.Wds
