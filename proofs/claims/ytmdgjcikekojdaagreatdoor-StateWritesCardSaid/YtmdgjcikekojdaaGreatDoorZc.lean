/- State: the program's reader: numbers, spans, sites, things. -/
import Derived.Test.YtmdgjcikekojdaaGreatDoorTc
import Derived.Test.YtmdgjcikekojdaaGreatDoorZa
set_option linter.unusedVariables false
set_option linter.unusedSimpArgs false
set_option maxRecDepth 100000
namespace Go.Proofs.YtmdgjcikekojdaaGreatDoor.Sta
open Go.RowKit Go.Lib Go.Proofs.YtmdgjcikekojdaaGreatDoor.Bx Go.Proofs.YtmdgjcikekojdaaGreatDoor.Frm Go.Proofs.YtmdgjcikekojdaaGreatDoor.Wds

set_option maxHeartbeats 8000000 in
theorem items_int {B : Nat} {w : World} (r0 : Rd) (n : Nat) (n256 : n < 65536) (hb : r0.bad = false) (hl : r0.s.length ≤ 9223372036854775807) (h : At1 w B r0.s) : Calls Tryz.prog 105 #[.int .i64 (n : Nat), .func (.func 51) #[.pointer (some ⟨B, 0, none⟩)] #[]] w (GotP w B (fun w' v => OwnP 3 numM w.heap.size w' v (manyR numC.rd n r0).1) (manyR numC.rd n r0).2) := by
  have HBW : Hid (B < w.heap.size) := h.cell.2.1
  obtain ⟨XS, hXS⟩ : ∃ XS, XS = (manyR numC.rd n r0).1 := ⟨_, rfl⟩
  obtain ⟨RF, hRF⟩ : ∃ RF, RF = (manyR numC.rd n r0).2 := ⟨_, rfl⟩
  have HR : Hid (manyR numC.rd n r0 = (XS, RF) ∧ n < 65536) := ⟨by rw [hXS, hRF], n256⟩
  have HLE : Hid (r0.s.length ≤ 9223372036854775807) := hl
  have HK1 : Hid (r0.bad = false ∧ At1 w B r0.s ∧ w.grownBy w (some B)) := ⟨hb, h, grown_refl _ _⟩
  rw [← hXS, ← hRF]
  clear h hl hXS hRF hb
  go_enter Tryz.func105, Tryz.ntmps105
  go_wp2_with fail
  go_loopg [5, 7] n (fun g v_ i_ wr => ∃ (i : Nat) (X : List (Int)) (rr : Rd), i ≤ n ∧ n - i ≤ g ∧ i_ = .int .i64 i ∧ (∃ a c, v_ = .slice a i c) ∧ X.length = i ∧ Hid (manyR numC.rd n r0 = (X ++ (manyR numC.rd (n - i) rr).1, (manyR numC.rd (n - i) rr).2)) ∧ Hid (OwnP 3 numM w.heap.size wr v_ X) ∧ Hid (rr.bad = false ∧ At1 wr B rr.s ∧ w.grownBy wr (some B)) ∧ Hid (rr.s.length ≤ 9223372036854775807))
  case atStart => exact ⟨0, [], r0, by omega, by omega, rfl, ⟨_, _, rfl⟩, rfl, rfl, OwnP.nil_ _ _ _ _, HK1, HLE⟩
  case round =>
    obtain ⟨i, X, rr, hi, hg, rfl, ⟨oa, oc, rfl⟩, hX, HQ, HO, HK, HLR⟩ := hrel
    by_cases hin : i < n
    · have iw : ((i : Nat) : Int) < (n : Int) := by omega
      have d1 : decide (((i : Nat) : Int) < (n : Int)) = true := decide_eq_true iw
      obtain ⟨z, hz⟩ : ∃ z, z = (numC.rd rr).1 := ⟨_, rfl⟩
      obtain ⟨r2, hr2⟩ : ∃ r2, r2 = (numC.rd rr).2 := ⟨_, rfl⟩
      have HQ2 : Hid (manyR numC.rd n r0 = ((X ++ [z]) ++ (manyR numC.rd (n - (i + 1)) r2).1, (manyR numC.rd (n - (i + 1)) r2).2)) := by
        show _ = _
        rw [HQ.out, show n - i = n - (i + 1) + 1 by omega, many_next HK.out.1, hz, hr2]
        simp
      have HLE2 : Hid (r2.s.length ≤ 9223372036854775807) := by rw [hr2]; exact Nat.le_trans (numC_ok.rd_le _) HLR.out
      have HBAD : Hid (r2.bad = true → RF.bad = true) := fun hb => by
        have h := HQ2.out
        rw [HR.out.1, many_bad hb] at h
        injection h with _ h
        rw [h]
        exact hb
      have HXL : Hid (X.length = i) := hX
      have C2 := Lib.hid (num_step (w := wr) (r := rr) (x := z) (r' := r2) (by rw [hz, hr2]; rfl) HK.out.1 HLR.out HK.out.2.1)
      clear hz hr2 HQ hX
      go_wp2_with fail
      refine C2.out.mono ?_
      rintro e w5 ⟨G5, (⟨hb5, rfl, K5⟩ | ⟨hb5, rfl⟩)⟩
      rotate_left
      · have FE : Hid (GotP w B (fun w' v => OwnP 3 numM w.heap.size w' v XS) RF (.panicked [{ v := unr, recovered := false }]) w5) := ⟨grown_trans HK.out.2.2 G5, .inr ⟨HBAD.out hb5, rfl⟩⟩
        clear G5 hb5 C2
        go_wp2_with fail
        exact ⟨rfl, FE.out⟩
      have hR : numM.R (fun b => wr.heap.size ≤ b) w5 [.int .i64 z] z := rfl
      have HRR := Lib.hid hR
      have HKO : Hid (OwnP 3 numM w.heap.size w5 (.slice oa i oc) X) := HO.out.kept numM_ok G5 HBW.out
      have HG5 : Hid (w.grownBy w5 (some B)) := grown_trans HK.out.2.2 G5
      have HB5 := Lib.hid hb5
      have HMN : ∀ b, wr.heap.size ≤ b → w.heap.size ≤ b ∧ some b ≠ (Value.slice oa i oc).ownBlock := fun b hb => ⟨Nat.le_trans HK.out.2.2.size hb, fun e => by have := (HO.out.block b e.symm).2; omega⟩
      have HKA : OwnP 3 numM w.heap.size (w5.alloc (.cells #[.int .i64 z] 3)) (.slice oa i oc) X := HKO.out.below numM_ok (box1 _ _ _).1
      obtain ⟨xs, hxs, HOX, HROW⟩ := HKA.row numM_ok
      have A1 : Hid (Rk.OwnK 3 1 w.heap.size (w5.alloc (.cells #[.int .i64 z] 3)) (.slice oa i oc) xs) := HOX
      have A2 : Hid (Rk.RowK 1 (w5.alloc (.cells #[.int .i64 z] 3)) (.slice (some ⟨w5.heap.size, 0, none⟩) 1 1) [[.int .i64 z]]) := Rk.row_one (e := 3) (heap_alloc_new _ _) rfl
      have A3 : Hid (xs.length + ([[.int .i64 z]] : List (List Value)).length ≤ 100000) := by show _ ≤ _; rw [hxs, HXL.out, List.length_singleton]; have := HR.out.2; omega
      have HRW : Hid (∀ (v' : Value) (w' : World), Rk.OwnK 3 1 w.heap.size w' v' (xs ++ [[.int .i64 z]]) → (w5.alloc (.cells #[.int .i64 z] 3)).grownBy w' (Value.slice oa i oc).ownBlock → (v'.ownBlock = (Value.slice oa i oc).ownBlock ∨ v'.ownBlock = some (w5.alloc (.cells #[.int .i64 z] 3)).heap.size) → OwnP 3 numM w.heap.size w' v' (X ++ [z])) := fun v' w' h5 g5 k5 => HROW [.int .i64 z] z v' w' h5 g5 k5 (numM_ok.keep (numM_ok.mono HRR.out fun b _ hb => HMN b hb) (Keep.below (box1 _ _ _).1))
      have HONE : Hid (∀ y ∈ ([[.int .i64 z]] : List (List Value)), ∀ u ∈ y, u.oneCell' = true) := fun y hy => by simp only [List.mem_singleton] at hy; subst hy; exact numM_ok.one HRR.out
      have A4 : Hid (w.heap.size ≤ (w5.alloc (.cells #[.int .i64 z] 3)).heap.size) := Nat.le_trans HG5.out.size (by exact (box1 w5 _ _).1.size)
      have HK6 : Hid (At1 (w5.alloc (.cells #[.int .i64 z] 3)) B r2.s) := K5.below (box1 _ _ _).1
      have HG6 : Hid (w.grownBy (w5.alloc (.cells #[.int .i64 z] 3)) (some B)) := grown_below HG5.out (box1 _ _ _).1
      clear K5 G5 C2 HKO HK HO HG5 hb5 hR HRR HOX HROW hxs HMN HKA
      go_wp2_with (at_builtin; refine Rk.wpList_append_rowk rfl _ _ 49 3 1 8 _ Tryz.underlying49 infoint rfl (by decide) (by decide) rfl w.heap.size _ _ xs [[.int .i64 z]] rfl rfl A1.out A2.out HONE.out A3.out A4.out ?_)
      intro v6 w9 h5 g5 k5
      have HO9 := Lib.hid (HRW.out v6 w9 h5 g5 (k5.imp_right fun e => by rw [e, (box1 _ _ _).2.2]))
      obtain ⟨a6, c6, rfl⟩ := HO9.out.is_slice
      have hl1 : (X ++ [z]).length = i + 1 := by rw [List.length_append, HXL.out]; rfl
      have hlow : (Value.slice oa i oc).ownBlock ≠ some B := A1.out.low HBW.out
      have K9 : Hid (r2.bad = false ∧ At1 w9 B r2.s ∧ w.grownBy w9 (some B)) := ⟨HB5.out, (g5.block B HK6.out.cell.2.1 (fun e => hlow e.symm)).trans HK6.out, g5.os.trans HG6.out.os, g5.tape.trans HG6.out.tape, g5.output.trans HG6.out.output, Nat.le_trans HG6.out.size g5.size, fun k hk hne => (g5.block k (Nat.lt_of_lt_of_le hk HG6.out.size) (fun e => A1.out.low hk e.symm)).trans (HG6.out.block k hk hne)⟩
      rw [hl1] at HO9 ⊢
      clear h5 g5 k5 A1 A2 A3 A4 hlow hl1 HK6 HG6 HRW HONE
      go_wp2_with fail
      go_roundg (n - (i + 1))
      case measure => omega
      case rel => exact ⟨i + 1, X ++ [z], r2, by omega, Nat.le_refl _, by go_num, ⟨_, _, rfl⟩, by rw [List.length_append, HXL.out]; rfl, HQ2, HO9, K9, HLE2⟩
    · obtain rfl : i = n := by omega
      have iw : ¬ ((i : Int) < (i : Int)) := by omega
      have d1 : decide (((i : Nat) : Int) < (i : Int)) = false := decide_eq_false iw
      have HF : Hid (X = XS ∧ rr = RF) := by
        have h := HQ.out
        rw [HR.out.1, Nat.sub_self] at h
        have h1 := congrArg Prod.fst h
        have h2 := congrArg Prod.snd h
        exact ⟨by simpa [manyR] using h1.symm, h2.symm⟩
      have FE : Hid (GotP w B (fun w' v => OwnP 3 numM w.heap.size w' v XS) RF (.returned (.slice oa i oc)) wr) := by
        show GotP _ _ _ _ _ _
        rw [← HF.out.1, ← HF.out.2]
        exact ⟨HK.out.2.2, .inl ⟨HK.out.1, _, rfl, HO.out, HK.out.2.1⟩⟩
      clear HQ HK HO HF
      go_wp2_with fail
      go_ret
      exact FE.out
set_option maxHeartbeats 4000000 in
theorem list_int {B : Nat} {r : Rd} {x : List (Int)} {r' : Rd} {w : World} (hx : (listC numC).rd r = (x, r')) (hb : r.bad = false) (hl : r.s.length ≤ 9223372036854775807) (h : At1 w B r.s) : Calls Tryz.prog 82 #[.pointer (some ⟨B, 0, none⟩), .func (.func 51) #[.pointer (some ⟨B, 0, none⟩)] #[]] w (GotP w B (fun w' v => OwnP 3 numM w.heap.size w' v x) r') := by
  obtain ⟨n, hn⟩ : ∃ n, n = (pairR r).1 := ⟨_, rfl⟩
  obtain ⟨r0, hr0⟩ : ∃ r0, r0 = (pairR r).2 := ⟨_, rfl⟩
  have C := Lib.hid (pair_step (w := w) (show pairR r = (n, r0) by rw [hn, hr0]) hb hl h)
  have HR : Hid (manyR numC.rd n r0 = (x, r') ∧ n < 65536) := ⟨by rw [hn, hr0]; exact hx, by rw [hn]; have := pair_max r; omega⟩
  have HLE : Hid (r0.s.length ≤ 9223372036854775807) := by rw [hr0]; exact Nat.le_trans (pair_le _) hl
  have CI : Hid (∀ w1, w.grownBy w1 (some B) → r0.bad = false → At1 w1 B r0.s → Calls Tryz.prog 105 #[.int .i64 (n : Nat), .func (.func 51) #[.pointer (some ⟨B, 0, none⟩)] #[]] w1 (GotP w B (fun w' v => OwnP 3 numM w.heap.size w' v x) r')) := fun w1 g hb hk => (items_int r0 n HR.out.2 hb HLE.out hk).mono fun e w2 hh => by
    rw [HR.out.1] at hh
    obtain ⟨G, hh⟩ := hh
    refine ⟨grown_trans g G, hh.imp ?_ id⟩
    rintro ⟨h1, v, h2, h3, h4⟩
    exact ⟨h1, v, h2, h3.base numM_ok g.size, h4⟩
  have HBD : Hid (r0.bad = true → r'.bad = true) := fun hb0 => by have h := HR.out.1; rw [many_bad hb0] at h; injection h with _ h; rw [← h]; exact hb0
  clear hn hr0 h hl hx hb
  go_enter Tryz.func82, Tryz.ntmps82
  go_wp2_with fail
  refine C.out.mono ?_
  rintro e w1 ⟨G, (⟨hb, rfl, K⟩ | ⟨hb, rfl⟩)⟩
  rotate_left
  · have FE : Hid (GotP w B (fun w' v => OwnP 3 numM w.heap.size w' v x) r' (.panicked [{ v := unr, recovered := false }]) w1) := ⟨G, .inr ⟨HBD.out hb, rfl⟩⟩
    clear G hb C
    go_wp2_with fail
    exact ⟨rfl, FE.out⟩
  have C2 := Lib.hid (CI.out w1 G hb K)
  clear hb K G C CI
  go_wp2_with fail
  refine C2.out.mono ?_
  rintro e w2 ⟨G, (⟨hb, v, rfl, O, K⟩ | ⟨hb, rfl⟩)⟩
  · have FE : Hid (GotP w B (fun w' v => OwnP 3 numM w.heap.size w' v x) r' (.returned v) w2) := ⟨G, .inl ⟨hb, v, rfl, O, K⟩⟩
    clear G hb O K C2
    go_wp2_with fail
    go_ret
    exact FE.out
  · have FE : Hid (GotP w B (fun w' v => OwnP 3 numM w.heap.size w' v x) r' (.panicked [{ v := unr, recovered := false }]) w2) := ⟨G, .inr ⟨hb, rfl⟩⟩
    clear G hb C2
    go_wp2_with fail
    exact ⟨rfl, FE.out⟩
set_option maxHeartbeats 8000000 in
theorem take0_Span {B : Nat} {w : World} (r0 r1 r2 r3 : Rd) (x0 : Int) (x1 : Int) (x2 : Int) (e0 : numC.rd r0 = (x0, r1)) (e1 : numC.rd r1 = (x1, r2)) (e2 : numC.rd r2 = (x2, r3)) (hb : r0.bad = false) (hl : r0.s.length ≤ 9223372036854775807) (h : At1 w B r0.s) : Calls Tryz.prog 109 #[.pointer (some ⟨B, 0, none⟩)] w (GotP w B (fun w' v => ∃ cs, v = .agg cs.toArray ∧ spnM.R (fun b => w.heap.size ≤ b) w' cs (x0, x1, x2)) r3) := by
  obtain ⟨B0, P0, L0⟩ := box1 w #[.int .i64 0, .int .i64 0, .int .i64 0] 115
  obtain ⟨W0, hW0⟩ : ∃ W0, W0 = w.alloc (.cells #[.int .i64 0, .int .i64 0, .int .i64 0] 115) := ⟨_, rfl⟩
  rw [← hW0] at B0 P0 L0
  obtain ⟨R, hR⟩ : ∃ R, R = w.heap.size := ⟨_, rfl⟩
  rw [← hR] at P0 L0
  have hRB : R ≠ B := by have := h.cell.2.1; omega
  have HW0 := Lib.hid hW0
  have HR := Lib.hid hR
  have HRB := Lib.hid hRB
  have HBB : Hid (B < w.heap.size ∧ W0.heap.size = R + 1) := ⟨h.cell.2.1, L0⟩
  have hmf : ∀ (fn : Fn) (first cap : Array Value) (w : World), (Instr.makeFunc fn first cap).run Tryz.prog w = .ok (.func fn first cap) w := fun _ _ _ _ => rfl
  have l0 := hl
  have l1 : r1.s.length ≤ 9223372036854775807 := by have q := numC_ok.rd_le r0; rw [e0] at q; exact Nat.le_trans q l0
  have l2 : r2.s.length ≤ 9223372036854775807 := by have q := numC_ok.rd_le r1; rw [e1] at q; exact Nat.le_trans q l1
  have S3 : Hid (r3.bad = true → r3.bad = true) := fun h => h
  have S2 : Hid (r2.bad = true → r3.bad = true) := fun h => S3.out (by have q := numC_ok.rd_stuck r2 h; rw [e2] at q; exact q)
  have S1 : Hid (r1.bad = true → r3.bad = true) := fun h => S2.out (by have q := numC_ok.rd_stuck r1 h; rw [e1] at q; exact q)
  have C1 : Hid (∀ w', r0.bad = false → At1 w' B r0.s → Calls Tryz.prog 51 #[.pointer (some ⟨B, 0, none⟩)] w' (Got w' B (.int .i64 x0) r1)) := fun w' hb k => num_step e0 hb l0 k
  have C2 : Hid (∀ w', r1.bad = false → At1 w' B r1.s → Calls Tryz.prog 51 #[.pointer (some ⟨B, 0, none⟩)] w' (Got w' B (.int .i64 x1) r2)) := fun w' hb k => num_step e1 hb l1 k
  have C3 : Hid (∀ w', r2.bad = false → At1 w' B r2.s → Calls Tryz.prog 51 #[.pointer (some ⟨B, 0, none⟩)] w' (Got w' B (.int .i64 x2) r3)) := fun w' hb k => num_step e2 hb l2 k
  have Q0 : Hid (r0.bad = false ∧ At1 W0 B r0.s ∧ W0.grownBy W0 (some B)) := ⟨hb, h.below B0, grown_refl _ _⟩
  have HG : Hid (∀ w', W0.grownBy w' (some B) → w.grownBy w' (some B) ∧ w'.heap[R]? = some (.cells #[.int .i64 0, .int .i64 0, .int .i64 0] 115 (0, 0))) := fun w' g => ⟨grown_trans (grown_of _ _ B0 _) g, (g.block R (by omega) (by simpa using hRB)).trans P0⟩
  clear hb h hl hR hW0 B0 P0 L0 l0 l1 l2 e0 e1 e2 hRB
  go_enter Tryz.func109, Tryz.ntmps109
  go_upto_region 1 with fail
  rw [← HW0.out, ← HR.out]
  refine region_pure [0, 1, 2, 4, 5, 6, 8, 9, 10] [3, 7, 11, 12, 13] (by kernel_rfl) (by kernel_rfl) (fun d _ _ _ _ h => by cases d <;> exact h) (fun wd hwd => ?_)
  simp only [List.filterMap_cons, List.filterMap_nil, List.getElem?_cons_zero, List.getElem?_cons_succ]
  have QD := Lib.hid (And.intro Q0.out.1 (And.intro (at1_drew Q0.out.2.1 hwd.out) (grown_drew1 Q0.out.2.2 hwd.out)))
  clear Q0 hwd
  repeat (refine Zo.wpPure_step (fun K hK => ?_); go_simp; refine hK _ ?_; clear hK K)
  refine Zo.wpPure_nil ?_
  have Q0 := Lib.hid QD.out
  clear QD
  go_wp2_with fail
  refine (C1.out _ Q0.out.1 Q0.out.2.1).mono ?_
  rintro e w1 ⟨G, (⟨hb, rfl, K⟩ | ⟨hb, rfl⟩)⟩
  rotate_left
  · have FE : Hid (GotP w B (fun w' v => ∃ cs, v = .agg cs.toArray ∧ spnM.R (fun b => w.heap.size ≤ b) w' cs (x0, x1, x2)) r3 (.panicked [{ v := unr, recovered := false }]) w1) := ⟨(HG.out _ (grown_trans Q0.out.2.2 G)).1, .inr ⟨S1.out hb, rfl⟩⟩
    clear G hb
    go_wp2_with fail
    exact ⟨rfl, FE.out⟩
  have Q1 : Hid (r1.bad = false ∧ At1 w1 B r1.s ∧ W0.grownBy w1 (some B)) := ⟨hb, K, grown_trans Q0.out.2.2 G⟩
  clear G hb K C1 Q0
  go_wp2_with fail
  refine (C2.out _ Q1.out.1 Q1.out.2.1).mono ?_
  rintro e w2 ⟨G, (⟨hb, rfl, K⟩ | ⟨hb, rfl⟩)⟩
  rotate_left
  · have FE : Hid (GotP w B (fun w' v => ∃ cs, v = .agg cs.toArray ∧ spnM.R (fun b => w.heap.size ≤ b) w' cs (x0, x1, x2)) r3 (.panicked [{ v := unr, recovered := false }]) w2) := ⟨(HG.out _ (grown_trans Q1.out.2.2 G)).1, .inr ⟨S2.out hb, rfl⟩⟩
    clear G hb
    go_wp2_with fail
    exact ⟨rfl, FE.out⟩
  have Q2 : Hid (r2.bad = false ∧ At1 w2 B r2.s ∧ W0.grownBy w2 (some B)) := ⟨hb, K, grown_trans Q1.out.2.2 G⟩
  clear G hb K C2 Q1
  go_wp2_with fail
  refine (C3.out _ Q2.out.1 Q2.out.2.1).mono ?_
  rintro e w3 ⟨G, (⟨hb, rfl, K⟩ | ⟨hb, rfl⟩)⟩
  rotate_left
  · have FE : Hid (GotP w B (fun w' v => ∃ cs, v = .agg cs.toArray ∧ spnM.R (fun b => w.heap.size ≤ b) w' cs (x0, x1, x2)) r3 (.panicked [{ v := unr, recovered := false }]) w3) := ⟨(HG.out _ (grown_trans Q2.out.2.2 G)).1, .inr ⟨S3.out hb, rfl⟩⟩
    clear G hb
    go_wp2_with fail
    exact ⟨rfl, FE.out⟩
  obtain ⟨g4, z4⟩ := HG.out _ (grown_trans Q2.out.2.2 G)
  obtain ⟨c0, c1, c2⟩ := three_cells z4
  have fr0 := free_at (i := 0) z4
  have fr1 := free_at (i := 1) z4
  have fr2 := free_at (i := 2) z4
  obtain ⟨WN, hWN⟩ : ∃ WN, WN = ((w3.setCell ⟨R, 0, none⟩ (.int .i64 x0)).setCell ⟨R, 1, none⟩ (.int .i64 x1)).setCell ⟨R, 2, none⟩ (.int .i64 x2) := ⟨_, rfl⟩
  have gN : w3.grownBy WN (some R) := by
    rw [hWN]
    exact grown_put (grown_put (grown_put (grown_refl _ _)))
  have FE : Hid (GotP w B (fun w' v => ∃ cs, v = .agg cs.toArray ∧ spnM.R (fun b => w.heap.size ≤ b) w' cs (x0, x1, x2)) r3 (.returned (.agg #[.int .i64 x0, .int .i64 x1, .int .i64 x2])) WN) := by
    have hRs : w.heap.size ≤ R := by rw [← HR.out]; exact Nat.le_refl _
    refine ⟨by rw [hWN]; exact grown_new (grown_new (grown_new g4 hRs _) hRs _) hRs _, .inl ⟨hb, _, rfl, ⟨[.int .i64 x0, .int .i64 x1, .int .i64 x2], rfl, ?_⟩, by rw [hWN]; exact at1_other (at1_other (at1_other K HRB.out) HRB.out) HRB.out⟩⟩
    exact spnM_mk x0 x1 x2
  have zz : WN.heap[R]? = some (.cells #[.int .i64 x0, .int .i64 x1, .int .i64 x2] 115 (0, 0)) := by
    rw [hWN]
    exact set_block (set_block (set_block z4))
  obtain ⟨y_0, y_1, y_2⟩ := three_cells zz
  have HWN := Lib.hid hWN
  clear hWN zz z4 g4 G hb K C3 Q2 gN
  go_wp2_with fail
  rw [← HWN.out]
  exact bodyPost_ret (v := .agg #[.int .i64 x0, .int .i64 x1, .int .i64 x2]) (by simp [results, Tryz.results109, go_sem, y_0, y_1, y_2, Tryz.isAgg115, Tryz.sizeOf115]) rfl FE.out
set_option maxHeartbeats 8000000 in
theorem take_Span {B : Nat} {w : World} (r : Rd) {x : Spn} {r' : Rd} (hx : spnC.rd r = (x, r')) (hb : r.bad = false) (hl : r.s.length ≤ 9223372036854775807) (h : At1 w B r.s) : Calls Tryz.prog 109 #[.pointer (some ⟨B, 0, none⟩)] w (GotP w B (fun w' v => ∃ cs, v = .agg cs.toArray ∧ spnM.R (fun b => w.heap.size ≤ b) w' cs x) r') := by
  obtain ⟨x0, r1, e0⟩ : ∃ x rq, numC.rd r = (x, rq) := ⟨_, _, rfl⟩
  obtain ⟨x1, r2, e1⟩ : ∃ x rq, numC.rd r1 = (x, rq) := ⟨_, _, rfl⟩
  obtain ⟨x2, r3, e2⟩ : ∃ x rq, numC.rd r2 = (x, rq) := ⟨_, _, rfl⟩
  have hx' : spnC.rd r = ((x0, x1, x2), r3) := pair_rd2 e0 (pair_rd2 e1 e2)
  rw [hx] at hx'
  injection hx' with h1 h2
  rw [h1, h2]
  exact take0_Span (w := w) r r1 r2 r3 x0 x1 x2 e0 e1 e2 hb hl h
set_option maxHeartbeats 8000000 in
theorem items_Span {B : Nat} {w : World} (r0 : Rd) (n : Nat) (n256 : n < 65536) (hb : r0.bad = false) (hl : r0.s.length ≤ 9223372036854775807) (h : At1 w B r0.s) : Calls Tryz.prog 117 #[.int .i64 (n : Nat), .func (.func 109) #[.pointer (some ⟨B, 0, none⟩)] #[]] w (GotP w B (fun w' v => OwnP 115 spnM w.heap.size w' v (manyR spnC.rd n r0).1) (manyR spnC.rd n r0).2) := by
  have HBW : Hid (B < w.heap.size) := h.cell.2.1
  obtain ⟨XS, hXS⟩ : ∃ XS, XS = (manyR spnC.rd n r0).1 := ⟨_, rfl⟩
  obtain ⟨RF, hRF⟩ : ∃ RF, RF = (manyR spnC.rd n r0).2 := ⟨_, rfl⟩
  have HR : Hid (manyR spnC.rd n r0 = (XS, RF) ∧ n < 65536) := ⟨by rw [hXS, hRF], n256⟩
  have HLE : Hid (r0.s.length ≤ 9223372036854775807) := hl
  have HK1 : Hid (r0.bad = false ∧ At1 w B r0.s ∧ w.grownBy w (some B)) := ⟨hb, h, grown_refl _ _⟩
  rw [← hXS, ← hRF]
  clear h hl hXS hRF hb
  go_enter Tryz.func117, Tryz.ntmps117
  go_wp2_with fail
  go_loopg [5, 7] n (fun g v_ i_ wr => ∃ (i : Nat) (X : List (Spn)) (rr : Rd), i ≤ n ∧ n - i ≤ g ∧ i_ = .int .i64 i ∧ (∃ a c, v_ = .slice a i c) ∧ X.length = i ∧ Hid (manyR spnC.rd n r0 = (X ++ (manyR spnC.rd (n - i) rr).1, (manyR spnC.rd (n - i) rr).2)) ∧ Hid (OwnP 115 spnM w.heap.size wr v_ X) ∧ Hid (rr.bad = false ∧ At1 wr B rr.s ∧ w.grownBy wr (some B)) ∧ Hid (rr.s.length ≤ 9223372036854775807))
  case atStart => exact ⟨0, [], r0, by omega, by omega, rfl, ⟨_, _, rfl⟩, rfl, rfl, OwnP.nil_ _ _ _ _, HK1, HLE⟩
  case round =>
    obtain ⟨i, X, rr, hi, hg, rfl, ⟨oa, oc, rfl⟩, hX, HQ, HO, HK, HLR⟩ := hrel
    by_cases hin : i < n
    · have iw : ((i : Nat) : Int) < (n : Int) := by omega
      have d1 : decide (((i : Nat) : Int) < (n : Int)) = true := decide_eq_true iw
      obtain ⟨z, hz⟩ : ∃ z, z = (spnC.rd rr).1 := ⟨_, rfl⟩
      obtain ⟨r2, hr2⟩ : ∃ r2, r2 = (spnC.rd rr).2 := ⟨_, rfl⟩
      have HQ2 : Hid (manyR spnC.rd n r0 = ((X ++ [z]) ++ (manyR spnC.rd (n - (i + 1)) r2).1, (manyR spnC.rd (n - (i + 1)) r2).2)) := by
        show _ = _
        rw [HQ.out, show n - i = n - (i + 1) + 1 by omega, many_next HK.out.1, hz, hr2]
        simp
      have HLE2 : Hid (r2.s.length ≤ 9223372036854775807) := by rw [hr2]; exact Nat.le_trans (spnC_ok.rd_le _) HLR.out
      have HBAD : Hid (r2.bad = true → RF.bad = true) := fun hb => by
        have h := HQ2.out
        rw [HR.out.1, many_bad hb] at h
        injection h with _ h
        rw [h]
        exact hb
      have HXL : Hid (X.length = i) := hX
      have C2 := Lib.hid (take_Span (w := wr) rr (x := z) (r' := r2) (by rw [hz, hr2]) HK.out.1 HLR.out HK.out.2.1)
      clear hz hr2 HQ hX
      go_wp2_with fail
      refine C2.out.mono ?_
      rintro e w5 ⟨G5, (⟨hb5, _, rfl, ⟨cs, rfl, hvz⟩, K5⟩ | ⟨hb5, rfl⟩)⟩
      rotate_left
      · have FE : Hid (GotP w B (fun w' v => OwnP 115 spnM w.heap.size w' v XS) RF (.panicked [{ v := unr, recovered := false }]) w5) := ⟨grown_trans HK.out.2.2 G5, .inr ⟨HBAD.out hb5, rfl⟩⟩
        clear G5 hb5 C2
        go_wp2_with fail
        exact ⟨rfl, FE.out⟩
      have hR := hvz
      obtain rfl := spnM_cells hvz
      clear hvz
      have HRR := Lib.hid hR
      have HKO : Hid (OwnP 115 spnM w.heap.size w5 (.slice oa i oc) X) := HO.out.kept spnM_ok G5 HBW.out
      have HG5 : Hid (w.grownBy w5 (some B)) := grown_trans HK.out.2.2 G5
      have HB5 := Lib.hid hb5
      have HMN : ∀ b, wr.heap.size ≤ b → w.heap.size ≤ b ∧ some b ≠ (Value.slice oa i oc).ownBlock := fun b hb => ⟨Nat.le_trans HK.out.2.2.size hb, fun e => by have := (HO.out.block b e.symm).2; omega⟩
      have HKA : OwnP 115 spnM w.heap.size (w5.alloc (.cells #[.int .i64 z.1, .int .i64 z.2.1, .int .i64 z.2.2] 115)) (.slice oa i oc) X := HKO.out.below spnM_ok (box1 _ _ _).1
      obtain ⟨xs, hxs, HOX, HROW⟩ := HKA.row spnM_ok
      have A1 : Hid (Rk.OwnK 115 3 w.heap.size (w5.alloc (.cells #[.int .i64 z.1, .int .i64 z.2.1, .int .i64 z.2.2] 115)) (.slice oa i oc) xs) := HOX
      have A2 : Hid (Rk.RowK 3 (w5.alloc (.cells #[.int .i64 z.1, .int .i64 z.2.1, .int .i64 z.2.2] 115)) (.slice (some ⟨w5.heap.size, 0, none⟩) 1 1) [[.int .i64 z.1, .int .i64 z.2.1, .int .i64 z.2.2]]) := Rk.row_one (e := 115) (heap_alloc_new _ _) rfl
      have A3 : Hid (xs.length + ([[.int .i64 z.1, .int .i64 z.2.1, .int .i64 z.2.2]] : List (List Value)).length ≤ 100000) := by show _ ≤ _; rw [hxs, HXL.out, List.length_singleton]; have := HR.out.2; omega
      have HRW : Hid (∀ (v' : Value) (w' : World), Rk.OwnK 115 3 w.heap.size w' v' (xs ++ [[.int .i64 z.1, .int .i64 z.2.1, .int .i64 z.2.2]]) → (w5.alloc (.cells #[.int .i64 z.1, .int .i64 z.2.1, .int .i64 z.2.2] 115)).grownBy w' (Value.slice oa i oc).ownBlock → (v'.ownBlock = (Value.slice oa i oc).ownBlock ∨ v'.ownBlock = some (w5.alloc (.cells #[.int .i64 z.1, .int .i64 z.2.1, .int .i64 z.2.2] 115)).heap.size) → OwnP 115 spnM w.heap.size w' v' (X ++ [z])) := fun v' w' h5 g5 k5 => HROW [.int .i64 z.1, .int .i64 z.2.1, .int .i64 z.2.2] z v' w' h5 g5 k5 (spnM_ok.keep (spnM_ok.mono HRR.out fun b _ hb => HMN b hb) (Keep.below (box1 _ _ _).1))
      have HONE : Hid (∀ y ∈ ([[.int .i64 z.1, .int .i64 z.2.1, .int .i64 z.2.2]] : List (List Value)), ∀ u ∈ y, u.oneCell' = true) := fun y hy => by simp only [List.mem_singleton] at hy; subst hy; exact spnM_ok.one HRR.out
      have A4 : Hid (w.heap.size ≤ (w5.alloc (.cells #[.int .i64 z.1, .int .i64 z.2.1, .int .i64 z.2.2] 115)).heap.size) := Nat.le_trans HG5.out.size (by exact (box1 w5 _ _).1.size)
      have HK6 : Hid (At1 (w5.alloc (.cells #[.int .i64 z.1, .int .i64 z.2.1, .int .i64 z.2.2] 115)) B r2.s) := K5.below (box1 _ _ _).1
      have HG6 : Hid (w.grownBy (w5.alloc (.cells #[.int .i64 z.1, .int .i64 z.2.1, .int .i64 z.2.2] 115)) (some B)) := grown_below HG5.out (box1 _ _ _).1
      clear K5 G5 C2 HKO HK HO HG5 hb5 hR HRR HOX HROW hxs HMN HKA
      go_wp2_with (at_builtin; refine Rk.wpList_append_rowk rfl _ _ 109 115 3 24 _ Tryz.underlying109 infoSpan rfl (by decide) (by decide) rfl w.heap.size _ _ xs [[.int .i64 z.1, .int .i64 z.2.1, .int .i64 z.2.2]] rfl rfl A1.out A2.out HONE.out A3.out A4.out ?_)
      intro v6 w9 h5 g5 k5
      have HO9 := Lib.hid (HRW.out v6 w9 h5 g5 (k5.imp_right fun e => by rw [e, (box1 _ _ _).2.2]))
      obtain ⟨a6, c6, rfl⟩ := HO9.out.is_slice
      have hl1 : (X ++ [z]).length = i + 1 := by rw [List.length_append, HXL.out]; rfl
      have hlow : (Value.slice oa i oc).ownBlock ≠ some B := A1.out.low HBW.out
      have K9 : Hid (r2.bad = false ∧ At1 w9 B r2.s ∧ w.grownBy w9 (some B)) := ⟨HB5.out, (g5.block B HK6.out.cell.2.1 (fun e => hlow e.symm)).trans HK6.out, g5.os.trans HG6.out.os, g5.tape.trans HG6.out.tape, g5.output.trans HG6.out.output, Nat.le_trans HG6.out.size g5.size, fun k hk hne => (g5.block k (Nat.lt_of_lt_of_le hk HG6.out.size) (fun e => A1.out.low hk e.symm)).trans (HG6.out.block k hk hne)⟩
      rw [hl1] at HO9 ⊢
      clear h5 g5 k5 A1 A2 A3 A4 hlow hl1 HK6 HG6 HRW HONE
      go_wp2_with fail
      go_roundg (n - (i + 1))
      case measure => omega
      case rel => exact ⟨i + 1, X ++ [z], r2, by omega, Nat.le_refl _, by go_num, ⟨_, _, rfl⟩, by rw [List.length_append, HXL.out]; rfl, HQ2, HO9, K9, HLE2⟩
    · obtain rfl : i = n := by omega
      have iw : ¬ ((i : Int) < (i : Int)) := by omega
      have d1 : decide (((i : Nat) : Int) < (i : Int)) = false := decide_eq_false iw
      have HF : Hid (X = XS ∧ rr = RF) := by
        have h := HQ.out
        rw [HR.out.1, Nat.sub_self] at h
        have h1 := congrArg Prod.fst h
        have h2 := congrArg Prod.snd h
        exact ⟨by simpa [manyR] using h1.symm, h2.symm⟩
      have FE : Hid (GotP w B (fun w' v => OwnP 115 spnM w.heap.size w' v XS) RF (.returned (.slice oa i oc)) wr) := by
        show GotP _ _ _ _ _ _
        rw [← HF.out.1, ← HF.out.2]
        exact ⟨HK.out.2.2, .inl ⟨HK.out.1, _, rfl, HO.out, HK.out.2.1⟩⟩
      clear HQ HK HO HF
      go_wp2_with fail
      go_ret
      exact FE.out
set_option maxHeartbeats 4000000 in
theorem list_Span {B : Nat} {r : Rd} {x : List (Spn)} {r' : Rd} {w : World} (hx : (listC spnC).rd r = (x, r')) (hb : r.bad = false) (hl : r.s.length ≤ 9223372036854775807) (h : At1 w B r.s) : Calls Tryz.prog 108 #[.pointer (some ⟨B, 0, none⟩), .func (.func 109) #[.pointer (some ⟨B, 0, none⟩)] #[]] w (GotP w B (fun w' v => OwnP 115 spnM w.heap.size w' v x) r') := by
  obtain ⟨n, hn⟩ : ∃ n, n = (pairR r).1 := ⟨_, rfl⟩
  obtain ⟨r0, hr0⟩ : ∃ r0, r0 = (pairR r).2 := ⟨_, rfl⟩
  have C := Lib.hid (pair_step (w := w) (show pairR r = (n, r0) by rw [hn, hr0]) hb hl h)
  have HR : Hid (manyR spnC.rd n r0 = (x, r') ∧ n < 65536) := ⟨by rw [hn, hr0]; exact hx, by rw [hn]; have := pair_max r; omega⟩
  have HLE : Hid (r0.s.length ≤ 9223372036854775807) := by rw [hr0]; exact Nat.le_trans (pair_le _) hl
  have CI : Hid (∀ w1, w.grownBy w1 (some B) → r0.bad = false → At1 w1 B r0.s → Calls Tryz.prog 117 #[.int .i64 (n : Nat), .func (.func 109) #[.pointer (some ⟨B, 0, none⟩)] #[]] w1 (GotP w B (fun w' v => OwnP 115 spnM w.heap.size w' v x) r')) := fun w1 g hb hk => (items_Span r0 n HR.out.2 hb HLE.out hk).mono fun e w2 hh => by
    rw [HR.out.1] at hh
    obtain ⟨G, hh⟩ := hh
    refine ⟨grown_trans g G, hh.imp ?_ id⟩
    rintro ⟨h1, v, h2, h3, h4⟩
    exact ⟨h1, v, h2, h3.base spnM_ok g.size, h4⟩
  have HBD : Hid (r0.bad = true → r'.bad = true) := fun hb0 => by have h := HR.out.1; rw [many_bad hb0] at h; injection h with _ h; rw [← h]; exact hb0
  clear hn hr0 h hl hx hb
  go_enter Tryz.func108, Tryz.ntmps108
  go_wp2_with fail
  refine C.out.mono ?_
  rintro e w1 ⟨G, (⟨hb, rfl, K⟩ | ⟨hb, rfl⟩)⟩
  rotate_left
  · have FE : Hid (GotP w B (fun w' v => OwnP 115 spnM w.heap.size w' v x) r' (.panicked [{ v := unr, recovered := false }]) w1) := ⟨G, .inr ⟨HBD.out hb, rfl⟩⟩
    clear G hb C
    go_wp2_with fail
    exact ⟨rfl, FE.out⟩
  have C2 := Lib.hid (CI.out w1 G hb K)
  clear hb K G C CI
  go_wp2_with fail
  refine C2.out.mono ?_
  rintro e w2 ⟨G, (⟨hb, v, rfl, O, K⟩ | ⟨hb, rfl⟩)⟩
  · have FE : Hid (GotP w B (fun w' v => OwnP 115 spnM w.heap.size w' v x) r' (.returned v) w2) := ⟨G, .inl ⟨hb, v, rfl, O, K⟩⟩
    clear G hb O K C2
    go_wp2_with fail
    go_ret
    exact FE.out
  · have FE : Hid (GotP w B (fun w' v => OwnP 115 spnM w.heap.size w' v x) r' (.panicked [{ v := unr, recovered := false }]) w2) := ⟨G, .inr ⟨hb, rfl⟩⟩
    clear G hb C2
    go_wp2_with fail
    exact ⟨rfl, FE.out⟩
set_option maxHeartbeats 8000000 in
theorem take0_Site {B : Nat} {w : World} (r0 r1 r2 : Rd) (x0 : Int) (x1 : Int) (e0 : numC.rd r0 = (x0, r1)) (e1 : numC.rd r1 = (x1, r2)) (hb : r0.bad = false) (hl : r0.s.length ≤ 9223372036854775807) (h : At1 w B r0.s) : Calls Tryz.prog 111 #[.pointer (some ⟨B, 0, none⟩)] w (GotP w B (fun w' v => ∃ cs, v = .agg cs.toArray ∧ sitM.R (fun b => w.heap.size ≤ b) w' cs (x0, x1)) r2) := by
  obtain ⟨B0, P0, L0⟩ := box1 w #[.int .i64 0, .int .i64 0] 117
  obtain ⟨W0, hW0⟩ : ∃ W0, W0 = w.alloc (.cells #[.int .i64 0, .int .i64 0] 117) := ⟨_, rfl⟩
  rw [← hW0] at B0 P0 L0
  obtain ⟨R, hR⟩ : ∃ R, R = w.heap.size := ⟨_, rfl⟩
  rw [← hR] at P0 L0
  have hRB : R ≠ B := by have := h.cell.2.1; omega
  have HW0 := Lib.hid hW0
  have HR := Lib.hid hR
  have HRB := Lib.hid hRB
  have HBB : Hid (B < w.heap.size ∧ W0.heap.size = R + 1) := ⟨h.cell.2.1, L0⟩
  have hmf : ∀ (fn : Fn) (first cap : Array Value) (w : World), (Instr.makeFunc fn first cap).run Tryz.prog w = .ok (.func fn first cap) w := fun _ _ _ _ => rfl
  have l0 := hl
  have l1 : r1.s.length ≤ 9223372036854775807 := by have q := numC_ok.rd_le r0; rw [e0] at q; exact Nat.le_trans q l0
  have S2 : Hid (r2.bad = true → r2.bad = true) := fun h => h
  have S1 : Hid (r1.bad = true → r2.bad = true) := fun h => S2.out (by have q := numC_ok.rd_stuck r1 h; rw [e1] at q; exact q)
  have C1 : Hid (∀ w', r0.bad = false → At1 w' B r0.s → Calls Tryz.prog 51 #[.pointer (some ⟨B, 0, none⟩)] w' (Got w' B (.int .i64 x0) r1)) := fun w' hb k => num_step e0 hb l0 k
  have C2 : Hid (∀ w', r1.bad = false → At1 w' B r1.s → Calls Tryz.prog 51 #[.pointer (some ⟨B, 0, none⟩)] w' (Got w' B (.int .i64 x1) r2)) := fun w' hb k => num_step e1 hb l1 k
  have Q0 : Hid (r0.bad = false ∧ At1 W0 B r0.s ∧ W0.grownBy W0 (some B)) := ⟨hb, h.below B0, grown_refl _ _⟩
  have HG : Hid (∀ w', W0.grownBy w' (some B) → w.grownBy w' (some B) ∧ w'.heap[R]? = some (.cells #[.int .i64 0, .int .i64 0] 117 (0, 0))) := fun w' g => ⟨grown_trans (grown_of _ _ B0 _) g, (g.block R (by omega) (by simpa using hRB)).trans P0⟩
  clear hb h hl hR hW0 B0 P0 L0 l0 l1 e0 e1 hRB
  go_enter Tryz.func111, Tryz.ntmps111
  go_upto_region 1 with fail
  rw [← HW0.out, ← HR.out]
  refine region_pure [0, 1, 2, 4, 5, 6] [3, 7, 8, 9] (by kernel_rfl) (by kernel_rfl) (fun d _ _ _ _ h => by cases d <;> exact h) (fun wd hwd => ?_)
  simp only [List.filterMap_cons, List.filterMap_nil, List.getElem?_cons_zero, List.getElem?_cons_succ]
  have QD := Lib.hid (And.intro Q0.out.1 (And.intro (at1_drew Q0.out.2.1 hwd.out) (grown_drew1 Q0.out.2.2 hwd.out)))
  clear Q0 hwd
  repeat (refine Zo.wpPure_step (fun K hK => ?_); go_simp; refine hK _ ?_; clear hK K)
  refine Zo.wpPure_nil ?_
  have Q0 := Lib.hid QD.out
  clear QD
  go_wp2_with fail
  refine (C1.out _ Q0.out.1 Q0.out.2.1).mono ?_
  rintro e w1 ⟨G, (⟨hb, rfl, K⟩ | ⟨hb, rfl⟩)⟩
  rotate_left
  · have FE : Hid (GotP w B (fun w' v => ∃ cs, v = .agg cs.toArray ∧ sitM.R (fun b => w.heap.size ≤ b) w' cs (x0, x1)) r2 (.panicked [{ v := unr, recovered := false }]) w1) := ⟨(HG.out _ (grown_trans Q0.out.2.2 G)).1, .inr ⟨S1.out hb, rfl⟩⟩
    clear G hb
    go_wp2_with fail
    exact ⟨rfl, FE.out⟩
  have Q1 : Hid (r1.bad = false ∧ At1 w1 B r1.s ∧ W0.grownBy w1 (some B)) := ⟨hb, K, grown_trans Q0.out.2.2 G⟩
  clear G hb K C1 Q0
  go_wp2_with fail
  refine (C2.out _ Q1.out.1 Q1.out.2.1).mono ?_
  rintro e w2 ⟨G, (⟨hb, rfl, K⟩ | ⟨hb, rfl⟩)⟩
  rotate_left
  · have FE : Hid (GotP w B (fun w' v => ∃ cs, v = .agg cs.toArray ∧ sitM.R (fun b => w.heap.size ≤ b) w' cs (x0, x1)) r2 (.panicked [{ v := unr, recovered := false }]) w2) := ⟨(HG.out _ (grown_trans Q1.out.2.2 G)).1, .inr ⟨S2.out hb, rfl⟩⟩
    clear G hb
    go_wp2_with fail
    exact ⟨rfl, FE.out⟩
  obtain ⟨g4, z4⟩ := HG.out _ (grown_trans Q1.out.2.2 G)
  obtain ⟨c0, c1⟩ := two_cells z4
  have fr0 := free_at (i := 0) z4
  have fr1 := free_at (i := 1) z4
  obtain ⟨WN, hWN⟩ : ∃ WN, WN = (w2.setCell ⟨R, 0, none⟩ (.int .i64 x0)).setCell ⟨R, 1, none⟩ (.int .i64 x1) := ⟨_, rfl⟩
  have gN : w2.grownBy WN (some R) := by
    rw [hWN]
    exact grown_put (grown_put (grown_refl _ _))
  have FE : Hid (GotP w B (fun w' v => ∃ cs, v = .agg cs.toArray ∧ sitM.R (fun b => w.heap.size ≤ b) w' cs (x0, x1)) r2 (.returned (.agg #[.int .i64 x0, .int .i64 x1])) WN) := by
    have hRs : w.heap.size ≤ R := by rw [← HR.out]; exact Nat.le_refl _
    refine ⟨by rw [hWN]; exact grown_new (grown_new g4 hRs _) hRs _, .inl ⟨hb, _, rfl, ⟨[.int .i64 x0, .int .i64 x1], rfl, ?_⟩, by rw [hWN]; exact at1_other (at1_other K HRB.out) HRB.out⟩⟩
    exact sitM_mk x0 x1
  have zz : WN.heap[R]? = some (.cells #[.int .i64 x0, .int .i64 x1] 117 (0, 0)) := by
    rw [hWN]
    exact set_block (set_block z4)
  obtain ⟨y_0, y_1⟩ := two_cells zz
  have HWN := Lib.hid hWN
  clear hWN zz z4 g4 G hb K C2 Q1 gN
  go_wp2_with fail
  rw [← HWN.out]
  exact bodyPost_ret (v := .agg #[.int .i64 x0, .int .i64 x1]) (by simp [results, Tryz.results111, go_sem, y_0, y_1, Tryz.isAgg117, Tryz.sizeOf117]) rfl FE.out
set_option maxHeartbeats 8000000 in
theorem take_Site {B : Nat} {w : World} (r : Rd) {x : Sit} {r' : Rd} (hx : sitC.rd r = (x, r')) (hb : r.bad = false) (hl : r.s.length ≤ 9223372036854775807) (h : At1 w B r.s) : Calls Tryz.prog 111 #[.pointer (some ⟨B, 0, none⟩)] w (GotP w B (fun w' v => ∃ cs, v = .agg cs.toArray ∧ sitM.R (fun b => w.heap.size ≤ b) w' cs x) r') := by
  obtain ⟨x0, r1, e0⟩ : ∃ x rq, numC.rd r = (x, rq) := ⟨_, _, rfl⟩
  obtain ⟨x1, r2, e1⟩ : ∃ x rq, numC.rd r1 = (x, rq) := ⟨_, _, rfl⟩
  have hx' : sitC.rd r = ((x0, x1), r2) := pair_rd2 e0 e1
  rw [hx] at hx'
  injection hx' with h1 h2
  rw [h1, h2]
  exact take0_Site (w := w) r r1 r2 x0 x1 e0 e1 hb hl h
set_option maxHeartbeats 8000000 in
theorem items_Site {B : Nat} {w : World} (r0 : Rd) (n : Nat) (n256 : n < 65536) (hb : r0.bad = false) (hl : r0.s.length ≤ 9223372036854775807) (h : At1 w B r0.s) : Calls Tryz.prog 118 #[.int .i64 (n : Nat), .func (.func 111) #[.pointer (some ⟨B, 0, none⟩)] #[]] w (GotP w B (fun w' v => OwnP 117 sitM w.heap.size w' v (manyR sitC.rd n r0).1) (manyR sitC.rd n r0).2) := by
  have HBW : Hid (B < w.heap.size) := h.cell.2.1
  obtain ⟨XS, hXS⟩ : ∃ XS, XS = (manyR sitC.rd n r0).1 := ⟨_, rfl⟩
  obtain ⟨RF, hRF⟩ : ∃ RF, RF = (manyR sitC.rd n r0).2 := ⟨_, rfl⟩
  have HR : Hid (manyR sitC.rd n r0 = (XS, RF) ∧ n < 65536) := ⟨by rw [hXS, hRF], n256⟩
  have HLE : Hid (r0.s.length ≤ 9223372036854775807) := hl
  have HK1 : Hid (r0.bad = false ∧ At1 w B r0.s ∧ w.grownBy w (some B)) := ⟨hb, h, grown_refl _ _⟩
  rw [← hXS, ← hRF]
  clear h hl hXS hRF hb
  go_enter Tryz.func118, Tryz.ntmps118
  go_wp2_with fail
  go_loopg [5, 7] n (fun g v_ i_ wr => ∃ (i : Nat) (X : List (Sit)) (rr : Rd), i ≤ n ∧ n - i ≤ g ∧ i_ = .int .i64 i ∧ (∃ a c, v_ = .slice a i c) ∧ X.length = i ∧ Hid (manyR sitC.rd n r0 = (X ++ (manyR sitC.rd (n - i) rr).1, (manyR sitC.rd (n - i) rr).2)) ∧ Hid (OwnP 117 sitM w.heap.size wr v_ X) ∧ Hid (rr.bad = false ∧ At1 wr B rr.s ∧ w.grownBy wr (some B)) ∧ Hid (rr.s.length ≤ 9223372036854775807))
  case atStart => exact ⟨0, [], r0, by omega, by omega, rfl, ⟨_, _, rfl⟩, rfl, rfl, OwnP.nil_ _ _ _ _, HK1, HLE⟩
  case round =>
    obtain ⟨i, X, rr, hi, hg, rfl, ⟨oa, oc, rfl⟩, hX, HQ, HO, HK, HLR⟩ := hrel
    by_cases hin : i < n
    · have iw : ((i : Nat) : Int) < (n : Int) := by omega
      have d1 : decide (((i : Nat) : Int) < (n : Int)) = true := decide_eq_true iw
      obtain ⟨z, hz⟩ : ∃ z, z = (sitC.rd rr).1 := ⟨_, rfl⟩
      obtain ⟨r2, hr2⟩ : ∃ r2, r2 = (sitC.rd rr).2 := ⟨_, rfl⟩
      have HQ2 : Hid (manyR sitC.rd n r0 = ((X ++ [z]) ++ (manyR sitC.rd (n - (i + 1)) r2).1, (manyR sitC.rd (n - (i + 1)) r2).2)) := by
        show _ = _
        rw [HQ.out, show n - i = n - (i + 1) + 1 by omega, many_next HK.out.1, hz, hr2]
        simp
      have HLE2 : Hid (r2.s.length ≤ 9223372036854775807) := by rw [hr2]; exact Nat.le_trans (sitC_ok.rd_le _) HLR.out
      have HBAD : Hid (r2.bad = true → RF.bad = true) := fun hb => by
        have h := HQ2.out
        rw [HR.out.1, many_bad hb] at h
        injection h with _ h
        rw [h]
        exact hb
      have HXL : Hid (X.length = i) := hX
      have C2 := Lib.hid (take_Site (w := wr) rr (x := z) (r' := r2) (by rw [hz, hr2]) HK.out.1 HLR.out HK.out.2.1)
      clear hz hr2 HQ hX
      go_wp2_with fail
      refine C2.out.mono ?_
      rintro e w5 ⟨G5, (⟨hb5, _, rfl, ⟨cs, rfl, hvz⟩, K5⟩ | ⟨hb5, rfl⟩)⟩
      rotate_left
      · have FE : Hid (GotP w B (fun w' v => OwnP 117 sitM w.heap.size w' v XS) RF (.panicked [{ v := unr, recovered := false }]) w5) := ⟨grown_trans HK.out.2.2 G5, .inr ⟨HBAD.out hb5, rfl⟩⟩
        clear G5 hb5 C2
        go_wp2_with fail
        exact ⟨rfl, FE.out⟩
      have hR := hvz
      obtain rfl := sitM_cells hvz
      clear hvz
      have HRR := Lib.hid hR
      have HKO : Hid (OwnP 117 sitM w.heap.size w5 (.slice oa i oc) X) := HO.out.kept sitM_ok G5 HBW.out
      have HG5 : Hid (w.grownBy w5 (some B)) := grown_trans HK.out.2.2 G5
      have HB5 := Lib.hid hb5
      have HMN : ∀ b, wr.heap.size ≤ b → w.heap.size ≤ b ∧ some b ≠ (Value.slice oa i oc).ownBlock := fun b hb => ⟨Nat.le_trans HK.out.2.2.size hb, fun e => by have := (HO.out.block b e.symm).2; omega⟩
      have HKA : OwnP 117 sitM w.heap.size (w5.alloc (.cells #[.int .i64 z.1, .int .i64 z.2] 117)) (.slice oa i oc) X := HKO.out.below sitM_ok (box1 _ _ _).1
      obtain ⟨xs, hxs, HOX, HROW⟩ := HKA.row sitM_ok
      have A1 : Hid (Rk.OwnK 117 2 w.heap.size (w5.alloc (.cells #[.int .i64 z.1, .int .i64 z.2] 117)) (.slice oa i oc) xs) := HOX
      have A2 : Hid (Rk.RowK 2 (w5.alloc (.cells #[.int .i64 z.1, .int .i64 z.2] 117)) (.slice (some ⟨w5.heap.size, 0, none⟩) 1 1) [[.int .i64 z.1, .int .i64 z.2]]) := Rk.row_one (e := 117) (heap_alloc_new _ _) rfl
      have A3 : Hid (xs.length + ([[.int .i64 z.1, .int .i64 z.2]] : List (List Value)).length ≤ 100000) := by show _ ≤ _; rw [hxs, HXL.out, List.length_singleton]; have := HR.out.2; omega
      have HRW : Hid (∀ (v' : Value) (w' : World), Rk.OwnK 117 2 w.heap.size w' v' (xs ++ [[.int .i64 z.1, .int .i64 z.2]]) → (w5.alloc (.cells #[.int .i64 z.1, .int .i64 z.2] 117)).grownBy w' (Value.slice oa i oc).ownBlock → (v'.ownBlock = (Value.slice oa i oc).ownBlock ∨ v'.ownBlock = some (w5.alloc (.cells #[.int .i64 z.1, .int .i64 z.2] 117)).heap.size) → OwnP 117 sitM w.heap.size w' v' (X ++ [z])) := fun v' w' h5 g5 k5 => HROW [.int .i64 z.1, .int .i64 z.2] z v' w' h5 g5 k5 (sitM_ok.keep (sitM_ok.mono HRR.out fun b _ hb => HMN b hb) (Keep.below (box1 _ _ _).1))
      have HONE : Hid (∀ y ∈ ([[.int .i64 z.1, .int .i64 z.2]] : List (List Value)), ∀ u ∈ y, u.oneCell' = true) := fun y hy => by simp only [List.mem_singleton] at hy; subst hy; exact sitM_ok.one HRR.out
      have A4 : Hid (w.heap.size ≤ (w5.alloc (.cells #[.int .i64 z.1, .int .i64 z.2] 117)).heap.size) := Nat.le_trans HG5.out.size (by exact (box1 w5 _ _).1.size)
      have HK6 : Hid (At1 (w5.alloc (.cells #[.int .i64 z.1, .int .i64 z.2] 117)) B r2.s) := K5.below (box1 _ _ _).1
      have HG6 : Hid (w.grownBy (w5.alloc (.cells #[.int .i64 z.1, .int .i64 z.2] 117)) (some B)) := grown_below HG5.out (box1 _ _ _).1
      clear K5 G5 C2 HKO HK HO HG5 hb5 hR HRR HOX HROW hxs HMN HKA
      go_wp2_with (at_builtin; refine Rk.wpList_append_rowk rfl _ _ 110 117 2 16 _ Tryz.underlying110 infoSite rfl (by decide) (by decide) rfl w.heap.size _ _ xs [[.int .i64 z.1, .int .i64 z.2]] rfl rfl A1.out A2.out HONE.out A3.out A4.out ?_)
      intro v6 w9 h5 g5 k5
      have HO9 := Lib.hid (HRW.out v6 w9 h5 g5 (k5.imp_right fun e => by rw [e, (box1 _ _ _).2.2]))
      obtain ⟨a6, c6, rfl⟩ := HO9.out.is_slice
      have hl1 : (X ++ [z]).length = i + 1 := by rw [List.length_append, HXL.out]; rfl
      have hlow : (Value.slice oa i oc).ownBlock ≠ some B := A1.out.low HBW.out
      have K9 : Hid (r2.bad = false ∧ At1 w9 B r2.s ∧ w.grownBy w9 (some B)) := ⟨HB5.out, (g5.block B HK6.out.cell.2.1 (fun e => hlow e.symm)).trans HK6.out, g5.os.trans HG6.out.os, g5.tape.trans HG6.out.tape, g5.output.trans HG6.out.output, Nat.le_trans HG6.out.size g5.size, fun k hk hne => (g5.block k (Nat.lt_of_lt_of_le hk HG6.out.size) (fun e => A1.out.low hk e.symm)).trans (HG6.out.block k hk hne)⟩
      rw [hl1] at HO9 ⊢
      clear h5 g5 k5 A1 A2 A3 A4 hlow hl1 HK6 HG6 HRW HONE
      go_wp2_with fail
      go_roundg (n - (i + 1))
      case measure => omega
      case rel => exact ⟨i + 1, X ++ [z], r2, by omega, Nat.le_refl _, by go_num, ⟨_, _, rfl⟩, by rw [List.length_append, HXL.out]; rfl, HQ2, HO9, K9, HLE2⟩
    · obtain rfl : i = n := by omega
      have iw : ¬ ((i : Int) < (i : Int)) := by omega
      have d1 : decide (((i : Nat) : Int) < (i : Int)) = false := decide_eq_false iw
      have HF : Hid (X = XS ∧ rr = RF) := by
        have h := HQ.out
        rw [HR.out.1, Nat.sub_self] at h
        have h1 := congrArg Prod.fst h
        have h2 := congrArg Prod.snd h
        exact ⟨by simpa [manyR] using h1.symm, h2.symm⟩
      have FE : Hid (GotP w B (fun w' v => OwnP 117 sitM w.heap.size w' v XS) RF (.returned (.slice oa i oc)) wr) := by
        show GotP _ _ _ _ _ _
        rw [← HF.out.1, ← HF.out.2]
        exact ⟨HK.out.2.2, .inl ⟨HK.out.1, _, rfl, HO.out, HK.out.2.1⟩⟩
      clear HQ HK HO HF
      go_wp2_with fail
      go_ret
      exact FE.out
set_option maxHeartbeats 4000000 in
theorem list_Site {B : Nat} {r : Rd} {x : List (Sit)} {r' : Rd} {w : World} (hx : (listC sitC).rd r = (x, r')) (hb : r.bad = false) (hl : r.s.length ≤ 9223372036854775807) (h : At1 w B r.s) : Calls Tryz.prog 110 #[.pointer (some ⟨B, 0, none⟩), .func (.func 111) #[.pointer (some ⟨B, 0, none⟩)] #[]] w (GotP w B (fun w' v => OwnP 117 sitM w.heap.size w' v x) r') := by
  obtain ⟨n, hn⟩ : ∃ n, n = (pairR r).1 := ⟨_, rfl⟩
  obtain ⟨r0, hr0⟩ : ∃ r0, r0 = (pairR r).2 := ⟨_, rfl⟩
  have C := Lib.hid (pair_step (w := w) (show pairR r = (n, r0) by rw [hn, hr0]) hb hl h)
  have HR : Hid (manyR sitC.rd n r0 = (x, r') ∧ n < 65536) := ⟨by rw [hn, hr0]; exact hx, by rw [hn]; have := pair_max r; omega⟩
  have HLE : Hid (r0.s.length ≤ 9223372036854775807) := by rw [hr0]; exact Nat.le_trans (pair_le _) hl
  have CI : Hid (∀ w1, w.grownBy w1 (some B) → r0.bad = false → At1 w1 B r0.s → Calls Tryz.prog 118 #[.int .i64 (n : Nat), .func (.func 111) #[.pointer (some ⟨B, 0, none⟩)] #[]] w1 (GotP w B (fun w' v => OwnP 117 sitM w.heap.size w' v x) r')) := fun w1 g hb hk => (items_Site r0 n HR.out.2 hb HLE.out hk).mono fun e w2 hh => by
    rw [HR.out.1] at hh
    obtain ⟨G, hh⟩ := hh
    refine ⟨grown_trans g G, hh.imp ?_ id⟩
    rintro ⟨h1, v, h2, h3, h4⟩
    exact ⟨h1, v, h2, h3.base sitM_ok g.size, h4⟩
  have HBD : Hid (r0.bad = true → r'.bad = true) := fun hb0 => by have h := HR.out.1; rw [many_bad hb0] at h; injection h with _ h; rw [← h]; exact hb0
  clear hn hr0 h hl hx hb
  go_enter Tryz.func110, Tryz.ntmps110
  go_wp2_with fail
  refine C.out.mono ?_
  rintro e w1 ⟨G, (⟨hb, rfl, K⟩ | ⟨hb, rfl⟩)⟩
  rotate_left
  · have FE : Hid (GotP w B (fun w' v => OwnP 117 sitM w.heap.size w' v x) r' (.panicked [{ v := unr, recovered := false }]) w1) := ⟨G, .inr ⟨HBD.out hb, rfl⟩⟩
    clear G hb C
    go_wp2_with fail
    exact ⟨rfl, FE.out⟩
  have C2 := Lib.hid (CI.out w1 G hb K)
  clear hb K G C CI
  go_wp2_with fail
  refine C2.out.mono ?_
  rintro e w2 ⟨G, (⟨hb, v, rfl, O, K⟩ | ⟨hb, rfl⟩)⟩
  · have FE : Hid (GotP w B (fun w' v => OwnP 117 sitM w.heap.size w' v x) r' (.returned v) w2) := ⟨G, .inl ⟨hb, v, rfl, O, K⟩⟩
    clear G hb O K C2
    go_wp2_with fail
    go_ret
    exact FE.out
  · have FE : Hid (GotP w B (fun w' v => OwnP 117 sitM w.heap.size w' v x) r' (.panicked [{ v := unr, recovered := false }]) w2) := ⟨G, .inr ⟨hb, rfl⟩⟩
    clear G hb C2
    go_wp2_with fail
    exact ⟨rfl, FE.out⟩
set_option maxHeartbeats 8000000 in
theorem take0_Undo {B : Nat} {w : World} (r0 r1 r2 r3 r4 r5 : Rd) (x0 : Int) (x1 : Int) (x2 : Int) (x3 : Int) (x4 : List UInt8) (e0 : numC.rd r0 = (x0, r1)) (e1 : numC.rd r1 = (x1, r2)) (e2 : numC.rd r2 = (x2, r3)) (e3 : numC.rd r3 = (x3, r4)) (e4 : textC.rd r4 = (x4, r5)) (hb : r0.bad = false) (hl : r0.s.length ≤ 9223372036854775807) (h : At1 w B r0.s) : Calls Tryz.prog 89 #[.pointer (some ⟨B, 0, none⟩)] w (GotP w B (fun w' v => ∃ cs, v = .agg cs.toArray ∧ thgM.R (fun b => w.heap.size ≤ b) w' cs (x0, x1, x2, x3, x4)) r5) := by
  obtain ⟨B0, P0, L0⟩ := box1 w #[.int .i64 0, .int .i64 0, .int .i64 0, .int .i64 0, .string (ByteArray.mk #[])] 63
  obtain ⟨W0, hW0⟩ : ∃ W0, W0 = w.alloc (.cells #[.int .i64 0, .int .i64 0, .int .i64 0, .int .i64 0, .string (ByteArray.mk #[])] 63) := ⟨_, rfl⟩
  rw [← hW0] at B0 P0 L0
  obtain ⟨R, hR⟩ : ∃ R, R = w.heap.size := ⟨_, rfl⟩
  rw [← hR] at P0 L0
  have hRB : R ≠ B := by have := h.cell.2.1; omega
  have HW0 := Lib.hid hW0
  have HR := Lib.hid hR
  have HRB := Lib.hid hRB
  have HBB : Hid (B < w.heap.size ∧ W0.heap.size = R + 1) := ⟨h.cell.2.1, L0⟩
  have hmf : ∀ (fn : Fn) (first cap : Array Value) (w : World), (Instr.makeFunc fn first cap).run Tryz.prog w = .ok (.func fn first cap) w := fun _ _ _ _ => rfl
  have l0 := hl
  have l1 : r1.s.length ≤ 9223372036854775807 := by have q := numC_ok.rd_le r0; rw [e0] at q; exact Nat.le_trans q l0
  have l2 : r2.s.length ≤ 9223372036854775807 := by have q := numC_ok.rd_le r1; rw [e1] at q; exact Nat.le_trans q l1
  have l3 : r3.s.length ≤ 9223372036854775807 := by have q := numC_ok.rd_le r2; rw [e2] at q; exact Nat.le_trans q l2
  have l4 : r4.s.length ≤ 9223372036854775807 := by have q := numC_ok.rd_le r3; rw [e3] at q; exact Nat.le_trans q l3
  have S5 : Hid (r5.bad = true → r5.bad = true) := fun h => h
  have S4 : Hid (r4.bad = true → r5.bad = true) := fun h => S5.out (by have q := textC_ok.rd_stuck r4 h; rw [e4] at q; exact q)
  have S3 : Hid (r3.bad = true → r5.bad = true) := fun h => S4.out (by have q := numC_ok.rd_stuck r3 h; rw [e3] at q; exact q)
  have S2 : Hid (r2.bad = true → r5.bad = true) := fun h => S3.out (by have q := numC_ok.rd_stuck r2 h; rw [e2] at q; exact q)
  have S1 : Hid (r1.bad = true → r5.bad = true) := fun h => S2.out (by have q := numC_ok.rd_stuck r1 h; rw [e1] at q; exact q)
  have C1 : Hid (∀ w', r0.bad = false → At1 w' B r0.s → Calls Tryz.prog 51 #[.pointer (some ⟨B, 0, none⟩)] w' (Got w' B (.int .i64 x0) r1)) := fun w' hb k => num_step e0 hb l0 k
  have C2 : Hid (∀ w', r1.bad = false → At1 w' B r1.s → Calls Tryz.prog 51 #[.pointer (some ⟨B, 0, none⟩)] w' (Got w' B (.int .i64 x1) r2)) := fun w' hb k => num_step e1 hb l1 k
  have C3 : Hid (∀ w', r2.bad = false → At1 w' B r2.s → Calls Tryz.prog 51 #[.pointer (some ⟨B, 0, none⟩)] w' (Got w' B (.int .i64 x2) r3)) := fun w' hb k => num_step e2 hb l2 k
  have C4 : Hid (∀ w', r3.bad = false → At1 w' B r3.s → Calls Tryz.prog 51 #[.pointer (some ⟨B, 0, none⟩)] w' (Got w' B (.int .i64 x3) r4)) := fun w' hb k => num_step e3 hb l3 k
  have C5 : Hid (∀ w', r4.bad = false → At1 w' B r4.s → Calls Tryz.prog 91 #[.pointer (some ⟨B, 0, none⟩)] w' (Got w' B (.string (mkB x4)) r5)) := fun w' hb k => text_step e4 hb l4 k
  have Q0 : Hid (r0.bad = false ∧ At1 W0 B r0.s ∧ W0.grownBy W0 (some B)) := ⟨hb, h.below B0, grown_refl _ _⟩
  have HG : Hid (∀ w', W0.grownBy w' (some B) → w.grownBy w' (some B) ∧ w'.heap[R]? = some (.cells #[.int .i64 0, .int .i64 0, .int .i64 0, .int .i64 0, .string (ByteArray.mk #[])] 63 (0, 0))) := fun w' g => ⟨grown_trans (grown_of _ _ B0 _) g, (g.block R (by omega) (by simpa using hRB)).trans P0⟩
  obtain ⟨y4, hy4⟩ : ∃ y, y = mkB x4 := ⟨_, rfl⟩
  rw [← hy4] at C5
  have HY4 := Lib.hid hy4
  clear hb h hl hR hW0 B0 P0 L0 l0 l1 l2 l3 l4 e0 e1 e2 e3 e4 hRB hy4
  go_enter Tryz.func89, Tryz.ntmps89
  go_upto_region 1 with fail
  rw [← HW0.out, ← HR.out]
  refine region_pure [0, 1, 2, 4, 5, 6, 8, 9, 10, 12, 13, 14, 16, 17, 18] [3, 7, 11, 15, 19, 20, 21] (by kernel_rfl) (by kernel_rfl) (fun d _ _ _ _ h => by cases d <;> exact h) (fun wd hwd => ?_)
  simp only [List.filterMap_cons, List.filterMap_nil, List.getElem?_cons_zero, List.getElem?_cons_succ]
  have QD := Lib.hid (And.intro Q0.out.1 (And.intro (at1_drew Q0.out.2.1 hwd.out) (grown_drew1 Q0.out.2.2 hwd.out)))
  clear Q0 hwd
  repeat (refine Zo.wpPure_step (fun K hK => ?_); go_simp; refine hK _ ?_; clear hK K)
  refine Zo.wpPure_nil ?_
  have Q0 := Lib.hid QD.out
  clear QD
  go_wp2_with fail
  refine (C1.out _ Q0.out.1 Q0.out.2.1).mono ?_
  rintro e w1 ⟨G, (⟨hb, rfl, K⟩ | ⟨hb, rfl⟩)⟩
  rotate_left
  · have FE : Hid (GotP w B (fun w' v => ∃ cs, v = .agg cs.toArray ∧ thgM.R (fun b => w.heap.size ≤ b) w' cs (x0, x1, x2, x3, x4)) r5 (.panicked [{ v := unr, recovered := false }]) w1) := ⟨(HG.out _ (grown_trans Q0.out.2.2 G)).1, .inr ⟨S1.out hb, rfl⟩⟩
    clear G hb
    go_wp2_with fail
    exact ⟨rfl, FE.out⟩
  have Q1 : Hid (r1.bad = false ∧ At1 w1 B r1.s ∧ W0.grownBy w1 (some B)) := ⟨hb, K, grown_trans Q0.out.2.2 G⟩
  clear G hb K C1 Q0
  go_wp2_with fail
  refine (C2.out _ Q1.out.1 Q1.out.2.1).mono ?_
  rintro e w2 ⟨G, (⟨hb, rfl, K⟩ | ⟨hb, rfl⟩)⟩
  rotate_left
  · have FE : Hid (GotP w B (fun w' v => ∃ cs, v = .agg cs.toArray ∧ thgM.R (fun b => w.heap.size ≤ b) w' cs (x0, x1, x2, x3, x4)) r5 (.panicked [{ v := unr, recovered := false }]) w2) := ⟨(HG.out _ (grown_trans Q1.out.2.2 G)).1, .inr ⟨S2.out hb, rfl⟩⟩
    clear G hb
    go_wp2_with fail
    exact ⟨rfl, FE.out⟩
  have Q2 : Hid (r2.bad = false ∧ At1 w2 B r2.s ∧ W0.grownBy w2 (some B)) := ⟨hb, K, grown_trans Q1.out.2.2 G⟩
  clear G hb K C2 Q1
  go_wp2_with fail
  refine (C3.out _ Q2.out.1 Q2.out.2.1).mono ?_
  rintro e w3 ⟨G, (⟨hb, rfl, K⟩ | ⟨hb, rfl⟩)⟩
  rotate_left
  · have FE : Hid (GotP w B (fun w' v => ∃ cs, v = .agg cs.toArray ∧ thgM.R (fun b => w.heap.size ≤ b) w' cs (x0, x1, x2, x3, x4)) r5 (.panicked [{ v := unr, recovered := false }]) w3) := ⟨(HG.out _ (grown_trans Q2.out.2.2 G)).1, .inr ⟨S3.out hb, rfl⟩⟩
    clear G hb
    go_wp2_with fail
    exact ⟨rfl, FE.out⟩
  have Q3 : Hid (r3.bad = false ∧ At1 w3 B r3.s ∧ W0.grownBy w3 (some B)) := ⟨hb, K, grown_trans Q2.out.2.2 G⟩
  clear G hb K C3 Q2
  go_wp2_with fail
  refine (C4.out _ Q3.out.1 Q3.out.2.1).mono ?_
  rintro e w4 ⟨G, (⟨hb, rfl, K⟩ | ⟨hb, rfl⟩)⟩
  rotate_left
  · have FE : Hid (GotP w B (fun w' v => ∃ cs, v = .agg cs.toArray ∧ thgM.R (fun b => w.heap.size ≤ b) w' cs (x0, x1, x2, x3, x4)) r5 (.panicked [{ v := unr, recovered := false }]) w4) := ⟨(HG.out _ (grown_trans Q3.out.2.2 G)).1, .inr ⟨S4.out hb, rfl⟩⟩
    clear G hb
    go_wp2_with fail
    exact ⟨rfl, FE.out⟩
  have Q4 : Hid (r4.bad = false ∧ At1 w4 B r4.s ∧ W0.grownBy w4 (some B)) := ⟨hb, K, grown_trans Q3.out.2.2 G⟩
  clear G hb K C4 Q3
  go_wp2_with fail
  refine (C5.out _ Q4.out.1 Q4.out.2.1).mono ?_
  rintro e w5 ⟨G, (⟨hb, rfl, K⟩ | ⟨hb, rfl⟩)⟩
  rotate_left
  · have FE : Hid (GotP w B (fun w' v => ∃ cs, v = .agg cs.toArray ∧ thgM.R (fun b => w.heap.size ≤ b) w' cs (x0, x1, x2, x3, x4)) r5 (.panicked [{ v := unr, recovered := false }]) w5) := ⟨(HG.out _ (grown_trans Q4.out.2.2 G)).1, .inr ⟨S5.out hb, rfl⟩⟩
    clear G hb
    go_wp2_with fail
    exact ⟨rfl, FE.out⟩
  obtain ⟨g4, z4⟩ := HG.out _ (grown_trans Q4.out.2.2 G)
  obtain ⟨c0, c1, c2, c3, c4⟩ := five_cells z4
  have fr0 := free_at (i := 0) z4
  have fr1 := free_at (i := 1) z4
  have fr2 := free_at (i := 2) z4
  have fr3 := free_at (i := 3) z4
  have fr4 := free_at (i := 4) z4
  obtain ⟨WN, hWN⟩ : ∃ WN, WN = ((((w5.setCell ⟨R, 0, none⟩ (.int .i64 x0)).setCell ⟨R, 1, none⟩ (.int .i64 x1)).setCell ⟨R, 2, none⟩ (.int .i64 x2)).setCell ⟨R, 3, none⟩ (.int .i64 x3)).setCell ⟨R, 4, none⟩ (.string y4) := ⟨_, rfl⟩
  have gN : w5.grownBy WN (some R) := by
    rw [hWN]
    exact grown_put (grown_put (grown_put (grown_put (grown_put (grown_refl _ _)))))
  have FE : Hid (GotP w B (fun w' v => ∃ cs, v = .agg cs.toArray ∧ thgM.R (fun b => w.heap.size ≤ b) w' cs (x0, x1, x2, x3, x4)) r5 (.returned (.agg #[.int .i64 x0, .int .i64 x1, .int .i64 x2, .int .i64 x3, .string y4])) WN) := by
    have hRs : w.heap.size ≤ R := by rw [← HR.out]; exact Nat.le_refl _
    refine ⟨by rw [hWN]; exact grown_new (grown_new (grown_new (grown_new (grown_new g4 hRs _) hRs _) hRs _) hRs _) hRs _, .inl ⟨hb, _, rfl, ⟨[.int .i64 x0, .int .i64 x1, .int .i64 x2, .int .i64 x3, .string y4], rfl, ?_⟩, by rw [hWN]; exact at1_other (at1_other (at1_other (at1_other (at1_other K HRB.out) HRB.out) HRB.out) HRB.out) HRB.out⟩⟩
    rw [HY4.out]
    exact thgM_mk x0 x1 x2 x3 x4
  have zz : WN.heap[R]? = some (.cells #[.int .i64 x0, .int .i64 x1, .int .i64 x2, .int .i64 x3, .string y4] 63 (0, 0)) := by
    rw [hWN]
    exact set_block (set_block (set_block (set_block (set_block z4))))
  obtain ⟨y_0, y_1, y_2, y_3, y_4⟩ := five_cells zz
  have HWN := Lib.hid hWN
  clear hWN zz z4 g4 G hb K C5 Q4 gN
  go_wp2_with fail
  rw [← HWN.out]
  exact bodyPost_ret (v := .agg #[.int .i64 x0, .int .i64 x1, .int .i64 x2, .int .i64 x3, .string y4]) (by simp [results, Tryz.results89, go_sem, y_0, y_1, y_2, y_3, y_4, Tryz.isAgg63, Tryz.sizeOf63]) rfl FE.out
set_option maxHeartbeats 8000000 in
theorem take_Undo {B : Nat} {w : World} (r : Rd) {x : Thg} {r' : Rd} (hx : thgC.rd r = (x, r')) (hb : r.bad = false) (hl : r.s.length ≤ 9223372036854775807) (h : At1 w B r.s) : Calls Tryz.prog 89 #[.pointer (some ⟨B, 0, none⟩)] w (GotP w B (fun w' v => ∃ cs, v = .agg cs.toArray ∧ thgM.R (fun b => w.heap.size ≤ b) w' cs x) r') := by
  obtain ⟨x0, r1, e0⟩ : ∃ x rq, numC.rd r = (x, rq) := ⟨_, _, rfl⟩
  obtain ⟨x1, r2, e1⟩ : ∃ x rq, numC.rd r1 = (x, rq) := ⟨_, _, rfl⟩
  obtain ⟨x2, r3, e2⟩ : ∃ x rq, numC.rd r2 = (x, rq) := ⟨_, _, rfl⟩
  obtain ⟨x3, r4, e3⟩ : ∃ x rq, numC.rd r3 = (x, rq) := ⟨_, _, rfl⟩
  obtain ⟨x4, r5, e4⟩ : ∃ x rq, textC.rd r4 = (x, rq) := ⟨_, _, rfl⟩
  have hx' : thgC.rd r = ((x0, x1, x2, x3, x4), r5) := pair_rd2 e0 (pair_rd2 e1 (pair_rd2 e2 (pair_rd2 e3 e4)))
  rw [hx] at hx'
  injection hx' with h1 h2
  rw [h1, h2]
  exact take0_Undo (w := w) r r1 r2 r3 r4 r5 x0 x1 x2 x3 x4 e0 e1 e2 e3 e4 hb hl h
set_option maxHeartbeats 8000000 in
theorem items_Undo {B : Nat} {w : World} (r0 : Rd) (n : Nat) (n256 : n < 65536) (hb : r0.bad = false) (hl : r0.s.length ≤ 9223372036854775807) (h : At1 w B r0.s) : Calls Tryz.prog 112 #[.int .i64 (n : Nat), .func (.func 89) #[.pointer (some ⟨B, 0, none⟩)] #[]] w (GotP w B (fun w' v => OwnP 63 thgM w.heap.size w' v (manyR thgC.rd n r0).1) (manyR thgC.rd n r0).2) := by
  have HBW : Hid (B < w.heap.size) := h.cell.2.1
  obtain ⟨XS, hXS⟩ : ∃ XS, XS = (manyR thgC.rd n r0).1 := ⟨_, rfl⟩
  obtain ⟨RF, hRF⟩ : ∃ RF, RF = (manyR thgC.rd n r0).2 := ⟨_, rfl⟩
  have HR : Hid (manyR thgC.rd n r0 = (XS, RF) ∧ n < 65536) := ⟨by rw [hXS, hRF], n256⟩
  have HLE : Hid (r0.s.length ≤ 9223372036854775807) := hl
  have HK1 : Hid (r0.bad = false ∧ At1 w B r0.s ∧ w.grownBy w (some B)) := ⟨hb, h, grown_refl _ _⟩
  rw [← hXS, ← hRF]
  clear h hl hXS hRF hb
  go_enter Tryz.func112, Tryz.ntmps112
  go_wp2_with fail
  go_loopg [5, 7] n (fun g v_ i_ wr => ∃ (i : Nat) (X : List (Thg)) (rr : Rd), i ≤ n ∧ n - i ≤ g ∧ i_ = .int .i64 i ∧ (∃ a c, v_ = .slice a i c) ∧ X.length = i ∧ Hid (manyR thgC.rd n r0 = (X ++ (manyR thgC.rd (n - i) rr).1, (manyR thgC.rd (n - i) rr).2)) ∧ Hid (OwnP 63 thgM w.heap.size wr v_ X) ∧ Hid (rr.bad = false ∧ At1 wr B rr.s ∧ w.grownBy wr (some B)) ∧ Hid (rr.s.length ≤ 9223372036854775807))
  case atStart => exact ⟨0, [], r0, by omega, by omega, rfl, ⟨_, _, rfl⟩, rfl, rfl, OwnP.nil_ _ _ _ _, HK1, HLE⟩
  case round =>
    obtain ⟨i, X, rr, hi, hg, rfl, ⟨oa, oc, rfl⟩, hX, HQ, HO, HK, HLR⟩ := hrel
    by_cases hin : i < n
    · have iw : ((i : Nat) : Int) < (n : Int) := by omega
      have d1 : decide (((i : Nat) : Int) < (n : Int)) = true := decide_eq_true iw
      obtain ⟨z, hz⟩ : ∃ z, z = (thgC.rd rr).1 := ⟨_, rfl⟩
      obtain ⟨r2, hr2⟩ : ∃ r2, r2 = (thgC.rd rr).2 := ⟨_, rfl⟩
      have HQ2 : Hid (manyR thgC.rd n r0 = ((X ++ [z]) ++ (manyR thgC.rd (n - (i + 1)) r2).1, (manyR thgC.rd (n - (i + 1)) r2).2)) := by
        show _ = _
        rw [HQ.out, show n - i = n - (i + 1) + 1 by omega, many_next HK.out.1, hz, hr2]
        simp
      have HLE2 : Hid (r2.s.length ≤ 9223372036854775807) := by rw [hr2]; exact Nat.le_trans (thgC_ok.rd_le _) HLR.out
      have HBAD : Hid (r2.bad = true → RF.bad = true) := fun hb => by
        have h := HQ2.out
        rw [HR.out.1, many_bad hb] at h
        injection h with _ h
        rw [h]
        exact hb
      have HXL : Hid (X.length = i) := hX
      have C2 := Lib.hid (take_Undo (w := wr) rr (x := z) (r' := r2) (by rw [hz, hr2]) HK.out.1 HLR.out HK.out.2.1)
      clear hz hr2 HQ hX
      go_wp2_with fail
      refine C2.out.mono ?_
      rintro e w5 ⟨G5, (⟨hb5, _, rfl, ⟨cs, rfl, hvz⟩, K5⟩ | ⟨hb5, rfl⟩)⟩
      rotate_left
      · have FE : Hid (GotP w B (fun w' v => OwnP 63 thgM w.heap.size w' v XS) RF (.panicked [{ v := unr, recovered := false }]) w5) := ⟨grown_trans HK.out.2.2 G5, .inr ⟨HBAD.out hb5, rfl⟩⟩
        clear G5 hb5 C2
        go_wp2_with fail
        exact ⟨rfl, FE.out⟩
      have hR := hvz
      obtain rfl := thgM_cells hvz
      clear hvz
      have HRR := Lib.hid hR
      have HKO : Hid (OwnP 63 thgM w.heap.size w5 (.slice oa i oc) X) := HO.out.kept thgM_ok G5 HBW.out
      have HG5 : Hid (w.grownBy w5 (some B)) := grown_trans HK.out.2.2 G5
      have HB5 := Lib.hid hb5
      have HMN : ∀ b, wr.heap.size ≤ b → w.heap.size ≤ b ∧ some b ≠ (Value.slice oa i oc).ownBlock := fun b hb => ⟨Nat.le_trans HK.out.2.2.size hb, fun e => by have := (HO.out.block b e.symm).2; omega⟩
      have HKA : OwnP 63 thgM w.heap.size (w5.alloc (.cells #[.int .i64 z.1, .int .i64 z.2.1, .int .i64 z.2.2.1, .int .i64 z.2.2.2.1, .string (mkB z.2.2.2.2)] 63)) (.slice oa i oc) X := HKO.out.below thgM_ok (box1 _ _ _).1
      obtain ⟨xs, hxs, HOX, HROW⟩ := HKA.row thgM_ok
      have A1 : Hid (Rk.OwnK 63 5 w.heap.size (w5.alloc (.cells #[.int .i64 z.1, .int .i64 z.2.1, .int .i64 z.2.2.1, .int .i64 z.2.2.2.1, .string (mkB z.2.2.2.2)] 63)) (.slice oa i oc) xs) := HOX
      have A2 : Hid (Rk.RowK 5 (w5.alloc (.cells #[.int .i64 z.1, .int .i64 z.2.1, .int .i64 z.2.2.1, .int .i64 z.2.2.2.1, .string (mkB z.2.2.2.2)] 63)) (.slice (some ⟨w5.heap.size, 0, none⟩) 1 1) [[.int .i64 z.1, .int .i64 z.2.1, .int .i64 z.2.2.1, .int .i64 z.2.2.2.1, .string (mkB z.2.2.2.2)]]) := Rk.row_one (e := 63) (heap_alloc_new _ _) rfl
      have A3 : Hid (xs.length + ([[.int .i64 z.1, .int .i64 z.2.1, .int .i64 z.2.2.1, .int .i64 z.2.2.2.1, .string (mkB z.2.2.2.2)]] : List (List Value)).length ≤ 100000) := by show _ ≤ _; rw [hxs, HXL.out, List.length_singleton]; have := HR.out.2; omega
      have HRW : Hid (∀ (v' : Value) (w' : World), Rk.OwnK 63 5 w.heap.size w' v' (xs ++ [[.int .i64 z.1, .int .i64 z.2.1, .int .i64 z.2.2.1, .int .i64 z.2.2.2.1, .string (mkB z.2.2.2.2)]]) → (w5.alloc (.cells #[.int .i64 z.1, .int .i64 z.2.1, .int .i64 z.2.2.1, .int .i64 z.2.2.2.1, .string (mkB z.2.2.2.2)] 63)).grownBy w' (Value.slice oa i oc).ownBlock → (v'.ownBlock = (Value.slice oa i oc).ownBlock ∨ v'.ownBlock = some (w5.alloc (.cells #[.int .i64 z.1, .int .i64 z.2.1, .int .i64 z.2.2.1, .int .i64 z.2.2.2.1, .string (mkB z.2.2.2.2)] 63)).heap.size) → OwnP 63 thgM w.heap.size w' v' (X ++ [z])) := fun v' w' h5 g5 k5 => HROW [.int .i64 z.1, .int .i64 z.2.1, .int .i64 z.2.2.1, .int .i64 z.2.2.2.1, .string (mkB z.2.2.2.2)] z v' w' h5 g5 k5 (thgM_ok.keep (thgM_ok.mono HRR.out fun b _ hb => HMN b hb) (Keep.below (box1 _ _ _).1))
      have HONE : Hid (∀ y ∈ ([[.int .i64 z.1, .int .i64 z.2.1, .int .i64 z.2.2.1, .int .i64 z.2.2.2.1, .string (mkB z.2.2.2.2)]] : List (List Value)), ∀ u ∈ y, u.oneCell' = true) := fun y hy => by simp only [List.mem_singleton] at hy; subst hy; exact thgM_ok.one HRR.out
      have A4 : Hid (w.heap.size ≤ (w5.alloc (.cells #[.int .i64 z.1, .int .i64 z.2.1, .int .i64 z.2.2.1, .int .i64 z.2.2.2.1, .string (mkB z.2.2.2.2)] 63)).heap.size) := Nat.le_trans HG5.out.size (by exact (box1 w5 _ _).1.size)
      have HK6 : Hid (At1 (w5.alloc (.cells #[.int .i64 z.1, .int .i64 z.2.1, .int .i64 z.2.2.1, .int .i64 z.2.2.2.1, .string (mkB z.2.2.2.2)] 63)) B r2.s) := K5.below (box1 _ _ _).1
      have HG6 : Hid (w.grownBy (w5.alloc (.cells #[.int .i64 z.1, .int .i64 z.2.1, .int .i64 z.2.2.1, .int .i64 z.2.2.2.1, .string (mkB z.2.2.2.2)] 63)) (some B)) := grown_below HG5.out (box1 _ _ _).1
      clear K5 G5 C2 HKO HK HO HG5 hb5 hR HRR HOX HROW hxs HMN HKA
      go_wp2_with (at_builtin; refine Rk.wpList_append_rowk rfl _ _ 61 63 5 48 _ Tryz.underlying61 infoUndo rfl (by decide) (by decide) rfl w.heap.size _ _ xs [[.int .i64 z.1, .int .i64 z.2.1, .int .i64 z.2.2.1, .int .i64 z.2.2.2.1, .string (mkB z.2.2.2.2)]] rfl rfl A1.out A2.out HONE.out A3.out A4.out ?_)
      intro v6 w9 h5 g5 k5
      have HO9 := Lib.hid (HRW.out v6 w9 h5 g5 (k5.imp_right fun e => by rw [e, (box1 _ _ _).2.2]))
      obtain ⟨a6, c6, rfl⟩ := HO9.out.is_slice
      have hl1 : (X ++ [z]).length = i + 1 := by rw [List.length_append, HXL.out]; rfl
      have hlow : (Value.slice oa i oc).ownBlock ≠ some B := A1.out.low HBW.out
      have K9 : Hid (r2.bad = false ∧ At1 w9 B r2.s ∧ w.grownBy w9 (some B)) := ⟨HB5.out, (g5.block B HK6.out.cell.2.1 (fun e => hlow e.symm)).trans HK6.out, g5.os.trans HG6.out.os, g5.tape.trans HG6.out.tape, g5.output.trans HG6.out.output, Nat.le_trans HG6.out.size g5.size, fun k hk hne => (g5.block k (Nat.lt_of_lt_of_le hk HG6.out.size) (fun e => A1.out.low hk e.symm)).trans (HG6.out.block k hk hne)⟩
      rw [hl1] at HO9 ⊢
      clear h5 g5 k5 A1 A2 A3 A4 hlow hl1 HK6 HG6 HRW HONE
      go_wp2_with fail
      go_roundg (n - (i + 1))
      case measure => omega
      case rel => exact ⟨i + 1, X ++ [z], r2, by omega, Nat.le_refl _, by go_num, ⟨_, _, rfl⟩, by rw [List.length_append, HXL.out]; rfl, HQ2, HO9, K9, HLE2⟩
    · obtain rfl : i = n := by omega
      have iw : ¬ ((i : Int) < (i : Int)) := by omega
      have d1 : decide (((i : Nat) : Int) < (i : Int)) = false := decide_eq_false iw
      have HF : Hid (X = XS ∧ rr = RF) := by
        have h := HQ.out
        rw [HR.out.1, Nat.sub_self] at h
        have h1 := congrArg Prod.fst h
        have h2 := congrArg Prod.snd h
        exact ⟨by simpa [manyR] using h1.symm, h2.symm⟩
      have FE : Hid (GotP w B (fun w' v => OwnP 63 thgM w.heap.size w' v XS) RF (.returned (.slice oa i oc)) wr) := by
        show GotP _ _ _ _ _ _
        rw [← HF.out.1, ← HF.out.2]
        exact ⟨HK.out.2.2, .inl ⟨HK.out.1, _, rfl, HO.out, HK.out.2.1⟩⟩
      clear HQ HK HO HF
      go_wp2_with fail
      go_ret
      exact FE.out
set_option maxHeartbeats 4000000 in
theorem list_Undo {B : Nat} {r : Rd} {x : List (Thg)} {r' : Rd} {w : World} (hx : (listC thgC).rd r = (x, r')) (hb : r.bad = false) (hl : r.s.length ≤ 9223372036854775807) (h : At1 w B r.s) : Calls Tryz.prog 88 #[.pointer (some ⟨B, 0, none⟩), .func (.func 89) #[.pointer (some ⟨B, 0, none⟩)] #[]] w (GotP w B (fun w' v => OwnP 63 thgM w.heap.size w' v x) r') := by
  obtain ⟨n, hn⟩ : ∃ n, n = (pairR r).1 := ⟨_, rfl⟩
  obtain ⟨r0, hr0⟩ : ∃ r0, r0 = (pairR r).2 := ⟨_, rfl⟩
  have C := Lib.hid (pair_step (w := w) (show pairR r = (n, r0) by rw [hn, hr0]) hb hl h)
  have HR : Hid (manyR thgC.rd n r0 = (x, r') ∧ n < 65536) := ⟨by rw [hn, hr0]; exact hx, by rw [hn]; have := pair_max r; omega⟩
  have HLE : Hid (r0.s.length ≤ 9223372036854775807) := by rw [hr0]; exact Nat.le_trans (pair_le _) hl
  have CI : Hid (∀ w1, w.grownBy w1 (some B) → r0.bad = false → At1 w1 B r0.s → Calls Tryz.prog 112 #[.int .i64 (n : Nat), .func (.func 89) #[.pointer (some ⟨B, 0, none⟩)] #[]] w1 (GotP w B (fun w' v => OwnP 63 thgM w.heap.size w' v x) r')) := fun w1 g hb hk => (items_Undo r0 n HR.out.2 hb HLE.out hk).mono fun e w2 hh => by
    rw [HR.out.1] at hh
    obtain ⟨G, hh⟩ := hh
    refine ⟨grown_trans g G, hh.imp ?_ id⟩
    rintro ⟨h1, v, h2, h3, h4⟩
    exact ⟨h1, v, h2, h3.base thgM_ok g.size, h4⟩
  have HBD : Hid (r0.bad = true → r'.bad = true) := fun hb0 => by have h := HR.out.1; rw [many_bad hb0] at h; injection h with _ h; rw [← h]; exact hb0
  clear hn hr0 h hl hx hb
  go_enter Tryz.func88, Tryz.ntmps88
  go_wp2_with fail
  refine C.out.mono ?_
  rintro e w1 ⟨G, (⟨hb, rfl, K⟩ | ⟨hb, rfl⟩)⟩
  rotate_left
  · have FE : Hid (GotP w B (fun w' v => OwnP 63 thgM w.heap.size w' v x) r' (.panicked [{ v := unr, recovered := false }]) w1) := ⟨G, .inr ⟨HBD.out hb, rfl⟩⟩
    clear G hb C
    go_wp2_with fail
    exact ⟨rfl, FE.out⟩
  have C2 := Lib.hid (CI.out w1 G hb K)
  clear hb K G C CI
  go_wp2_with fail
  refine C2.out.mono ?_
  rintro e w2 ⟨G, (⟨hb, v, rfl, O, K⟩ | ⟨hb, rfl⟩)⟩
  · have FE : Hid (GotP w B (fun w' v => OwnP 63 thgM w.heap.size w' v x) r' (.returned v) w2) := ⟨G, .inl ⟨hb, v, rfl, O, K⟩⟩
    clear G hb O K C2
    go_wp2_with fail
    go_ret
    exact FE.out
  · have FE : Hid (GotP w B (fun w' v => OwnP 63 thgM w.heap.size w' v x) r' (.panicked [{ v := unr, recovered := false }]) w2) := ⟨G, .inr ⟨hb, rfl⟩⟩
    clear G hb C2
    go_wp2_with fail
    exact ⟨rfl, FE.out⟩
end Go.Proofs.YtmdgjcikekojdaaGreatDoor.Sta
/- State: the program's reader: labels, entries. -/
set_option linter.unusedVariables false
set_option linter.unusedSimpArgs false
set_option maxRecDepth 100000
namespace Go.Proofs.YtmdgjcikekojdaaGreatDoor.Sta
open Go.RowKit Go.Lib Go.Proofs.YtmdgjcikekojdaaGreatDoor.Bx Go.Proofs.YtmdgjcikekojdaaGreatDoor.Frm Go.Proofs.YtmdgjcikekojdaaGreatDoor.Wds

set_option maxHeartbeats 8000000 in
theorem take0_Label {B : Nat} {w : World} (r0 r1 r2 r3 r4 : Rd) (x0 : Int) (x1 : Int) (x2 : List (Int)) (x3 : List (Int)) (e0 : numC.rd r0 = (x0, r1)) (e1 : numC.rd r1 = (x1, r2)) (e2 : (listC numC).rd r2 = (x2, r3)) (e3 : (listC numC).rd r3 = (x3, r4)) (hb : r0.bad = false) (hl : r0.s.length ≤ 9223372036854775807) (h : At1 w B r0.s) : Calls Tryz.prog 53 #[.pointer (some ⟨B, 0, none⟩)] w (GotP w B (fun w' v => ∃ cs, v = .agg cs.toArray ∧ labM.R (fun b => w.heap.size ≤ b) w' cs (x0, x1, x2, x3)) r4) := by
  obtain ⟨B0, P0, L0⟩ := box1 w #[.int .i64 0, .int .i64 0, .slice none 0 0, .slice none 0 0] 51
  obtain ⟨W0, hW0⟩ : ∃ W0, W0 = w.alloc (.cells #[.int .i64 0, .int .i64 0, .slice none 0 0, .slice none 0 0] 51) := ⟨_, rfl⟩
  rw [← hW0] at B0 P0 L0
  obtain ⟨R, hR⟩ : ∃ R, R = w.heap.size := ⟨_, rfl⟩
  rw [← hR] at P0 L0
  have hRB : R ≠ B := by have := h.cell.2.1; omega
  have HW0 := Lib.hid hW0
  have HR := Lib.hid hR
  have HRB := Lib.hid hRB
  have HBB : Hid (B < w.heap.size ∧ W0.heap.size = R + 1) := ⟨h.cell.2.1, L0⟩
  have hmf : ∀ (fn : Fn) (first cap : Array Value) (w : World), (Instr.makeFunc fn first cap).run Tryz.prog w = .ok (.func fn first cap) w := fun _ _ _ _ => rfl
  have l0 := hl
  have l1 : r1.s.length ≤ 9223372036854775807 := by have q := numC_ok.rd_le r0; rw [e0] at q; exact Nat.le_trans q l0
  have l2 : r2.s.length ≤ 9223372036854775807 := by have q := numC_ok.rd_le r1; rw [e1] at q; exact Nat.le_trans q l1
  have l3 : r3.s.length ≤ 9223372036854775807 := by have q := (listC_ok numC_ok).rd_le r2; rw [e2] at q; exact Nat.le_trans q l2
  have S4 : Hid (r4.bad = true → r4.bad = true) := fun h => h
  have S3 : Hid (r3.bad = true → r4.bad = true) := fun h => S4.out (by have q := (listC_ok numC_ok).rd_stuck r3 h; rw [e3] at q; exact q)
  have S2 : Hid (r2.bad = true → r4.bad = true) := fun h => S3.out (by have q := (listC_ok numC_ok).rd_stuck r2 h; rw [e2] at q; exact q)
  have S1 : Hid (r1.bad = true → r4.bad = true) := fun h => S2.out (by have q := numC_ok.rd_stuck r1 h; rw [e1] at q; exact q)
  have C1 : Hid (∀ w', r0.bad = false → At1 w' B r0.s → Calls Tryz.prog 51 #[.pointer (some ⟨B, 0, none⟩)] w' (Got w' B (.int .i64 x0) r1)) := fun w' hb k => num_step e0 hb l0 k
  have C2 : Hid (∀ w', r1.bad = false → At1 w' B r1.s → Calls Tryz.prog 51 #[.pointer (some ⟨B, 0, none⟩)] w' (Got w' B (.int .i64 x1) r2)) := fun w' hb k => num_step e1 hb l1 k
  have C3 : Hid (∀ w', r2.bad = false → At1 w' B r2.s → Calls Tryz.prog 82 #[.pointer (some ⟨B, 0, none⟩), .func (.func 51) #[.pointer (some ⟨B, 0, none⟩)] #[]] w' (GotP w' B (fun w'' v => OwnP 3 numM w'.heap.size w'' v x2) r3)) := fun w' hb k => list_int e2 hb l2 k
  have C4 : Hid (∀ w', r3.bad = false → At1 w' B r3.s → Calls Tryz.prog 82 #[.pointer (some ⟨B, 0, none⟩), .func (.func 51) #[.pointer (some ⟨B, 0, none⟩)] #[]] w' (GotP w' B (fun w'' v => OwnP 3 numM w'.heap.size w'' v x3) r4)) := fun w' hb k => list_int e3 hb l3 k
  have Q0 : Hid (r0.bad = false ∧ At1 W0 B r0.s ∧ W0.grownBy W0 (some B)) := ⟨hb, h.below B0, grown_refl _ _⟩
  have HG : Hid (∀ w', W0.grownBy w' (some B) → w.grownBy w' (some B) ∧ w'.heap[R]? = some (.cells #[.int .i64 0, .int .i64 0, .slice none 0 0, .slice none 0 0] 51 (0, 0))) := fun w' g => ⟨grown_trans (grown_of _ _ B0 _) g, (g.block R (by omega) (by simpa using hRB)).trans P0⟩
  clear hb h hl hR hW0 B0 P0 L0 l0 l1 l2 l3 e0 e1 e2 e3 hRB
  go_enter Tryz.func53, Tryz.ntmps53
  go_upto_region 1 with fail
  rw [← HW0.out, ← HR.out]
  refine region_pure [0, 1, 2, 4, 5, 6, 8, 9, 10, 11, 12, 14, 15, 16, 17, 18] [3, 7, 13, 19, 20, 21] (by kernel_rfl) (by kernel_rfl) (fun d _ _ _ _ h => by cases d <;> exact h) (fun wd hwd => ?_)
  simp only [List.filterMap_cons, List.filterMap_nil, List.getElem?_cons_zero, List.getElem?_cons_succ]
  have QD := Lib.hid (And.intro Q0.out.1 (And.intro (at1_drew Q0.out.2.1 hwd.out) (grown_drew1 Q0.out.2.2 hwd.out)))
  clear Q0 hwd
  repeat (refine Zo.wpPure_step (fun K hK => ?_); go_simp; refine hK _ ?_; clear hK K)
  refine Zo.wpPure_nil ?_
  have Q0 := Lib.hid QD.out
  clear QD
  go_wp2_with fail
  refine (C1.out _ Q0.out.1 Q0.out.2.1).mono ?_
  rintro e w1 ⟨G, (⟨hb, rfl, K⟩ | ⟨hb, rfl⟩)⟩
  rotate_left
  · have FE : Hid (GotP w B (fun w' v => ∃ cs, v = .agg cs.toArray ∧ labM.R (fun b => w.heap.size ≤ b) w' cs (x0, x1, x2, x3)) r4 (.panicked [{ v := unr, recovered := false }]) w1) := ⟨(HG.out _ (grown_trans Q0.out.2.2 G)).1, .inr ⟨S1.out hb, rfl⟩⟩
    clear G hb
    go_wp2_with fail
    exact ⟨rfl, FE.out⟩
  have Q1 : Hid (r1.bad = false ∧ At1 w1 B r1.s ∧ W0.grownBy w1 (some B)) := ⟨hb, K, grown_trans Q0.out.2.2 G⟩
  clear G hb K C1 Q0
  go_wp2_with fail
  refine (C2.out _ Q1.out.1 Q1.out.2.1).mono ?_
  rintro e w2 ⟨G, (⟨hb, rfl, K⟩ | ⟨hb, rfl⟩)⟩
  rotate_left
  · have FE : Hid (GotP w B (fun w' v => ∃ cs, v = .agg cs.toArray ∧ labM.R (fun b => w.heap.size ≤ b) w' cs (x0, x1, x2, x3)) r4 (.panicked [{ v := unr, recovered := false }]) w2) := ⟨(HG.out _ (grown_trans Q1.out.2.2 G)).1, .inr ⟨S2.out hb, rfl⟩⟩
    clear G hb
    go_wp2_with fail
    exact ⟨rfl, FE.out⟩
  have Q2 : Hid (r2.bad = false ∧ At1 w2 B r2.s ∧ W0.grownBy w2 (some B)) := ⟨hb, K, grown_trans Q1.out.2.2 G⟩
  clear G hb K C2 Q1
  go_wp2_with fail
  refine (C3.out _ Q2.out.1 Q2.out.2.1).mono ?_
  rintro e w3 ⟨G, (⟨hb, v2, rfl, O2, K⟩ | ⟨hb, rfl⟩)⟩
  rotate_left
  · have FE : Hid (GotP w B (fun w' v => ∃ cs, v = .agg cs.toArray ∧ labM.R (fun b => w.heap.size ≤ b) w' cs (x0, x1, x2, x3)) r4 (.panicked [{ v := unr, recovered := false }]) w3) := ⟨(HG.out _ (grown_trans Q2.out.2.2 G)).1, .inr ⟨S3.out hb, rfl⟩⟩
    clear G hb
    go_wp2_with fail
    exact ⟨rfl, FE.out⟩
  have HO2 : Hid (OwnP 3 numM (R + 1) w3 v2 x2) := O2.base numM_ok (by have := Q2.out.2.2.size; have := HBB.out.2; omega)
  obtain ⟨a2, d2, rfl⟩ := O2.is_slice
  clear O2
  obtain ⟨k2, hk2⟩ : ∃ k, k = x2.length := ⟨_, rfl⟩
  rw [← hk2] at HO2 ⊢
  clear hk2
  have Q3 : Hid (r3.bad = false ∧ At1 w3 B r3.s ∧ W0.grownBy w3 (some B)) := ⟨hb, K, grown_trans Q2.out.2.2 G⟩
  clear G hb K C3 Q2
  go_wp2_with fail
  refine (C4.out _ Q3.out.1 Q3.out.2.1).mono ?_
  rintro e w4 ⟨G, (⟨hb, v3, rfl, O3, K⟩ | ⟨hb, rfl⟩)⟩
  rotate_left
  · have FE : Hid (GotP w B (fun w' v => ∃ cs, v = .agg cs.toArray ∧ labM.R (fun b => w.heap.size ≤ b) w' cs (x0, x1, x2, x3)) r4 (.panicked [{ v := unr, recovered := false }]) w4) := ⟨(HG.out _ (grown_trans Q3.out.2.2 G)).1, .inr ⟨S4.out hb, rfl⟩⟩
    clear G hb
    go_wp2_with fail
    exact ⟨rfl, FE.out⟩
  replace HO2 := Lib.hid (HO2.out.kept numM_ok G (by have := HBB.out.1; have := HR.out; omega))
  have HO3 : Hid (OwnP 3 numM (R + 1) w4 v3 x3) := O3.base numM_ok (by have := Q3.out.2.2.size; have := HBB.out.2; omega)
  obtain ⟨a3, d3, rfl⟩ := O3.is_slice
  clear O3
  obtain ⟨k3, hk3⟩ : ∃ k, k = x3.length := ⟨_, rfl⟩
  rw [← hk3] at HO3 ⊢
  clear hk3
  obtain ⟨g4, z4⟩ := HG.out _ (grown_trans Q3.out.2.2 G)
  obtain ⟨c0, c1, c2, c3⟩ := four_cells z4
  have fr0 := free_at (i := 0) z4
  have fr1 := free_at (i := 1) z4
  have fr2 := free_at (i := 2) z4
  have fr3 := free_at (i := 3) z4
  obtain ⟨WN, hWN⟩ : ∃ WN, WN = (((w4.setCell ⟨R, 0, none⟩ (.int .i64 x0)).setCell ⟨R, 1, none⟩ (.int .i64 x1)).setCell ⟨R, 2, none⟩ (.slice a2 k2 d2)).setCell ⟨R, 3, none⟩ (.slice a3 k3 d3) := ⟨_, rfl⟩
  have gN : w4.grownBy WN (some R) := by
    rw [hWN]
    exact grown_put (grown_put (grown_put (grown_put (grown_refl _ _))))
  have FE : Hid (GotP w B (fun w' v => ∃ cs, v = .agg cs.toArray ∧ labM.R (fun b => w.heap.size ≤ b) w' cs (x0, x1, x2, x3)) r4 (.returned (.agg #[.int .i64 x0, .int .i64 x1, .slice a2 k2 d2, .slice a3 k3 d3])) WN) := by
    have hRs : w.heap.size ≤ R := by rw [← HR.out]; exact Nat.le_refl _
    have q2 := (HO2.out.kept numM_ok gN (Nat.lt_succ_self R)).base numM_ok (base' := w.heap.size) (by omega)
    have q3 := (HO3.out.kept numM_ok gN (Nat.lt_succ_self R)).base numM_ok (base' := w.heap.size) (by omega)
    refine ⟨by rw [hWN]; exact grown_new (grown_new (grown_new (grown_new g4 hRs _) hRs _) hRs _) hRs _, .inl ⟨hb, _, rfl, ⟨[.int .i64 x0, .int .i64 x1, .slice a2 k2 d2, .slice a3 k3 d3], rfl, ?_⟩, by rw [hWN]; exact at1_other (at1_other (at1_other (at1_other K HRB.out) HRB.out) HRB.out) HRB.out⟩⟩
    exact labM_mk x0 x1 (q2.rowP numM_ok) (q3.rowP numM_ok)
  have zz : WN.heap[R]? = some (.cells #[.int .i64 x0, .int .i64 x1, .slice a2 k2 d2, .slice a3 k3 d3] 51 (0, 0)) := by
    rw [hWN]
    exact set_block (set_block (set_block (set_block z4)))
  obtain ⟨y_0, y_1, y_2, y_3⟩ := four_cells zz
  have HWN := Lib.hid hWN
  clear hWN zz z4 g4 G hb K C4 Q3 gN HO2 HO3
  go_wp2_with fail
  rw [← HWN.out]
  exact bodyPost_ret (v := .agg #[.int .i64 x0, .int .i64 x1, .slice a2 k2 d2, .slice a3 k3 d3]) (by simp [results, Tryz.results53, go_sem, y_0, y_1, y_2, y_3, Tryz.isAgg51, Tryz.sizeOf51]) rfl FE.out
set_option maxHeartbeats 8000000 in
theorem take_Label {B : Nat} {w : World} (r : Rd) {x : Lab} {r' : Rd} (hx : labC.rd r = (x, r')) (hb : r.bad = false) (hl : r.s.length ≤ 9223372036854775807) (h : At1 w B r.s) : Calls Tryz.prog 53 #[.pointer (some ⟨B, 0, none⟩)] w (GotP w B (fun w' v => ∃ cs, v = .agg cs.toArray ∧ labM.R (fun b => w.heap.size ≤ b) w' cs x) r') := by
  obtain ⟨x0, r1, e0⟩ : ∃ x rq, numC.rd r = (x, rq) := ⟨_, _, rfl⟩
  obtain ⟨x1, r2, e1⟩ : ∃ x rq, numC.rd r1 = (x, rq) := ⟨_, _, rfl⟩
  obtain ⟨x2, r3, e2⟩ : ∃ x rq, (listC numC).rd r2 = (x, rq) := ⟨_, _, rfl⟩
  obtain ⟨x3, r4, e3⟩ : ∃ x rq, (listC numC).rd r3 = (x, rq) := ⟨_, _, rfl⟩
  have hx' : labC.rd r = ((x0, x1, x2, x3), r4) := pair_rd2 e0 (pair_rd2 e1 (pair_rd2 e2 e3))
  rw [hx] at hx'
  injection hx' with h1 h2
  rw [h1, h2]
  exact take0_Label (w := w) r r1 r2 r3 r4 x0 x1 x2 x3 e0 e1 e2 e3 hb hl h
set_option maxHeartbeats 8000000 in
theorem items_Label {B : Nat} {w : World} (r0 : Rd) (n : Nat) (n256 : n < 65536) (hb : r0.bad = false) (hl : r0.s.length ≤ 9223372036854775807) (h : At1 w B r0.s) : Calls Tryz.prog 80 #[.int .i64 (n : Nat), .func (.func 53) #[.pointer (some ⟨B, 0, none⟩)] #[]] w (GotP w B (fun w' v => OwnP 51 labM w.heap.size w' v (manyR labC.rd n r0).1) (manyR labC.rd n r0).2) := by
  have HBW : Hid (B < w.heap.size) := h.cell.2.1
  obtain ⟨XS, hXS⟩ : ∃ XS, XS = (manyR labC.rd n r0).1 := ⟨_, rfl⟩
  obtain ⟨RF, hRF⟩ : ∃ RF, RF = (manyR labC.rd n r0).2 := ⟨_, rfl⟩
  have HR : Hid (manyR labC.rd n r0 = (XS, RF) ∧ n < 65536) := ⟨by rw [hXS, hRF], n256⟩
  have HLE : Hid (r0.s.length ≤ 9223372036854775807) := hl
  have HK1 : Hid (r0.bad = false ∧ At1 w B r0.s ∧ w.grownBy w (some B)) := ⟨hb, h, grown_refl _ _⟩
  rw [← hXS, ← hRF]
  clear h hl hXS hRF hb
  go_enter Tryz.func80, Tryz.ntmps80
  go_wp2_with fail
  go_loopg [5, 7] n (fun g v_ i_ wr => ∃ (i : Nat) (X : List (Lab)) (rr : Rd), i ≤ n ∧ n - i ≤ g ∧ i_ = .int .i64 i ∧ (∃ a c, v_ = .slice a i c) ∧ X.length = i ∧ Hid (manyR labC.rd n r0 = (X ++ (manyR labC.rd (n - i) rr).1, (manyR labC.rd (n - i) rr).2)) ∧ Hid (OwnP 51 labM w.heap.size wr v_ X) ∧ Hid (rr.bad = false ∧ At1 wr B rr.s ∧ w.grownBy wr (some B)) ∧ Hid (rr.s.length ≤ 9223372036854775807))
  case atStart => exact ⟨0, [], r0, by omega, by omega, rfl, ⟨_, _, rfl⟩, rfl, rfl, OwnP.nil_ _ _ _ _, HK1, HLE⟩
  case round =>
    obtain ⟨i, X, rr, hi, hg, rfl, ⟨oa, oc, rfl⟩, hX, HQ, HO, HK, HLR⟩ := hrel
    by_cases hin : i < n
    · have iw : ((i : Nat) : Int) < (n : Int) := by omega
      have d1 : decide (((i : Nat) : Int) < (n : Int)) = true := decide_eq_true iw
      obtain ⟨z, hz⟩ : ∃ z, z = (labC.rd rr).1 := ⟨_, rfl⟩
      obtain ⟨r2, hr2⟩ : ∃ r2, r2 = (labC.rd rr).2 := ⟨_, rfl⟩
      have HQ2 : Hid (manyR labC.rd n r0 = ((X ++ [z]) ++ (manyR labC.rd (n - (i + 1)) r2).1, (manyR labC.rd (n - (i + 1)) r2).2)) := by
        show _ = _
        rw [HQ.out, show n - i = n - (i + 1) + 1 by omega, many_next HK.out.1, hz, hr2]
        simp
      have HLE2 : Hid (r2.s.length ≤ 9223372036854775807) := by rw [hr2]; exact Nat.le_trans (labC_ok.rd_le _) HLR.out
      have HBAD : Hid (r2.bad = true → RF.bad = true) := fun hb => by
        have h := HQ2.out
        rw [HR.out.1, many_bad hb] at h
        injection h with _ h
        rw [h]
        exact hb
      have HXL : Hid (X.length = i) := hX
      have C2 := Lib.hid (take_Label (w := wr) rr (x := z) (r' := r2) (by rw [hz, hr2]) HK.out.1 HLR.out HK.out.2.1)
      clear hz hr2 HQ hX
      go_wp2_with fail
      refine C2.out.mono ?_
      rintro e w5 ⟨G5, (⟨hb5, _, rfl, ⟨cs, rfl, hvz⟩, K5⟩ | ⟨hb5, rfl⟩)⟩
      rotate_left
      · have FE : Hid (GotP w B (fun w' v => OwnP 51 labM w.heap.size w' v XS) RF (.panicked [{ v := unr, recovered := false }]) w5) := ⟨grown_trans HK.out.2.2 G5, .inr ⟨HBAD.out hb5, rfl⟩⟩
        clear G5 hb5 C2
        go_wp2_with fail
        exact ⟨rfl, FE.out⟩
      have hR := hvz
      obtain ⟨u2, c2, u3, c3, rfl, _, _⟩ := labM_cells hvz
      clear hvz
      have HRR := Lib.hid hR
      have HKO : Hid (OwnP 51 labM w.heap.size w5 (.slice oa i oc) X) := HO.out.kept labM_ok G5 HBW.out
      have HG5 : Hid (w.grownBy w5 (some B)) := grown_trans HK.out.2.2 G5
      have HB5 := Lib.hid hb5
      have HMN : ∀ b, wr.heap.size ≤ b → w.heap.size ≤ b ∧ some b ≠ (Value.slice oa i oc).ownBlock := fun b hb => ⟨Nat.le_trans HK.out.2.2.size hb, fun e => by have := (HO.out.block b e.symm).2; omega⟩
      have HKA : OwnP 51 labM w.heap.size (w5.alloc (.cells #[.int .i64 z.1, .int .i64 z.2.1, .slice u2 z.2.2.1.length c2, .slice u3 z.2.2.2.length c3] 51)) (.slice oa i oc) X := HKO.out.below labM_ok (box1 _ _ _).1
      obtain ⟨xs, hxs, HOX, HROW⟩ := HKA.row labM_ok
      have A1 : Hid (Rk.OwnK 51 4 w.heap.size (w5.alloc (.cells #[.int .i64 z.1, .int .i64 z.2.1, .slice u2 z.2.2.1.length c2, .slice u3 z.2.2.2.length c3] 51)) (.slice oa i oc) xs) := HOX
      have A2 : Hid (Rk.RowK 4 (w5.alloc (.cells #[.int .i64 z.1, .int .i64 z.2.1, .slice u2 z.2.2.1.length c2, .slice u3 z.2.2.2.length c3] 51)) (.slice (some ⟨w5.heap.size, 0, none⟩) 1 1) [[.int .i64 z.1, .int .i64 z.2.1, .slice u2 z.2.2.1.length c2, .slice u3 z.2.2.2.length c3]]) := Rk.row_one (e := 51) (heap_alloc_new _ _) rfl
      have A3 : Hid (xs.length + ([[.int .i64 z.1, .int .i64 z.2.1, .slice u2 z.2.2.1.length c2, .slice u3 z.2.2.2.length c3]] : List (List Value)).length ≤ 100000) := by show _ ≤ _; rw [hxs, HXL.out, List.length_singleton]; have := HR.out.2; omega
      have HRW : Hid (∀ (v' : Value) (w' : World), Rk.OwnK 51 4 w.heap.size w' v' (xs ++ [[.int .i64 z.1, .int .i64 z.2.1, .slice u2 z.2.2.1.length c2, .slice u3 z.2.2.2.length c3]]) → (w5.alloc (.cells #[.int .i64 z.1, .int .i64 z.2.1, .slice u2 z.2.2.1.length c2, .slice u3 z.2.2.2.length c3] 51)).grownBy w' (Value.slice oa i oc).ownBlock → (v'.ownBlock = (Value.slice oa i oc).ownBlock ∨ v'.ownBlock = some (w5.alloc (.cells #[.int .i64 z.1, .int .i64 z.2.1, .slice u2 z.2.2.1.length c2, .slice u3 z.2.2.2.length c3] 51)).heap.size) → OwnP 51 labM w.heap.size w' v' (X ++ [z])) := fun v' w' h5 g5 k5 => HROW [.int .i64 z.1, .int .i64 z.2.1, .slice u2 z.2.2.1.length c2, .slice u3 z.2.2.2.length c3] z v' w' h5 g5 k5 (labM_ok.keep (labM_ok.mono HRR.out fun b _ hb => HMN b hb) (Keep.below (box1 _ _ _).1))
      have HONE : Hid (∀ y ∈ ([[.int .i64 z.1, .int .i64 z.2.1, .slice u2 z.2.2.1.length c2, .slice u3 z.2.2.2.length c3]] : List (List Value)), ∀ u ∈ y, u.oneCell' = true) := fun y hy => by simp only [List.mem_singleton] at hy; subst hy; exact labM_ok.one HRR.out
      have A4 : Hid (w.heap.size ≤ (w5.alloc (.cells #[.int .i64 z.1, .int .i64 z.2.1, .slice u2 z.2.2.1.length c2, .slice u3 z.2.2.2.length c3] 51)).heap.size) := Nat.le_trans HG5.out.size (by exact (box1 w5 _ _).1.size)
      have HK6 : Hid (At1 (w5.alloc (.cells #[.int .i64 z.1, .int .i64 z.2.1, .slice u2 z.2.2.1.length c2, .slice u3 z.2.2.2.length c3] 51)) B r2.s) := K5.below (box1 _ _ _).1
      have HG6 : Hid (w.grownBy (w5.alloc (.cells #[.int .i64 z.1, .int .i64 z.2.1, .slice u2 z.2.2.1.length c2, .slice u3 z.2.2.2.length c3] 51)) (some B)) := grown_below HG5.out (box1 _ _ _).1
      clear K5 G5 C2 HKO HK HO HG5 hb5 hR HRR HOX HROW hxs HMN HKA
      go_wp2_with (at_builtin; refine Rk.wpList_append_rowk rfl _ _ 22 51 4 64 _ Tryz.underlying22 infoLabel rfl (by decide) (by decide) rfl w.heap.size _ _ xs [[.int .i64 z.1, .int .i64 z.2.1, .slice u2 z.2.2.1.length c2, .slice u3 z.2.2.2.length c3]] rfl rfl A1.out A2.out HONE.out A3.out A4.out ?_)
      intro v6 w9 h5 g5 k5
      have HO9 := Lib.hid (HRW.out v6 w9 h5 g5 (k5.imp_right fun e => by rw [e, (box1 _ _ _).2.2]))
      obtain ⟨a6, c6, rfl⟩ := HO9.out.is_slice
      have hl1 : (X ++ [z]).length = i + 1 := by rw [List.length_append, HXL.out]; rfl
      have hlow : (Value.slice oa i oc).ownBlock ≠ some B := A1.out.low HBW.out
      have K9 : Hid (r2.bad = false ∧ At1 w9 B r2.s ∧ w.grownBy w9 (some B)) := ⟨HB5.out, (g5.block B HK6.out.cell.2.1 (fun e => hlow e.symm)).trans HK6.out, g5.os.trans HG6.out.os, g5.tape.trans HG6.out.tape, g5.output.trans HG6.out.output, Nat.le_trans HG6.out.size g5.size, fun k hk hne => (g5.block k (Nat.lt_of_lt_of_le hk HG6.out.size) (fun e => A1.out.low hk e.symm)).trans (HG6.out.block k hk hne)⟩
      rw [hl1] at HO9 ⊢
      clear h5 g5 k5 A1 A2 A3 A4 hlow hl1 HK6 HG6 HRW HONE
      go_wp2_with fail
      go_roundg (n - (i + 1))
      case measure => omega
      case rel => exact ⟨i + 1, X ++ [z], r2, by omega, Nat.le_refl _, by go_num, ⟨_, _, rfl⟩, by rw [List.length_append, HXL.out]; rfl, HQ2, HO9, K9, HLE2⟩
    · obtain rfl : i = n := by omega
      have iw : ¬ ((i : Int) < (i : Int)) := by omega
      have d1 : decide (((i : Nat) : Int) < (i : Int)) = false := decide_eq_false iw
      have HF : Hid (X = XS ∧ rr = RF) := by
        have h := HQ.out
        rw [HR.out.1, Nat.sub_self] at h
        have h1 := congrArg Prod.fst h
        have h2 := congrArg Prod.snd h
        exact ⟨by simpa [manyR] using h1.symm, h2.symm⟩
      have FE : Hid (GotP w B (fun w' v => OwnP 51 labM w.heap.size w' v XS) RF (.returned (.slice oa i oc)) wr) := by
        show GotP _ _ _ _ _ _
        rw [← HF.out.1, ← HF.out.2]
        exact ⟨HK.out.2.2, .inl ⟨HK.out.1, _, rfl, HO.out, HK.out.2.1⟩⟩
      clear HQ HK HO HF
      go_wp2_with fail
      go_ret
      exact FE.out
set_option maxHeartbeats 4000000 in
theorem list_Label {B : Nat} {r : Rd} {x : List (Lab)} {r' : Rd} {w : World} (hx : (listC labC).rd r = (x, r')) (hb : r.bad = false) (hl : r.s.length ≤ 9223372036854775807) (h : At1 w B r.s) : Calls Tryz.prog 52 #[.pointer (some ⟨B, 0, none⟩), .func (.func 53) #[.pointer (some ⟨B, 0, none⟩)] #[]] w (GotP w B (fun w' v => OwnP 51 labM w.heap.size w' v x) r') := by
  obtain ⟨n, hn⟩ : ∃ n, n = (pairR r).1 := ⟨_, rfl⟩
  obtain ⟨r0, hr0⟩ : ∃ r0, r0 = (pairR r).2 := ⟨_, rfl⟩
  have C := Lib.hid (pair_step (w := w) (show pairR r = (n, r0) by rw [hn, hr0]) hb hl h)
  have HR : Hid (manyR labC.rd n r0 = (x, r') ∧ n < 65536) := ⟨by rw [hn, hr0]; exact hx, by rw [hn]; have := pair_max r; omega⟩
  have HLE : Hid (r0.s.length ≤ 9223372036854775807) := by rw [hr0]; exact Nat.le_trans (pair_le _) hl
  have CI : Hid (∀ w1, w.grownBy w1 (some B) → r0.bad = false → At1 w1 B r0.s → Calls Tryz.prog 80 #[.int .i64 (n : Nat), .func (.func 53) #[.pointer (some ⟨B, 0, none⟩)] #[]] w1 (GotP w B (fun w' v => OwnP 51 labM w.heap.size w' v x) r')) := fun w1 g hb hk => (items_Label r0 n HR.out.2 hb HLE.out hk).mono fun e w2 hh => by
    rw [HR.out.1] at hh
    obtain ⟨G, hh⟩ := hh
    refine ⟨grown_trans g G, hh.imp ?_ id⟩
    rintro ⟨h1, v, h2, h3, h4⟩
    exact ⟨h1, v, h2, h3.base labM_ok g.size, h4⟩
  have HBD : Hid (r0.bad = true → r'.bad = true) := fun hb0 => by have h := HR.out.1; rw [many_bad hb0] at h; injection h with _ h; rw [← h]; exact hb0
  clear hn hr0 h hl hx hb
  go_enter Tryz.func52, Tryz.ntmps52
  go_wp2_with fail
  refine C.out.mono ?_
  rintro e w1 ⟨G, (⟨hb, rfl, K⟩ | ⟨hb, rfl⟩)⟩
  rotate_left
  · have FE : Hid (GotP w B (fun w' v => OwnP 51 labM w.heap.size w' v x) r' (.panicked [{ v := unr, recovered := false }]) w1) := ⟨G, .inr ⟨HBD.out hb, rfl⟩⟩
    clear G hb C
    go_wp2_with fail
    exact ⟨rfl, FE.out⟩
  have C2 := Lib.hid (CI.out w1 G hb K)
  clear hb K G C CI
  go_wp2_with fail
  refine C2.out.mono ?_
  rintro e w2 ⟨G, (⟨hb, v, rfl, O, K⟩ | ⟨hb, rfl⟩)⟩
  · have FE : Hid (GotP w B (fun w' v => OwnP 51 labM w.heap.size w' v x) r' (.returned v) w2) := ⟨G, .inl ⟨hb, v, rfl, O, K⟩⟩
    clear G hb O K C2
    go_wp2_with fail
    go_ret
    exact FE.out
  · have FE : Hid (GotP w B (fun w' v => OwnP 51 labM w.heap.size w' v x) r' (.panicked [{ v := unr, recovered := false }]) w2) := ⟨G, .inr ⟨hb, rfl⟩⟩
    clear G hb C2
    go_wp2_with fail
    exact ⟨rfl, FE.out⟩
set_option maxHeartbeats 8000000 in
theorem take0_Entry {B : Nat} {w : World} (r0 r1 r2 r3 r4 r5 : Rd) (x0 : Int) (x1 : Int) (x2 : Int) (x3 : List (Int)) (x4 : List (Int)) (e0 : numC.rd r0 = (x0, r1)) (e1 : numC.rd r1 = (x1, r2)) (e2 : numC.rd r2 = (x2, r3)) (e3 : (listC numC).rd r3 = (x3, r4)) (e4 : (listC numC).rd r4 = (x4, r5)) (hb : r0.bad = false) (hl : r0.s.length ≤ 9223372036854775807) (h : At1 w B r0.s) : Calls Tryz.prog 61 #[.pointer (some ⟨B, 0, none⟩)] w (GotP w B (fun w' v => ∃ cs, v = .agg cs.toArray ∧ entM.R (fun b => w.heap.size ≤ b) w' cs (x0, x1, x2, x3, x4)) r5) := by
  obtain ⟨B0, P0, L0⟩ := box1 w #[.int .i64 0, .int .i64 0, .int .i64 0, .slice none 0 0, .slice none 0 0] 67
  obtain ⟨W0, hW0⟩ : ∃ W0, W0 = w.alloc (.cells #[.int .i64 0, .int .i64 0, .int .i64 0, .slice none 0 0, .slice none 0 0] 67) := ⟨_, rfl⟩
  rw [← hW0] at B0 P0 L0
  obtain ⟨R, hR⟩ : ∃ R, R = w.heap.size := ⟨_, rfl⟩
  rw [← hR] at P0 L0
  have hRB : R ≠ B := by have := h.cell.2.1; omega
  have HW0 := Lib.hid hW0
  have HR := Lib.hid hR
  have HRB := Lib.hid hRB
  have HBB : Hid (B < w.heap.size ∧ W0.heap.size = R + 1) := ⟨h.cell.2.1, L0⟩
  have hmf : ∀ (fn : Fn) (first cap : Array Value) (w : World), (Instr.makeFunc fn first cap).run Tryz.prog w = .ok (.func fn first cap) w := fun _ _ _ _ => rfl
  have l0 := hl
  have l1 : r1.s.length ≤ 9223372036854775807 := by have q := numC_ok.rd_le r0; rw [e0] at q; exact Nat.le_trans q l0
  have l2 : r2.s.length ≤ 9223372036854775807 := by have q := numC_ok.rd_le r1; rw [e1] at q; exact Nat.le_trans q l1
  have l3 : r3.s.length ≤ 9223372036854775807 := by have q := numC_ok.rd_le r2; rw [e2] at q; exact Nat.le_trans q l2
  have l4 : r4.s.length ≤ 9223372036854775807 := by have q := (listC_ok numC_ok).rd_le r3; rw [e3] at q; exact Nat.le_trans q l3
  have S5 : Hid (r5.bad = true → r5.bad = true) := fun h => h
  have S4 : Hid (r4.bad = true → r5.bad = true) := fun h => S5.out (by have q := (listC_ok numC_ok).rd_stuck r4 h; rw [e4] at q; exact q)
  have S3 : Hid (r3.bad = true → r5.bad = true) := fun h => S4.out (by have q := (listC_ok numC_ok).rd_stuck r3 h; rw [e3] at q; exact q)
  have S2 : Hid (r2.bad = true → r5.bad = true) := fun h => S3.out (by have q := numC_ok.rd_stuck r2 h; rw [e2] at q; exact q)
  have S1 : Hid (r1.bad = true → r5.bad = true) := fun h => S2.out (by have q := numC_ok.rd_stuck r1 h; rw [e1] at q; exact q)
  have C1 : Hid (∀ w', r0.bad = false → At1 w' B r0.s → Calls Tryz.prog 51 #[.pointer (some ⟨B, 0, none⟩)] w' (Got w' B (.int .i64 x0) r1)) := fun w' hb k => num_step e0 hb l0 k
  have C2 : Hid (∀ w', r1.bad = false → At1 w' B r1.s → Calls Tryz.prog 51 #[.pointer (some ⟨B, 0, none⟩)] w' (Got w' B (.int .i64 x1) r2)) := fun w' hb k => num_step e1 hb l1 k
  have C3 : Hid (∀ w', r2.bad = false → At1 w' B r2.s → Calls Tryz.prog 51 #[.pointer (some ⟨B, 0, none⟩)] w' (Got w' B (.int .i64 x2) r3)) := fun w' hb k => num_step e2 hb l2 k
  have C4 : Hid (∀ w', r3.bad = false → At1 w' B r3.s → Calls Tryz.prog 82 #[.pointer (some ⟨B, 0, none⟩), .func (.func 51) #[.pointer (some ⟨B, 0, none⟩)] #[]] w' (GotP w' B (fun w'' v => OwnP 3 numM w'.heap.size w'' v x3) r4)) := fun w' hb k => list_int e3 hb l3 k
  have C5 : Hid (∀ w', r4.bad = false → At1 w' B r4.s → Calls Tryz.prog 82 #[.pointer (some ⟨B, 0, none⟩), .func (.func 51) #[.pointer (some ⟨B, 0, none⟩)] #[]] w' (GotP w' B (fun w'' v => OwnP 3 numM w'.heap.size w'' v x4) r5)) := fun w' hb k => list_int e4 hb l4 k
  have Q0 : Hid (r0.bad = false ∧ At1 W0 B r0.s ∧ W0.grownBy W0 (some B)) := ⟨hb, h.below B0, grown_refl _ _⟩
  have HG : Hid (∀ w', W0.grownBy w' (some B) → w.grownBy w' (some B) ∧ w'.heap[R]? = some (.cells #[.int .i64 0, .int .i64 0, .int .i64 0, .slice none 0 0, .slice none 0 0] 67 (0, 0))) := fun w' g => ⟨grown_trans (grown_of _ _ B0 _) g, (g.block R (by omega) (by simpa using hRB)).trans P0⟩
  clear hb h hl hR hW0 B0 P0 L0 l0 l1 l2 l3 l4 e0 e1 e2 e3 e4 hRB
  go_enter Tryz.func61, Tryz.ntmps61
  go_upto_region 1 with fail
  rw [← HW0.out, ← HR.out]
  refine region_pure [0, 1, 2, 4, 5, 6, 8, 9, 10, 12, 13, 14, 15, 16, 18, 19, 20, 21, 22] [3, 7, 11, 17, 23, 24, 25] (by kernel_rfl) (by kernel_rfl) (fun d _ _ _ _ h => by cases d <;> exact h) (fun wd hwd => ?_)
  simp only [List.filterMap_cons, List.filterMap_nil, List.getElem?_cons_zero, List.getElem?_cons_succ]
  have QD := Lib.hid (And.intro Q0.out.1 (And.intro (at1_drew Q0.out.2.1 hwd.out) (grown_drew1 Q0.out.2.2 hwd.out)))
  clear Q0 hwd
  repeat (refine Zo.wpPure_step (fun K hK => ?_); go_simp; refine hK _ ?_; clear hK K)
  refine Zo.wpPure_nil ?_
  have Q0 := Lib.hid QD.out
  clear QD
  go_wp2_with fail
  refine (C1.out _ Q0.out.1 Q0.out.2.1).mono ?_
  rintro e w1 ⟨G, (⟨hb, rfl, K⟩ | ⟨hb, rfl⟩)⟩
  rotate_left
  · have FE : Hid (GotP w B (fun w' v => ∃ cs, v = .agg cs.toArray ∧ entM.R (fun b => w.heap.size ≤ b) w' cs (x0, x1, x2, x3, x4)) r5 (.panicked [{ v := unr, recovered := false }]) w1) := ⟨(HG.out _ (grown_trans Q0.out.2.2 G)).1, .inr ⟨S1.out hb, rfl⟩⟩
    clear G hb
    go_wp2_with fail
    exact ⟨rfl, FE.out⟩
  have Q1 : Hid (r1.bad = false ∧ At1 w1 B r1.s ∧ W0.grownBy w1 (some B)) := ⟨hb, K, grown_trans Q0.out.2.2 G⟩
  clear G hb K C1 Q0
  go_wp2_with fail
  refine (C2.out _ Q1.out.1 Q1.out.2.1).mono ?_
  rintro e w2 ⟨G, (⟨hb, rfl, K⟩ | ⟨hb, rfl⟩)⟩
  rotate_left
  · have FE : Hid (GotP w B (fun w' v => ∃ cs, v = .agg cs.toArray ∧ entM.R (fun b => w.heap.size ≤ b) w' cs (x0, x1, x2, x3, x4)) r5 (.panicked [{ v := unr, recovered := false }]) w2) := ⟨(HG.out _ (grown_trans Q1.out.2.2 G)).1, .inr ⟨S2.out hb, rfl⟩⟩
    clear G hb
    go_wp2_with fail
    exact ⟨rfl, FE.out⟩
  have Q2 : Hid (r2.bad = false ∧ At1 w2 B r2.s ∧ W0.grownBy w2 (some B)) := ⟨hb, K, grown_trans Q1.out.2.2 G⟩
  clear G hb K C2 Q1
  go_wp2_with fail
  refine (C3.out _ Q2.out.1 Q2.out.2.1).mono ?_
  rintro e w3 ⟨G, (⟨hb, rfl, K⟩ | ⟨hb, rfl⟩)⟩
  rotate_left
  · have FE : Hid (GotP w B (fun w' v => ∃ cs, v = .agg cs.toArray ∧ entM.R (fun b => w.heap.size ≤ b) w' cs (x0, x1, x2, x3, x4)) r5 (.panicked [{ v := unr, recovered := false }]) w3) := ⟨(HG.out _ (grown_trans Q2.out.2.2 G)).1, .inr ⟨S3.out hb, rfl⟩⟩
    clear G hb
    go_wp2_with fail
    exact ⟨rfl, FE.out⟩
  have Q3 : Hid (r3.bad = false ∧ At1 w3 B r3.s ∧ W0.grownBy w3 (some B)) := ⟨hb, K, grown_trans Q2.out.2.2 G⟩
  clear G hb K C3 Q2
  go_wp2_with fail
  refine (C4.out _ Q3.out.1 Q3.out.2.1).mono ?_
  rintro e w4 ⟨G, (⟨hb, v3, rfl, O3, K⟩ | ⟨hb, rfl⟩)⟩
  rotate_left
  · have FE : Hid (GotP w B (fun w' v => ∃ cs, v = .agg cs.toArray ∧ entM.R (fun b => w.heap.size ≤ b) w' cs (x0, x1, x2, x3, x4)) r5 (.panicked [{ v := unr, recovered := false }]) w4) := ⟨(HG.out _ (grown_trans Q3.out.2.2 G)).1, .inr ⟨S4.out hb, rfl⟩⟩
    clear G hb
    go_wp2_with fail
    exact ⟨rfl, FE.out⟩
  have HO3 : Hid (OwnP 3 numM (R + 1) w4 v3 x3) := O3.base numM_ok (by have := Q3.out.2.2.size; have := HBB.out.2; omega)
  obtain ⟨a3, d3, rfl⟩ := O3.is_slice
  clear O3
  obtain ⟨k3, hk3⟩ : ∃ k, k = x3.length := ⟨_, rfl⟩
  rw [← hk3] at HO3 ⊢
  clear hk3
  have Q4 : Hid (r4.bad = false ∧ At1 w4 B r4.s ∧ W0.grownBy w4 (some B)) := ⟨hb, K, grown_trans Q3.out.2.2 G⟩
  clear G hb K C4 Q3
  go_wp2_with fail
  refine (C5.out _ Q4.out.1 Q4.out.2.1).mono ?_
  rintro e w5 ⟨G, (⟨hb, v4, rfl, O4, K⟩ | ⟨hb, rfl⟩)⟩
  rotate_left
  · have FE : Hid (GotP w B (fun w' v => ∃ cs, v = .agg cs.toArray ∧ entM.R (fun b => w.heap.size ≤ b) w' cs (x0, x1, x2, x3, x4)) r5 (.panicked [{ v := unr, recovered := false }]) w5) := ⟨(HG.out _ (grown_trans Q4.out.2.2 G)).1, .inr ⟨S5.out hb, rfl⟩⟩
    clear G hb
    go_wp2_with fail
    exact ⟨rfl, FE.out⟩
  replace HO3 := Lib.hid (HO3.out.kept numM_ok G (by have := HBB.out.1; have := HR.out; omega))
  have HO4 : Hid (OwnP 3 numM (R + 1) w5 v4 x4) := O4.base numM_ok (by have := Q4.out.2.2.size; have := HBB.out.2; omega)
  obtain ⟨a4, d4, rfl⟩ := O4.is_slice
  clear O4
  obtain ⟨k4, hk4⟩ : ∃ k, k = x4.length := ⟨_, rfl⟩
  rw [← hk4] at HO4 ⊢
  clear hk4
  obtain ⟨g4, z4⟩ := HG.out _ (grown_trans Q4.out.2.2 G)
  obtain ⟨c0, c1, c2, c3, c4⟩ := five_cells z4
  have fr0 := free_at (i := 0) z4
  have fr1 := free_at (i := 1) z4
  have fr2 := free_at (i := 2) z4
  have fr3 := free_at (i := 3) z4
  have fr4 := free_at (i := 4) z4
  obtain ⟨WN, hWN⟩ : ∃ WN, WN = ((((w5.setCell ⟨R, 0, none⟩ (.int .i64 x0)).setCell ⟨R, 1, none⟩ (.int .i64 x1)).setCell ⟨R, 2, none⟩ (.int .i64 x2)).setCell ⟨R, 3, none⟩ (.slice a3 k3 d3)).setCell ⟨R, 4, none⟩ (.slice a4 k4 d4) := ⟨_, rfl⟩
  have gN : w5.grownBy WN (some R) := by
    rw [hWN]
    exact grown_put (grown_put (grown_put (grown_put (grown_put (grown_refl _ _)))))
  have FE : Hid (GotP w B (fun w' v => ∃ cs, v = .agg cs.toArray ∧ entM.R (fun b => w.heap.size ≤ b) w' cs (x0, x1, x2, x3, x4)) r5 (.returned (.agg #[.int .i64 x0, .int .i64 x1, .int .i64 x2, .slice a3 k3 d3, .slice a4 k4 d4])) WN) := by
    have hRs : w.heap.size ≤ R := by rw [← HR.out]; exact Nat.le_refl _
    have q3 := (HO3.out.kept numM_ok gN (Nat.lt_succ_self R)).base numM_ok (base' := w.heap.size) (by omega)
    have q4 := (HO4.out.kept numM_ok gN (Nat.lt_succ_self R)).base numM_ok (base' := w.heap.size) (by omega)
    refine ⟨by rw [hWN]; exact grown_new (grown_new (grown_new (grown_new (grown_new g4 hRs _) hRs _) hRs _) hRs _) hRs _, .inl ⟨hb, _, rfl, ⟨[.int .i64 x0, .int .i64 x1, .int .i64 x2, .slice a3 k3 d3, .slice a4 k4 d4], rfl, ?_⟩, by rw [hWN]; exact at1_other (at1_other (at1_other (at1_other (at1_other K HRB.out) HRB.out) HRB.out) HRB.out) HRB.out⟩⟩
    exact entM_mk x0 x1 x2 (q3.rowP numM_ok) (q4.rowP numM_ok)
  have zz : WN.heap[R]? = some (.cells #[.int .i64 x0, .int .i64 x1, .int .i64 x2, .slice a3 k3 d3, .slice a4 k4 d4] 67 (0, 0)) := by
    rw [hWN]
    exact set_block (set_block (set_block (set_block (set_block z4))))
  obtain ⟨y_0, y_1, y_2, y_3, y_4⟩ := five_cells zz
  have HWN := Lib.hid hWN
  clear hWN zz z4 g4 G hb K C5 Q4 gN HO3 HO4
  go_wp2_with fail
  rw [← HWN.out]
  exact bodyPost_ret (v := .agg #[.int .i64 x0, .int .i64 x1, .int .i64 x2, .slice a3 k3 d3, .slice a4 k4 d4]) (by simp [results, Tryz.results61, go_sem, y_0, y_1, y_2, y_3, y_4, Tryz.isAgg67, Tryz.sizeOf67]) rfl FE.out
set_option maxHeartbeats 8000000 in
theorem take_Entry {B : Nat} {w : World} (r : Rd) {x : Ent} {r' : Rd} (hx : entC.rd r = (x, r')) (hb : r.bad = false) (hl : r.s.length ≤ 9223372036854775807) (h : At1 w B r.s) : Calls Tryz.prog 61 #[.pointer (some ⟨B, 0, none⟩)] w (GotP w B (fun w' v => ∃ cs, v = .agg cs.toArray ∧ entM.R (fun b => w.heap.size ≤ b) w' cs x) r') := by
  obtain ⟨x0, r1, e0⟩ : ∃ x rq, numC.rd r = (x, rq) := ⟨_, _, rfl⟩
  obtain ⟨x1, r2, e1⟩ : ∃ x rq, numC.rd r1 = (x, rq) := ⟨_, _, rfl⟩
  obtain ⟨x2, r3, e2⟩ : ∃ x rq, numC.rd r2 = (x, rq) := ⟨_, _, rfl⟩
  obtain ⟨x3, r4, e3⟩ : ∃ x rq, (listC numC).rd r3 = (x, rq) := ⟨_, _, rfl⟩
  obtain ⟨x4, r5, e4⟩ : ∃ x rq, (listC numC).rd r4 = (x, rq) := ⟨_, _, rfl⟩
  have hx' : entC.rd r = ((x0, x1, x2, x3, x4), r5) := pair_rd2 e0 (pair_rd2 e1 (pair_rd2 e2 (pair_rd2 e3 e4)))
  rw [hx] at hx'
  injection hx' with h1 h2
  rw [h1, h2]
  exact take0_Entry (w := w) r r1 r2 r3 r4 r5 x0 x1 x2 x3 x4 e0 e1 e2 e3 e4 hb hl h
set_option maxHeartbeats 8000000 in
theorem items_Entry {B : Nat} {w : World} (r0 : Rd) (n : Nat) (n256 : n < 65536) (hb : r0.bad = false) (hl : r0.s.length ≤ 9223372036854775807) (h : At1 w B r0.s) : Calls Tryz.prog 92 #[.int .i64 (n : Nat), .func (.func 61) #[.pointer (some ⟨B, 0, none⟩)] #[]] w (GotP w B (fun w' v => OwnP 67 entM w.heap.size w' v (manyR entC.rd n r0).1) (manyR entC.rd n r0).2) := by
  have HBW : Hid (B < w.heap.size) := h.cell.2.1
  obtain ⟨XS, hXS⟩ : ∃ XS, XS = (manyR entC.rd n r0).1 := ⟨_, rfl⟩
  obtain ⟨RF, hRF⟩ : ∃ RF, RF = (manyR entC.rd n r0).2 := ⟨_, rfl⟩
  have HR : Hid (manyR entC.rd n r0 = (XS, RF) ∧ n < 65536) := ⟨by rw [hXS, hRF], n256⟩
  have HLE : Hid (r0.s.length ≤ 9223372036854775807) := hl
  have HK1 : Hid (r0.bad = false ∧ At1 w B r0.s ∧ w.grownBy w (some B)) := ⟨hb, h, grown_refl _ _⟩
  rw [← hXS, ← hRF]
  clear h hl hXS hRF hb
  go_enter Tryz.func92, Tryz.ntmps92
  go_wp2_with fail
  go_loopg [5, 7] n (fun g v_ i_ wr => ∃ (i : Nat) (X : List (Ent)) (rr : Rd), i ≤ n ∧ n - i ≤ g ∧ i_ = .int .i64 i ∧ (∃ a c, v_ = .slice a i c) ∧ X.length = i ∧ Hid (manyR entC.rd n r0 = (X ++ (manyR entC.rd (n - i) rr).1, (manyR entC.rd (n - i) rr).2)) ∧ Hid (OwnP 67 entM w.heap.size wr v_ X) ∧ Hid (rr.bad = false ∧ At1 wr B rr.s ∧ w.grownBy wr (some B)) ∧ Hid (rr.s.length ≤ 9223372036854775807))
  case atStart => exact ⟨0, [], r0, by omega, by omega, rfl, ⟨_, _, rfl⟩, rfl, rfl, OwnP.nil_ _ _ _ _, HK1, HLE⟩
  case round =>
    obtain ⟨i, X, rr, hi, hg, rfl, ⟨oa, oc, rfl⟩, hX, HQ, HO, HK, HLR⟩ := hrel
    by_cases hin : i < n
    · have iw : ((i : Nat) : Int) < (n : Int) := by omega
      have d1 : decide (((i : Nat) : Int) < (n : Int)) = true := decide_eq_true iw
      obtain ⟨z, hz⟩ : ∃ z, z = (entC.rd rr).1 := ⟨_, rfl⟩
      obtain ⟨r2, hr2⟩ : ∃ r2, r2 = (entC.rd rr).2 := ⟨_, rfl⟩
      have HQ2 : Hid (manyR entC.rd n r0 = ((X ++ [z]) ++ (manyR entC.rd (n - (i + 1)) r2).1, (manyR entC.rd (n - (i + 1)) r2).2)) := by
        show _ = _
        rw [HQ.out, show n - i = n - (i + 1) + 1 by omega, many_next HK.out.1, hz, hr2]
        simp
      have HLE2 : Hid (r2.s.length ≤ 9223372036854775807) := by rw [hr2]; exact Nat.le_trans (entC_ok.rd_le _) HLR.out
      have HBAD : Hid (r2.bad = true → RF.bad = true) := fun hb => by
        have h := HQ2.out
        rw [HR.out.1, many_bad hb] at h
        injection h with _ h
        rw [h]
        exact hb
      have HXL : Hid (X.length = i) := hX
      have C2 := Lib.hid (take_Entry (w := wr) rr (x := z) (r' := r2) (by rw [hz, hr2]) HK.out.1 HLR.out HK.out.2.1)
      clear hz hr2 HQ hX
      go_wp2_with fail
      refine C2.out.mono ?_
      rintro e w5 ⟨G5, (⟨hb5, _, rfl, ⟨cs, rfl, hvz⟩, K5⟩ | ⟨hb5, rfl⟩)⟩
      rotate_left
      · have FE : Hid (GotP w B (fun w' v => OwnP 67 entM w.heap.size w' v XS) RF (.panicked [{ v := unr, recovered := false }]) w5) := ⟨grown_trans HK.out.2.2 G5, .inr ⟨HBAD.out hb5, rfl⟩⟩
        clear G5 hb5 C2
        go_wp2_with fail
        exact ⟨rfl, FE.out⟩
      have hR := hvz
      obtain ⟨u3, c3, u4, c4, rfl, _, _⟩ := entM_cells hvz
      clear hvz
      have HRR := Lib.hid hR
      have HKO : Hid (OwnP 67 entM w.heap.size w5 (.slice oa i oc) X) := HO.out.kept entM_ok G5 HBW.out
      have HG5 : Hid (w.grownBy w5 (some B)) := grown_trans HK.out.2.2 G5
      have HB5 := Lib.hid hb5
      have HMN : ∀ b, wr.heap.size ≤ b → w.heap.size ≤ b ∧ some b ≠ (Value.slice oa i oc).ownBlock := fun b hb => ⟨Nat.le_trans HK.out.2.2.size hb, fun e => by have := (HO.out.block b e.symm).2; omega⟩
      have HKA : OwnP 67 entM w.heap.size (w5.alloc (.cells #[.int .i64 z.1, .int .i64 z.2.1, .int .i64 z.2.2.1, .slice u3 z.2.2.2.1.length c3, .slice u4 z.2.2.2.2.length c4] 67)) (.slice oa i oc) X := HKO.out.below entM_ok (box1 _ _ _).1
      obtain ⟨xs, hxs, HOX, HROW⟩ := HKA.row entM_ok
      have A1 : Hid (Rk.OwnK 67 5 w.heap.size (w5.alloc (.cells #[.int .i64 z.1, .int .i64 z.2.1, .int .i64 z.2.2.1, .slice u3 z.2.2.2.1.length c3, .slice u4 z.2.2.2.2.length c4] 67)) (.slice oa i oc) xs) := HOX
      have A2 : Hid (Rk.RowK 5 (w5.alloc (.cells #[.int .i64 z.1, .int .i64 z.2.1, .int .i64 z.2.2.1, .slice u3 z.2.2.2.1.length c3, .slice u4 z.2.2.2.2.length c4] 67)) (.slice (some ⟨w5.heap.size, 0, none⟩) 1 1) [[.int .i64 z.1, .int .i64 z.2.1, .int .i64 z.2.2.1, .slice u3 z.2.2.2.1.length c3, .slice u4 z.2.2.2.2.length c4]]) := Rk.row_one (e := 67) (heap_alloc_new _ _) rfl
      have A3 : Hid (xs.length + ([[.int .i64 z.1, .int .i64 z.2.1, .int .i64 z.2.2.1, .slice u3 z.2.2.2.1.length c3, .slice u4 z.2.2.2.2.length c4]] : List (List Value)).length ≤ 100000) := by show _ ≤ _; rw [hxs, HXL.out, List.length_singleton]; have := HR.out.2; omega
      have HRW : Hid (∀ (v' : Value) (w' : World), Rk.OwnK 67 5 w.heap.size w' v' (xs ++ [[.int .i64 z.1, .int .i64 z.2.1, .int .i64 z.2.2.1, .slice u3 z.2.2.2.1.length c3, .slice u4 z.2.2.2.2.length c4]]) → (w5.alloc (.cells #[.int .i64 z.1, .int .i64 z.2.1, .int .i64 z.2.2.1, .slice u3 z.2.2.2.1.length c3, .slice u4 z.2.2.2.2.length c4] 67)).grownBy w' (Value.slice oa i oc).ownBlock → (v'.ownBlock = (Value.slice oa i oc).ownBlock ∨ v'.ownBlock = some (w5.alloc (.cells #[.int .i64 z.1, .int .i64 z.2.1, .int .i64 z.2.2.1, .slice u3 z.2.2.2.1.length c3, .slice u4 z.2.2.2.2.length c4] 67)).heap.size) → OwnP 67 entM w.heap.size w' v' (X ++ [z])) := fun v' w' h5 g5 k5 => HROW [.int .i64 z.1, .int .i64 z.2.1, .int .i64 z.2.2.1, .slice u3 z.2.2.2.1.length c3, .slice u4 z.2.2.2.2.length c4] z v' w' h5 g5 k5 (entM_ok.keep (entM_ok.mono HRR.out fun b _ hb => HMN b hb) (Keep.below (box1 _ _ _).1))
      have HONE : Hid (∀ y ∈ ([[.int .i64 z.1, .int .i64 z.2.1, .int .i64 z.2.2.1, .slice u3 z.2.2.2.1.length c3, .slice u4 z.2.2.2.2.length c4]] : List (List Value)), ∀ u ∈ y, u.oneCell' = true) := fun y hy => by simp only [List.mem_singleton] at hy; subst hy; exact entM_ok.one HRR.out
      have A4 : Hid (w.heap.size ≤ (w5.alloc (.cells #[.int .i64 z.1, .int .i64 z.2.1, .int .i64 z.2.2.1, .slice u3 z.2.2.2.1.length c3, .slice u4 z.2.2.2.2.length c4] 67)).heap.size) := Nat.le_trans HG5.out.size (by exact (box1 w5 _ _).1.size)
      have HK6 : Hid (At1 (w5.alloc (.cells #[.int .i64 z.1, .int .i64 z.2.1, .int .i64 z.2.2.1, .slice u3 z.2.2.2.1.length c3, .slice u4 z.2.2.2.2.length c4] 67)) B r2.s) := K5.below (box1 _ _ _).1
      have HG6 : Hid (w.grownBy (w5.alloc (.cells #[.int .i64 z.1, .int .i64 z.2.1, .int .i64 z.2.2.1, .slice u3 z.2.2.2.1.length c3, .slice u4 z.2.2.2.2.length c4] 67)) (some B)) := grown_below HG5.out (box1 _ _ _).1
      clear K5 G5 C2 HKO HK HO HG5 hb5 hR HRR HOX HROW hxs HMN HKA
      go_wp2_with (at_builtin; refine Rk.wpList_append_rowk rfl _ _ 26 67 5 72 _ Tryz.underlying26 infoEntry rfl (by decide) (by decide) rfl w.heap.size _ _ xs [[.int .i64 z.1, .int .i64 z.2.1, .int .i64 z.2.2.1, .slice u3 z.2.2.2.1.length c3, .slice u4 z.2.2.2.2.length c4]] rfl rfl A1.out A2.out HONE.out A3.out A4.out ?_)
      intro v6 w9 h5 g5 k5
      have HO9 := Lib.hid (HRW.out v6 w9 h5 g5 (k5.imp_right fun e => by rw [e, (box1 _ _ _).2.2]))
      obtain ⟨a6, c6, rfl⟩ := HO9.out.is_slice
      have hl1 : (X ++ [z]).length = i + 1 := by rw [List.length_append, HXL.out]; rfl
      have hlow : (Value.slice oa i oc).ownBlock ≠ some B := A1.out.low HBW.out
      have K9 : Hid (r2.bad = false ∧ At1 w9 B r2.s ∧ w.grownBy w9 (some B)) := ⟨HB5.out, (g5.block B HK6.out.cell.2.1 (fun e => hlow e.symm)).trans HK6.out, g5.os.trans HG6.out.os, g5.tape.trans HG6.out.tape, g5.output.trans HG6.out.output, Nat.le_trans HG6.out.size g5.size, fun k hk hne => (g5.block k (Nat.lt_of_lt_of_le hk HG6.out.size) (fun e => A1.out.low hk e.symm)).trans (HG6.out.block k hk hne)⟩
      rw [hl1] at HO9 ⊢
      clear h5 g5 k5 A1 A2 A3 A4 hlow hl1 HK6 HG6 HRW HONE
      go_wp2_with fail
      go_roundg (n - (i + 1))
      case measure => omega
      case rel => exact ⟨i + 1, X ++ [z], r2, by omega, Nat.le_refl _, by go_num, ⟨_, _, rfl⟩, by rw [List.length_append, HXL.out]; rfl, HQ2, HO9, K9, HLE2⟩
    · obtain rfl : i = n := by omega
      have iw : ¬ ((i : Int) < (i : Int)) := by omega
      have d1 : decide (((i : Nat) : Int) < (i : Int)) = false := decide_eq_false iw
      have HF : Hid (X = XS ∧ rr = RF) := by
        have h := HQ.out
        rw [HR.out.1, Nat.sub_self] at h
        have h1 := congrArg Prod.fst h
        have h2 := congrArg Prod.snd h
        exact ⟨by simpa [manyR] using h1.symm, h2.symm⟩
      have FE : Hid (GotP w B (fun w' v => OwnP 67 entM w.heap.size w' v XS) RF (.returned (.slice oa i oc)) wr) := by
        show GotP _ _ _ _ _ _
        rw [← HF.out.1, ← HF.out.2]
        exact ⟨HK.out.2.2, .inl ⟨HK.out.1, _, rfl, HO.out, HK.out.2.1⟩⟩
      clear HQ HK HO HF
      go_wp2_with fail
      go_ret
      exact FE.out
set_option maxHeartbeats 4000000 in
theorem list_Entry {B : Nat} {r : Rd} {x : List (Ent)} {r' : Rd} {w : World} (hx : (listC entC).rd r = (x, r')) (hb : r.bad = false) (hl : r.s.length ≤ 9223372036854775807) (h : At1 w B r.s) : Calls Tryz.prog 60 #[.pointer (some ⟨B, 0, none⟩), .func (.func 61) #[.pointer (some ⟨B, 0, none⟩)] #[]] w (GotP w B (fun w' v => OwnP 67 entM w.heap.size w' v x) r') := by
  obtain ⟨n, hn⟩ : ∃ n, n = (pairR r).1 := ⟨_, rfl⟩
  obtain ⟨r0, hr0⟩ : ∃ r0, r0 = (pairR r).2 := ⟨_, rfl⟩
  have C := Lib.hid (pair_step (w := w) (show pairR r = (n, r0) by rw [hn, hr0]) hb hl h)
  have HR : Hid (manyR entC.rd n r0 = (x, r') ∧ n < 65536) := ⟨by rw [hn, hr0]; exact hx, by rw [hn]; have := pair_max r; omega⟩
  have HLE : Hid (r0.s.length ≤ 9223372036854775807) := by rw [hr0]; exact Nat.le_trans (pair_le _) hl
  have CI : Hid (∀ w1, w.grownBy w1 (some B) → r0.bad = false → At1 w1 B r0.s → Calls Tryz.prog 92 #[.int .i64 (n : Nat), .func (.func 61) #[.pointer (some ⟨B, 0, none⟩)] #[]] w1 (GotP w B (fun w' v => OwnP 67 entM w.heap.size w' v x) r')) := fun w1 g hb hk => (items_Entry r0 n HR.out.2 hb HLE.out hk).mono fun e w2 hh => by
    rw [HR.out.1] at hh
    obtain ⟨G, hh⟩ := hh
    refine ⟨grown_trans g G, hh.imp ?_ id⟩
    rintro ⟨h1, v, h2, h3, h4⟩
    exact ⟨h1, v, h2, h3.base entM_ok g.size, h4⟩
  have HBD : Hid (r0.bad = true → r'.bad = true) := fun hb0 => by have h := HR.out.1; rw [many_bad hb0] at h; injection h with _ h; rw [← h]; exact hb0
  clear hn hr0 h hl hx hb
  go_enter Tryz.func60, Tryz.ntmps60
  go_wp2_with fail
  refine C.out.mono ?_
  rintro e w1 ⟨G, (⟨hb, rfl, K⟩ | ⟨hb, rfl⟩)⟩
  rotate_left
  · have FE : Hid (GotP w B (fun w' v => OwnP 67 entM w.heap.size w' v x) r' (.panicked [{ v := unr, recovered := false }]) w1) := ⟨G, .inr ⟨HBD.out hb, rfl⟩⟩
    clear G hb C
    go_wp2_with fail
    exact ⟨rfl, FE.out⟩
  have C2 := Lib.hid (CI.out w1 G hb K)
  clear hb K G C CI
  go_wp2_with fail
  refine C2.out.mono ?_
  rintro e w2 ⟨G, (⟨hb, v, rfl, O, K⟩ | ⟨hb, rfl⟩)⟩
  · have FE : Hid (GotP w B (fun w' v => OwnP 67 entM w.heap.size w' v x) r' (.returned v) w2) := ⟨G, .inl ⟨hb, v, rfl, O, K⟩⟩
    clear G hb O K C2
    go_wp2_with fail
    go_ret
    exact FE.out
  · have FE : Hid (GotP w B (fun w' v => OwnP 67 entM w.heap.size w' v x) r' (.panicked [{ v := unr, recovered := false }]) w2) := ⟨G, .inr ⟨hb, rfl⟩⟩
    clear G hb C2
    go_wp2_with fail
    exact ⟨rfl, FE.out⟩
end Go.Proofs.YtmdgjcikekojdaaGreatDoor.Sta
/- State: the program's reader: segments, documents. -/
set_option linter.unusedVariables false
set_option linter.unusedSimpArgs false
set_option maxRecDepth 100000
namespace Go.Proofs.YtmdgjcikekojdaaGreatDoor.Sta
open Go.RowKit Go.Lib Go.Proofs.YtmdgjcikekojdaaGreatDoor.Bx Go.Proofs.YtmdgjcikekojdaaGreatDoor.Frm Go.Proofs.YtmdgjcikekojdaaGreatDoor.Wds

set_option maxHeartbeats 8000000 in
theorem take0_Seg {B : Nat} {w : World} (r0 r1 r2 r3 r4 r5 : Rd) (x0 : Int) (x1 : Int) (x2 : List UInt8) (x3 : List (Spn)) (x4 : List (Sit)) (e0 : numC.rd r0 = (x0, r1)) (e1 : numC.rd r1 = (x1, r2)) (e2 : textC.rd r2 = (x2, r3)) (e3 : (listC spnC).rd r3 = (x3, r4)) (e4 : (listC sitC).rd r4 = (x4, r5)) (hb : r0.bad = false) (hl : r0.s.length ≤ 9223372036854775807) (h : At1 w B r0.s) : Calls Tryz.prog 86 #[.pointer (some ⟨B, 0, none⟩)] w (GotP w B (fun w' v => ∃ cs, v = .agg cs.toArray ∧ segM.R (fun b => w.heap.size ≤ b) w' cs (x0, x1, x2, x3, x4)) r5) := by
  obtain ⟨B0, P0, L0⟩ := box1 w #[.int .i64 0, .int .i64 0, .string (ByteArray.mk #[]), .slice none 0 0, .slice none 0 0] 112
  obtain ⟨W0, hW0⟩ : ∃ W0, W0 = w.alloc (.cells #[.int .i64 0, .int .i64 0, .string (ByteArray.mk #[]), .slice none 0 0, .slice none 0 0] 112) := ⟨_, rfl⟩
  rw [← hW0] at B0 P0 L0
  obtain ⟨R, hR⟩ : ∃ R, R = w.heap.size := ⟨_, rfl⟩
  rw [← hR] at P0 L0
  have hRB : R ≠ B := by have := h.cell.2.1; omega
  have HW0 := Lib.hid hW0
  have HR := Lib.hid hR
  have HRB := Lib.hid hRB
  have HBB : Hid (B < w.heap.size ∧ W0.heap.size = R + 1) := ⟨h.cell.2.1, L0⟩
  have hmf : ∀ (fn : Fn) (first cap : Array Value) (w : World), (Instr.makeFunc fn first cap).run Tryz.prog w = .ok (.func fn first cap) w := fun _ _ _ _ => rfl
  have l0 := hl
  have l1 : r1.s.length ≤ 9223372036854775807 := by have q := numC_ok.rd_le r0; rw [e0] at q; exact Nat.le_trans q l0
  have l2 : r2.s.length ≤ 9223372036854775807 := by have q := numC_ok.rd_le r1; rw [e1] at q; exact Nat.le_trans q l1
  have l3 : r3.s.length ≤ 9223372036854775807 := by have q := textC_ok.rd_le r2; rw [e2] at q; exact Nat.le_trans q l2
  have l4 : r4.s.length ≤ 9223372036854775807 := by have q := (listC_ok spnC_ok).rd_le r3; rw [e3] at q; exact Nat.le_trans q l3
  have S5 : Hid (r5.bad = true → r5.bad = true) := fun h => h
  have S4 : Hid (r4.bad = true → r5.bad = true) := fun h => S5.out (by have q := (listC_ok sitC_ok).rd_stuck r4 h; rw [e4] at q; exact q)
  have S3 : Hid (r3.bad = true → r5.bad = true) := fun h => S4.out (by have q := (listC_ok spnC_ok).rd_stuck r3 h; rw [e3] at q; exact q)
  have S2 : Hid (r2.bad = true → r5.bad = true) := fun h => S3.out (by have q := textC_ok.rd_stuck r2 h; rw [e2] at q; exact q)
  have S1 : Hid (r1.bad = true → r5.bad = true) := fun h => S2.out (by have q := numC_ok.rd_stuck r1 h; rw [e1] at q; exact q)
  have C1 : Hid (∀ w', r0.bad = false → At1 w' B r0.s → Calls Tryz.prog 51 #[.pointer (some ⟨B, 0, none⟩)] w' (Got w' B (.int .i64 x0) r1)) := fun w' hb k => num_step e0 hb l0 k
  have C2 : Hid (∀ w', r1.bad = false → At1 w' B r1.s → Calls Tryz.prog 51 #[.pointer (some ⟨B, 0, none⟩)] w' (Got w' B (.int .i64 x1) r2)) := fun w' hb k => num_step e1 hb l1 k
  have C3 : Hid (∀ w', r2.bad = false → At1 w' B r2.s → Calls Tryz.prog 91 #[.pointer (some ⟨B, 0, none⟩)] w' (Got w' B (.string (mkB x2)) r3)) := fun w' hb k => text_step e2 hb l2 k
  have C4 : Hid (∀ w', r3.bad = false → At1 w' B r3.s → Calls Tryz.prog 108 #[.pointer (some ⟨B, 0, none⟩), .func (.func 109) #[.pointer (some ⟨B, 0, none⟩)] #[]] w' (GotP w' B (fun w'' v => OwnP 115 spnM w'.heap.size w'' v x3) r4)) := fun w' hb k => list_Span e3 hb l3 k
  have C5 : Hid (∀ w', r4.bad = false → At1 w' B r4.s → Calls Tryz.prog 110 #[.pointer (some ⟨B, 0, none⟩), .func (.func 111) #[.pointer (some ⟨B, 0, none⟩)] #[]] w' (GotP w' B (fun w'' v => OwnP 117 sitM w'.heap.size w'' v x4) r5)) := fun w' hb k => list_Site e4 hb l4 k
  have Q0 : Hid (r0.bad = false ∧ At1 W0 B r0.s ∧ W0.grownBy W0 (some B)) := ⟨hb, h.below B0, grown_refl _ _⟩
  have HG : Hid (∀ w', W0.grownBy w' (some B) → w.grownBy w' (some B) ∧ w'.heap[R]? = some (.cells #[.int .i64 0, .int .i64 0, .string (ByteArray.mk #[]), .slice none 0 0, .slice none 0 0] 112 (0, 0))) := fun w' g => ⟨grown_trans (grown_of _ _ B0 _) g, (g.block R (by omega) (by simpa using hRB)).trans P0⟩
  obtain ⟨y2, hy2⟩ : ∃ y, y = mkB x2 := ⟨_, rfl⟩
  rw [← hy2] at C3
  have HY2 := Lib.hid hy2
  clear hb h hl hR hW0 B0 P0 L0 l0 l1 l2 l3 l4 e0 e1 e2 e3 e4 hRB hy2
  go_enter Tryz.func86, Tryz.ntmps86
  go_upto_region 1 with fail
  rw [← HW0.out, ← HR.out]
  refine region_pure [0, 1, 2, 4, 5, 6, 8, 9, 10, 12, 13, 14, 16, 17, 18] [3, 7, 11, 15, 19, 20, 21] (by kernel_rfl) (by kernel_rfl) (fun d _ _ _ _ h => by cases d <;> exact h) (fun wd hwd => ?_)
  simp only [List.filterMap_cons, List.filterMap_nil, List.getElem?_cons_zero, List.getElem?_cons_succ]
  have QD := Lib.hid (And.intro Q0.out.1 (And.intro (at1_drew Q0.out.2.1 hwd.out) (grown_drew1 Q0.out.2.2 hwd.out)))
  clear Q0 hwd
  repeat (refine Zo.wpPure_step (fun K hK => ?_); go_simp; refine hK _ ?_; clear hK K)
  refine Zo.wpPure_nil ?_
  have Q0 := Lib.hid QD.out
  clear QD
  go_wp2_with fail
  refine (C1.out _ Q0.out.1 Q0.out.2.1).mono ?_
  rintro e w1 ⟨G, (⟨hb, rfl, K⟩ | ⟨hb, rfl⟩)⟩
  rotate_left
  · have FE : Hid (GotP w B (fun w' v => ∃ cs, v = .agg cs.toArray ∧ segM.R (fun b => w.heap.size ≤ b) w' cs (x0, x1, x2, x3, x4)) r5 (.panicked [{ v := unr, recovered := false }]) w1) := ⟨(HG.out _ (grown_trans Q0.out.2.2 G)).1, .inr ⟨S1.out hb, rfl⟩⟩
    clear G hb
    go_wp2_with fail
    exact ⟨rfl, FE.out⟩
  have Q1 : Hid (r1.bad = false ∧ At1 w1 B r1.s ∧ W0.grownBy w1 (some B)) := ⟨hb, K, grown_trans Q0.out.2.2 G⟩
  clear G hb K C1 Q0
  go_wp2_with fail
  refine (C2.out _ Q1.out.1 Q1.out.2.1).mono ?_
  rintro e w2 ⟨G, (⟨hb, rfl, K⟩ | ⟨hb, rfl⟩)⟩
  rotate_left
  · have FE : Hid (GotP w B (fun w' v => ∃ cs, v = .agg cs.toArray ∧ segM.R (fun b => w.heap.size ≤ b) w' cs (x0, x1, x2, x3, x4)) r5 (.panicked [{ v := unr, recovered := false }]) w2) := ⟨(HG.out _ (grown_trans Q1.out.2.2 G)).1, .inr ⟨S2.out hb, rfl⟩⟩
    clear G hb
    go_wp2_with fail
    exact ⟨rfl, FE.out⟩
  have Q2 : Hid (r2.bad = false ∧ At1 w2 B r2.s ∧ W0.grownBy w2 (some B)) := ⟨hb, K, grown_trans Q1.out.2.2 G⟩
  clear G hb K C2 Q1
  go_wp2_with fail
  refine (C3.out _ Q2.out.1 Q2.out.2.1).mono ?_
  rintro e w3 ⟨G, (⟨hb, rfl, K⟩ | ⟨hb, rfl⟩)⟩
  rotate_left
  · have FE : Hid (GotP w B (fun w' v => ∃ cs, v = .agg cs.toArray ∧ segM.R (fun b => w.heap.size ≤ b) w' cs (x0, x1, x2, x3, x4)) r5 (.panicked [{ v := unr, recovered := false }]) w3) := ⟨(HG.out _ (grown_trans Q2.out.2.2 G)).1, .inr ⟨S3.out hb, rfl⟩⟩
    clear G hb
    go_wp2_with fail
    exact ⟨rfl, FE.out⟩
  have Q3 : Hid (r3.bad = false ∧ At1 w3 B r3.s ∧ W0.grownBy w3 (some B)) := ⟨hb, K, grown_trans Q2.out.2.2 G⟩
  clear G hb K C3 Q2
  go_wp2_with fail
  refine (C4.out _ Q3.out.1 Q3.out.2.1).mono ?_
  rintro e w4 ⟨G, (⟨hb, v3, rfl, O3, K⟩ | ⟨hb, rfl⟩)⟩
  rotate_left
  · have FE : Hid (GotP w B (fun w' v => ∃ cs, v = .agg cs.toArray ∧ segM.R (fun b => w.heap.size ≤ b) w' cs (x0, x1, x2, x3, x4)) r5 (.panicked [{ v := unr, recovered := false }]) w4) := ⟨(HG.out _ (grown_trans Q3.out.2.2 G)).1, .inr ⟨S4.out hb, rfl⟩⟩
    clear G hb
    go_wp2_with fail
    exact ⟨rfl, FE.out⟩
  have HO3 : Hid (OwnP 115 spnM (R + 1) w4 v3 x3) := O3.base spnM_ok (by have := Q3.out.2.2.size; have := HBB.out.2; omega)
  obtain ⟨a3, d3, rfl⟩ := O3.is_slice
  clear O3
  obtain ⟨k3, hk3⟩ : ∃ k, k = x3.length := ⟨_, rfl⟩
  rw [← hk3] at HO3 ⊢
  clear hk3
  have Q4 : Hid (r4.bad = false ∧ At1 w4 B r4.s ∧ W0.grownBy w4 (some B)) := ⟨hb, K, grown_trans Q3.out.2.2 G⟩
  clear G hb K C4 Q3
  go_wp2_with fail
  refine (C5.out _ Q4.out.1 Q4.out.2.1).mono ?_
  rintro e w5 ⟨G, (⟨hb, v4, rfl, O4, K⟩ | ⟨hb, rfl⟩)⟩
  rotate_left
  · have FE : Hid (GotP w B (fun w' v => ∃ cs, v = .agg cs.toArray ∧ segM.R (fun b => w.heap.size ≤ b) w' cs (x0, x1, x2, x3, x4)) r5 (.panicked [{ v := unr, recovered := false }]) w5) := ⟨(HG.out _ (grown_trans Q4.out.2.2 G)).1, .inr ⟨S5.out hb, rfl⟩⟩
    clear G hb
    go_wp2_with fail
    exact ⟨rfl, FE.out⟩
  replace HO3 := Lib.hid (HO3.out.kept spnM_ok G (by have := HBB.out.1; have := HR.out; omega))
  have HO4 : Hid (OwnP 117 sitM (R + 1) w5 v4 x4) := O4.base sitM_ok (by have := Q4.out.2.2.size; have := HBB.out.2; omega)
  obtain ⟨a4, d4, rfl⟩ := O4.is_slice
  clear O4
  obtain ⟨k4, hk4⟩ : ∃ k, k = x4.length := ⟨_, rfl⟩
  rw [← hk4] at HO4 ⊢
  clear hk4
  obtain ⟨g4, z4⟩ := HG.out _ (grown_trans Q4.out.2.2 G)
  obtain ⟨c0, c1, c2, c3, c4⟩ := five_cells z4
  have fr0 := free_at (i := 0) z4
  have fr1 := free_at (i := 1) z4
  have fr2 := free_at (i := 2) z4
  have fr3 := free_at (i := 3) z4
  have fr4 := free_at (i := 4) z4
  obtain ⟨WN, hWN⟩ : ∃ WN, WN = ((((w5.setCell ⟨R, 0, none⟩ (.int .i64 x0)).setCell ⟨R, 1, none⟩ (.int .i64 x1)).setCell ⟨R, 2, none⟩ (.string y2)).setCell ⟨R, 3, none⟩ (.slice a3 k3 d3)).setCell ⟨R, 4, none⟩ (.slice a4 k4 d4) := ⟨_, rfl⟩
  have gN : w5.grownBy WN (some R) := by
    rw [hWN]
    exact grown_put (grown_put (grown_put (grown_put (grown_put (grown_refl _ _)))))
  have FE : Hid (GotP w B (fun w' v => ∃ cs, v = .agg cs.toArray ∧ segM.R (fun b => w.heap.size ≤ b) w' cs (x0, x1, x2, x3, x4)) r5 (.returned (.agg #[.int .i64 x0, .int .i64 x1, .string y2, .slice a3 k3 d3, .slice a4 k4 d4])) WN) := by
    have hRs : w.heap.size ≤ R := by rw [← HR.out]; exact Nat.le_refl _
    have q3 := (HO3.out.kept spnM_ok gN (Nat.lt_succ_self R)).base spnM_ok (base' := w.heap.size) (by omega)
    have q4 := (HO4.out.kept sitM_ok gN (Nat.lt_succ_self R)).base sitM_ok (base' := w.heap.size) (by omega)
    refine ⟨by rw [hWN]; exact grown_new (grown_new (grown_new (grown_new (grown_new g4 hRs _) hRs _) hRs _) hRs _) hRs _, .inl ⟨hb, _, rfl, ⟨[.int .i64 x0, .int .i64 x1, .string y2, .slice a3 k3 d3, .slice a4 k4 d4], rfl, ?_⟩, by rw [hWN]; exact at1_other (at1_other (at1_other (at1_other (at1_other K HRB.out) HRB.out) HRB.out) HRB.out) HRB.out⟩⟩
    rw [HY2.out]
    exact segM_mk x0 x1 x2 (q3.rowP spnM_ok) (q4.rowP sitM_ok)
  have zz : WN.heap[R]? = some (.cells #[.int .i64 x0, .int .i64 x1, .string y2, .slice a3 k3 d3, .slice a4 k4 d4] 112 (0, 0)) := by
    rw [hWN]
    exact set_block (set_block (set_block (set_block (set_block z4))))
  obtain ⟨y_0, y_1, y_2, y_3, y_4⟩ := five_cells zz
  have HWN := Lib.hid hWN
  clear hWN zz z4 g4 G hb K C5 Q4 gN HO3 HO4
  go_wp2_with fail
  rw [← HWN.out]
  exact bodyPost_ret (v := .agg #[.int .i64 x0, .int .i64 x1, .string y2, .slice a3 k3 d3, .slice a4 k4 d4]) (by simp [results, Tryz.results86, go_sem, y_0, y_1, y_2, y_3, y_4, Tryz.isAgg112, Tryz.sizeOf112]) rfl FE.out
set_option maxHeartbeats 8000000 in
theorem take_Seg {B : Nat} {w : World} (r : Rd) {x : Seg} {r' : Rd} (hx : segC.rd r = (x, r')) (hb : r.bad = false) (hl : r.s.length ≤ 9223372036854775807) (h : At1 w B r.s) : Calls Tryz.prog 86 #[.pointer (some ⟨B, 0, none⟩)] w (GotP w B (fun w' v => ∃ cs, v = .agg cs.toArray ∧ segM.R (fun b => w.heap.size ≤ b) w' cs x) r') := by
  obtain ⟨x0, r1, e0⟩ : ∃ x rq, numC.rd r = (x, rq) := ⟨_, _, rfl⟩
  obtain ⟨x1, r2, e1⟩ : ∃ x rq, numC.rd r1 = (x, rq) := ⟨_, _, rfl⟩
  obtain ⟨x2, r3, e2⟩ : ∃ x rq, textC.rd r2 = (x, rq) := ⟨_, _, rfl⟩
  obtain ⟨x3, r4, e3⟩ : ∃ x rq, (listC spnC).rd r3 = (x, rq) := ⟨_, _, rfl⟩
  obtain ⟨x4, r5, e4⟩ : ∃ x rq, (listC sitC).rd r4 = (x, rq) := ⟨_, _, rfl⟩
  have hx' : segC.rd r = ((x0, x1, x2, x3, x4), r5) := pair_rd2 e0 (pair_rd2 e1 (pair_rd2 e2 (pair_rd2 e3 e4)))
  rw [hx] at hx'
  injection hx' with h1 h2
  rw [h1, h2]
  exact take0_Seg (w := w) r r1 r2 r3 r4 r5 x0 x1 x2 x3 x4 e0 e1 e2 e3 e4 hb hl h
set_option maxHeartbeats 8000000 in
theorem items_Seg {B : Nat} {w : World} (r0 : Rd) (n : Nat) (n256 : n < 65536) (hb : r0.bad = false) (hl : r0.s.length ≤ 9223372036854775807) (h : At1 w B r0.s) : Calls Tryz.prog 107 #[.int .i64 (n : Nat), .func (.func 86) #[.pointer (some ⟨B, 0, none⟩)] #[]] w (GotP w B (fun w' v => OwnP 112 segM w.heap.size w' v (manyR segC.rd n r0).1) (manyR segC.rd n r0).2) := by
  have HBW : Hid (B < w.heap.size) := h.cell.2.1
  obtain ⟨XS, hXS⟩ : ∃ XS, XS = (manyR segC.rd n r0).1 := ⟨_, rfl⟩
  obtain ⟨RF, hRF⟩ : ∃ RF, RF = (manyR segC.rd n r0).2 := ⟨_, rfl⟩
  have HR : Hid (manyR segC.rd n r0 = (XS, RF) ∧ n < 65536) := ⟨by rw [hXS, hRF], n256⟩
  have HLE : Hid (r0.s.length ≤ 9223372036854775807) := hl
  have HK1 : Hid (r0.bad = false ∧ At1 w B r0.s ∧ w.grownBy w (some B)) := ⟨hb, h, grown_refl _ _⟩
  rw [← hXS, ← hRF]
  clear h hl hXS hRF hb
  go_enter Tryz.func107, Tryz.ntmps107
  go_wp2_with fail
  go_loopg [5, 7] n (fun g v_ i_ wr => ∃ (i : Nat) (X : List (Seg)) (rr : Rd), i ≤ n ∧ n - i ≤ g ∧ i_ = .int .i64 i ∧ (∃ a c, v_ = .slice a i c) ∧ X.length = i ∧ Hid (manyR segC.rd n r0 = (X ++ (manyR segC.rd (n - i) rr).1, (manyR segC.rd (n - i) rr).2)) ∧ Hid (OwnP 112 segM w.heap.size wr v_ X) ∧ Hid (rr.bad = false ∧ At1 wr B rr.s ∧ w.grownBy wr (some B)) ∧ Hid (rr.s.length ≤ 9223372036854775807))
  case atStart => exact ⟨0, [], r0, by omega, by omega, rfl, ⟨_, _, rfl⟩, rfl, rfl, OwnP.nil_ _ _ _ _, HK1, HLE⟩
  case round =>
    obtain ⟨i, X, rr, hi, hg, rfl, ⟨oa, oc, rfl⟩, hX, HQ, HO, HK, HLR⟩ := hrel
    by_cases hin : i < n
    · have iw : ((i : Nat) : Int) < (n : Int) := by omega
      have d1 : decide (((i : Nat) : Int) < (n : Int)) = true := decide_eq_true iw
      obtain ⟨z, hz⟩ : ∃ z, z = (segC.rd rr).1 := ⟨_, rfl⟩
      obtain ⟨r2, hr2⟩ : ∃ r2, r2 = (segC.rd rr).2 := ⟨_, rfl⟩
      have HQ2 : Hid (manyR segC.rd n r0 = ((X ++ [z]) ++ (manyR segC.rd (n - (i + 1)) r2).1, (manyR segC.rd (n - (i + 1)) r2).2)) := by
        show _ = _
        rw [HQ.out, show n - i = n - (i + 1) + 1 by omega, many_next HK.out.1, hz, hr2]
        simp
      have HLE2 : Hid (r2.s.length ≤ 9223372036854775807) := by rw [hr2]; exact Nat.le_trans (segC_ok.rd_le _) HLR.out
      have HBAD : Hid (r2.bad = true → RF.bad = true) := fun hb => by
        have h := HQ2.out
        rw [HR.out.1, many_bad hb] at h
        injection h with _ h
        rw [h]
        exact hb
      have HXL : Hid (X.length = i) := hX
      have C2 := Lib.hid (take_Seg (w := wr) rr (x := z) (r' := r2) (by rw [hz, hr2]) HK.out.1 HLR.out HK.out.2.1)
      clear hz hr2 HQ hX
      go_wp2_with fail
      refine C2.out.mono ?_
      rintro e w5 ⟨G5, (⟨hb5, _, rfl, ⟨cs, rfl, hvz⟩, K5⟩ | ⟨hb5, rfl⟩)⟩
      rotate_left
      · have FE : Hid (GotP w B (fun w' v => OwnP 112 segM w.heap.size w' v XS) RF (.panicked [{ v := unr, recovered := false }]) w5) := ⟨grown_trans HK.out.2.2 G5, .inr ⟨HBAD.out hb5, rfl⟩⟩
        clear G5 hb5 C2
        go_wp2_with fail
        exact ⟨rfl, FE.out⟩
      have hR := hvz
      obtain ⟨u3, c3, u4, c4, rfl, _, _⟩ := segM_cells hvz
      clear hvz
      have HRR := Lib.hid hR
      have HKO : Hid (OwnP 112 segM w.heap.size w5 (.slice oa i oc) X) := HO.out.kept segM_ok G5 HBW.out
      have HG5 : Hid (w.grownBy w5 (some B)) := grown_trans HK.out.2.2 G5
      have HB5 := Lib.hid hb5
      have HMN : ∀ b, wr.heap.size ≤ b → w.heap.size ≤ b ∧ some b ≠ (Value.slice oa i oc).ownBlock := fun b hb => ⟨Nat.le_trans HK.out.2.2.size hb, fun e => by have := (HO.out.block b e.symm).2; omega⟩
      have HKA : OwnP 112 segM w.heap.size (w5.alloc (.cells #[.int .i64 z.1, .int .i64 z.2.1, .string (mkB z.2.2.1), .slice u3 z.2.2.2.1.length c3, .slice u4 z.2.2.2.2.length c4] 112)) (.slice oa i oc) X := HKO.out.below segM_ok (box1 _ _ _).1
      obtain ⟨xs, hxs, HOX, HROW⟩ := HKA.row segM_ok
      have A1 : Hid (Rk.OwnK 112 5 w.heap.size (w5.alloc (.cells #[.int .i64 z.1, .int .i64 z.2.1, .string (mkB z.2.2.1), .slice u3 z.2.2.2.1.length c3, .slice u4 z.2.2.2.2.length c4] 112)) (.slice oa i oc) xs) := HOX
      have A2 : Hid (Rk.RowK 5 (w5.alloc (.cells #[.int .i64 z.1, .int .i64 z.2.1, .string (mkB z.2.2.1), .slice u3 z.2.2.2.1.length c3, .slice u4 z.2.2.2.2.length c4] 112)) (.slice (some ⟨w5.heap.size, 0, none⟩) 1 1) [[.int .i64 z.1, .int .i64 z.2.1, .string (mkB z.2.2.1), .slice u3 z.2.2.2.1.length c3, .slice u4 z.2.2.2.2.length c4]]) := Rk.row_one (e := 112) (heap_alloc_new _ _) rfl
      have A3 : Hid (xs.length + ([[.int .i64 z.1, .int .i64 z.2.1, .string (mkB z.2.2.1), .slice u3 z.2.2.2.1.length c3, .slice u4 z.2.2.2.2.length c4]] : List (List Value)).length ≤ 100000) := by show _ ≤ _; rw [hxs, HXL.out, List.length_singleton]; have := HR.out.2; omega
      have HRW : Hid (∀ (v' : Value) (w' : World), Rk.OwnK 112 5 w.heap.size w' v' (xs ++ [[.int .i64 z.1, .int .i64 z.2.1, .string (mkB z.2.2.1), .slice u3 z.2.2.2.1.length c3, .slice u4 z.2.2.2.2.length c4]]) → (w5.alloc (.cells #[.int .i64 z.1, .int .i64 z.2.1, .string (mkB z.2.2.1), .slice u3 z.2.2.2.1.length c3, .slice u4 z.2.2.2.2.length c4] 112)).grownBy w' (Value.slice oa i oc).ownBlock → (v'.ownBlock = (Value.slice oa i oc).ownBlock ∨ v'.ownBlock = some (w5.alloc (.cells #[.int .i64 z.1, .int .i64 z.2.1, .string (mkB z.2.2.1), .slice u3 z.2.2.2.1.length c3, .slice u4 z.2.2.2.2.length c4] 112)).heap.size) → OwnP 112 segM w.heap.size w' v' (X ++ [z])) := fun v' w' h5 g5 k5 => HROW [.int .i64 z.1, .int .i64 z.2.1, .string (mkB z.2.2.1), .slice u3 z.2.2.2.1.length c3, .slice u4 z.2.2.2.2.length c4] z v' w' h5 g5 k5 (segM_ok.keep (segM_ok.mono HRR.out fun b _ hb => HMN b hb) (Keep.below (box1 _ _ _).1))
      have HONE : Hid (∀ y ∈ ([[.int .i64 z.1, .int .i64 z.2.1, .string (mkB z.2.2.1), .slice u3 z.2.2.2.1.length c3, .slice u4 z.2.2.2.2.length c4]] : List (List Value)), ∀ u ∈ y, u.oneCell' = true) := fun y hy => by simp only [List.mem_singleton] at hy; subst hy; exact segM_ok.one HRR.out
      have A4 : Hid (w.heap.size ≤ (w5.alloc (.cells #[.int .i64 z.1, .int .i64 z.2.1, .string (mkB z.2.2.1), .slice u3 z.2.2.2.1.length c3, .slice u4 z.2.2.2.2.length c4] 112)).heap.size) := Nat.le_trans HG5.out.size (by exact (box1 w5 _ _).1.size)
      have HK6 : Hid (At1 (w5.alloc (.cells #[.int .i64 z.1, .int .i64 z.2.1, .string (mkB z.2.2.1), .slice u3 z.2.2.2.1.length c3, .slice u4 z.2.2.2.2.length c4] 112)) B r2.s) := K5.below (box1 _ _ _).1
      have HG6 : Hid (w.grownBy (w5.alloc (.cells #[.int .i64 z.1, .int .i64 z.2.1, .string (mkB z.2.2.1), .slice u3 z.2.2.2.1.length c3, .slice u4 z.2.2.2.2.length c4] 112)) (some B)) := grown_below HG5.out (box1 _ _ _).1
      clear K5 G5 C2 HKO HK HO HG5 hb5 hR HRR HOX HROW hxs HMN HKA
      go_wp2_with (at_builtin; refine Rk.wpList_append_rowk rfl _ _ 57 112 5 80 _ Tryz.underlying57 infoSeg rfl (by decide) (by decide) rfl w.heap.size _ _ xs [[.int .i64 z.1, .int .i64 z.2.1, .string (mkB z.2.2.1), .slice u3 z.2.2.2.1.length c3, .slice u4 z.2.2.2.2.length c4]] rfl rfl A1.out A2.out HONE.out A3.out A4.out ?_)
      intro v6 w9 h5 g5 k5
      have HO9 := Lib.hid (HRW.out v6 w9 h5 g5 (k5.imp_right fun e => by rw [e, (box1 _ _ _).2.2]))
      obtain ⟨a6, c6, rfl⟩ := HO9.out.is_slice
      have hl1 : (X ++ [z]).length = i + 1 := by rw [List.length_append, HXL.out]; rfl
      have hlow : (Value.slice oa i oc).ownBlock ≠ some B := A1.out.low HBW.out
      have K9 : Hid (r2.bad = false ∧ At1 w9 B r2.s ∧ w.grownBy w9 (some B)) := ⟨HB5.out, (g5.block B HK6.out.cell.2.1 (fun e => hlow e.symm)).trans HK6.out, g5.os.trans HG6.out.os, g5.tape.trans HG6.out.tape, g5.output.trans HG6.out.output, Nat.le_trans HG6.out.size g5.size, fun k hk hne => (g5.block k (Nat.lt_of_lt_of_le hk HG6.out.size) (fun e => A1.out.low hk e.symm)).trans (HG6.out.block k hk hne)⟩
      rw [hl1] at HO9 ⊢
      clear h5 g5 k5 A1 A2 A3 A4 hlow hl1 HK6 HG6 HRW HONE
      go_wp2_with fail
      go_roundg (n - (i + 1))
      case measure => omega
      case rel => exact ⟨i + 1, X ++ [z], r2, by omega, Nat.le_refl _, by go_num, ⟨_, _, rfl⟩, by rw [List.length_append, HXL.out]; rfl, HQ2, HO9, K9, HLE2⟩
    · obtain rfl : i = n := by omega
      have iw : ¬ ((i : Int) < (i : Int)) := by omega
      have d1 : decide (((i : Nat) : Int) < (i : Int)) = false := decide_eq_false iw
      have HF : Hid (X = XS ∧ rr = RF) := by
        have h := HQ.out
        rw [HR.out.1, Nat.sub_self] at h
        have h1 := congrArg Prod.fst h
        have h2 := congrArg Prod.snd h
        exact ⟨by simpa [manyR] using h1.symm, h2.symm⟩
      have FE : Hid (GotP w B (fun w' v => OwnP 112 segM w.heap.size w' v XS) RF (.returned (.slice oa i oc)) wr) := by
        show GotP _ _ _ _ _ _
        rw [← HF.out.1, ← HF.out.2]
        exact ⟨HK.out.2.2, .inl ⟨HK.out.1, _, rfl, HO.out, HK.out.2.1⟩⟩
      clear HQ HK HO HF
      go_wp2_with fail
      go_ret
      exact FE.out
set_option maxHeartbeats 4000000 in
theorem list_Seg {B : Nat} {r : Rd} {x : List (Seg)} {r' : Rd} {w : World} (hx : (listC segC).rd r = (x, r')) (hb : r.bad = false) (hl : r.s.length ≤ 9223372036854775807) (h : At1 w B r.s) : Calls Tryz.prog 85 #[.pointer (some ⟨B, 0, none⟩), .func (.func 86) #[.pointer (some ⟨B, 0, none⟩)] #[]] w (GotP w B (fun w' v => OwnP 112 segM w.heap.size w' v x) r') := by
  obtain ⟨n, hn⟩ : ∃ n, n = (pairR r).1 := ⟨_, rfl⟩
  obtain ⟨r0, hr0⟩ : ∃ r0, r0 = (pairR r).2 := ⟨_, rfl⟩
  have C := Lib.hid (pair_step (w := w) (show pairR r = (n, r0) by rw [hn, hr0]) hb hl h)
  have HR : Hid (manyR segC.rd n r0 = (x, r') ∧ n < 65536) := ⟨by rw [hn, hr0]; exact hx, by rw [hn]; have := pair_max r; omega⟩
  have HLE : Hid (r0.s.length ≤ 9223372036854775807) := by rw [hr0]; exact Nat.le_trans (pair_le _) hl
  have CI : Hid (∀ w1, w.grownBy w1 (some B) → r0.bad = false → At1 w1 B r0.s → Calls Tryz.prog 107 #[.int .i64 (n : Nat), .func (.func 86) #[.pointer (some ⟨B, 0, none⟩)] #[]] w1 (GotP w B (fun w' v => OwnP 112 segM w.heap.size w' v x) r')) := fun w1 g hb hk => (items_Seg r0 n HR.out.2 hb HLE.out hk).mono fun e w2 hh => by
    rw [HR.out.1] at hh
    obtain ⟨G, hh⟩ := hh
    refine ⟨grown_trans g G, hh.imp ?_ id⟩
    rintro ⟨h1, v, h2, h3, h4⟩
    exact ⟨h1, v, h2, h3.base segM_ok g.size, h4⟩
  have HBD : Hid (r0.bad = true → r'.bad = true) := fun hb0 => by have h := HR.out.1; rw [many_bad hb0] at h; injection h with _ h; rw [← h]; exact hb0
  clear hn hr0 h hl hx hb
  go_enter Tryz.func85, Tryz.ntmps85
  go_wp2_with fail
  refine C.out.mono ?_
  rintro e w1 ⟨G, (⟨hb, rfl, K⟩ | ⟨hb, rfl⟩)⟩
  rotate_left
  · have FE : Hid (GotP w B (fun w' v => OwnP 112 segM w.heap.size w' v x) r' (.panicked [{ v := unr, recovered := false }]) w1) := ⟨G, .inr ⟨HBD.out hb, rfl⟩⟩
    clear G hb C
    go_wp2_with fail
    exact ⟨rfl, FE.out⟩
  have C2 := Lib.hid (CI.out w1 G hb K)
  clear hb K G C CI
  go_wp2_with fail
  refine C2.out.mono ?_
  rintro e w2 ⟨G, (⟨hb, v, rfl, O, K⟩ | ⟨hb, rfl⟩)⟩
  · have FE : Hid (GotP w B (fun w' v => OwnP 112 segM w.heap.size w' v x) r' (.returned v) w2) := ⟨G, .inl ⟨hb, v, rfl, O, K⟩⟩
    clear G hb O K C2
    go_wp2_with fail
    go_ret
    exact FE.out
  · have FE : Hid (GotP w B (fun w' v => OwnP 112 segM w.heap.size w' v x) r' (.panicked [{ v := unr, recovered := false }]) w2) := ⟨G, .inr ⟨hb, rfl⟩⟩
    clear G hb C2
    go_wp2_with fail
    exact ⟨rfl, FE.out⟩
set_option maxHeartbeats 8000000 in
theorem take0_Doc {B : Nat} {w : World} (r0 r1 r2 : Rd) (x0 : Bool) (x1 : List (Seg)) (e0 : flagC.rd r0 = (x0, r1)) (e1 : (listC segC).rd r1 = (x1, r2)) (hb : r0.bad = false) (hl : r0.s.length ≤ 9223372036854775807) (h : At1 w B r0.s) : Calls Tryz.prog 55 #[.pointer (some ⟨B, 0, none⟩)] w (GotP w B (fun w' v => ∃ cs, v = .agg cs.toArray ∧ docM.R (fun b => w.heap.size ≤ b) w' cs (x0, x1)) r2) := by
  obtain ⟨B0, P0, L0⟩ := box1 w #[.bool false, .slice none 0 0] 59
  obtain ⟨W0, hW0⟩ : ∃ W0, W0 = w.alloc (.cells #[.bool false, .slice none 0 0] 59) := ⟨_, rfl⟩
  rw [← hW0] at B0 P0 L0
  obtain ⟨R, hR⟩ : ∃ R, R = w.heap.size := ⟨_, rfl⟩
  rw [← hR] at P0 L0
  have hRB : R ≠ B := by have := h.cell.2.1; omega
  have HW0 := Lib.hid hW0
  have HR := Lib.hid hR
  have HRB := Lib.hid hRB
  have HBB : Hid (B < w.heap.size ∧ W0.heap.size = R + 1) := ⟨h.cell.2.1, L0⟩
  have hmf : ∀ (fn : Fn) (first cap : Array Value) (w : World), (Instr.makeFunc fn first cap).run Tryz.prog w = .ok (.func fn first cap) w := fun _ _ _ _ => rfl
  have l0 := hl
  have l1 : r1.s.length ≤ 9223372036854775807 := by have q := flagC_ok.rd_le r0; rw [e0] at q; exact Nat.le_trans q l0
  have S2 : Hid (r2.bad = true → r2.bad = true) := fun h => h
  have S1 : Hid (r1.bad = true → r2.bad = true) := fun h => S2.out (by have q := (listC_ok segC_ok).rd_stuck r1 h; rw [e1] at q; exact q)
  have C1 : Hid (∀ w', r0.bad = false → At1 w' B r0.s → Calls Tryz.prog 84 #[.pointer (some ⟨B, 0, none⟩)] w' (Got w' B (.bool x0) r1)) := fun w' hb k => flag_step e0 hb l0 k
  have C2 : Hid (∀ w', r1.bad = false → At1 w' B r1.s → Calls Tryz.prog 85 #[.pointer (some ⟨B, 0, none⟩), .func (.func 86) #[.pointer (some ⟨B, 0, none⟩)] #[]] w' (GotP w' B (fun w'' v => OwnP 112 segM w'.heap.size w'' v x1) r2)) := fun w' hb k => list_Seg e1 hb l1 k
  have Q0 : Hid (r0.bad = false ∧ At1 W0 B r0.s ∧ W0.grownBy W0 (some B)) := ⟨hb, h.below B0, grown_refl _ _⟩
  have HG : Hid (∀ w', W0.grownBy w' (some B) → w.grownBy w' (some B) ∧ w'.heap[R]? = some (.cells #[.bool false, .slice none 0 0] 59 (0, 0))) := fun w' g => ⟨grown_trans (grown_of _ _ B0 _) g, (g.block R (by omega) (by simpa using hRB)).trans P0⟩
  clear hb h hl hR hW0 B0 P0 L0 l0 l1 e0 e1 hRB
  go_enter Tryz.func55, Tryz.ntmps55
  go_wp2_with fail
  rw [← HW0.out, ← HR.out]
  refine (C1.out _ Q0.out.1 Q0.out.2.1).mono ?_
  rintro e w1 ⟨G, (⟨hb, rfl, K⟩ | ⟨hb, rfl⟩)⟩
  rotate_left
  · have FE : Hid (GotP w B (fun w' v => ∃ cs, v = .agg cs.toArray ∧ docM.R (fun b => w.heap.size ≤ b) w' cs (x0, x1)) r2 (.panicked [{ v := unr, recovered := false }]) w1) := ⟨(HG.out _ (grown_trans Q0.out.2.2 G)).1, .inr ⟨S1.out hb, rfl⟩⟩
    clear G hb
    go_wp2_with fail
    exact ⟨rfl, FE.out⟩
  have Q1 : Hid (r1.bad = false ∧ At1 w1 B r1.s ∧ W0.grownBy w1 (some B)) := ⟨hb, K, grown_trans Q0.out.2.2 G⟩
  clear G hb K C1 Q0
  go_wp2_with fail
  refine (C2.out _ Q1.out.1 Q1.out.2.1).mono ?_
  rintro e w2 ⟨G, (⟨hb, v1, rfl, O1, K⟩ | ⟨hb, rfl⟩)⟩
  rotate_left
  · have FE : Hid (GotP w B (fun w' v => ∃ cs, v = .agg cs.toArray ∧ docM.R (fun b => w.heap.size ≤ b) w' cs (x0, x1)) r2 (.panicked [{ v := unr, recovered := false }]) w2) := ⟨(HG.out _ (grown_trans Q1.out.2.2 G)).1, .inr ⟨S2.out hb, rfl⟩⟩
    clear G hb
    go_wp2_with fail
    exact ⟨rfl, FE.out⟩
  have HO1 : Hid (OwnP 112 segM (R + 1) w2 v1 x1) := O1.base segM_ok (by have := Q1.out.2.2.size; have := HBB.out.2; omega)
  obtain ⟨a1, d1, rfl⟩ := O1.is_slice
  clear O1
  obtain ⟨k1, hk1⟩ : ∃ k, k = x1.length := ⟨_, rfl⟩
  rw [← hk1] at HO1 ⊢
  clear hk1
  obtain ⟨g4, z4⟩ := HG.out _ (grown_trans Q1.out.2.2 G)
  obtain ⟨c0, c1⟩ := two_cells z4
  have fr0 := free_at (i := 0) z4
  have fr1 := free_at (i := 1) z4
  obtain ⟨WN, hWN⟩ : ∃ WN, WN = (w2.setCell ⟨R, 0, none⟩ (.bool x0)).setCell ⟨R, 1, none⟩ (.slice a1 k1 d1) := ⟨_, rfl⟩
  have gN : w2.grownBy WN (some R) := by
    rw [hWN]
    exact grown_put (grown_put (grown_refl _ _))
  have FE : Hid (GotP w B (fun w' v => ∃ cs, v = .agg cs.toArray ∧ docM.R (fun b => w.heap.size ≤ b) w' cs (x0, x1)) r2 (.returned (.agg #[.bool x0, .slice a1 k1 d1])) WN) := by
    have hRs : w.heap.size ≤ R := by rw [← HR.out]; exact Nat.le_refl _
    have q1 := (HO1.out.kept segM_ok gN (Nat.lt_succ_self R)).base segM_ok (base' := w.heap.size) (by omega)
    refine ⟨by rw [hWN]; exact grown_new (grown_new g4 hRs _) hRs _, .inl ⟨hb, _, rfl, ⟨[.bool x0, .slice a1 k1 d1], rfl, ?_⟩, by rw [hWN]; exact at1_other (at1_other K HRB.out) HRB.out⟩⟩
    exact docM_mk x0 (q1.rowP segM_ok)
  have zz : WN.heap[R]? = some (.cells #[.bool x0, .slice a1 k1 d1] 59 (0, 0)) := by
    rw [hWN]
    exact set_block (set_block z4)
  obtain ⟨y_0, y_1⟩ := two_cells zz
  have HWN := Lib.hid hWN
  clear hWN zz z4 g4 G hb K C2 Q1 gN HO1
  go_wp2_with fail
  rw [← HWN.out]
  exact bodyPost_ret (v := .agg #[.bool x0, .slice a1 k1 d1]) (by simp [results, Tryz.results55, go_sem, y_0, y_1, Tryz.isAgg59, Tryz.sizeOf59]) rfl FE.out
set_option maxHeartbeats 8000000 in
theorem take_Doc {B : Nat} {w : World} (r : Rd) {x : Doc} {r' : Rd} (hx : docC.rd r = (x, r')) (hb : r.bad = false) (hl : r.s.length ≤ 9223372036854775807) (h : At1 w B r.s) : Calls Tryz.prog 55 #[.pointer (some ⟨B, 0, none⟩)] w (GotP w B (fun w' v => ∃ cs, v = .agg cs.toArray ∧ docM.R (fun b => w.heap.size ≤ b) w' cs x) r') := by
  obtain ⟨x0, r1, e0⟩ : ∃ x rq, flagC.rd r = (x, rq) := ⟨_, _, rfl⟩
  obtain ⟨x1, r2, e1⟩ : ∃ x rq, (listC segC).rd r1 = (x, rq) := ⟨_, _, rfl⟩
  have hx' : docC.rd r = ((x0, x1), r2) := pair_rd2 e0 e1
  rw [hx] at hx'
  injection hx' with h1 h2
  rw [h1, h2]
  exact take0_Doc (w := w) r r1 r2 x0 x1 e0 e1 hb hl h
set_option maxHeartbeats 8000000 in
theorem items_Doc {B : Nat} {w : World} (r0 : Rd) (n : Nat) (n256 : n < 65536) (hb : r0.bad = false) (hl : r0.s.length ≤ 9223372036854775807) (h : At1 w B r0.s) : Calls Tryz.prog 83 #[.int .i64 (n : Nat), .func (.func 55) #[.pointer (some ⟨B, 0, none⟩)] #[]] w (GotP w B (fun w' v => OwnP 59 docM w.heap.size w' v (manyR docC.rd n r0).1) (manyR docC.rd n r0).2) := by
  have HBW : Hid (B < w.heap.size) := h.cell.2.1
  obtain ⟨XS, hXS⟩ : ∃ XS, XS = (manyR docC.rd n r0).1 := ⟨_, rfl⟩
  obtain ⟨RF, hRF⟩ : ∃ RF, RF = (manyR docC.rd n r0).2 := ⟨_, rfl⟩
  have HR : Hid (manyR docC.rd n r0 = (XS, RF) ∧ n < 65536) := ⟨by rw [hXS, hRF], n256⟩
  have HLE : Hid (r0.s.length ≤ 9223372036854775807) := hl
  have HK1 : Hid (r0.bad = false ∧ At1 w B r0.s ∧ w.grownBy w (some B)) := ⟨hb, h, grown_refl _ _⟩
  rw [← hXS, ← hRF]
  clear h hl hXS hRF hb
  go_enter Tryz.func83, Tryz.ntmps83
  go_wp2_with fail
  go_loopg [5, 7] n (fun g v_ i_ wr => ∃ (i : Nat) (X : List (Doc)) (rr : Rd), i ≤ n ∧ n - i ≤ g ∧ i_ = .int .i64 i ∧ (∃ a c, v_ = .slice a i c) ∧ X.length = i ∧ Hid (manyR docC.rd n r0 = (X ++ (manyR docC.rd (n - i) rr).1, (manyR docC.rd (n - i) rr).2)) ∧ Hid (OwnP 59 docM w.heap.size wr v_ X) ∧ Hid (rr.bad = false ∧ At1 wr B rr.s ∧ w.grownBy wr (some B)) ∧ Hid (rr.s.length ≤ 9223372036854775807))
  case atStart => exact ⟨0, [], r0, by omega, by omega, rfl, ⟨_, _, rfl⟩, rfl, rfl, OwnP.nil_ _ _ _ _, HK1, HLE⟩
  case round =>
    obtain ⟨i, X, rr, hi, hg, rfl, ⟨oa, oc, rfl⟩, hX, HQ, HO, HK, HLR⟩ := hrel
    by_cases hin : i < n
    · have iw : ((i : Nat) : Int) < (n : Int) := by omega
      have d1 : decide (((i : Nat) : Int) < (n : Int)) = true := decide_eq_true iw
      obtain ⟨z, hz⟩ : ∃ z, z = (docC.rd rr).1 := ⟨_, rfl⟩
      obtain ⟨r2, hr2⟩ : ∃ r2, r2 = (docC.rd rr).2 := ⟨_, rfl⟩
      have HQ2 : Hid (manyR docC.rd n r0 = ((X ++ [z]) ++ (manyR docC.rd (n - (i + 1)) r2).1, (manyR docC.rd (n - (i + 1)) r2).2)) := by
        show _ = _
        rw [HQ.out, show n - i = n - (i + 1) + 1 by omega, many_next HK.out.1, hz, hr2]
        simp
      have HLE2 : Hid (r2.s.length ≤ 9223372036854775807) := by rw [hr2]; exact Nat.le_trans (docC_ok.rd_le _) HLR.out
      have HBAD : Hid (r2.bad = true → RF.bad = true) := fun hb => by
        have h := HQ2.out
        rw [HR.out.1, many_bad hb] at h
        injection h with _ h
        rw [h]
        exact hb
      have HXL : Hid (X.length = i) := hX
      have C2 := Lib.hid (take_Doc (w := wr) rr (x := z) (r' := r2) (by rw [hz, hr2]) HK.out.1 HLR.out HK.out.2.1)
      clear hz hr2 HQ hX
      go_wp2_with fail
      refine C2.out.mono ?_
      rintro e w5 ⟨G5, (⟨hb5, _, rfl, ⟨cs, rfl, hvz⟩, K5⟩ | ⟨hb5, rfl⟩)⟩
      rotate_left
      · have FE : Hid (GotP w B (fun w' v => OwnP 59 docM w.heap.size w' v XS) RF (.panicked [{ v := unr, recovered := false }]) w5) := ⟨grown_trans HK.out.2.2 G5, .inr ⟨HBAD.out hb5, rfl⟩⟩
        clear G5 hb5 C2
        go_wp2_with fail
        exact ⟨rfl, FE.out⟩
      have hR := hvz
      obtain ⟨u1, c1, rfl, _⟩ := docM_cells hvz
      clear hvz
      have HRR := Lib.hid hR
      have HKO : Hid (OwnP 59 docM w.heap.size w5 (.slice oa i oc) X) := HO.out.kept docM_ok G5 HBW.out
      have HG5 : Hid (w.grownBy w5 (some B)) := grown_trans HK.out.2.2 G5
      have HB5 := Lib.hid hb5
      have HMN : ∀ b, wr.heap.size ≤ b → w.heap.size ≤ b ∧ some b ≠ (Value.slice oa i oc).ownBlock := fun b hb => ⟨Nat.le_trans HK.out.2.2.size hb, fun e => by have := (HO.out.block b e.symm).2; omega⟩
      have HKA : OwnP 59 docM w.heap.size (w5.alloc (.cells #[.bool z.1, .slice u1 z.2.length c1] 59)) (.slice oa i oc) X := HKO.out.below docM_ok (box1 _ _ _).1
      obtain ⟨xs, hxs, HOX, HROW⟩ := HKA.row docM_ok
      have A1 : Hid (Rk.OwnK 59 2 w.heap.size (w5.alloc (.cells #[.bool z.1, .slice u1 z.2.length c1] 59)) (.slice oa i oc) xs) := HOX
      have A2 : Hid (Rk.RowK 2 (w5.alloc (.cells #[.bool z.1, .slice u1 z.2.length c1] 59)) (.slice (some ⟨w5.heap.size, 0, none⟩) 1 1) [[.bool z.1, .slice u1 z.2.length c1]]) := Rk.row_one (e := 59) (heap_alloc_new _ _) rfl
      have A3 : Hid (xs.length + ([[.bool z.1, .slice u1 z.2.length c1]] : List (List Value)).length ≤ 100000) := by show _ ≤ _; rw [hxs, HXL.out, List.length_singleton]; have := HR.out.2; omega
      have HRW : Hid (∀ (v' : Value) (w' : World), Rk.OwnK 59 2 w.heap.size w' v' (xs ++ [[.bool z.1, .slice u1 z.2.length c1]]) → (w5.alloc (.cells #[.bool z.1, .slice u1 z.2.length c1] 59)).grownBy w' (Value.slice oa i oc).ownBlock → (v'.ownBlock = (Value.slice oa i oc).ownBlock ∨ v'.ownBlock = some (w5.alloc (.cells #[.bool z.1, .slice u1 z.2.length c1] 59)).heap.size) → OwnP 59 docM w.heap.size w' v' (X ++ [z])) := fun v' w' h5 g5 k5 => HROW [.bool z.1, .slice u1 z.2.length c1] z v' w' h5 g5 k5 (docM_ok.keep (docM_ok.mono HRR.out fun b _ hb => HMN b hb) (Keep.below (box1 _ _ _).1))
      have HONE : Hid (∀ y ∈ ([[.bool z.1, .slice u1 z.2.length c1]] : List (List Value)), ∀ u ∈ y, u.oneCell' = true) := fun y hy => by simp only [List.mem_singleton] at hy; subst hy; exact docM_ok.one HRR.out
      have A4 : Hid (w.heap.size ≤ (w5.alloc (.cells #[.bool z.1, .slice u1 z.2.length c1] 59)).heap.size) := Nat.le_trans HG5.out.size (by exact (box1 w5 _ _).1.size)
      have HK6 : Hid (At1 (w5.alloc (.cells #[.bool z.1, .slice u1 z.2.length c1] 59)) B r2.s) := K5.below (box1 _ _ _).1
      have HG6 : Hid (w.grownBy (w5.alloc (.cells #[.bool z.1, .slice u1 z.2.length c1] 59)) (some B)) := grown_below HG5.out (box1 _ _ _).1
      clear K5 G5 C2 HKO HK HO HG5 hb5 hR HRR HOX HROW hxs HMN HKA
      go_wp2_with (at_builtin; refine Rk.wpList_append_rowk rfl _ _ 23 59 2 32 _ Tryz.underlying23 infoDoc rfl (by decide) (by decide) rfl w.heap.size _ _ xs [[.bool z.1, .slice u1 z.2.length c1]] rfl rfl A1.out A2.out HONE.out A3.out A4.out ?_)
      intro v6 w9 h5 g5 k5
      have HO9 := Lib.hid (HRW.out v6 w9 h5 g5 (k5.imp_right fun e => by rw [e, (box1 _ _ _).2.2]))
      obtain ⟨a6, c6, rfl⟩ := HO9.out.is_slice
      have hl1 : (X ++ [z]).length = i + 1 := by rw [List.length_append, HXL.out]; rfl
      have hlow : (Value.slice oa i oc).ownBlock ≠ some B := A1.out.low HBW.out
      have K9 : Hid (r2.bad = false ∧ At1 w9 B r2.s ∧ w.grownBy w9 (some B)) := ⟨HB5.out, (g5.block B HK6.out.cell.2.1 (fun e => hlow e.symm)).trans HK6.out, g5.os.trans HG6.out.os, g5.tape.trans HG6.out.tape, g5.output.trans HG6.out.output, Nat.le_trans HG6.out.size g5.size, fun k hk hne => (g5.block k (Nat.lt_of_lt_of_le hk HG6.out.size) (fun e => A1.out.low hk e.symm)).trans (HG6.out.block k hk hne)⟩
      rw [hl1] at HO9 ⊢
      clear h5 g5 k5 A1 A2 A3 A4 hlow hl1 HK6 HG6 HRW HONE
      go_wp2_with fail
      go_roundg (n - (i + 1))
      case measure => omega
      case rel => exact ⟨i + 1, X ++ [z], r2, by omega, Nat.le_refl _, by go_num, ⟨_, _, rfl⟩, by rw [List.length_append, HXL.out]; rfl, HQ2, HO9, K9, HLE2⟩
    · obtain rfl : i = n := by omega
      have iw : ¬ ((i : Int) < (i : Int)) := by omega
      have d1 : decide (((i : Nat) : Int) < (i : Int)) = false := decide_eq_false iw
      have HF : Hid (X = XS ∧ rr = RF) := by
        have h := HQ.out
        rw [HR.out.1, Nat.sub_self] at h
        have h1 := congrArg Prod.fst h
        have h2 := congrArg Prod.snd h
        exact ⟨by simpa [manyR] using h1.symm, h2.symm⟩
      have FE : Hid (GotP w B (fun w' v => OwnP 59 docM w.heap.size w' v XS) RF (.returned (.slice oa i oc)) wr) := by
        show GotP _ _ _ _ _ _
        rw [← HF.out.1, ← HF.out.2]
        exact ⟨HK.out.2.2, .inl ⟨HK.out.1, _, rfl, HO.out, HK.out.2.1⟩⟩
      clear HQ HK HO HF
      go_wp2_with fail
      go_ret
      exact FE.out
set_option maxHeartbeats 4000000 in
theorem list_Doc {B : Nat} {r : Rd} {x : List (Doc)} {r' : Rd} {w : World} (hx : (listC docC).rd r = (x, r')) (hb : r.bad = false) (hl : r.s.length ≤ 9223372036854775807) (h : At1 w B r.s) : Calls Tryz.prog 54 #[.pointer (some ⟨B, 0, none⟩), .func (.func 55) #[.pointer (some ⟨B, 0, none⟩)] #[]] w (GotP w B (fun w' v => OwnP 59 docM w.heap.size w' v x) r') := by
  obtain ⟨n, hn⟩ : ∃ n, n = (pairR r).1 := ⟨_, rfl⟩
  obtain ⟨r0, hr0⟩ : ∃ r0, r0 = (pairR r).2 := ⟨_, rfl⟩
  have C := Lib.hid (pair_step (w := w) (show pairR r = (n, r0) by rw [hn, hr0]) hb hl h)
  have HR : Hid (manyR docC.rd n r0 = (x, r') ∧ n < 65536) := ⟨by rw [hn, hr0]; exact hx, by rw [hn]; have := pair_max r; omega⟩
  have HLE : Hid (r0.s.length ≤ 9223372036854775807) := by rw [hr0]; exact Nat.le_trans (pair_le _) hl
  have CI : Hid (∀ w1, w.grownBy w1 (some B) → r0.bad = false → At1 w1 B r0.s → Calls Tryz.prog 83 #[.int .i64 (n : Nat), .func (.func 55) #[.pointer (some ⟨B, 0, none⟩)] #[]] w1 (GotP w B (fun w' v => OwnP 59 docM w.heap.size w' v x) r')) := fun w1 g hb hk => (items_Doc r0 n HR.out.2 hb HLE.out hk).mono fun e w2 hh => by
    rw [HR.out.1] at hh
    obtain ⟨G, hh⟩ := hh
    refine ⟨grown_trans g G, hh.imp ?_ id⟩
    rintro ⟨h1, v, h2, h3, h4⟩
    exact ⟨h1, v, h2, h3.base docM_ok g.size, h4⟩
  have HBD : Hid (r0.bad = true → r'.bad = true) := fun hb0 => by have h := HR.out.1; rw [many_bad hb0] at h; injection h with _ h; rw [← h]; exact hb0
  clear hn hr0 h hl hx hb
  go_enter Tryz.func54, Tryz.ntmps54
  go_wp2_with fail
  refine C.out.mono ?_
  rintro e w1 ⟨G, (⟨hb, rfl, K⟩ | ⟨hb, rfl⟩)⟩
  rotate_left
  · have FE : Hid (GotP w B (fun w' v => OwnP 59 docM w.heap.size w' v x) r' (.panicked [{ v := unr, recovered := false }]) w1) := ⟨G, .inr ⟨HBD.out hb, rfl⟩⟩
    clear G hb C
    go_wp2_with fail
    exact ⟨rfl, FE.out⟩
  have C2 := Lib.hid (CI.out w1 G hb K)
  clear hb K G C CI
  go_wp2_with fail
  refine C2.out.mono ?_
  rintro e w2 ⟨G, (⟨hb, v, rfl, O, K⟩ | ⟨hb, rfl⟩)⟩
  · have FE : Hid (GotP w B (fun w' v => OwnP 59 docM w.heap.size w' v x) r' (.returned v) w2) := ⟨G, .inl ⟨hb, v, rfl, O, K⟩⟩
    clear G hb O K C2
    go_wp2_with fail
    go_ret
    exact FE.out
  · have FE : Hid (GotP w B (fun w' v => OwnP 59 docM w.heap.size w' v x) r' (.panicked [{ v := unr, recovered := false }]) w2) := ⟨G, .inr ⟨hb, rfl⟩⟩
    clear G hb C2
    go_wp2_with fail
    exact ⟨rfl, FE.out⟩
end Go.Proofs.YtmdgjcikekojdaaGreatDoor.Sta
