/- State: the program's reader: stacks, seats. -/
import Derived.Test.YtmdgjcikekojdaaGreatDoorZc
set_option linter.unusedVariables false
set_option linter.unusedSimpArgs false
set_option maxRecDepth 100000
namespace Go.Proofs.YtmdgjcikekojdaaGreatDoor.Sta
open Go.RowKit Go.Lib Go.Proofs.YtmdgjcikekojdaaGreatDoor.Bx Go.Proofs.YtmdgjcikekojdaaGreatDoor.Frm Go.Proofs.YtmdgjcikekojdaaGreatDoor.Wds

set_option maxHeartbeats 4000000 in
theorem take_Stack {B : Nat} {w : World} (r : Rd) {x : List Thg} {r' : Rd} (hx : stkC.rd r = (x, r')) (hb : r.bad = false) (hl : r.s.length ≤ 9223372036854775807) (h : At1 w B r.s) : Calls Tryz.prog 57 #[.pointer (some ⟨B, 0, none⟩)] w (GotP w B (fun w' v => RowP thgM (fun b => w.heap.size ≤ b) w' v x) r') := by
  have C := Lib.hid (list_Undo (w := w) hx hb hl h)
  have hmf : ∀ (fn : Fn) (first cap : Array Value) (w : World), (Instr.makeFunc fn first cap).run Tryz.prog w = .ok (.func fn first cap) w := fun _ _ _ _ => rfl
  clear hx hb hl h
  go_enter Tryz.func57, Tryz.ntmps57
  go_wp2_with fail
  refine C.out.mono ?_
  rintro e w2 ⟨G, (⟨hb, v, rfl, O, K⟩ | ⟨hb, rfl⟩)⟩
  · have FE : Hid (GotP w B (fun w' v => RowP thgM (fun b => w.heap.size ≤ b) w' v x) r' (.returned v) w2) := ⟨G, .inl ⟨hb, v, rfl, O.rowP thgM_ok, K⟩⟩
    clear G hb O K C
    go_wp2_with fail
    go_ret
    exact FE.out
  · have FE : Hid (GotP w B (fun w' v => RowP thgM (fun b => w.heap.size ≤ b) w' v x) r' (.panicked [{ v := unr, recovered := false }]) w2) := ⟨G, .inr ⟨hb, rfl⟩⟩
    clear G hb C
    go_wp2_with fail
    exact ⟨rfl, FE.out⟩
set_option maxHeartbeats 8000000 in
theorem items_Stack {B : Nat} {w : World} (r0 : Rd) (n : Nat) (n256 : n < 65536) (hb : r0.bad = false) (hl : r0.s.length ≤ 9223372036854775807) (h : At1 w B r0.s) : Calls Tryz.prog 87 #[.int .i64 (n : Nat), .func (.func 57) #[.pointer (some ⟨B, 0, none⟩)] #[]] w (GotP w B (fun w' v => OwnP 61 stkM w.heap.size w' v (manyR stkC.rd n r0).1) (manyR stkC.rd n r0).2) := by
  have HBW : Hid (B < w.heap.size) := h.cell.2.1
  obtain ⟨XS, hXS⟩ : ∃ XS, XS = (manyR stkC.rd n r0).1 := ⟨_, rfl⟩
  obtain ⟨RF, hRF⟩ : ∃ RF, RF = (manyR stkC.rd n r0).2 := ⟨_, rfl⟩
  have HR : Hid (manyR stkC.rd n r0 = (XS, RF) ∧ n < 65536) := ⟨by rw [hXS, hRF], n256⟩
  have HLE : Hid (r0.s.length ≤ 9223372036854775807) := hl
  have HK1 : Hid (r0.bad = false ∧ At1 w B r0.s ∧ w.grownBy w (some B)) := ⟨hb, h, grown_refl _ _⟩
  rw [← hXS, ← hRF]
  clear h hl hXS hRF hb
  go_enter Tryz.func87, Tryz.ntmps87
  go_wp2_with fail
  go_loopg [5, 7] n (fun g v_ i_ wr => ∃ (i : Nat) (X : List (List Thg)) (rr : Rd), i ≤ n ∧ n - i ≤ g ∧ i_ = .int .i64 i ∧ (∃ a c, v_ = .slice a i c) ∧ X.length = i ∧ Hid (manyR stkC.rd n r0 = (X ++ (manyR stkC.rd (n - i) rr).1, (manyR stkC.rd (n - i) rr).2)) ∧ Hid (OwnP 61 stkM w.heap.size wr v_ X) ∧ Hid (rr.bad = false ∧ At1 wr B rr.s ∧ w.grownBy wr (some B)) ∧ Hid (rr.s.length ≤ 9223372036854775807))
  case atStart => exact ⟨0, [], r0, by omega, by omega, rfl, ⟨_, _, rfl⟩, rfl, rfl, OwnP.nil_ _ _ _ _, HK1, HLE⟩
  case round =>
    obtain ⟨i, X, rr, hi, hg, rfl, ⟨oa, oc, rfl⟩, hX, HQ, HO, HK, HLR⟩ := hrel
    by_cases hin : i < n
    · have iw : ((i : Nat) : Int) < (n : Int) := by omega
      have d1 : decide (((i : Nat) : Int) < (n : Int)) = true := decide_eq_true iw
      obtain ⟨z, hz⟩ : ∃ z, z = (stkC.rd rr).1 := ⟨_, rfl⟩
      obtain ⟨r2, hr2⟩ : ∃ r2, r2 = (stkC.rd rr).2 := ⟨_, rfl⟩
      have HQ2 : Hid (manyR stkC.rd n r0 = ((X ++ [z]) ++ (manyR stkC.rd (n - (i + 1)) r2).1, (manyR stkC.rd (n - (i + 1)) r2).2)) := by
        show _ = _
        rw [HQ.out, show n - i = n - (i + 1) + 1 by omega, many_next HK.out.1, hz, hr2]
        simp
      have HLE2 : Hid (r2.s.length ≤ 9223372036854775807) := by rw [hr2]; exact Nat.le_trans (stkC_ok.rd_le _) HLR.out
      have HBAD : Hid (r2.bad = true → RF.bad = true) := fun hb => by
        have h := HQ2.out
        rw [HR.out.1, many_bad hb] at h
        injection h with _ h
        rw [h]
        exact hb
      have HXL : Hid (X.length = i) := hX
      have C2 := Lib.hid (take_Stack (w := wr) rr (x := z) (r' := r2) (by rw [hz, hr2]) HK.out.1 HLR.out HK.out.2.1)
      clear hz hr2 HQ hX
      go_wp2_with fail
      refine C2.out.mono ?_
      rintro e w5 ⟨G5, (⟨hb5, vz, rfl, hvz, K5⟩ | ⟨hb5, rfl⟩)⟩
      rotate_left
      · have FE : Hid (GotP w B (fun w' v => OwnP 61 stkM w.heap.size w' v XS) RF (.panicked [{ v := unr, recovered := false }]) w5) := ⟨grown_trans HK.out.2.2 G5, .inr ⟨HBAD.out hb5, rfl⟩⟩
        clear G5 hb5 C2
        go_wp2_with fail
        exact ⟨rfl, FE.out⟩
      obtain ⟨u0, c0, rfl⟩ := hvz.is_slice
      have hR : stkM.R (fun b => wr.heap.size ≤ b) w5 [.slice u0 z.length c0] z := ⟨_, rfl, hvz⟩
      have HRR := Lib.hid hR
      have HKO : Hid (OwnP 61 stkM w.heap.size w5 (.slice oa i oc) X) := HO.out.kept stkM_ok G5 HBW.out
      have HG5 : Hid (w.grownBy w5 (some B)) := grown_trans HK.out.2.2 G5
      have HB5 := Lib.hid hb5
      have HMN : ∀ b, wr.heap.size ≤ b → w.heap.size ≤ b ∧ some b ≠ (Value.slice oa i oc).ownBlock := fun b hb => ⟨Nat.le_trans HK.out.2.2.size hb, fun e => by have := (HO.out.block b e.symm).2; omega⟩
      have HKA : OwnP 61 stkM w.heap.size (w5.alloc (.cells #[.slice u0 z.length c0] 61)) (.slice oa i oc) X := HKO.out.below stkM_ok (box1 _ _ _).1
      obtain ⟨xs, hxs, HOX, HROW⟩ := HKA.row stkM_ok
      have A1 : Hid (Rk.OwnK 61 1 w.heap.size (w5.alloc (.cells #[.slice u0 z.length c0] 61)) (.slice oa i oc) xs) := HOX
      have A2 : Hid (Rk.RowK 1 (w5.alloc (.cells #[.slice u0 z.length c0] 61)) (.slice (some ⟨w5.heap.size, 0, none⟩) 1 1) [[.slice u0 z.length c0]]) := Rk.row_one (e := 61) (heap_alloc_new _ _) rfl
      have A3 : Hid (xs.length + ([[.slice u0 z.length c0]] : List (List Value)).length ≤ 100000) := by show _ ≤ _; rw [hxs, HXL.out, List.length_singleton]; have := HR.out.2; omega
      have HRW : Hid (∀ (v' : Value) (w' : World), Rk.OwnK 61 1 w.heap.size w' v' (xs ++ [[.slice u0 z.length c0]]) → (w5.alloc (.cells #[.slice u0 z.length c0] 61)).grownBy w' (Value.slice oa i oc).ownBlock → (v'.ownBlock = (Value.slice oa i oc).ownBlock ∨ v'.ownBlock = some (w5.alloc (.cells #[.slice u0 z.length c0] 61)).heap.size) → OwnP 61 stkM w.heap.size w' v' (X ++ [z])) := fun v' w' h5 g5 k5 => HROW [.slice u0 z.length c0] z v' w' h5 g5 k5 (stkM_ok.keep (stkM_ok.mono HRR.out fun b _ hb => HMN b hb) (Keep.below (box1 _ _ _).1))
      have HONE : Hid (∀ y ∈ ([[.slice u0 z.length c0]] : List (List Value)), ∀ u ∈ y, u.oneCell' = true) := fun y hy => by simp only [List.mem_singleton] at hy; subst hy; exact stkM_ok.one HRR.out
      have A4 : Hid (w.heap.size ≤ (w5.alloc (.cells #[.slice u0 z.length c0] 61)).heap.size) := Nat.le_trans HG5.out.size (by exact (box1 w5 _ _).1.size)
      have HK6 : Hid (At1 (w5.alloc (.cells #[.slice u0 z.length c0] 61)) B r2.s) := K5.below (box1 _ _ _).1
      have HG6 : Hid (w.grownBy (w5.alloc (.cells #[.slice u0 z.length c0] 61)) (some B)) := grown_below HG5.out (box1 _ _ _).1
      clear K5 G5 C2 HKO HK HO HG5 hb5 hR HRR HOX HROW hxs HMN HKA
      go_wp2_with (at_builtin; refine Rk.wpList_append_rowk rfl _ _ 24 61 1 24 _ Tryz.underlying24 infoStack rfl (by decide) (by decide) rfl w.heap.size _ _ xs [[.slice u0 z.length c0]] rfl rfl A1.out A2.out HONE.out A3.out A4.out ?_)
      intro v6 w9 h5 g5 k5
      have HO9 := Lib.hid (HRW.out v6 w9 h5 g5 (k5.imp_right fun e => by rw [e, (box1 _ _ _).2.2]))
      obtain ⟨a6, c6, rfl⟩ := HO9.out.is_slice
      have hl1 : (X ++ [z]).length = i + 1 := by rw [List.length_append, HXL.out]; rfl
      have hlow : (Value.slice oa i oc).ownBlock ≠ some B := A1.out.low HBW.out
      have K9 : Hid (r2.bad = false ∧ At1 w9 B r2.s ∧ w.grownBy w9 (some B)) := ⟨HB5.out, (g5.block B HK6.out.cell.2.1 (fun e => hlow e.symm)).trans HK6.out, g5.os.trans HG6.out.os, g5.tape.trans HG6.out.tape, g5.output.trans HG6.out.output, Nat.le_trans HG6.out.size g5.size, fun k hk hne => (g5.block k (Nat.lt_of_lt_of_le hk HG6.out.size) (fun e => A1.out.low hk e.symm)).trans (HG6.out.block k hk hne)⟩
      rw [hl1] at HO9 ⊢
      clear h5 g5 k5 A1 A2 A3 A4 hlow hl1 HK6 HG6 HRW HONE
      go_wp2_with fail
      go_roundg (n - (i + 1))
      case measure => omega
      case rel => exact ⟨i + 1, X ++ [z], r2, by omega, Nat.le_refl _, by go_num, ⟨_, _, rfl⟩, by rw [List.length_append, HXL.out]; rfl, HQ2, HO9, K9, HLE2⟩
    · obtain rfl : i = n := by omega
      have iw : ¬ ((i : Int) < (i : Int)) := by omega
      have d1 : decide (((i : Nat) : Int) < (i : Int)) = false := decide_eq_false iw
      have HF : Hid (X = XS ∧ rr = RF) := by
        have h := HQ.out
        rw [HR.out.1, Nat.sub_self] at h
        have h1 := congrArg Prod.fst h
        have h2 := congrArg Prod.snd h
        exact ⟨by simpa [manyR] using h1.symm, h2.symm⟩
      have FE : Hid (GotP w B (fun w' v => OwnP 61 stkM w.heap.size w' v XS) RF (.returned (.slice oa i oc)) wr) := by
        show GotP _ _ _ _ _ _
        rw [← HF.out.1, ← HF.out.2]
        exact ⟨HK.out.2.2, .inl ⟨HK.out.1, _, rfl, HO.out, HK.out.2.1⟩⟩
      clear HQ HK HO HF
      go_wp2_with fail
      go_ret
      exact FE.out
set_option maxHeartbeats 4000000 in
theorem list_Stack {B : Nat} {r : Rd} {x : List (List Thg)} {r' : Rd} {w : World} (hx : (listC stkC).rd r = (x, r')) (hb : r.bad = false) (hl : r.s.length ≤ 9223372036854775807) (h : At1 w B r.s) : Calls Tryz.prog 56 #[.pointer (some ⟨B, 0, none⟩), .func (.func 57) #[.pointer (some ⟨B, 0, none⟩)] #[]] w (GotP w B (fun w' v => OwnP 61 stkM w.heap.size w' v x) r') := by
  obtain ⟨n, hn⟩ : ∃ n, n = (pairR r).1 := ⟨_, rfl⟩
  obtain ⟨r0, hr0⟩ : ∃ r0, r0 = (pairR r).2 := ⟨_, rfl⟩
  have C := Lib.hid (pair_step (w := w) (show pairR r = (n, r0) by rw [hn, hr0]) hb hl h)
  have HR : Hid (manyR stkC.rd n r0 = (x, r') ∧ n < 65536) := ⟨by rw [hn, hr0]; exact hx, by rw [hn]; have := pair_max r; omega⟩
  have HLE : Hid (r0.s.length ≤ 9223372036854775807) := by rw [hr0]; exact Nat.le_trans (pair_le _) hl
  have CI : Hid (∀ w1, w.grownBy w1 (some B) → r0.bad = false → At1 w1 B r0.s → Calls Tryz.prog 87 #[.int .i64 (n : Nat), .func (.func 57) #[.pointer (some ⟨B, 0, none⟩)] #[]] w1 (GotP w B (fun w' v => OwnP 61 stkM w.heap.size w' v x) r')) := fun w1 g hb hk => (items_Stack r0 n HR.out.2 hb HLE.out hk).mono fun e w2 hh => by
    rw [HR.out.1] at hh
    obtain ⟨G, hh⟩ := hh
    refine ⟨grown_trans g G, hh.imp ?_ id⟩
    rintro ⟨h1, v, h2, h3, h4⟩
    exact ⟨h1, v, h2, h3.base stkM_ok g.size, h4⟩
  have HBD : Hid (r0.bad = true → r'.bad = true) := fun hb0 => by have h := HR.out.1; rw [many_bad hb0] at h; injection h with _ h; rw [← h]; exact hb0
  clear hn hr0 h hl hx hb
  go_enter Tryz.func56, Tryz.ntmps56
  go_wp2_with fail
  refine C.out.mono ?_
  rintro e w1 ⟨G, (⟨hb, rfl, K⟩ | ⟨hb, rfl⟩)⟩
  rotate_left
  · have FE : Hid (GotP w B (fun w' v => OwnP 61 stkM w.heap.size w' v x) r' (.panicked [{ v := unr, recovered := false }]) w1) := ⟨G, .inr ⟨HBD.out hb, rfl⟩⟩
    clear G hb C
    go_wp2_with fail
    exact ⟨rfl, FE.out⟩
  have C2 := Lib.hid (CI.out w1 G hb K)
  clear hb K G C CI
  go_wp2_with fail
  refine C2.out.mono ?_
  rintro e w2 ⟨G, (⟨hb, v, rfl, O, K⟩ | ⟨hb, rfl⟩)⟩
  · have FE : Hid (GotP w B (fun w' v => OwnP 61 stkM w.heap.size w' v x) r' (.returned v) w2) := ⟨G, .inl ⟨hb, v, rfl, O, K⟩⟩
    clear G hb O K C2
    go_wp2_with fail
    go_ret
    exact FE.out
  · have FE : Hid (GotP w B (fun w' v => OwnP 61 stkM w.heap.size w' v x) r' (.panicked [{ v := unr, recovered := false }]) w2) := ⟨G, .inr ⟨hb, rfl⟩⟩
    clear G hb C2
    go_wp2_with fail
    exact ⟨rfl, FE.out⟩
set_option maxHeartbeats 8000000 in
theorem take0_Seat {B : Nat} {w : World} (r0 r1 r2 r3 r4 r5 : Rd) (x0 : List UInt8) (x1 : Int) (x2 : Int) (x3 : Int) (x4 : List UInt8) (e0 : textC.rd r0 = (x0, r1)) (e1 : numC.rd r1 = (x1, r2)) (e2 : numC.rd r2 = (x2, r3)) (e3 : numC.rd r3 = (x3, r4)) (e4 : textC.rd r4 = (x4, r5)) (hb : r0.bad = false) (hl : r0.s.length ≤ 9223372036854775807) (h : At1 w B r0.s) : Calls Tryz.prog 59 #[.pointer (some ⟨B, 0, none⟩)] w (GotP w B (fun w' v => ∃ cs, v = .agg cs.toArray ∧ seaM.R (fun b => w.heap.size ≤ b) w' cs (x0, x1, x2, x3, x4)) r5) := by
  obtain ⟨B0, P0, L0⟩ := box1 w #[.string (ByteArray.mk #[]), .int .i64 0, .int .i64 0, .int .i64 0, .string (ByteArray.mk #[])] 65
  obtain ⟨W0, hW0⟩ : ∃ W0, W0 = w.alloc (.cells #[.string (ByteArray.mk #[]), .int .i64 0, .int .i64 0, .int .i64 0, .string (ByteArray.mk #[])] 65) := ⟨_, rfl⟩
  rw [← hW0] at B0 P0 L0
  obtain ⟨R, hR⟩ : ∃ R, R = w.heap.size := ⟨_, rfl⟩
  rw [← hR] at P0 L0
  have hRB : R ≠ B := by have := h.cell.2.1; omega
  have HW0 := Lib.hid hW0
  have HR := Lib.hid hR
  have HRB := Lib.hid hRB
  have HBB : Hid (B < w.heap.size ∧ W0.heap.size = R + 1) := ⟨h.cell.2.1, L0⟩
  have hmf : ∀ (fn : Fn) (first cap : Array Value) (w : World), (Instr.makeFunc fn first cap).run Tryz.prog w = .ok (.func fn first cap) w := fun _ _ _ _ => rfl
  have l0 := hl
  have l1 : r1.s.length ≤ 9223372036854775807 := by have q := textC_ok.rd_le r0; rw [e0] at q; exact Nat.le_trans q l0
  have l2 : r2.s.length ≤ 9223372036854775807 := by have q := numC_ok.rd_le r1; rw [e1] at q; exact Nat.le_trans q l1
  have l3 : r3.s.length ≤ 9223372036854775807 := by have q := numC_ok.rd_le r2; rw [e2] at q; exact Nat.le_trans q l2
  have l4 : r4.s.length ≤ 9223372036854775807 := by have q := numC_ok.rd_le r3; rw [e3] at q; exact Nat.le_trans q l3
  have S5 : Hid (r5.bad = true → r5.bad = true) := fun h => h
  have S4 : Hid (r4.bad = true → r5.bad = true) := fun h => S5.out (by have q := textC_ok.rd_stuck r4 h; rw [e4] at q; exact q)
  have S3 : Hid (r3.bad = true → r5.bad = true) := fun h => S4.out (by have q := numC_ok.rd_stuck r3 h; rw [e3] at q; exact q)
  have S2 : Hid (r2.bad = true → r5.bad = true) := fun h => S3.out (by have q := numC_ok.rd_stuck r2 h; rw [e2] at q; exact q)
  have S1 : Hid (r1.bad = true → r5.bad = true) := fun h => S2.out (by have q := numC_ok.rd_stuck r1 h; rw [e1] at q; exact q)
  have C1 : Hid (∀ w', r0.bad = false → At1 w' B r0.s → Calls Tryz.prog 91 #[.pointer (some ⟨B, 0, none⟩)] w' (Got w' B (.string (mkB x0)) r1)) := fun w' hb k => text_step e0 hb l0 k
  have C2 : Hid (∀ w', r1.bad = false → At1 w' B r1.s → Calls Tryz.prog 51 #[.pointer (some ⟨B, 0, none⟩)] w' (Got w' B (.int .i64 x1) r2)) := fun w' hb k => num_step e1 hb l1 k
  have C3 : Hid (∀ w', r2.bad = false → At1 w' B r2.s → Calls Tryz.prog 51 #[.pointer (some ⟨B, 0, none⟩)] w' (Got w' B (.int .i64 x2) r3)) := fun w' hb k => num_step e2 hb l2 k
  have C4 : Hid (∀ w', r3.bad = false → At1 w' B r3.s → Calls Tryz.prog 51 #[.pointer (some ⟨B, 0, none⟩)] w' (Got w' B (.int .i64 x3) r4)) := fun w' hb k => num_step e3 hb l3 k
  have C5 : Hid (∀ w', r4.bad = false → At1 w' B r4.s → Calls Tryz.prog 91 #[.pointer (some ⟨B, 0, none⟩)] w' (Got w' B (.string (mkB x4)) r5)) := fun w' hb k => text_step e4 hb l4 k
  have Q0 : Hid (r0.bad = false ∧ At1 W0 B r0.s ∧ W0.grownBy W0 (some B)) := ⟨hb, h.below B0, grown_refl _ _⟩
  have HG : Hid (∀ w', W0.grownBy w' (some B) → w.grownBy w' (some B) ∧ w'.heap[R]? = some (.cells #[.string (ByteArray.mk #[]), .int .i64 0, .int .i64 0, .int .i64 0, .string (ByteArray.mk #[])] 65 (0, 0))) := fun w' g => ⟨grown_trans (grown_of _ _ B0 _) g, (g.block R (by omega) (by simpa using hRB)).trans P0⟩
  obtain ⟨y0, hy0⟩ : ∃ y, y = mkB x0 := ⟨_, rfl⟩
  rw [← hy0] at C1
  have HY0 := Lib.hid hy0
  obtain ⟨y4, hy4⟩ : ∃ y, y = mkB x4 := ⟨_, rfl⟩
  rw [← hy4] at C5
  have HY4 := Lib.hid hy4
  clear hb h hl hR hW0 B0 P0 L0 l0 l1 l2 l3 l4 e0 e1 e2 e3 e4 hRB hy0 hy4
  go_enter Tryz.func59, Tryz.ntmps59
  go_upto_region 1 with fail
  rw [← HW0.out, ← HR.out]
  refine region_pure [0, 1, 2, 4, 5, 6, 8, 9, 10, 12, 13, 14, 16, 17, 18] [3, 7, 11, 15, 19, 20, 21] (by kernel_rfl) (by kernel_rfl) (fun d _ _ _ _ h => by cases d <;> exact h) (fun wd hwd => ?_)
  simp only [List.filterMap_cons, List.filterMap_nil, List.getElem?_cons_zero, List.getElem?_cons_succ]
  have QD := Lib.hid (And.intro Q0.out.1 (And.intro (at1_drew Q0.out.2.1 hwd.out) (grown_drew1 Q0.out.2.2 hwd.out)))
  clear Q0 hwd
  repeat (refine Zo.wpPure_step (fun K hK => ?_); go_simp; refine hK _ ?_; clear hK K)
  refine Zo.wpPure_nil ?_
  have Q0 := Lib.hid QD.out
  clear QD
  go_wp2_with fail
  refine (C1.out _ Q0.out.1 Q0.out.2.1).mono ?_
  rintro e w1 ⟨G, (⟨hb, rfl, K⟩ | ⟨hb, rfl⟩)⟩
  rotate_left
  · have FE : Hid (GotP w B (fun w' v => ∃ cs, v = .agg cs.toArray ∧ seaM.R (fun b => w.heap.size ≤ b) w' cs (x0, x1, x2, x3, x4)) r5 (.panicked [{ v := unr, recovered := false }]) w1) := ⟨(HG.out _ (grown_trans Q0.out.2.2 G)).1, .inr ⟨S1.out hb, rfl⟩⟩
    clear G hb
    go_wp2_with fail
    exact ⟨rfl, FE.out⟩
  have Q1 : Hid (r1.bad = false ∧ At1 w1 B r1.s ∧ W0.grownBy w1 (some B)) := ⟨hb, K, grown_trans Q0.out.2.2 G⟩
  clear G hb K C1 Q0
  go_wp2_with fail
  refine (C2.out _ Q1.out.1 Q1.out.2.1).mono ?_
  rintro e w2 ⟨G, (⟨hb, rfl, K⟩ | ⟨hb, rfl⟩)⟩
  rotate_left
  · have FE : Hid (GotP w B (fun w' v => ∃ cs, v = .agg cs.toArray ∧ seaM.R (fun b => w.heap.size ≤ b) w' cs (x0, x1, x2, x3, x4)) r5 (.panicked [{ v := unr, recovered := false }]) w2) := ⟨(HG.out _ (grown_trans Q1.out.2.2 G)).1, .inr ⟨S2.out hb, rfl⟩⟩
    clear G hb
    go_wp2_with fail
    exact ⟨rfl, FE.out⟩
  have Q2 : Hid (r2.bad = false ∧ At1 w2 B r2.s ∧ W0.grownBy w2 (some B)) := ⟨hb, K, grown_trans Q1.out.2.2 G⟩
  clear G hb K C2 Q1
  go_wp2_with fail
  refine (C3.out _ Q2.out.1 Q2.out.2.1).mono ?_
  rintro e w3 ⟨G, (⟨hb, rfl, K⟩ | ⟨hb, rfl⟩)⟩
  rotate_left
  · have FE : Hid (GotP w B (fun w' v => ∃ cs, v = .agg cs.toArray ∧ seaM.R (fun b => w.heap.size ≤ b) w' cs (x0, x1, x2, x3, x4)) r5 (.panicked [{ v := unr, recovered := false }]) w3) := ⟨(HG.out _ (grown_trans Q2.out.2.2 G)).1, .inr ⟨S3.out hb, rfl⟩⟩
    clear G hb
    go_wp2_with fail
    exact ⟨rfl, FE.out⟩
  have Q3 : Hid (r3.bad = false ∧ At1 w3 B r3.s ∧ W0.grownBy w3 (some B)) := ⟨hb, K, grown_trans Q2.out.2.2 G⟩
  clear G hb K C3 Q2
  go_wp2_with fail
  refine (C4.out _ Q3.out.1 Q3.out.2.1).mono ?_
  rintro e w4 ⟨G, (⟨hb, rfl, K⟩ | ⟨hb, rfl⟩)⟩
  rotate_left
  · have FE : Hid (GotP w B (fun w' v => ∃ cs, v = .agg cs.toArray ∧ seaM.R (fun b => w.heap.size ≤ b) w' cs (x0, x1, x2, x3, x4)) r5 (.panicked [{ v := unr, recovered := false }]) w4) := ⟨(HG.out _ (grown_trans Q3.out.2.2 G)).1, .inr ⟨S4.out hb, rfl⟩⟩
    clear G hb
    go_wp2_with fail
    exact ⟨rfl, FE.out⟩
  have Q4 : Hid (r4.bad = false ∧ At1 w4 B r4.s ∧ W0.grownBy w4 (some B)) := ⟨hb, K, grown_trans Q3.out.2.2 G⟩
  clear G hb K C4 Q3
  go_wp2_with fail
  refine (C5.out _ Q4.out.1 Q4.out.2.1).mono ?_
  rintro e w5 ⟨G, (⟨hb, rfl, K⟩ | ⟨hb, rfl⟩)⟩
  rotate_left
  · have FE : Hid (GotP w B (fun w' v => ∃ cs, v = .agg cs.toArray ∧ seaM.R (fun b => w.heap.size ≤ b) w' cs (x0, x1, x2, x3, x4)) r5 (.panicked [{ v := unr, recovered := false }]) w5) := ⟨(HG.out _ (grown_trans Q4.out.2.2 G)).1, .inr ⟨S5.out hb, rfl⟩⟩
    clear G hb
    go_wp2_with fail
    exact ⟨rfl, FE.out⟩
  obtain ⟨g4, z4⟩ := HG.out _ (grown_trans Q4.out.2.2 G)
  obtain ⟨c0, c1, c2, c3, c4⟩ := five_cells z4
  have fr0 := free_at (i := 0) z4
  have fr1 := free_at (i := 1) z4
  have fr2 := free_at (i := 2) z4
  have fr3 := free_at (i := 3) z4
  have fr4 := free_at (i := 4) z4
  obtain ⟨WN, hWN⟩ : ∃ WN, WN = ((((w5.setCell ⟨R, 0, none⟩ (.string y0)).setCell ⟨R, 1, none⟩ (.int .i64 x1)).setCell ⟨R, 2, none⟩ (.int .i64 x2)).setCell ⟨R, 3, none⟩ (.int .i64 x3)).setCell ⟨R, 4, none⟩ (.string y4) := ⟨_, rfl⟩
  have gN : w5.grownBy WN (some R) := by
    rw [hWN]
    exact grown_put (grown_put (grown_put (grown_put (grown_put (grown_refl _ _)))))
  have FE : Hid (GotP w B (fun w' v => ∃ cs, v = .agg cs.toArray ∧ seaM.R (fun b => w.heap.size ≤ b) w' cs (x0, x1, x2, x3, x4)) r5 (.returned (.agg #[.string y0, .int .i64 x1, .int .i64 x2, .int .i64 x3, .string y4])) WN) := by
    have hRs : w.heap.size ≤ R := by rw [← HR.out]; exact Nat.le_refl _
    refine ⟨by rw [hWN]; exact grown_new (grown_new (grown_new (grown_new (grown_new g4 hRs _) hRs _) hRs _) hRs _) hRs _, .inl ⟨hb, _, rfl, ⟨[.string y0, .int .i64 x1, .int .i64 x2, .int .i64 x3, .string y4], rfl, ?_⟩, by rw [hWN]; exact at1_other (at1_other (at1_other (at1_other (at1_other K HRB.out) HRB.out) HRB.out) HRB.out) HRB.out⟩⟩
    rw [HY0.out]
    rw [HY4.out]
    exact seaM_mk x0 x1 x2 x3 x4
  have zz : WN.heap[R]? = some (.cells #[.string y0, .int .i64 x1, .int .i64 x2, .int .i64 x3, .string y4] 65 (0, 0)) := by
    rw [hWN]
    exact set_block (set_block (set_block (set_block (set_block z4))))
  obtain ⟨y_0, y_1, y_2, y_3, y_4⟩ := five_cells zz
  have HWN := Lib.hid hWN
  clear hWN zz z4 g4 G hb K C5 Q4 gN
  go_wp2_with fail
  rw [← HWN.out]
  exact bodyPost_ret (v := .agg #[.string y0, .int .i64 x1, .int .i64 x2, .int .i64 x3, .string y4]) (by simp [results, Tryz.results59, go_sem, y_0, y_1, y_2, y_3, y_4, Tryz.isAgg65, Tryz.sizeOf65]) rfl FE.out
set_option maxHeartbeats 8000000 in
theorem take_Seat {B : Nat} {w : World} (r : Rd) {x : Sea} {r' : Rd} (hx : seaC.rd r = (x, r')) (hb : r.bad = false) (hl : r.s.length ≤ 9223372036854775807) (h : At1 w B r.s) : Calls Tryz.prog 59 #[.pointer (some ⟨B, 0, none⟩)] w (GotP w B (fun w' v => ∃ cs, v = .agg cs.toArray ∧ seaM.R (fun b => w.heap.size ≤ b) w' cs x) r') := by
  obtain ⟨x0, r1, e0⟩ : ∃ x rq, textC.rd r = (x, rq) := ⟨_, _, rfl⟩
  obtain ⟨x1, r2, e1⟩ : ∃ x rq, numC.rd r1 = (x, rq) := ⟨_, _, rfl⟩
  obtain ⟨x2, r3, e2⟩ : ∃ x rq, numC.rd r2 = (x, rq) := ⟨_, _, rfl⟩
  obtain ⟨x3, r4, e3⟩ : ∃ x rq, numC.rd r3 = (x, rq) := ⟨_, _, rfl⟩
  obtain ⟨x4, r5, e4⟩ : ∃ x rq, textC.rd r4 = (x, rq) := ⟨_, _, rfl⟩
  have hx' : seaC.rd r = ((x0, x1, x2, x3, x4), r5) := pair_rd2 e0 (pair_rd2 e1 (pair_rd2 e2 (pair_rd2 e3 e4)))
  rw [hx] at hx'
  injection hx' with h1 h2
  rw [h1, h2]
  exact take0_Seat (w := w) r r1 r2 r3 r4 r5 x0 x1 x2 x3 x4 e0 e1 e2 e3 e4 hb hl h
set_option maxHeartbeats 8000000 in
theorem items_Seat {B : Nat} {w : World} (r0 : Rd) (n : Nat) (n256 : n < 65536) (hb : r0.bad = false) (hl : r0.s.length ≤ 9223372036854775807) (h : At1 w B r0.s) : Calls Tryz.prog 90 #[.int .i64 (n : Nat), .func (.func 59) #[.pointer (some ⟨B, 0, none⟩)] #[]] w (GotP w B (fun w' v => OwnP 65 seaM w.heap.size w' v (manyR seaC.rd n r0).1) (manyR seaC.rd n r0).2) := by
  have HBW : Hid (B < w.heap.size) := h.cell.2.1
  obtain ⟨XS, hXS⟩ : ∃ XS, XS = (manyR seaC.rd n r0).1 := ⟨_, rfl⟩
  obtain ⟨RF, hRF⟩ : ∃ RF, RF = (manyR seaC.rd n r0).2 := ⟨_, rfl⟩
  have HR : Hid (manyR seaC.rd n r0 = (XS, RF) ∧ n < 65536) := ⟨by rw [hXS, hRF], n256⟩
  have HLE : Hid (r0.s.length ≤ 9223372036854775807) := hl
  have HK1 : Hid (r0.bad = false ∧ At1 w B r0.s ∧ w.grownBy w (some B)) := ⟨hb, h, grown_refl _ _⟩
  rw [← hXS, ← hRF]
  clear h hl hXS hRF hb
  go_enter Tryz.func90, Tryz.ntmps90
  go_wp2_with fail
  go_loopg [5, 7] n (fun g v_ i_ wr => ∃ (i : Nat) (X : List (Sea)) (rr : Rd), i ≤ n ∧ n - i ≤ g ∧ i_ = .int .i64 i ∧ (∃ a c, v_ = .slice a i c) ∧ X.length = i ∧ Hid (manyR seaC.rd n r0 = (X ++ (manyR seaC.rd (n - i) rr).1, (manyR seaC.rd (n - i) rr).2)) ∧ Hid (OwnP 65 seaM w.heap.size wr v_ X) ∧ Hid (rr.bad = false ∧ At1 wr B rr.s ∧ w.grownBy wr (some B)) ∧ Hid (rr.s.length ≤ 9223372036854775807))
  case atStart => exact ⟨0, [], r0, by omega, by omega, rfl, ⟨_, _, rfl⟩, rfl, rfl, OwnP.nil_ _ _ _ _, HK1, HLE⟩
  case round =>
    obtain ⟨i, X, rr, hi, hg, rfl, ⟨oa, oc, rfl⟩, hX, HQ, HO, HK, HLR⟩ := hrel
    by_cases hin : i < n
    · have iw : ((i : Nat) : Int) < (n : Int) := by omega
      have d1 : decide (((i : Nat) : Int) < (n : Int)) = true := decide_eq_true iw
      obtain ⟨z, hz⟩ : ∃ z, z = (seaC.rd rr).1 := ⟨_, rfl⟩
      obtain ⟨r2, hr2⟩ : ∃ r2, r2 = (seaC.rd rr).2 := ⟨_, rfl⟩
      have HQ2 : Hid (manyR seaC.rd n r0 = ((X ++ [z]) ++ (manyR seaC.rd (n - (i + 1)) r2).1, (manyR seaC.rd (n - (i + 1)) r2).2)) := by
        show _ = _
        rw [HQ.out, show n - i = n - (i + 1) + 1 by omega, many_next HK.out.1, hz, hr2]
        simp
      have HLE2 : Hid (r2.s.length ≤ 9223372036854775807) := by rw [hr2]; exact Nat.le_trans (seaC_ok.rd_le _) HLR.out
      have HBAD : Hid (r2.bad = true → RF.bad = true) := fun hb => by
        have h := HQ2.out
        rw [HR.out.1, many_bad hb] at h
        injection h with _ h
        rw [h]
        exact hb
      have HXL : Hid (X.length = i) := hX
      have C2 := Lib.hid (take_Seat (w := wr) rr (x := z) (r' := r2) (by rw [hz, hr2]) HK.out.1 HLR.out HK.out.2.1)
      clear hz hr2 HQ hX
      go_wp2_with fail
      refine C2.out.mono ?_
      rintro e w5 ⟨G5, (⟨hb5, _, rfl, ⟨cs, rfl, hvz⟩, K5⟩ | ⟨hb5, rfl⟩)⟩
      rotate_left
      · have FE : Hid (GotP w B (fun w' v => OwnP 65 seaM w.heap.size w' v XS) RF (.panicked [{ v := unr, recovered := false }]) w5) := ⟨grown_trans HK.out.2.2 G5, .inr ⟨HBAD.out hb5, rfl⟩⟩
        clear G5 hb5 C2
        go_wp2_with fail
        exact ⟨rfl, FE.out⟩
      have hR := hvz
      obtain rfl := seaM_cells hvz
      clear hvz
      have HRR := Lib.hid hR
      have HKO : Hid (OwnP 65 seaM w.heap.size w5 (.slice oa i oc) X) := HO.out.kept seaM_ok G5 HBW.out
      have HG5 : Hid (w.grownBy w5 (some B)) := grown_trans HK.out.2.2 G5
      have HB5 := Lib.hid hb5
      have HMN : ∀ b, wr.heap.size ≤ b → w.heap.size ≤ b ∧ some b ≠ (Value.slice oa i oc).ownBlock := fun b hb => ⟨Nat.le_trans HK.out.2.2.size hb, fun e => by have := (HO.out.block b e.symm).2; omega⟩
      have HKA : OwnP 65 seaM w.heap.size (w5.alloc (.cells #[.string (mkB z.1), .int .i64 z.2.1, .int .i64 z.2.2.1, .int .i64 z.2.2.2.1, .string (mkB z.2.2.2.2)] 65)) (.slice oa i oc) X := HKO.out.below seaM_ok (box1 _ _ _).1
      obtain ⟨xs, hxs, HOX, HROW⟩ := HKA.row seaM_ok
      have A1 : Hid (Rk.OwnK 65 5 w.heap.size (w5.alloc (.cells #[.string (mkB z.1), .int .i64 z.2.1, .int .i64 z.2.2.1, .int .i64 z.2.2.2.1, .string (mkB z.2.2.2.2)] 65)) (.slice oa i oc) xs) := HOX
      have A2 : Hid (Rk.RowK 5 (w5.alloc (.cells #[.string (mkB z.1), .int .i64 z.2.1, .int .i64 z.2.2.1, .int .i64 z.2.2.2.1, .string (mkB z.2.2.2.2)] 65)) (.slice (some ⟨w5.heap.size, 0, none⟩) 1 1) [[.string (mkB z.1), .int .i64 z.2.1, .int .i64 z.2.2.1, .int .i64 z.2.2.2.1, .string (mkB z.2.2.2.2)]]) := Rk.row_one (e := 65) (heap_alloc_new _ _) rfl
      have A3 : Hid (xs.length + ([[.string (mkB z.1), .int .i64 z.2.1, .int .i64 z.2.2.1, .int .i64 z.2.2.2.1, .string (mkB z.2.2.2.2)]] : List (List Value)).length ≤ 100000) := by show _ ≤ _; rw [hxs, HXL.out, List.length_singleton]; have := HR.out.2; omega
      have HRW : Hid (∀ (v' : Value) (w' : World), Rk.OwnK 65 5 w.heap.size w' v' (xs ++ [[.string (mkB z.1), .int .i64 z.2.1, .int .i64 z.2.2.1, .int .i64 z.2.2.2.1, .string (mkB z.2.2.2.2)]]) → (w5.alloc (.cells #[.string (mkB z.1), .int .i64 z.2.1, .int .i64 z.2.2.1, .int .i64 z.2.2.2.1, .string (mkB z.2.2.2.2)] 65)).grownBy w' (Value.slice oa i oc).ownBlock → (v'.ownBlock = (Value.slice oa i oc).ownBlock ∨ v'.ownBlock = some (w5.alloc (.cells #[.string (mkB z.1), .int .i64 z.2.1, .int .i64 z.2.2.1, .int .i64 z.2.2.2.1, .string (mkB z.2.2.2.2)] 65)).heap.size) → OwnP 65 seaM w.heap.size w' v' (X ++ [z])) := fun v' w' h5 g5 k5 => HROW [.string (mkB z.1), .int .i64 z.2.1, .int .i64 z.2.2.1, .int .i64 z.2.2.2.1, .string (mkB z.2.2.2.2)] z v' w' h5 g5 k5 (seaM_ok.keep (seaM_ok.mono HRR.out fun b _ hb => HMN b hb) (Keep.below (box1 _ _ _).1))
      have HONE : Hid (∀ y ∈ ([[.string (mkB z.1), .int .i64 z.2.1, .int .i64 z.2.2.1, .int .i64 z.2.2.2.1, .string (mkB z.2.2.2.2)]] : List (List Value)), ∀ u ∈ y, u.oneCell' = true) := fun y hy => by simp only [List.mem_singleton] at hy; subst hy; exact seaM_ok.one HRR.out
      have A4 : Hid (w.heap.size ≤ (w5.alloc (.cells #[.string (mkB z.1), .int .i64 z.2.1, .int .i64 z.2.2.1, .int .i64 z.2.2.2.1, .string (mkB z.2.2.2.2)] 65)).heap.size) := Nat.le_trans HG5.out.size (by exact (box1 w5 _ _).1.size)
      have HK6 : Hid (At1 (w5.alloc (.cells #[.string (mkB z.1), .int .i64 z.2.1, .int .i64 z.2.2.1, .int .i64 z.2.2.2.1, .string (mkB z.2.2.2.2)] 65)) B r2.s) := K5.below (box1 _ _ _).1
      have HG6 : Hid (w.grownBy (w5.alloc (.cells #[.string (mkB z.1), .int .i64 z.2.1, .int .i64 z.2.2.1, .int .i64 z.2.2.2.1, .string (mkB z.2.2.2.2)] 65)) (some B)) := grown_below HG5.out (box1 _ _ _).1
      clear K5 G5 C2 HKO HK HO HG5 hb5 hR HRR HOX HROW hxs HMN HKA
      go_wp2_with (at_builtin; refine Rk.wpList_append_rowk rfl _ _ 25 65 5 56 _ Tryz.underlying25 infoSeat rfl (by decide) (by decide) rfl w.heap.size _ _ xs [[.string (mkB z.1), .int .i64 z.2.1, .int .i64 z.2.2.1, .int .i64 z.2.2.2.1, .string (mkB z.2.2.2.2)]] rfl rfl A1.out A2.out HONE.out A3.out A4.out ?_)
      intro v6 w9 h5 g5 k5
      have HO9 := Lib.hid (HRW.out v6 w9 h5 g5 (k5.imp_right fun e => by rw [e, (box1 _ _ _).2.2]))
      obtain ⟨a6, c6, rfl⟩ := HO9.out.is_slice
      have hl1 : (X ++ [z]).length = i + 1 := by rw [List.length_append, HXL.out]; rfl
      have hlow : (Value.slice oa i oc).ownBlock ≠ some B := A1.out.low HBW.out
      have K9 : Hid (r2.bad = false ∧ At1 w9 B r2.s ∧ w.grownBy w9 (some B)) := ⟨HB5.out, (g5.block B HK6.out.cell.2.1 (fun e => hlow e.symm)).trans HK6.out, g5.os.trans HG6.out.os, g5.tape.trans HG6.out.tape, g5.output.trans HG6.out.output, Nat.le_trans HG6.out.size g5.size, fun k hk hne => (g5.block k (Nat.lt_of_lt_of_le hk HG6.out.size) (fun e => A1.out.low hk e.symm)).trans (HG6.out.block k hk hne)⟩
      rw [hl1] at HO9 ⊢
      clear h5 g5 k5 A1 A2 A3 A4 hlow hl1 HK6 HG6 HRW HONE
      go_wp2_with fail
      go_roundg (n - (i + 1))
      case measure => omega
      case rel => exact ⟨i + 1, X ++ [z], r2, by omega, Nat.le_refl _, by go_num, ⟨_, _, rfl⟩, by rw [List.length_append, HXL.out]; rfl, HQ2, HO9, K9, HLE2⟩
    · obtain rfl : i = n := by omega
      have iw : ¬ ((i : Int) < (i : Int)) := by omega
      have d1 : decide (((i : Nat) : Int) < (i : Int)) = false := decide_eq_false iw
      have HF : Hid (X = XS ∧ rr = RF) := by
        have h := HQ.out
        rw [HR.out.1, Nat.sub_self] at h
        have h1 := congrArg Prod.fst h
        have h2 := congrArg Prod.snd h
        exact ⟨by simpa [manyR] using h1.symm, h2.symm⟩
      have FE : Hid (GotP w B (fun w' v => OwnP 65 seaM w.heap.size w' v XS) RF (.returned (.slice oa i oc)) wr) := by
        show GotP _ _ _ _ _ _
        rw [← HF.out.1, ← HF.out.2]
        exact ⟨HK.out.2.2, .inl ⟨HK.out.1, _, rfl, HO.out, HK.out.2.1⟩⟩
      clear HQ HK HO HF
      go_wp2_with fail
      go_ret
      exact FE.out
set_option maxHeartbeats 4000000 in
theorem list_Seat {B : Nat} {r : Rd} {x : List (Sea)} {r' : Rd} {w : World} (hx : (listC seaC).rd r = (x, r')) (hb : r.bad = false) (hl : r.s.length ≤ 9223372036854775807) (h : At1 w B r.s) : Calls Tryz.prog 58 #[.pointer (some ⟨B, 0, none⟩), .func (.func 59) #[.pointer (some ⟨B, 0, none⟩)] #[]] w (GotP w B (fun w' v => OwnP 65 seaM w.heap.size w' v x) r') := by
  obtain ⟨n, hn⟩ : ∃ n, n = (pairR r).1 := ⟨_, rfl⟩
  obtain ⟨r0, hr0⟩ : ∃ r0, r0 = (pairR r).2 := ⟨_, rfl⟩
  have C := Lib.hid (pair_step (w := w) (show pairR r = (n, r0) by rw [hn, hr0]) hb hl h)
  have HR : Hid (manyR seaC.rd n r0 = (x, r') ∧ n < 65536) := ⟨by rw [hn, hr0]; exact hx, by rw [hn]; have := pair_max r; omega⟩
  have HLE : Hid (r0.s.length ≤ 9223372036854775807) := by rw [hr0]; exact Nat.le_trans (pair_le _) hl
  have CI : Hid (∀ w1, w.grownBy w1 (some B) → r0.bad = false → At1 w1 B r0.s → Calls Tryz.prog 90 #[.int .i64 (n : Nat), .func (.func 59) #[.pointer (some ⟨B, 0, none⟩)] #[]] w1 (GotP w B (fun w' v => OwnP 65 seaM w.heap.size w' v x) r')) := fun w1 g hb hk => (items_Seat r0 n HR.out.2 hb HLE.out hk).mono fun e w2 hh => by
    rw [HR.out.1] at hh
    obtain ⟨G, hh⟩ := hh
    refine ⟨grown_trans g G, hh.imp ?_ id⟩
    rintro ⟨h1, v, h2, h3, h4⟩
    exact ⟨h1, v, h2, h3.base seaM_ok g.size, h4⟩
  have HBD : Hid (r0.bad = true → r'.bad = true) := fun hb0 => by have h := HR.out.1; rw [many_bad hb0] at h; injection h with _ h; rw [← h]; exact hb0
  clear hn hr0 h hl hx hb
  go_enter Tryz.func58, Tryz.ntmps58
  go_wp2_with fail
  refine C.out.mono ?_
  rintro e w1 ⟨G, (⟨hb, rfl, K⟩ | ⟨hb, rfl⟩)⟩
  rotate_left
  · have FE : Hid (GotP w B (fun w' v => OwnP 65 seaM w.heap.size w' v x) r' (.panicked [{ v := unr, recovered := false }]) w1) := ⟨G, .inr ⟨HBD.out hb, rfl⟩⟩
    clear G hb C
    go_wp2_with fail
    exact ⟨rfl, FE.out⟩
  have C2 := Lib.hid (CI.out w1 G hb K)
  clear hb K G C CI
  go_wp2_with fail
  refine C2.out.mono ?_
  rintro e w2 ⟨G, (⟨hb, v, rfl, O, K⟩ | ⟨hb, rfl⟩)⟩
  · have FE : Hid (GotP w B (fun w' v => OwnP 65 seaM w.heap.size w' v x) r' (.returned v) w2) := ⟨G, .inl ⟨hb, v, rfl, O, K⟩⟩
    clear G hb O K C2
    go_wp2_with fail
    go_ret
    exact FE.out
  · have FE : Hid (GotP w B (fun w' v => OwnP 65 seaM w.heap.size w' v x) r' (.panicked [{ v := unr, recovered := false }]) w2) := ⟨G, .inr ⟨hb, rfl⟩⟩
    clear G hb C2
    go_wp2_with fail
    exact ⟨rfl, FE.out⟩
end Go.Proofs.YtmdgjcikekojdaaGreatDoor.Sta
/- State: the program's reader: a state. -/
set_option linter.unusedVariables false
set_option linter.unusedSimpArgs false
set_option maxRecDepth 100000
namespace Go.Proofs.YtmdgjcikekojdaaGreatDoor.Sta
open Go.RowKit Go.Lib Go.Proofs.YtmdgjcikekojdaaGreatDoor.Bx Go.Proofs.YtmdgjcikekojdaaGreatDoor.Frm Go.Proofs.YtmdgjcikekojdaaGreatDoor.Wds

set_option maxHeartbeats 8000000 in
theorem take0_State {B : Nat} {w : World} (r0 r1 r2 r3 r4 r5 r6 r7 r8 : Rd) (x0 : Int) (x1 : Int) (x2 : Int) (x3 : List (Lab)) (x4 : List (Doc)) (x5 : List (List Thg)) (x6 : List (Sea)) (x7 : List (Ent)) (e0 : numC.rd r0 = (x0, r1)) (e1 : numC.rd r1 = (x1, r2)) (e2 : numC.rd r2 = (x2, r3)) (e3 : (listC labC).rd r3 = (x3, r4)) (e4 : (listC docC).rd r4 = (x4, r5)) (e5 : (listC stkC).rd r5 = (x5, r6)) (e6 : (listC seaC).rd r6 = (x6, r7)) (e7 : (listC entC).rd r7 = (x7, r8)) (hb : r0.bad = false) (hl : r0.s.length ≤ 9223372036854775807) (h : At1 w B r0.s) : Calls Tryz.prog 26 #[.pointer (some ⟨B, 0, none⟩)] w (GotP w B (fun w' v => ∃ cs, v = .agg cs.toArray ∧ staM.R (fun b => w.heap.size ≤ b) w' cs (x0, x1, x2, x3, x4, x5, x6, x7)) r8) := by
  obtain ⟨B0, P0, L0⟩ := box1 w #[.int .i64 0, .int .i64 0, .int .i64 0, .slice none 0 0, .slice none 0 0, .slice none 0 0, .slice none 0 0, .slice none 0 0] 28
  obtain ⟨W0, hW0⟩ : ∃ W0, W0 = w.alloc (.cells #[.int .i64 0, .int .i64 0, .int .i64 0, .slice none 0 0, .slice none 0 0, .slice none 0 0, .slice none 0 0, .slice none 0 0] 28) := ⟨_, rfl⟩
  rw [← hW0] at B0 P0 L0
  obtain ⟨R, hR⟩ : ∃ R, R = w.heap.size := ⟨_, rfl⟩
  rw [← hR] at P0 L0
  have hRB : R ≠ B := by have := h.cell.2.1; omega
  have HW0 := Lib.hid hW0
  have HR := Lib.hid hR
  have HRB := Lib.hid hRB
  have HBB : Hid (B < w.heap.size ∧ W0.heap.size = R + 1) := ⟨h.cell.2.1, L0⟩
  have hmf : ∀ (fn : Fn) (first cap : Array Value) (w : World), (Instr.makeFunc fn first cap).run Tryz.prog w = .ok (.func fn first cap) w := fun _ _ _ _ => rfl
  have l0 := hl
  have l1 : r1.s.length ≤ 9223372036854775807 := by have q := numC_ok.rd_le r0; rw [e0] at q; exact Nat.le_trans q l0
  have l2 : r2.s.length ≤ 9223372036854775807 := by have q := numC_ok.rd_le r1; rw [e1] at q; exact Nat.le_trans q l1
  have l3 : r3.s.length ≤ 9223372036854775807 := by have q := numC_ok.rd_le r2; rw [e2] at q; exact Nat.le_trans q l2
  have l4 : r4.s.length ≤ 9223372036854775807 := by have q := (listC_ok labC_ok).rd_le r3; rw [e3] at q; exact Nat.le_trans q l3
  have l5 : r5.s.length ≤ 9223372036854775807 := by have q := (listC_ok docC_ok).rd_le r4; rw [e4] at q; exact Nat.le_trans q l4
  have l6 : r6.s.length ≤ 9223372036854775807 := by have q := (listC_ok stkC_ok).rd_le r5; rw [e5] at q; exact Nat.le_trans q l5
  have l7 : r7.s.length ≤ 9223372036854775807 := by have q := (listC_ok seaC_ok).rd_le r6; rw [e6] at q; exact Nat.le_trans q l6
  have S8 : Hid (r8.bad = true → r8.bad = true) := fun h => h
  have S7 : Hid (r7.bad = true → r8.bad = true) := fun h => S8.out (by have q := (listC_ok entC_ok).rd_stuck r7 h; rw [e7] at q; exact q)
  have S6 : Hid (r6.bad = true → r8.bad = true) := fun h => S7.out (by have q := (listC_ok seaC_ok).rd_stuck r6 h; rw [e6] at q; exact q)
  have S5 : Hid (r5.bad = true → r8.bad = true) := fun h => S6.out (by have q := (listC_ok stkC_ok).rd_stuck r5 h; rw [e5] at q; exact q)
  have S4 : Hid (r4.bad = true → r8.bad = true) := fun h => S5.out (by have q := (listC_ok docC_ok).rd_stuck r4 h; rw [e4] at q; exact q)
  have S3 : Hid (r3.bad = true → r8.bad = true) := fun h => S4.out (by have q := (listC_ok labC_ok).rd_stuck r3 h; rw [e3] at q; exact q)
  have S2 : Hid (r2.bad = true → r8.bad = true) := fun h => S3.out (by have q := numC_ok.rd_stuck r2 h; rw [e2] at q; exact q)
  have S1 : Hid (r1.bad = true → r8.bad = true) := fun h => S2.out (by have q := numC_ok.rd_stuck r1 h; rw [e1] at q; exact q)
  have C1 : Hid (∀ w', r0.bad = false → At1 w' B r0.s → Calls Tryz.prog 51 #[.pointer (some ⟨B, 0, none⟩)] w' (Got w' B (.int .i64 x0) r1)) := fun w' hb k => num_step e0 hb l0 k
  have C2 : Hid (∀ w', r1.bad = false → At1 w' B r1.s → Calls Tryz.prog 51 #[.pointer (some ⟨B, 0, none⟩)] w' (Got w' B (.int .i64 x1) r2)) := fun w' hb k => num_step e1 hb l1 k
  have C3 : Hid (∀ w', r2.bad = false → At1 w' B r2.s → Calls Tryz.prog 51 #[.pointer (some ⟨B, 0, none⟩)] w' (Got w' B (.int .i64 x2) r3)) := fun w' hb k => num_step e2 hb l2 k
  have C4 : Hid (∀ w', r3.bad = false → At1 w' B r3.s → Calls Tryz.prog 52 #[.pointer (some ⟨B, 0, none⟩), .func (.func 53) #[.pointer (some ⟨B, 0, none⟩)] #[]] w' (GotP w' B (fun w'' v => OwnP 51 labM w'.heap.size w'' v x3) r4)) := fun w' hb k => list_Label e3 hb l3 k
  have C5 : Hid (∀ w', r4.bad = false → At1 w' B r4.s → Calls Tryz.prog 54 #[.pointer (some ⟨B, 0, none⟩), .func (.func 55) #[.pointer (some ⟨B, 0, none⟩)] #[]] w' (GotP w' B (fun w'' v => OwnP 59 docM w'.heap.size w'' v x4) r5)) := fun w' hb k => list_Doc e4 hb l4 k
  have C6 : Hid (∀ w', r5.bad = false → At1 w' B r5.s → Calls Tryz.prog 56 #[.pointer (some ⟨B, 0, none⟩), .func (.func 57) #[.pointer (some ⟨B, 0, none⟩)] #[]] w' (GotP w' B (fun w'' v => OwnP 61 stkM w'.heap.size w'' v x5) r6)) := fun w' hb k => list_Stack e5 hb l5 k
  have C7 : Hid (∀ w', r6.bad = false → At1 w' B r6.s → Calls Tryz.prog 58 #[.pointer (some ⟨B, 0, none⟩), .func (.func 59) #[.pointer (some ⟨B, 0, none⟩)] #[]] w' (GotP w' B (fun w'' v => OwnP 65 seaM w'.heap.size w'' v x6) r7)) := fun w' hb k => list_Seat e6 hb l6 k
  have C8 : Hid (∀ w', r7.bad = false → At1 w' B r7.s → Calls Tryz.prog 60 #[.pointer (some ⟨B, 0, none⟩), .func (.func 61) #[.pointer (some ⟨B, 0, none⟩)] #[]] w' (GotP w' B (fun w'' v => OwnP 67 entM w'.heap.size w'' v x7) r8)) := fun w' hb k => list_Entry e7 hb l7 k
  have Q0 : Hid (r0.bad = false ∧ At1 W0 B r0.s ∧ W0.grownBy W0 (some B)) := ⟨hb, h.below B0, grown_refl _ _⟩
  have HG : Hid (∀ w', W0.grownBy w' (some B) → w.grownBy w' (some B) ∧ w'.heap[R]? = some (.cells #[.int .i64 0, .int .i64 0, .int .i64 0, .slice none 0 0, .slice none 0 0, .slice none 0 0, .slice none 0 0, .slice none 0 0] 28 (0, 0))) := fun w' g => ⟨grown_trans (grown_of _ _ B0 _) g, (g.block R (by omega) (by simpa using hRB)).trans P0⟩
  clear hb h hl hR hW0 B0 P0 L0 l0 l1 l2 l3 l4 l5 l6 l7 e0 e1 e2 e3 e4 e5 e6 e7 hRB
  go_enter Tryz.func26, Tryz.ntmps26
  go_upto_region 1 with fail
  rw [← HW0.out, ← HR.out]
  refine region_pure [0, 1, 2, 4, 5, 6, 8, 9, 10, 12, 13, 14, 16, 17, 18, 20, 21, 22, 24, 25, 26, 28, 29, 30] [3, 7, 11, 15, 19, 23, 27, 31, 32, 33] (by kernel_rfl) (by kernel_rfl) (fun d _ _ _ _ h => by cases d <;> exact h) (fun wd hwd => ?_)
  simp only [List.filterMap_cons, List.filterMap_nil, List.getElem?_cons_zero, List.getElem?_cons_succ]
  have QD := Lib.hid (And.intro Q0.out.1 (And.intro (at1_drew Q0.out.2.1 hwd.out) (grown_drew1 Q0.out.2.2 hwd.out)))
  clear Q0 hwd
  repeat (refine Zo.wpPure_step (fun K hK => ?_); go_simp; refine hK _ ?_; clear hK K)
  refine Zo.wpPure_nil ?_
  have Q0 := Lib.hid QD.out
  clear QD
  go_wp2_with fail
  refine (C1.out _ Q0.out.1 Q0.out.2.1).mono ?_
  rintro e w1 ⟨G, (⟨hb, rfl, K⟩ | ⟨hb, rfl⟩)⟩
  rotate_left
  · have FE : Hid (GotP w B (fun w' v => ∃ cs, v = .agg cs.toArray ∧ staM.R (fun b => w.heap.size ≤ b) w' cs (x0, x1, x2, x3, x4, x5, x6, x7)) r8 (.panicked [{ v := unr, recovered := false }]) w1) := ⟨(HG.out _ (grown_trans Q0.out.2.2 G)).1, .inr ⟨S1.out hb, rfl⟩⟩
    clear G hb
    go_wp2_with fail
    exact ⟨rfl, FE.out⟩
  have Q1 : Hid (r1.bad = false ∧ At1 w1 B r1.s ∧ W0.grownBy w1 (some B)) := ⟨hb, K, grown_trans Q0.out.2.2 G⟩
  clear G hb K C1 Q0
  go_wp2_with fail
  refine (C2.out _ Q1.out.1 Q1.out.2.1).mono ?_
  rintro e w2 ⟨G, (⟨hb, rfl, K⟩ | ⟨hb, rfl⟩)⟩
  rotate_left
  · have FE : Hid (GotP w B (fun w' v => ∃ cs, v = .agg cs.toArray ∧ staM.R (fun b => w.heap.size ≤ b) w' cs (x0, x1, x2, x3, x4, x5, x6, x7)) r8 (.panicked [{ v := unr, recovered := false }]) w2) := ⟨(HG.out _ (grown_trans Q1.out.2.2 G)).1, .inr ⟨S2.out hb, rfl⟩⟩
    clear G hb
    go_wp2_with fail
    exact ⟨rfl, FE.out⟩
  have Q2 : Hid (r2.bad = false ∧ At1 w2 B r2.s ∧ W0.grownBy w2 (some B)) := ⟨hb, K, grown_trans Q1.out.2.2 G⟩
  clear G hb K C2 Q1
  go_wp2_with fail
  refine (C3.out _ Q2.out.1 Q2.out.2.1).mono ?_
  rintro e w3 ⟨G, (⟨hb, rfl, K⟩ | ⟨hb, rfl⟩)⟩
  rotate_left
  · have FE : Hid (GotP w B (fun w' v => ∃ cs, v = .agg cs.toArray ∧ staM.R (fun b => w.heap.size ≤ b) w' cs (x0, x1, x2, x3, x4, x5, x6, x7)) r8 (.panicked [{ v := unr, recovered := false }]) w3) := ⟨(HG.out _ (grown_trans Q2.out.2.2 G)).1, .inr ⟨S3.out hb, rfl⟩⟩
    clear G hb
    go_wp2_with fail
    exact ⟨rfl, FE.out⟩
  have Q3 : Hid (r3.bad = false ∧ At1 w3 B r3.s ∧ W0.grownBy w3 (some B)) := ⟨hb, K, grown_trans Q2.out.2.2 G⟩
  clear G hb K C3 Q2
  go_wp2_with fail
  refine (C4.out _ Q3.out.1 Q3.out.2.1).mono ?_
  rintro e w4 ⟨G, (⟨hb, v3, rfl, O3, K⟩ | ⟨hb, rfl⟩)⟩
  rotate_left
  · have FE : Hid (GotP w B (fun w' v => ∃ cs, v = .agg cs.toArray ∧ staM.R (fun b => w.heap.size ≤ b) w' cs (x0, x1, x2, x3, x4, x5, x6, x7)) r8 (.panicked [{ v := unr, recovered := false }]) w4) := ⟨(HG.out _ (grown_trans Q3.out.2.2 G)).1, .inr ⟨S4.out hb, rfl⟩⟩
    clear G hb
    go_wp2_with fail
    exact ⟨rfl, FE.out⟩
  have HO3 : Hid (OwnP 51 labM (R + 1) w4 v3 x3) := O3.base labM_ok (by have := Q3.out.2.2.size; have := HBB.out.2; omega)
  obtain ⟨a3, d3, rfl⟩ := O3.is_slice
  clear O3
  obtain ⟨k3, hk3⟩ : ∃ k, k = x3.length := ⟨_, rfl⟩
  rw [← hk3] at HO3 ⊢
  clear hk3
  have Q4 : Hid (r4.bad = false ∧ At1 w4 B r4.s ∧ W0.grownBy w4 (some B)) := ⟨hb, K, grown_trans Q3.out.2.2 G⟩
  clear G hb K C4 Q3
  go_wp2_with fail
  refine (C5.out _ Q4.out.1 Q4.out.2.1).mono ?_
  rintro e w5 ⟨G, (⟨hb, v4, rfl, O4, K⟩ | ⟨hb, rfl⟩)⟩
  rotate_left
  · have FE : Hid (GotP w B (fun w' v => ∃ cs, v = .agg cs.toArray ∧ staM.R (fun b => w.heap.size ≤ b) w' cs (x0, x1, x2, x3, x4, x5, x6, x7)) r8 (.panicked [{ v := unr, recovered := false }]) w5) := ⟨(HG.out _ (grown_trans Q4.out.2.2 G)).1, .inr ⟨S5.out hb, rfl⟩⟩
    clear G hb
    go_wp2_with fail
    exact ⟨rfl, FE.out⟩
  replace HO3 := Lib.hid (HO3.out.kept labM_ok G (by have := HBB.out.1; have := HR.out; omega))
  have HO4 : Hid (OwnP 59 docM (R + 1) w5 v4 x4) := O4.base docM_ok (by have := Q4.out.2.2.size; have := HBB.out.2; omega)
  obtain ⟨a4, d4, rfl⟩ := O4.is_slice
  clear O4
  obtain ⟨k4, hk4⟩ : ∃ k, k = x4.length := ⟨_, rfl⟩
  rw [← hk4] at HO4 ⊢
  clear hk4
  have Q5 : Hid (r5.bad = false ∧ At1 w5 B r5.s ∧ W0.grownBy w5 (some B)) := ⟨hb, K, grown_trans Q4.out.2.2 G⟩
  clear G hb K C5 Q4
  go_wp2_with fail
  refine (C6.out _ Q5.out.1 Q5.out.2.1).mono ?_
  rintro e w6 ⟨G, (⟨hb, v5, rfl, O5, K⟩ | ⟨hb, rfl⟩)⟩
  rotate_left
  · have FE : Hid (GotP w B (fun w' v => ∃ cs, v = .agg cs.toArray ∧ staM.R (fun b => w.heap.size ≤ b) w' cs (x0, x1, x2, x3, x4, x5, x6, x7)) r8 (.panicked [{ v := unr, recovered := false }]) w6) := ⟨(HG.out _ (grown_trans Q5.out.2.2 G)).1, .inr ⟨S6.out hb, rfl⟩⟩
    clear G hb
    go_wp2_with fail
    exact ⟨rfl, FE.out⟩
  replace HO3 := Lib.hid (HO3.out.kept labM_ok G (by have := HBB.out.1; have := HR.out; omega))
  replace HO4 := Lib.hid (HO4.out.kept docM_ok G (by have := HBB.out.1; have := HR.out; omega))
  have HO5 : Hid (OwnP 61 stkM (R + 1) w6 v5 x5) := O5.base stkM_ok (by have := Q5.out.2.2.size; have := HBB.out.2; omega)
  obtain ⟨a5, d5, rfl⟩ := O5.is_slice
  clear O5
  obtain ⟨k5, hk5⟩ : ∃ k, k = x5.length := ⟨_, rfl⟩
  rw [← hk5] at HO5 ⊢
  clear hk5
  have Q6 : Hid (r6.bad = false ∧ At1 w6 B r6.s ∧ W0.grownBy w6 (some B)) := ⟨hb, K, grown_trans Q5.out.2.2 G⟩
  clear G hb K C6 Q5
  go_wp2_with fail
  refine (C7.out _ Q6.out.1 Q6.out.2.1).mono ?_
  rintro e w7 ⟨G, (⟨hb, v6, rfl, O6, K⟩ | ⟨hb, rfl⟩)⟩
  rotate_left
  · have FE : Hid (GotP w B (fun w' v => ∃ cs, v = .agg cs.toArray ∧ staM.R (fun b => w.heap.size ≤ b) w' cs (x0, x1, x2, x3, x4, x5, x6, x7)) r8 (.panicked [{ v := unr, recovered := false }]) w7) := ⟨(HG.out _ (grown_trans Q6.out.2.2 G)).1, .inr ⟨S7.out hb, rfl⟩⟩
    clear G hb
    go_wp2_with fail
    exact ⟨rfl, FE.out⟩
  replace HO3 := Lib.hid (HO3.out.kept labM_ok G (by have := HBB.out.1; have := HR.out; omega))
  replace HO4 := Lib.hid (HO4.out.kept docM_ok G (by have := HBB.out.1; have := HR.out; omega))
  replace HO5 := Lib.hid (HO5.out.kept stkM_ok G (by have := HBB.out.1; have := HR.out; omega))
  have HO6 : Hid (OwnP 65 seaM (R + 1) w7 v6 x6) := O6.base seaM_ok (by have := Q6.out.2.2.size; have := HBB.out.2; omega)
  obtain ⟨a6, d6, rfl⟩ := O6.is_slice
  clear O6
  obtain ⟨k6, hk6⟩ : ∃ k, k = x6.length := ⟨_, rfl⟩
  rw [← hk6] at HO6 ⊢
  clear hk6
  have Q7 : Hid (r7.bad = false ∧ At1 w7 B r7.s ∧ W0.grownBy w7 (some B)) := ⟨hb, K, grown_trans Q6.out.2.2 G⟩
  clear G hb K C7 Q6
  go_wp2_with fail
  refine (C8.out _ Q7.out.1 Q7.out.2.1).mono ?_
  rintro e w8 ⟨G, (⟨hb, v7, rfl, O7, K⟩ | ⟨hb, rfl⟩)⟩
  rotate_left
  · have FE : Hid (GotP w B (fun w' v => ∃ cs, v = .agg cs.toArray ∧ staM.R (fun b => w.heap.size ≤ b) w' cs (x0, x1, x2, x3, x4, x5, x6, x7)) r8 (.panicked [{ v := unr, recovered := false }]) w8) := ⟨(HG.out _ (grown_trans Q7.out.2.2 G)).1, .inr ⟨S8.out hb, rfl⟩⟩
    clear G hb
    go_wp2_with fail
    exact ⟨rfl, FE.out⟩
  replace HO3 := Lib.hid (HO3.out.kept labM_ok G (by have := HBB.out.1; have := HR.out; omega))
  replace HO4 := Lib.hid (HO4.out.kept docM_ok G (by have := HBB.out.1; have := HR.out; omega))
  replace HO5 := Lib.hid (HO5.out.kept stkM_ok G (by have := HBB.out.1; have := HR.out; omega))
  replace HO6 := Lib.hid (HO6.out.kept seaM_ok G (by have := HBB.out.1; have := HR.out; omega))
  have HO7 : Hid (OwnP 67 entM (R + 1) w8 v7 x7) := O7.base entM_ok (by have := Q7.out.2.2.size; have := HBB.out.2; omega)
  obtain ⟨a7, d7, rfl⟩ := O7.is_slice
  clear O7
  obtain ⟨k7, hk7⟩ : ∃ k, k = x7.length := ⟨_, rfl⟩
  rw [← hk7] at HO7 ⊢
  clear hk7
  obtain ⟨g4, z4⟩ := HG.out _ (grown_trans Q7.out.2.2 G)
  obtain ⟨c0, c1, c2, c3, c4, c5, c6, c7⟩ := eight_cells z4
  have fr0 := free_at (i := 0) z4
  have fr1 := free_at (i := 1) z4
  have fr2 := free_at (i := 2) z4
  have fr3 := free_at (i := 3) z4
  have fr4 := free_at (i := 4) z4
  have fr5 := free_at (i := 5) z4
  have fr6 := free_at (i := 6) z4
  have fr7 := free_at (i := 7) z4
  obtain ⟨WN, hWN⟩ : ∃ WN, WN = (((((((w8.setCell ⟨R, 0, none⟩ (.int .i64 x0)).setCell ⟨R, 1, none⟩ (.int .i64 x1)).setCell ⟨R, 2, none⟩ (.int .i64 x2)).setCell ⟨R, 3, none⟩ (.slice a3 k3 d3)).setCell ⟨R, 4, none⟩ (.slice a4 k4 d4)).setCell ⟨R, 5, none⟩ (.slice a5 k5 d5)).setCell ⟨R, 6, none⟩ (.slice a6 k6 d6)).setCell ⟨R, 7, none⟩ (.slice a7 k7 d7) := ⟨_, rfl⟩
  have gN : w8.grownBy WN (some R) := by
    rw [hWN]
    exact grown_put (grown_put (grown_put (grown_put (grown_put (grown_put (grown_put (grown_put (grown_refl _ _))))))))
  have FE : Hid (GotP w B (fun w' v => ∃ cs, v = .agg cs.toArray ∧ staM.R (fun b => w.heap.size ≤ b) w' cs (x0, x1, x2, x3, x4, x5, x6, x7)) r8 (.returned (.agg #[.int .i64 x0, .int .i64 x1, .int .i64 x2, .slice a3 k3 d3, .slice a4 k4 d4, .slice a5 k5 d5, .slice a6 k6 d6, .slice a7 k7 d7])) WN) := by
    have hRs : w.heap.size ≤ R := by rw [← HR.out]; exact Nat.le_refl _
    have q3 := (HO3.out.kept labM_ok gN (Nat.lt_succ_self R)).base labM_ok (base' := w.heap.size) (by omega)
    have q4 := (HO4.out.kept docM_ok gN (Nat.lt_succ_self R)).base docM_ok (base' := w.heap.size) (by omega)
    have q5 := (HO5.out.kept stkM_ok gN (Nat.lt_succ_self R)).base stkM_ok (base' := w.heap.size) (by omega)
    have q6 := (HO6.out.kept seaM_ok gN (Nat.lt_succ_self R)).base seaM_ok (base' := w.heap.size) (by omega)
    have q7 := (HO7.out.kept entM_ok gN (Nat.lt_succ_self R)).base entM_ok (base' := w.heap.size) (by omega)
    refine ⟨by rw [hWN]; exact grown_new (grown_new (grown_new (grown_new (grown_new (grown_new (grown_new (grown_new g4 hRs _) hRs _) hRs _) hRs _) hRs _) hRs _) hRs _) hRs _, .inl ⟨hb, _, rfl, ⟨[.int .i64 x0, .int .i64 x1, .int .i64 x2, .slice a3 k3 d3, .slice a4 k4 d4, .slice a5 k5 d5, .slice a6 k6 d6, .slice a7 k7 d7], rfl, ?_⟩, by rw [hWN]; exact at1_other (at1_other (at1_other (at1_other (at1_other (at1_other (at1_other (at1_other K HRB.out) HRB.out) HRB.out) HRB.out) HRB.out) HRB.out) HRB.out) HRB.out⟩⟩
    exact staM_mk x0 x1 x2 (q3.rowP labM_ok) (q4.rowP docM_ok) (q5.rowP stkM_ok) (q6.rowP seaM_ok) (q7.rowP entM_ok)
  have zz : WN.heap[R]? = some (.cells #[.int .i64 x0, .int .i64 x1, .int .i64 x2, .slice a3 k3 d3, .slice a4 k4 d4, .slice a5 k5 d5, .slice a6 k6 d6, .slice a7 k7 d7] 28 (0, 0)) := by
    rw [hWN]
    exact set_block (set_block (set_block (set_block (set_block (set_block (set_block (set_block z4)))))))
  obtain ⟨y_0, y_1, y_2, y_3, y_4, y_5, y_6, y_7⟩ := eight_cells zz
  have HWN := Lib.hid hWN
  clear hWN zz z4 g4 G hb K C8 Q7 gN HO3 HO4 HO5 HO6 HO7
  go_wp2_with fail
  rw [← HWN.out]
  exact bodyPost_ret (v := .agg #[.int .i64 x0, .int .i64 x1, .int .i64 x2, .slice a3 k3 d3, .slice a4 k4 d4, .slice a5 k5 d5, .slice a6 k6 d6, .slice a7 k7 d7]) (by simp [results, Tryz.results26, go_sem, y_0, y_1, y_2, y_3, y_4, y_5, y_6, y_7, Tryz.isAgg28, Tryz.sizeOf28]) rfl FE.out
set_option maxHeartbeats 8000000 in
theorem take_State {B : Nat} {w : World} (r : Rd) {x : Sta} {r' : Rd} (hx : staC.rd r = (x, r')) (hb : r.bad = false) (hl : r.s.length ≤ 9223372036854775807) (h : At1 w B r.s) : Calls Tryz.prog 26 #[.pointer (some ⟨B, 0, none⟩)] w (GotP w B (fun w' v => ∃ cs, v = .agg cs.toArray ∧ staM.R (fun b => w.heap.size ≤ b) w' cs x) r') := by
  obtain ⟨x0, r1, e0⟩ : ∃ x rq, numC.rd r = (x, rq) := ⟨_, _, rfl⟩
  obtain ⟨x1, r2, e1⟩ : ∃ x rq, numC.rd r1 = (x, rq) := ⟨_, _, rfl⟩
  obtain ⟨x2, r3, e2⟩ : ∃ x rq, numC.rd r2 = (x, rq) := ⟨_, _, rfl⟩
  obtain ⟨x3, r4, e3⟩ : ∃ x rq, (listC labC).rd r3 = (x, rq) := ⟨_, _, rfl⟩
  obtain ⟨x4, r5, e4⟩ : ∃ x rq, (listC docC).rd r4 = (x, rq) := ⟨_, _, rfl⟩
  obtain ⟨x5, r6, e5⟩ : ∃ x rq, (listC stkC).rd r5 = (x, rq) := ⟨_, _, rfl⟩
  obtain ⟨x6, r7, e6⟩ : ∃ x rq, (listC seaC).rd r6 = (x, rq) := ⟨_, _, rfl⟩
  obtain ⟨x7, r8, e7⟩ : ∃ x rq, (listC entC).rd r7 = (x, rq) := ⟨_, _, rfl⟩
  have hx' : staC.rd r = ((x0, x1, x2, x3, x4, x5, x6, x7), r8) := pair_rd2 e0 (pair_rd2 e1 (pair_rd2 e2 (pair_rd2 e3 (pair_rd2 e4 (pair_rd2 e5 (pair_rd2 e6 e7))))))
  rw [hx] at hx'
  injection hx' with h1 h2
  rw [h1, h2]
  exact take0_State (w := w) r r1 r2 r3 r4 r5 r6 r7 r8 x0 x1 x2 x3 x4 x5 x6 x7 e0 e1 e2 e3 e4 e5 e6 e7 hb hl h
end Go.Proofs.YtmdgjcikekojdaaGreatDoor.Sta
