/- Words: the plain text's Told: its walk. -/
import Derived.Test.YthegkookfpnbeaaKk
set_option linter.unusedVariables false
set_option linter.unusedSimpArgs false
set_option maxRecDepth 100000
namespace Go.Proofs.Ythegkookfpnbeaa.Wds
open Go.RowKit Go.Lib Go.Proofs.Ythegkookfpnbeaa.Bx Go.Proofs.Ythegkookfpnbeaa.Frm

theorem at_other {w : World} {B X j : Nat} {r : Rd} {u : Value} (h : At w B r) (hne : X ≠ B) : At (w.setCell ⟨X, j, none⟩ u) B r := (Below.heap_setCell _ _ _ _ (fun e => hne e.symm)).trans h
def RToldOk : Prop := ∀ (s : List UInt8) (w : World), Calls Try.prog 22 #[.string (mkB s)] w fun e w' => ∃ v, e = .returned (.tuple #[v, .bool (toldE s).2]) ∧ AnO w.heap.size w' v (toldE s).1 ∧ Below w.heap.size w w'
theorem own_ne_ents {base : Nat} {w : World} {u v : Value} {xs ys : List (List Value)} (h1 : Rk.OwnK 114 4 base w u xs) (h2 : Rk.OwnK 119 5 base w v ys) : u.ownBlock = none ∨ u.ownBlock ≠ v.ownBlock := by
  rcases h1.2.2 with ⟨rfl, _⟩ | ⟨g, cap, cur, rfl, _, hg, _⟩
  · exact .inl rfl
  · rcases h2.2.2 with ⟨rfl, _⟩ | ⟨g', cap', cur', rfl, _, hg', _⟩
    · exact .inr (fun e => by unfold Value.ownBlock at e; cases e)
    · refine .inr (fun e => ?_)
      unfold Value.ownBlock at e
      injection e with e
      subst e
      rw [hg] at hg'
      injection hg' with hg'
      injection hg' with _ h9 _
      revert h9
      decide
set_option maxHeartbeats 16000000 in
theorem rtold_any : RToldOk := fun s w => by
  obtain ⟨R, hR⟩ : ∃ R, R = w.heap.size := ⟨_, rfl⟩
  obtain ⟨B0, P0, L0⟩ := box1 w #[.int .i64 0, .string (ByteArray.mk #[]), .int .i64 0, .int .i64 0, .slice none 0 0, .slice none 0 0] 46
  obtain ⟨W0, hW0⟩ : ∃ W0, W0 = w.alloc (.cells #[.int .i64 0, .string (ByteArray.mk #[]), .int .i64 0, .int .i64 0, .slice none 0 0, .slice none 0 0] 46) := ⟨_, rfl⟩
  rw [← hW0] at B0 P0 L0
  obtain ⟨B1, P1, L1⟩ := box1 W0 #[.string (mkB s), .bool false] 107
  obtain ⟨W1, hW1⟩ : ∃ W1, W1 = W0.alloc (.cells #[.string (mkB s), .bool false] 107) := ⟨_, rfl⟩
  rw [← hW1] at B1 P1 L1
  obtain ⟨B2, P2, L2⟩ := box1 W1 #[.int .i64 0, .string (ByteArray.mk #[]), .int .i64 0, .int .i64 0, .slice none 0 0, .slice none 0 0] 46
  obtain ⟨W2, hW2⟩ : ∃ W2, W2 = W1.alloc (.cells #[.int .i64 0, .string (ByteArray.mk #[]), .int .i64 0, .int .i64 0, .slice none 0 0, .slice none 0 0] 46) := ⟨_, rfl⟩
  rw [← hW2] at B2 P2 L2
  rw [← hR] at P0 L0
  rw [L0] at P1 L1
  rw [L1] at P2 L2
  have HE : Hid (En1 w R (.int .i64 0) (.string (ByteArray.mk #[])) (.int .i64 0) (.int .i64 0) (.slice none 0 0) (.slice none 0 0) [] [] W2 ⟨s, false⟩) := ⟨(B2.block _ (by omega)).trans P1, P2, (B2.block _ (by omega)).trans ((B1.block _ (by omega)).trans P0), Rk.OwnK.nil_ _ _ _ _, Aud.OEn.nil_ _ _ _, by rw [hR]; exact below_on (below_on B0 B1) B2, by omega⟩
  have HW2 : Hid (W2 = ((w.alloc (.cells #[.int .i64 0, .string (ByteArray.mk #[]), .int .i64 0, .int .i64 0, .slice none 0 0, .slice none 0 0] 46)).alloc (.cells #[.string (mkB s), .bool false] 107)).alloc (.cells #[.int .i64 0, .string (ByteArray.mk #[]), .int .i64 0, .int .i64 0, .slice none 0 0, .slice none 0 0] 46)) := by show _ = _; rw [hW2, hW1, hW0]
  have HR0 : Hid (w.heap.size = R) := hR.symm
  obtain ⟨tk, htk⟩ : ∃ tk, tk = (takeR ⟨s, false⟩ 1).1 := ⟨_, rfl⟩
  obtain ⟨r1, hr1⟩ : ∃ r1, r1 = (takeR ⟨s, false⟩ 1).2 := ⟨_, rfl⟩
  obtain ⟨k, hk⟩ : ∃ k, k = (tk.getD 0 0).toNat := ⟨_, rfl⟩
  have htl : tk.length = 1 := by rw [htk]; exact take_len _ _
  have k8 : k < 256 := by rw [hk]; exact UInt8.toNat_lt _
  have XI : ∀ w, (Instr.index 9 (.string (mkB tk)) (.int .i64 0)).run Try.prog w = .ok (.int .u8 (k : Nat)) w := fun w => by
    rw [hk]
    exact byte_run w tk .i64 (i := 0) (by omega)
  have C1 : Hid (∀ w', At w' (R + 1) ⟨s, false⟩ → Calls Try.prog 36 #[.pointer (some ⟨R + 1, 0, none⟩), .int .i64 1] w' fun e w'' => e = .returned (.string (mkB tk)) ∧ At w'' (R + 1) r1 ∧ w'.grownBy w'' (some (R + 1))) := fun w' h => by have c := take_any ⟨s, false⟩ 1 (R + 1) w' h (by decide) (.inl (by decide)); rw [← htk, ← hr1] at c; exact c
  have hsz : (mkB tk).size = 1 := by rw [mkB_size, htl]
  obtain ⟨t, ht⟩ : ∃ t, t = (textR r1).1 := ⟨_, rfl⟩
  obtain ⟨r2, hr2⟩ : ∃ r2, r2 = (textR r1).2 := ⟨_, rfl⟩
  obtain ⟨n1, hn1⟩ : ∃ n1, n1 = (numR r2).1 := ⟨_, rfl⟩
  obtain ⟨r3, hr3⟩ : ∃ r3, r3 = (numR r2).2 := ⟨_, rfl⟩
  obtain ⟨n2, hn2⟩ : ∃ n2, n2 = (numR r3).1 := ⟨_, rfl⟩
  obtain ⟨r4, hr4⟩ : ∃ r4, r4 = (numR r3).2 := ⟨_, rfl⟩
  obtain ⟨n, hn⟩ : ∃ n, n = (lenR r4).1 := ⟨_, rfl⟩
  obtain ⟨r0, hr0⟩ : ∃ r0, r0 = (lenR r4).2 := ⟨_, rfl⟩
  have C2 : Hid (∀ w', At w' (R + 1) r1 → Calls Try.prog 37 #[.pointer (some ⟨R + 1, 0, none⟩)] w' fun e w'' => e = .returned (.string (mkB t)) ∧ At w'' (R + 1) r2 ∧ w'.grownBy w'' (some (R + 1))) := fun w' h => by have c := text_rd r1 (R + 1) w' h; rw [← ht, ← hr2] at c; exact c
  have C3 : Hid (∀ w', At w' (R + 1) r2 → Calls Try.prog 38 #[.pointer (some ⟨R + 1, 0, none⟩)] w' fun e w'' => e = .returned (.int .i64 n1) ∧ At w'' (R + 1) r3 ∧ w'.grownBy w'' (some (R + 1))) := fun w' h => by have c := number_rd r2 (R + 1) w' h; rw [← hn1, ← hr3] at c; exact c
  have C4 : Hid (∀ w', At w' (R + 1) r3 → Calls Try.prog 38 #[.pointer (some ⟨R + 1, 0, none⟩)] w' fun e w'' => e = .returned (.int .i64 n2) ∧ At w'' (R + 1) r4 ∧ w'.grownBy w'' (some (R + 1))) := fun w' h => by have c := number_rd r3 (R + 1) w' h; rw [← hn2, ← hr4] at c; exact c
  have C5 : Hid (∀ w', At w' (R + 1) r4 → Calls Try.prog 51 #[.pointer (some ⟨R + 1, 0, none⟩)] w' fun e w'' => e = .returned (.int .i64 (n : Nat)) ∧ At w'' (R + 1) r0 ∧ w'.grownBy w'' (some (R + 1))) := fun w' h => by have c := len_rd r4 (R + 1) w' h; rw [← hn, ← hr0] at c; exact c
  have n256 : n < 256 := by rw [hn]; exact UInt8.toNat_lt _
  have HNR : Hid ((lenR r4).1 = n ∧ (lenR r4).2 = r0) := ⟨hn.symm, hr0.symm⟩
  have HMOD : Hid (toldR s = (⟨(k : Nat), t, n1, n2, (rowR runR r4).1, (rowR entR (rowR runR r4).2).1⟩, (rowR entR (rowR runR r4).2).2)) := by
    show _ = _
    rw [hr4, hn2, hr3, hn1, hr2, ht, hr1, hk, htk]
    rfl
  obtain ⟨tt, htt⟩ : ∃ tt, tt = mkB t := ⟨_, rfl⟩
  rw [← htt] at C2
  have HTT : Hid (tt = mkB t) := htt
  generalize mkB tk = stk at *
  obtain ⟨c0, c1, c2, c3, c4, c5⟩ := six_cells P2
  have fa0 := free_at (i := 0) P2
  clear htk hr1 hk htl ht hr2 hn1 hr3 hn2 hr4 hn hr0 htt hR B0 P0 L0 B1 P1 L1 B2 P2 L2 hW0 hW1 hW2
  go_enter Try.func22, Try.ntmps22
  go_upto_region 3 with fail
  rw [← HW2.out, HR0.out]
  clear c0 c1 c2 c3 c4 c5 fa0
  go_wp2_with fail
  refine (C1.out _ HE.out.at_).mono ?_
  rintro e w1 ⟨rfl, K, G⟩
  have HE1 := Lib.hid (HE.out.grown G K)
  obtain ⟨c0, c1, c2, c3, c4, c5⟩ := six_cells HE1.out.ablk
  have fa := free_at (i := 0) HE1.out.ablk
  obtain ⟨V1, hV1⟩ : ∃ V1, V1 = w1.setCell ⟨R + 1 + 1, 0, none⟩ (.int .i64 (k : Nat)) := ⟨_, rfl⟩
  have HF1 := Lib.hid (HE1.out.set0 (.int .i64 (k : Nat)))
  rw [← hV1] at HF1
  have HV1 := Lib.hid hV1
  clear K G C1 HE HE1 hV1
  go_wp2_with fail
  rw [← HV1.out]
  refine (C2.out _ HF1.out.at_).mono ?_
  rintro e w2 ⟨rfl, K, G⟩
  have HE2 := Lib.hid (HF1.out.grown G K)
  clear c0 c1 c2 c3 c4 c5 fa XI hsz k8
  obtain ⟨c0, c1, c2, c3, c4, c5⟩ := six_cells HE2.out.ablk
  have fa := free_at (i := 1) HE2.out.ablk
  obtain ⟨V2, hV2⟩ : ∃ V2, V2 = w2.setCell ⟨R + 1 + 1, 1, none⟩ (.string tt) := ⟨_, rfl⟩
  have HF2 := Lib.hid (HE2.out.set1 (.string tt))
  rw [← hV2] at HF2
  have HV2 := Lib.hid hV2
  clear K G C2 HE2 hV2 HF1
  go_wp2_with fail
  rw [← HV2.out]
  refine (C3.out _ HF2.out.at_).mono ?_
  rintro e w3 ⟨rfl, K, G⟩
  have HE3 := Lib.hid (HF2.out.grown G K)
  clear c0 c1 c2 c3 c4 c5 fa
  obtain ⟨c0, c1, c2, c3, c4, c5⟩ := six_cells HE3.out.ablk
  have fa := free_at (i := 2) HE3.out.ablk
  obtain ⟨V3, hV3⟩ : ∃ V3, V3 = w3.setCell ⟨R + 1 + 1, 2, none⟩ (.int .i64 n1) := ⟨_, rfl⟩
  have HF3 := Lib.hid (HE3.out.set2 (.int .i64 n1))
  rw [← hV3] at HF3
  have HV3 := Lib.hid hV3
  clear K G C3 HE3 hV3 HF2
  go_wp2_with fail
  rw [← HV3.out]
  refine (C4.out _ HF3.out.at_).mono ?_
  rintro e w4 ⟨rfl, K, G⟩
  have HE4 := Lib.hid (HF3.out.grown G K)
  clear c0 c1 c2 c3 c4 c5 fa
  obtain ⟨c0, c1, c2, c3, c4, c5⟩ := six_cells HE4.out.ablk
  have fa := free_at (i := 3) HE4.out.ablk
  obtain ⟨V4, hV4⟩ : ∃ V4, V4 = w4.setCell ⟨R + 1 + 1, 3, none⟩ (.int .i64 n2) := ⟨_, rfl⟩
  have HF4 := Lib.hid (HE4.out.set3 (.int .i64 n2))
  rw [← hV4] at HF4
  have HV4 := Lib.hid hV4
  clear K G C4 HE4 hV4 HF3
  go_wp2_with fail
  rw [← HV4.out]
  refine (C5.out _ HF4.out.at_).mono ?_
  rintro e w5 ⟨rfl, K, G⟩
  have HE0 : Hid (En1 w R (.int .i64 (k : Nat)) (.string tt) (.int .i64 n1) (.int .i64 n2) (.slice none 0 0) (.slice none 0 0) [] [] w5 r0) := HF4.out.grown G K
  clear c0 c1 c2 c3 c4 c5 fa K G C5 HF4
  go_wp2_with fail
  go_loopg [7] n (fun g i_ wr => ∃ (i : Nat) (X : List Run) (rr : Rd) (oa : Option Addr) (oc : Nat), i ≤ n ∧ n - i ≤ g ∧ i_ = .int .i64 (i : Nat) ∧ Hid (X.length = i) ∧ Hid (manyR runR n r0 = (X ++ (manyR runR (n - i) rr).1, (manyR runR (n - i) rr).2)) ∧ Hid (En1 w R (.int .i64 (k : Nat)) (.string tt) (.int .i64 n1) (.int .i64 n2) (.slice oa i oc) (.slice none 0 0) X [] wr rr))
  case atStart => exact ⟨0, [], r0, none, 0, by omega, by omega, rfl, rfl, rfl, HE0⟩
  case round =>
    obtain ⟨i, X, rr, oa, oc, hi, hg, rfl, HXL, HQ, HK⟩ := hrel
    obtain ⟨b0, b1, hbB⟩ := HK.out.at_.cells
    go_upto_region 9 with fail
    go_cut [40] from 31 to 61 (fun v wx => v = .bool (decide (i < n ∧ rr.bad = false)) ∧ wr = wx)
    case first =>
      by_cases hin : i < n
      · have iw : ((i : Nat) : Int) < (n : Int) := by omega
        have d1 : decide (((i : Nat) : Int) < (n : Int)) = true := decide_eq_true iw
        obtain ⟨rs_, rb⟩ := rr
        simp only at b0 b1
        cases rb with
        | true =>
          go_wp2_with fail
          go_meet
          exact ⟨by simp, rfl⟩
        | false =>
          go_wp2_with fail
          go_meet
          exact ⟨by simp [hin], rfl⟩
      · have iw : ¬ ((i : Nat) : Int) < (n : Int) := by omega
        have d1 : decide (((i : Nat) : Int) < (n : Int)) = false := decide_eq_false iw
        go_wp2_with fail
        go_meet
        exact ⟨by simp [hin], rfl⟩
    case rest =>
      obtain ⟨rfl, rfl⟩ := hcut
      by_cases hc : i < n ∧ rr.bad = false
      · rw [decide_eq_true hc]
        obtain ⟨hin, hrb⟩ := hc
        have hX0s : R + 1 + 1 + 1 ≤ wr.heap.size := HK.out.size
        obtain ⟨X0, hX0⟩ : ∃ X0, X0 = wr.heap.size := ⟨_, rfl⟩
        obtain ⟨bx, px, lx⟩ := box1 wr #[.int .i64 0, .int .i64 0, .bool false, .string (ByteArray.mk #[])] 114
        obtain ⟨V0, hV0⟩ : ∃ V0, V0 = wr.alloc (.cells #[.int .i64 0, .int .i64 0, .bool false, .string (ByteArray.mk #[])] 114) := ⟨_, rfl⟩
        rw [← hV0] at bx px lx
        rw [← hX0] at px lx
        have HV0 := Lib.hid hV0
        have HX0 : Hid (X0 = wr.heap.size ∧ R + 1 + 1 + 1 ≤ X0) := ⟨hX0, by rw [hX0]; exact hX0s⟩
        have G0 : Hid (wr.grownBy V0 (some (R + 1))) := grown_of _ _ bx _
        have P0 := Lib.hid px
        have L0 : Hid (X0 < V0.heap.size) := by show _ < _; omega
        have T0 : Hid (At V0 (R + 1) rr) := HK.out.at_.kept (grown_of _ _ bx none)
        clear hX0s hX0 hV0 bx px lx
        obtain ⟨r1, hr1⟩ : ∃ r1, r1 = (numR rr).2 := ⟨_, rfl⟩
        obtain ⟨x1, hx1⟩ : ∃ x1, x1 = (numR rr).1 := ⟨_, rfl⟩
        have D1 : Hid (∀ w', At w' (R + 1) rr → Calls Try.prog 38 #[.pointer (some ⟨R + 1, 0, none⟩)] w' fun e w'' => e = .returned (.int .i64 x1) ∧ At w'' (R + 1) r1 ∧ w'.grownBy w'' (some (R + 1))) := fun w' h => by have c := number_rd rr (R + 1) w' h; rw [← hx1, ← hr1] at c; exact c
        obtain ⟨r2, hr2⟩ : ∃ r2, r2 = (numR r1).2 := ⟨_, rfl⟩
        obtain ⟨x2, hx2⟩ : ∃ x2, x2 = (numR r1).1 := ⟨_, rfl⟩
        have D2 : Hid (∀ w', At w' (R + 1) r1 → Calls Try.prog 38 #[.pointer (some ⟨R + 1, 0, none⟩)] w' fun e w'' => e = .returned (.int .i64 x2) ∧ At w'' (R + 1) r2 ∧ w'.grownBy w'' (some (R + 1))) := fun w' h => by have c := number_rd r1 (R + 1) w' h; rw [← hx2, ← hr2] at c; exact c
        obtain ⟨r3, hr3⟩ : ∃ r3, r3 = (flagR r2).2 := ⟨_, rfl⟩
        obtain ⟨x3, hx3⟩ : ∃ x3, x3 = (flagR r2).1 := ⟨_, rfl⟩
        have D3 : Hid (∀ w', At w' (R + 1) r2 → Calls Try.prog 39 #[.pointer (some ⟨R + 1, 0, none⟩)] w' fun e w'' => e = .returned (.bool x3) ∧ At w'' (R + 1) r3 ∧ w'.grownBy w'' (some (R + 1))) := fun w' h => by have c := flag_rd r2 (R + 1) w' h; rw [← hx3, ← hr3] at c; exact c
        obtain ⟨r4, hr4⟩ : ∃ r4, r4 = (textR r3).2 := ⟨_, rfl⟩
        obtain ⟨x4, hx4⟩ : ∃ x4, x4 = (textR r3).1 := ⟨_, rfl⟩
        have D4 : Hid (∀ w', At w' (R + 1) r3 → Calls Try.prog 37 #[.pointer (some ⟨R + 1, 0, none⟩)] w' fun e w'' => e = .returned (.string (mkB x4)) ∧ At w'' (R + 1) r4 ∧ w'.grownBy w'' (some (R + 1))) := fun w' h => by have c := text_rd r3 (R + 1) w' h; rw [← hx4, ← hr4] at c; exact c
        have HSTEP : Hid (runR rr = ((⟨x1, x2, x3, x4⟩ : Run), r4)) := by
          show _ = _
          rw [hx4, hr4, hx3, hr3, hx2, hr2, hx1, hr1]
          rfl
        clear hr1 hx1 hr2 hx2 hr3 hx3 hr4 hx4
        have HQ2 : Hid (manyR runR n r0 = ((X ++ [(⟨x1, x2, x3, x4⟩ : Run)]) ++ (manyR runR (n - (i + 1)) r4).1, (manyR runR (n - (i + 1)) r4).2)) := by
          show _ = _
          rw [HQ.out, show n - i = n - (i + 1) + 1 by omega, many_next hrb, HSTEP.out]
          simp
        clear hrb HQ
        have HYY : Hid (∃ y, y = mkB x4) := ⟨_, rfl⟩
        obtain ⟨y, hy⟩ := HYY.out
        rw [← hy] at D4
        have HY := Lib.hid hy
        clear hy HYY
        go_upto_region 12 with fail
        rw [← HV0.out, ← HX0.out.1]
        go_wp2_with fail
        refine (D1.out _ T0.out).mono ?_
        rintro e w1 ⟨rfl, K, G⟩
        have p1 := (G.block X0 L0.out (fun e => by injection e with e; have := HX0.out.2; omega)).trans P0.out
        obtain ⟨z0, z1, z2, z3⟩ := four_cells p1
        have fz := free_at (i := 0) p1
        obtain ⟨V1, hV1⟩ : ∃ V1, V1 = w1.setCell ⟨X0, 0, none⟩ (.int .i64 x1) := ⟨_, rfl⟩
        have T1 : Hid (At V1 (R + 1) r1) := by rw [hV1]; exact at_other K (by have := HX0.out.2; omega)
        have P1 : Hid (V1.heap[X0]? = some (.cells #[.int .i64 x1, .int .i64 0, .bool false, .string (ByteArray.mk #[])] 114 (0, 0))) := by show _ = _; rw [hV1]; exact set_block p1
        have G1 : Hid (wr.grownBy V1 (some (R + 1))) := by rw [hV1]; exact grown_new (grown_trans G0.out G) (by rw [← HX0.out.1]; exact Nat.le_refl _) _
        have L1 : Hid (X0 < V1.heap.size) := (Array.getElem?_eq_some_iff.1 P1.out).1
        have HV1 := Lib.hid hV1
        clear p1 hV1 K G D1 T0 P0 G0 L0
        go_wp2_with fail
        rw [← HV1.out]
        refine (D2.out _ T1.out).mono ?_
        rintro e w2 ⟨rfl, K, G⟩
        have p2 := (G.block X0 L1.out (fun e => by injection e with e; have := HX0.out.2; omega)).trans P1.out
        obtain ⟨z0, z1, z2, z3⟩ := four_cells p2
        have fz := free_at (i := 1) p2
        obtain ⟨V2, hV2⟩ : ∃ V2, V2 = w2.setCell ⟨X0, 1, none⟩ (.int .i64 x2) := ⟨_, rfl⟩
        have T2 : Hid (At V2 (R + 1) r2) := by rw [hV2]; exact at_other K (by have := HX0.out.2; omega)
        have P2 : Hid (V2.heap[X0]? = some (.cells #[.int .i64 x1, .int .i64 x2, .bool false, .string (ByteArray.mk #[])] 114 (0, 0))) := by show _ = _; rw [hV2]; exact set_block p2
        have G2 : Hid (wr.grownBy V2 (some (R + 1))) := by rw [hV2]; exact grown_new (grown_trans G1.out G) (by rw [← HX0.out.1]; exact Nat.le_refl _) _
        have L2 : Hid (X0 < V2.heap.size) := (Array.getElem?_eq_some_iff.1 P2.out).1
        have HV2 := Lib.hid hV2
        clear p2 hV2 K G D2 T1 P1 G1 L1 
        go_wp2_with fail
        rw [← HV2.out]
        refine (D3.out _ T2.out).mono ?_
        rintro e w3 ⟨rfl, K, G⟩
        have p3 := (G.block X0 L2.out (fun e => by injection e with e; have := HX0.out.2; omega)).trans P2.out
        obtain ⟨z0, z1, z2, z3⟩ := four_cells p3
        have fz := free_at (i := 2) p3
        obtain ⟨V3, hV3⟩ : ∃ V3, V3 = w3.setCell ⟨X0, 2, none⟩ (.bool x3) := ⟨_, rfl⟩
        have T3 : Hid (At V3 (R + 1) r3) := by rw [hV3]; exact at_other K (by have := HX0.out.2; omega)
        have P3 : Hid (V3.heap[X0]? = some (.cells #[.int .i64 x1, .int .i64 x2, .bool x3, .string (ByteArray.mk #[])] 114 (0, 0))) := by show _ = _; rw [hV3]; exact set_block p3
        have G3 : Hid (wr.grownBy V3 (some (R + 1))) := by rw [hV3]; exact grown_new (grown_trans G2.out G) (by rw [← HX0.out.1]; exact Nat.le_refl _) _
        have L3 : Hid (X0 < V3.heap.size) := (Array.getElem?_eq_some_iff.1 P3.out).1
        have HV3 := Lib.hid hV3
        clear p3 hV3 K G D3 T2 P2 G2 L2 
        go_wp2_with fail
        rw [← HV3.out]
        refine (D4.out _ T3.out).mono ?_
        rintro e w4 ⟨rfl, K, G⟩
        have p4 := (G.block X0 L3.out (fun e => by injection e with e; have := HX0.out.2; omega)).trans P3.out
        obtain ⟨z0, z1, z2, z3⟩ := four_cells p4
        have fz := free_at (i := 3) p4
        obtain ⟨V4, hV4⟩ : ∃ V4, V4 = w4.setCell ⟨X0, 3, none⟩ (.string y) := ⟨_, rfl⟩
        have T4 : Hid (At V4 (R + 1) r4) := by rw [hV4]; exact at_other K (by have := HX0.out.2; omega)
        have P4 : Hid (V4.heap[X0]? = some (.cells #[.int .i64 x1, .int .i64 x2, .bool x3, .string y] 114 (0, 0))) := by show _ = _; rw [hV4]; exact set_block p4
        have G4 : Hid (wr.grownBy V4 (some (R + 1))) := by rw [hV4]; exact grown_new (grown_trans G3.out G) (by rw [← HX0.out.1]; exact Nat.le_refl _) _
        have L4 : Hid (X0 < V4.heap.size) := (Array.getElem?_eq_some_iff.1 P4.out).1
        have HV4 := Lib.hid hV4
        clear p4 hV4 K G D4 T3 P3 G3 L3 
        have EM := Lib.hid (HK.out.grown G4.out T4.out)
        obtain ⟨g0, g1, g2, g3, g4, g5⟩ := six_cells EM.out.ablk
        obtain ⟨z0, z1, z2, z3⟩ := four_cells P4.out
        obtain ⟨WA, hWA⟩ : ∃ WA, WA = V4.alloc (.cells #[.int .i64 x1, .int .i64 x2, .bool x3, .string y] 114) := ⟨_, rfl⟩
        have bA : Below V4.heap.size V4 WA := by rw [hWA]; exact (box1 _ _ _).1
        have EA := Lib.hid (EM.out.below bA)
        have A1 : Hid (Rk.OwnK 114 4 (R + 1 + 1 + 1) WA (.slice oa i oc) (X.map runC)) := EA.out.rows
        have A2 : Hid (Rk.RowK 4 WA (.slice (some ⟨V4.heap.size, 0, none⟩) 1 1) [runC (⟨x1, x2, x3, x4⟩ : Run)]) := by
          show Rk.RowK _ _ _ _
          rw [hWA]
          unfold runC
          simp only
          rw [← HY.out]
          exact Rk.row_one (e := 114) (heap_alloc_new _ _) rfl
        have A3 : Hid ((X.map runC).length + [runC (⟨x1, x2, x3, x4⟩ : Run)].length ≤ 100000) := by show _ ≤ _; rw [List.length_map, HXL.out, List.length_singleton]; omega
        have A4 : Hid (R + 1 + 1 + 1 ≤ WA.heap.size) := EA.out.size
        have HWA := Lib.hid hWA
        clear bA hWA
        go_upto_region 16 with fail
        rw [← HV4.out]
        clear z0 z1 z2 z3
        obtain ⟨z0, z1, z2, z3⟩ := four_cells P4.out
        go_wp2_with (at_builtin; rw [← HWA.out]; refine Rk.wpList_append_rowk rfl _ _ 43 114 4 40 _ Try.underlying43 infoRn rfl (by decide) (by decide) rfl (R + 1 + 1 + 1) _ _ (X.map runC) [runC (⟨x1, x2, x3, x4⟩ : Run)] rfl rfl A1.out A2.out (runC_one _) A3.out A4.out ?_)
        intro v9 w9 h5 gg5 k5
        obtain ⟨zA, HE9⟩ := EA.out.put4 (z := ⟨x1, x2, x3, x4⟩) rfl rfl h5 gg5
        obtain ⟨y0, y1, y2, y3, y4, y5⟩ := six_cells zA
        have fA := free_at (i := 4) zA
        obtain ⟨a6, c6, rfl⟩ := h5.is_slice
        have hl6 : (X.map runC ++ [runC (⟨x1, x2, x3, x4⟩ : Run)]).length = i + 1 := by rw [List.length_append, List.length_map, HXL.out]; rfl
        rw [hl6] at HE9 ⊢
        clear h5 gg5 k5 A1 A2 A3 A4 hl6 zA EA EM g0 g1 g2 g3 g4 g5 z0 z1 z2 z3
        go_wp2_with fail
        go_roundg (n - (i + 1))
        case measure => omega
        case rel => exact ⟨i + 1, X ++ [⟨x1, x2, x3, x4⟩], r4, a6, c6, by omega, Nat.le_refl _, by go_num, by show _ = _; rw [List.length_append, HXL.out]; rfl, HQ2, HE9⟩
      · rw [decide_eq_false hc]
        obtain ⟨rn, hrn⟩ : ∃ rn, rn = i := ⟨_, rfl⟩
        have HROWS : Hid (manyR runR n r0 = (X, rr)) := by
          have h := HQ.out
          rw [show (manyR runR (n - i) rr) = ([], rr) from by
            by_cases hb : rr.bad = true
            · exact many_bad hb
            · rw [show n - i = 0 from by
                by_cases h9 : i < n
                · exact absurd ⟨h9, by cases hq : rr.bad with
                    | false => rfl
                    | true => exact absurd hq hb⟩ hc
                · omega]
              rfl] at h
          simp only [List.append_nil] at h
          exact h
        clear hc HQ b0 b1 hbB
        obtain ⟨ne, hne⟩ : ∃ ne, ne = (lenR rr).1 := ⟨_, rfl⟩
        obtain ⟨re, hre⟩ : ∃ re, re = (lenR rr).2 := ⟨_, rfl⟩
        have CL : Hid (∀ w', At w' (R + 1) rr → Calls Try.prog 51 #[.pointer (some ⟨R + 1, 0, none⟩)] w' fun e w'' => e = .returned (.int .i64 (ne : Nat)) ∧ At w'' (R + 1) re ∧ w'.grownBy w'' (some (R + 1))) := fun w' h => by have c := len_rd rr (R + 1) w' h; rw [← hne, ← hre] at c; exact c
        have hne8 : ne < 256 := by rw [hne]; exact UInt8.toNat_lt _
        have HMOD2 : Hid (toldR s = (⟨(k : Nat), t, n1, n2, X, (manyR entR ne re).1⟩, (manyR entR ne re).2)) := by
          show _ = _
          rw [hne, hre, HMOD.out]
          unfold rowR
          rw [HNR.out.1, HNR.out.2, HROWS.out]
        clear hne hre HMOD HROWS
        rw [← hrn] at HK ⊢
        have HXL2 := HXL
        clear hrn HXL hi hg HNR n256
        go_wp2_with fail
        refine (CL.out _ HK.out.at_).mono ?_
        rintro e w8 ⟨rfl, K8, G8⟩
        have HE0 : Hid (En1 w R (.int .i64 (k : Nat)) (.string tt) (.int .i64 n1) (.int .i64 n2) (.slice oa rn oc) (.slice none 0 0) X [] w8 re) := HK.out.grown G8 K8
        clear HK K8 G8 CL
        obtain ⟨XR, hXR⟩ : ∃ XR, XR = X := ⟨_, rfl⟩
        rw [← hXR] at HE0 HMOD2
        clear hXR HXL2
        obtain ⟨ra, hra⟩ : ∃ ra, ra = oa := ⟨_, rfl⟩
        obtain ⟨rc, hrc⟩ : ∃ rc, rc = oc := ⟨_, rfl⟩
        rw [← hra, ← hrc] at HE0
        clear hra hrc
        obtain ⟨n', hn'⟩ : ∃ n', n' = ne := ⟨_, rfl⟩
        obtain ⟨r0', hr0'⟩ : ∃ r0', r0' = re := ⟨_, rfl⟩
        rw [← hn', ← hr0'] at HMOD2
        rw [← hr0'] at HE0
        rw [← hn'] at hne8 ⊢
        clear hn' hr0'
        clear X
        have HMOD := HMOD2
        clear HMOD2
        go_wp2_with fail
        go_loopg [9] n' (fun g i_ wr => ∃ (i : Nat) (X : List Ent) (rr : Rd) (oa : Option Addr) (oc : Nat), i ≤ n' ∧ n' - i ≤ g ∧ i_ = .int .i64 (i : Nat) ∧ Hid (X.length = i) ∧ Hid (manyR entR n' r0' = (X ++ (manyR entR (n' - i) rr).1, (manyR entR (n' - i) rr).2)) ∧ Hid (En1 w R (.int .i64 (k : Nat)) (.string tt) (.int .i64 n1) (.int .i64 n2) (.slice ra rn rc) (.slice oa i oc) XR X wr rr))
        case atStart => exact ⟨0, [], r0', none, 0, by omega, by omega, rfl, rfl, rfl, HE0⟩
        case round =>
          obtain ⟨i, X, rr, oa, oc, hi, hg, rfl, HXL, HQ, HK⟩ := hrel
          obtain ⟨b0, b1, hbB⟩ := HK.out.at_.cells
          go_upto_region 19 with fail
          go_cut [73] from 64 to 97 (fun v wx => v = .bool (decide (i < n' ∧ rr.bad = false)) ∧ wr = wx)
          case first =>
            by_cases hin : i < n'
            · have iw : ((i : Nat) : Int) < (n' : Int) := by omega
              have d1 : decide (((i : Nat) : Int) < (n' : Int)) = true := decide_eq_true iw
              obtain ⟨rs_, rb⟩ := rr
              simp only at b0 b1
              cases rb with
              | true =>
                go_wp2_with fail
                go_meet
                exact ⟨by simp, rfl⟩
              | false =>
                go_wp2_with fail
                go_meet
                exact ⟨by simp [hin], rfl⟩
            · have iw : ¬ ((i : Nat) : Int) < (n' : Int) := by omega
              have d1 : decide (((i : Nat) : Int) < (n' : Int)) = false := decide_eq_false iw
              go_wp2_with fail
              go_meet
              exact ⟨by simp [hin], rfl⟩
          case rest =>
            obtain ⟨rfl, rfl⟩ := hcut
            by_cases hc : i < n' ∧ rr.bad = false
            · rw [decide_eq_true hc]
              obtain ⟨hin, hrb⟩ := hc
              have hX0s : R + 1 + 1 + 1 ≤ wr.heap.size := HK.out.size
              obtain ⟨X0, hX0⟩ : ∃ X0, X0 = wr.heap.size := ⟨_, rfl⟩
              obtain ⟨bx, px, lx⟩ := box1 wr #[.int .i64 0, .int .i64 0, .int .i64 0, .slice none 0 0, .slice none 0 0] 119
              obtain ⟨V0, hV0⟩ : ∃ V0, V0 = wr.alloc (.cells #[.int .i64 0, .int .i64 0, .int .i64 0, .slice none 0 0, .slice none 0 0] 119) := ⟨_, rfl⟩
              rw [← hV0] at bx px lx
              rw [← hX0] at px lx
              have HV0 := Lib.hid hV0
              have HX0 : Hid (X0 = wr.heap.size ∧ R + 1 + 1 + 1 ≤ X0) := ⟨hX0, by rw [hX0]; exact hX0s⟩
              have G0 : Hid (wr.grownBy V0 (some (R + 1))) := grown_of _ _ bx _
              have P0 := Lib.hid px
              have L0 : Hid (X0 < V0.heap.size) := by show _ < _; omega
              have T0 : Hid (At V0 (R + 1) rr) := HK.out.at_.kept (grown_of _ _ bx none)
              clear hX0s hX0 hV0 bx px lx
              obtain ⟨r1, hr1⟩ : ∃ r1, r1 = (numR rr).2 := ⟨_, rfl⟩
              obtain ⟨x1, hx1⟩ : ∃ x1, x1 = (numR rr).1 := ⟨_, rfl⟩
              have D1 : Hid (∀ w', At w' (R + 1) rr → Calls Try.prog 38 #[.pointer (some ⟨R + 1, 0, none⟩)] w' fun e w'' => e = .returned (.int .i64 x1) ∧ At w'' (R + 1) r1 ∧ w'.grownBy w'' (some (R + 1))) := fun w' h => by have c := number_rd rr (R + 1) w' h; rw [← hx1, ← hr1] at c; exact c
              obtain ⟨r2, hr2⟩ : ∃ r2, r2 = (numR r1).2 := ⟨_, rfl⟩
              obtain ⟨x2, hx2⟩ : ∃ x2, x2 = (numR r1).1 := ⟨_, rfl⟩
              have D2 : Hid (∀ w', At w' (R + 1) r1 → Calls Try.prog 38 #[.pointer (some ⟨R + 1, 0, none⟩)] w' fun e w'' => e = .returned (.int .i64 x2) ∧ At w'' (R + 1) r2 ∧ w'.grownBy w'' (some (R + 1))) := fun w' h => by have c := number_rd r1 (R + 1) w' h; rw [← hx2, ← hr2] at c; exact c
              obtain ⟨r3, hr3⟩ : ∃ r3, r3 = (numR r2).2 := ⟨_, rfl⟩
              obtain ⟨x3, hx3⟩ : ∃ x3, x3 = (numR r2).1 := ⟨_, rfl⟩
              have D3 : Hid (∀ w', At w' (R + 1) r2 → Calls Try.prog 38 #[.pointer (some ⟨R + 1, 0, none⟩)] w' fun e w'' => e = .returned (.int .i64 x3) ∧ At w'' (R + 1) r3 ∧ w'.grownBy w'' (some (R + 1))) := fun w' h => by have c := number_rd r2 (R + 1) w' h; rw [← hx3, ← hr3] at c; exact c
              obtain ⟨r4, hr4⟩ : ∃ r4, r4 = (listR r3).2 := ⟨_, rfl⟩
              obtain ⟨x4, hx4⟩ : ∃ x4, x4 = (listR r3).1 := ⟨_, rfl⟩
              have D4 : Hid (∀ w', At w' (R + 1) r3 → Calls Try.prog 52 #[.pointer (some ⟨R + 1, 0, none⟩)] w' fun e w'' => ∃ v, e = .returned v ∧ Rk.OwnK 3 1 w'.heap.size w'' v (cellsI x4) ∧ At w'' (R + 1) r4 ∧ w'.grownBy w'' (some (R + 1))) := fun w' h => by have c := list_rd r3 (R + 1) w' h; rw [← hx4, ← hr4] at c; exact c
              obtain ⟨r5, hr5⟩ : ∃ r5, r5 = (listR r4).2 := ⟨_, rfl⟩
              obtain ⟨x5, hx5⟩ : ∃ x5, x5 = (listR r4).1 := ⟨_, rfl⟩
              have D5 : Hid (∀ w', At w' (R + 1) r4 → Calls Try.prog 52 #[.pointer (some ⟨R + 1, 0, none⟩)] w' fun e w'' => ∃ v, e = .returned v ∧ Rk.OwnK 3 1 w'.heap.size w'' v (cellsI x5) ∧ At w'' (R + 1) r5 ∧ w'.grownBy w'' (some (R + 1))) := fun w' h => by have c := list_rd r4 (R + 1) w' h; rw [← hx5, ← hr5] at c; exact c
              have HSTEP : Hid (entR rr = ((⟨x1, x2, x3, x4, x5⟩ : Ent), r5)) := by
                show _ = _
                rw [hx5, hr5, hx4, hr4, hx3, hr3, hx2, hr2, hx1, hr1]
                unfold entR; simp only [list_row]
              have HNUM : Hid (okEnt (⟨x1, x2, x3, x4, x5⟩ : Ent)) := by
                have h := ent_ok rr
                rw [HSTEP.out] at h
                exact h
              clear hr1 hx1 hr2 hx2 hr3 hx3 hr4 hx4 hr5 hx5
              have HQ2 : Hid (manyR entR n' r0' = ((X ++ [(⟨x1, x2, x3, x4, x5⟩ : Ent)]) ++ (manyR entR (n' - (i + 1)) r5).1, (manyR entR (n' - (i + 1)) r5).2)) := by
                show _ = _
                rw [HQ.out, show n' - i = n' - (i + 1) + 1 by omega, many_next hrb, HSTEP.out]
                simp
              clear hrb HQ
              go_upto_region 22 with fail
              rw [← HV0.out, ← HX0.out.1]
              go_wp2_with fail
              refine (D1.out _ T0.out).mono ?_
              rintro e w1 ⟨rfl, K, G⟩
              have p1 := (G.block X0 L0.out (fun e => by injection e with e; have := HX0.out.2; omega)).trans P0.out
              obtain ⟨z0, z1, z2, z3, z4⟩ := five_cells p1
              have fz := free_at (i := 0) p1
              obtain ⟨V1, hV1⟩ : ∃ V1, V1 = w1.setCell ⟨X0, 0, none⟩ (.int .i64 x1) := ⟨_, rfl⟩
              have T1 : Hid (At V1 (R + 1) r1) := by rw [hV1]; exact at_other K (by have := HX0.out.2; omega)
              have P1 : Hid (V1.heap[X0]? = some (.cells #[.int .i64 x1, .int .i64 0, .int .i64 0, .slice none 0 0, .slice none 0 0] 119 (0, 0))) := by show _ = _; rw [hV1]; exact set_block p1
              have G1 : Hid (wr.grownBy V1 (some (R + 1))) := by rw [hV1]; exact grown_new (grown_trans G0.out G) (by rw [← HX0.out.1]; exact Nat.le_refl _) _
              have L1 : Hid (X0 < V1.heap.size) := (Array.getElem?_eq_some_iff.1 P1.out).1
              have HV1 := Lib.hid hV1
              clear p1 hV1 K G D1 T0 P0 G0 L0
              go_wp2_with fail
              rw [← HV1.out]
              refine (D2.out _ T1.out).mono ?_
              rintro e w2 ⟨rfl, K, G⟩
              have p2 := (G.block X0 L1.out (fun e => by injection e with e; have := HX0.out.2; omega)).trans P1.out
              obtain ⟨z0, z1, z2, z3, z4⟩ := five_cells p2
              have fz := free_at (i := 1) p2
              obtain ⟨V2, hV2⟩ : ∃ V2, V2 = w2.setCell ⟨X0, 1, none⟩ (.int .i64 x2) := ⟨_, rfl⟩
              have T2 : Hid (At V2 (R + 1) r2) := by rw [hV2]; exact at_other K (by have := HX0.out.2; omega)
              have P2 : Hid (V2.heap[X0]? = some (.cells #[.int .i64 x1, .int .i64 x2, .int .i64 0, .slice none 0 0, .slice none 0 0] 119 (0, 0))) := by show _ = _; rw [hV2]; exact set_block p2
              have G2 : Hid (wr.grownBy V2 (some (R + 1))) := by rw [hV2]; exact grown_new (grown_trans G1.out G) (by rw [← HX0.out.1]; exact Nat.le_refl _) _
              have L2 : Hid (X0 < V2.heap.size) := (Array.getElem?_eq_some_iff.1 P2.out).1
              have HV2 := Lib.hid hV2
              clear p2 hV2 K G D2 T1 P1 G1 L1 
              go_wp2_with fail
              rw [← HV2.out]
              refine (D3.out _ T2.out).mono ?_
              rintro e w3 ⟨rfl, K, G⟩
              have p3 := (G.block X0 L2.out (fun e => by injection e with e; have := HX0.out.2; omega)).trans P2.out
              obtain ⟨z0, z1, z2, z3, z4⟩ := five_cells p3
              have fz := free_at (i := 2) p3
              obtain ⟨V3, hV3⟩ : ∃ V3, V3 = w3.setCell ⟨X0, 2, none⟩ (.int .i64 x3) := ⟨_, rfl⟩
              have T3 : Hid (At V3 (R + 1) r3) := by rw [hV3]; exact at_other K (by have := HX0.out.2; omega)
              have P3 : Hid (V3.heap[X0]? = some (.cells #[.int .i64 x1, .int .i64 x2, .int .i64 x3, .slice none 0 0, .slice none 0 0] 119 (0, 0))) := by show _ = _; rw [hV3]; exact set_block p3
              have G3 : Hid (wr.grownBy V3 (some (R + 1))) := by rw [hV3]; exact grown_new (grown_trans G2.out G) (by rw [← HX0.out.1]; exact Nat.le_refl _) _
              have L3 : Hid (X0 < V3.heap.size) := (Array.getElem?_eq_some_iff.1 P3.out).1
              have HV3 := Lib.hid hV3
              clear p3 hV3 K G D3 T2 P2 G2 L2 
              go_wp2_with fail
              rw [← HV3.out]
              refine (D4.out _ T3.out).mono ?_
              rintro e w4 ⟨u4, rfl, O4, K, G⟩
              have HO4 : Hid (Rk.OwnK 3 1 (X0 + 1) w4 u4 (cellsI x4)) := own_base O4 (by have := L3.out; omega)
              obtain ⟨a4, d4, rfl⟩ := O4.is_slice
              rw [cellsI_len] at HO4 ⊢
              obtain ⟨n4, hn4⟩ : ∃ n4, n4 = x4.length := ⟨_, rfl⟩
              rw [← hn4] at HO4 ⊢
              have HN4 := Lib.hid hn4
              clear O4 hn4
              have p4 := (G.block X0 L3.out (fun e => by injection e with e; have := HX0.out.2; omega)).trans P3.out
              obtain ⟨z0, z1, z2, z3, z4⟩ := five_cells p4
              have fz := free_at (i := 3) p4
              obtain ⟨V4, hV4⟩ : ∃ V4, V4 = w4.setCell ⟨X0, 3, none⟩ (.slice a4 n4 d4) := ⟨_, rfl⟩
              have T4 : Hid (At V4 (R + 1) r4) := by rw [hV4]; exact at_other K (by have := HX0.out.2; omega)
              have P4 : Hid (V4.heap[X0]? = some (.cells #[.int .i64 x1, .int .i64 x2, .int .i64 x3, .slice a4 n4 d4, .slice none 0 0] 119 (0, 0))) := by show _ = _; rw [hV4]; exact set_block p4
              have G4 : Hid (wr.grownBy V4 (some (R + 1))) := by rw [hV4]; exact grown_new (grown_trans G3.out G) (by rw [← HX0.out.1]; exact Nat.le_refl _) _
              have L4 : Hid (X0 < V4.heap.size) := (Array.getElem?_eq_some_iff.1 P4.out).1
              have HV4 := Lib.hid hV4
              have HP4_4 : Hid (Rk.OwnK 3 1 (X0 + 1) V4 (.slice a4 n4 d4) (cellsI x4)) := by
                have q : Rk.OwnK 3 1 (X0 + 1) w4 (.slice a4 n4 d4) (cellsI x4) := HO4.out
                rw [hV4]
                exact q.kept (grown_put (hb := X0) (grown_refl _ _)) (.inr (q.low (by omega)))
              clear p4 hV4 K G D4 T3 P3 G3 L3 
              go_wp2_with fail
              rw [← HV4.out]
              refine (D5.out _ T4.out).mono ?_
              rintro e w5 ⟨u5, rfl, O5, K, G⟩
              have HO5 : Hid (Rk.OwnK 3 1 (X0 + 1) w5 u5 (cellsI x5)) := own_base O5 (by have := L4.out; omega)
              obtain ⟨a5, d5, rfl⟩ := O5.is_slice
              rw [cellsI_len] at HO5 ⊢
              obtain ⟨n5, hn5⟩ : ∃ n5, n5 = x5.length := ⟨_, rfl⟩
              rw [← hn5] at HO5 ⊢
              have HN5 := Lib.hid hn5
              clear O5 hn5
              have p5 := (G.block X0 L4.out (fun e => by injection e with e; have := HX0.out.2; omega)).trans P4.out
              obtain ⟨z0, z1, z2, z3, z4⟩ := five_cells p5
              have fz := free_at (i := 4) p5
              obtain ⟨V5, hV5⟩ : ∃ V5, V5 = w5.setCell ⟨X0, 4, none⟩ (.slice a5 n5 d5) := ⟨_, rfl⟩
              have T5 : Hid (At V5 (R + 1) r5) := by rw [hV5]; exact at_other K (by have := HX0.out.2; omega)
              have P5 : Hid (V5.heap[X0]? = some (.cells #[.int .i64 x1, .int .i64 x2, .int .i64 x3, .slice a4 n4 d4, .slice a5 n5 d5] 119 (0, 0))) := by show _ = _; rw [hV5]; exact set_block p5
              have G5 : Hid (wr.grownBy V5 (some (R + 1))) := by rw [hV5]; exact grown_new (grown_trans G4.out G) (by rw [← HX0.out.1]; exact Nat.le_refl _) _
              have L5 : Hid (X0 < V5.heap.size) := (Array.getElem?_eq_some_iff.1 P5.out).1
              have HV5 := Lib.hid hV5
              have HP4_5 : Hid (Rk.OwnK 3 1 (X0 + 1) V5 (.slice a4 n4 d4) (cellsI x4)) := by
                have q : Rk.OwnK 3 1 (X0 + 1) w5 (.slice a4 n4 d4) (cellsI x4) := HP4_4.out.kept G (.inr (HP4_4.out.low (by have := HX0.out.2; omega)))
                rw [hV5]
                exact q.kept (grown_put (hb := X0) (grown_refl _ _)) (.inr (q.low (by omega)))
              have HP5_5 : Hid (Rk.OwnK 3 1 (X0 + 1) V5 (.slice a5 n5 d5) (cellsI x5)) := by
                have q : Rk.OwnK 3 1 (X0 + 1) w5 (.slice a5 n5 d5) (cellsI x5) := HO5.out
                rw [hV5]
                exact q.kept (grown_put (hb := X0) (grown_refl _ _)) (.inr (q.low (by omega)))
              clear p5 hV5 K G D5 T4 P4 G4 L4 
              have EM := Lib.hid (HK.out.grown G5.out T5.out)
              obtain ⟨g0, g1, g2, g3, g4, g5⟩ := six_cells EM.out.ablk
              obtain ⟨WA, hWA⟩ : ∃ WA, WA = V5.alloc (.cells #[.int .i64 x1, .int .i64 x2, .int .i64 x3, .slice a4 n4 d4, .slice a5 n5 d5] 119) := ⟨_, rfl⟩
              have bA : Below V5.heap.size V5 WA := by rw [hWA]; exact (box1 _ _ _).1
              have EA := Lib.hid (EM.out.below bA)
              have hEn : Aud.EnP (fun b => R + 1 + 1 + 1 ≤ b ∧ some b ≠ (Value.slice oa i oc).ownBlock) WA [.int .i64 x1, .int .i64 x2, .int .i64 x3, .slice a4 n4 d4, .slice a5 n5 d5] (⟨x1, x2, x3, x4, x5⟩ : Ent) := by
                have q4 := ints_own (HP4_5.out.below bA) HNUM.out.2.2.2.2.2.1
                have q5 := ints_own (HP5_5.out.below bA) HNUM.out.2.2.2.2.2.2
                have hmn : ∀ b, X0 + 1 ≤ b → R + 1 + 1 + 1 ≤ b ∧ some b ≠ (Value.slice oa i oc).ownBlock := fun b hb => ⟨by have := HX0.out.2; omega, fun e => by have h1 := (HK.out.ents.own b e.symm).2; have h2 := HX0.out.1; omega⟩
                exact ⟨_, _, rfl, ⟨HNUM.out.1, HNUM.out.2.1, HNUM.out.2.2.1⟩, q4.mono fun b _ hb => hmn b hb, q5.mono fun b _ hb => hmn b hb⟩
              obtain ⟨xs, hxs, HOX, HROW⟩ := EA.out.ents.row
              have A1 : Hid (Rk.OwnK 119 5 (R + 1 + 1 + 1) WA (.slice oa i oc) xs) := HOX
              have A2 : Hid (Rk.RowK 5 WA (.slice (some ⟨V5.heap.size, 0, none⟩) 1 1) [[.int .i64 x1, .int .i64 x2, .int .i64 x3, .slice a4 n4 d4, .slice a5 n5 d5]]) := by
                show Rk.RowK _ _ _ _
                rw [hWA]
                exact Rk.row_one (e := 119) (heap_alloc_new _ _) rfl
              have A3 : Hid (xs.length + ([[.int .i64 x1, .int .i64 x2, .int .i64 x3, .slice a4 n4 d4, .slice a5 n5 d5]] : List (List Value)).length ≤ 100000) := by show _ ≤ _; rw [hxs, HXL.out, List.length_singleton]; omega
              have A4 : Hid (R + 1 + 1 + 1 ≤ WA.heap.size) := EA.out.size
              have HONE := Lib.hid hEn.one
              have HRW : Hid (∀ (v' : Value) (w' : World), Rk.OwnK 119 5 (R + 1 + 1 + 1) w' v' (xs ++ [[.int .i64 x1, .int .i64 x2, .int .i64 x3, .slice a4 n4 d4, .slice a5 n5 d5]]) → WA.grownBy w' (Value.slice oa i oc).ownBlock → (v'.ownBlock = (Value.slice oa i oc).ownBlock ∨ v'.ownBlock = some WA.heap.size) → Aud.OEn (fun b => R + 1 + 1 + 1 ≤ b) (R + 1 + 1 + 1) w' v' (X ++ [(⟨x1, x2, x3, x4, x5⟩ : Ent)])) := fun v' w' h5 g5 k5 => HROW [([.int .i64 x1, .int .i64 x2, .int .i64 x3, .slice a4 n4 d4, .slice a5 n5 d5], ⟨x1, x2, x3, x4, x5⟩)] v' w' h5 g5 k5 (fun x hx => by
                simp only [List.mem_singleton] at hx
                subst hx
                exact hEn)
              have HNE : Hid ((Value.slice ra rn rc).ownBlock = none ∨ (Value.slice ra rn rc).ownBlock ≠ (Value.slice oa i oc).ownBlock) := own_ne_ents EA.out.rows HOX
              have HWA := Lib.hid hWA
              clear bA hWA hEn hxs HOX HROW
              go_upto_region 27 with fail
              rw [← HV5.out]
              obtain ⟨z0, z1, z2, z3, z4⟩ := five_cells P5.out
              go_wp2_with (at_builtin; rw [← HWA.out]; refine Rk.wpList_append_rowk rfl _ _ 44 119 5 72 _ Try.underlying44 Aud.infoEn rfl (by decide) (by decide) rfl (R + 1 + 1 + 1) _ _ xs [[.int .i64 x1, .int .i64 x2, .int .i64 x3, .slice a4 n4 d4, .slice a5 n5 d5]] rfl rfl A1.out A2.out (fun y hy => by simp only [List.mem_singleton] at hy; subst hy; exact HONE.out) A3.out A4.out ?_)
              intro v9 w9 h5 gg5 k5
              have ho := HRW.out v9 w9 h5 gg5 k5
              obtain ⟨zA, HE9⟩ := EA.out.put5 HNE.out ho gg5
              obtain ⟨y0, y1, y2, y3, y4, y5⟩ := six_cells zA
              have fA := free_at (i := 5) zA
              obtain ⟨a6, c6, rfl⟩ := ho.is_slice
              have hl6 : (X ++ [(⟨x1, x2, x3, x4, x5⟩ : Ent)]).length = i + 1 := by rw [List.length_append, HXL.out]; rfl
              rw [hl6] at HE9 ⊢
              clear h5 gg5 k5 A1 A2 A3 A4 hl6 zA EA EM g0 g1 g2 g3 g4 g5 z0 z1 z2 z3 z4 ho HRW HNE HONE
              go_wp2_with fail
              go_roundg (n' - (i + 1))
              case measure => omega
              case rel => exact ⟨i + 1, X ++ [⟨x1, x2, x3, x4, x5⟩], r5, a6, c6, by omega, Nat.le_refl _, by go_num, by show _ = _; rw [List.length_append, HXL.out]; rfl, HQ2, HE9⟩
            · rw [decide_eq_false hc]
              have HRF : Hid (toldR s = (⟨(k : Nat), t, n1, n2, XR, X⟩, rr)) := by
                have h := HQ.out
                rw [show (manyR entR (n' - i) rr) = ([], rr) from by
                  by_cases hb : rr.bad = true
                  · exact many_bad hb
                  · rw [show n' - i = 0 from by
                      by_cases h9 : i < n'
                      · exact absurd ⟨h9, by cases hq : rr.bad with
                          | false => rfl
                          | true => exact absurd hq hb⟩ hc
                      · omega]
                    rfl] at h
                simp only [List.append_nil] at h
                show _ = _
                rw [HMOD.out, h]
              clear hc HQ
              obtain ⟨g0, g1, g2, g3, g4, g5⟩ := six_cells HK.out.ablk
              obtain ⟨q0, q1, q2, q3, q4, q5⟩ := six_cells HK.out.rblk
              have fr0 := free_at (i := 0) HK.out.rblk
              have fr1 := free_at (i := 1) HK.out.rblk
              have fr2 := free_at (i := 2) HK.out.rblk
              have fr3 := free_at (i := 3) HK.out.rblk
              have fr4 := free_at (i := 4) HK.out.rblk
              have fr5 := free_at (i := 5) HK.out.rblk
              have HRS : Hid (w.heap.size = R) := HR0
              obtain ⟨rs_, rb⟩ := rr
              simp only at b0 b1
              by_cases hok : rb = false ∧ rs_ = []
              · obtain ⟨rfl, rfl⟩ := hok
                have hE := empty_yes
                have HTD : Hid (toldE s = (⟨(k : Nat), t, n1, n2, XR, X⟩, true)) := by show _ = _; unfold toldE; rw [HRF.out]; exact if_pos ⟨rfl, rfl⟩
                obtain ⟨WN, hWN⟩ : ∃ WN, WN = (((((wr.setCell ⟨R, 0, none⟩ (.int .i64 (k : Nat))).setCell ⟨R, 1, none⟩ (.string tt)).setCell ⟨R, 2, none⟩ (.int .i64 n1)).setCell ⟨R, 3, none⟩ (.int .i64 n2)).setCell ⟨R, 4, none⟩ (.slice ra rn rc)).setCell ⟨R, 5, none⟩ (.slice oa i oc) := ⟨_, rfl⟩
                have zz : WN.heap[R]? = some (.cells #[.int .i64 (k : Nat), .string tt, .int .i64 n1, .int .i64 n2, .slice ra rn rc, .slice oa i oc] 46 (0, 0)) := by rw [hWN]; exact set_block (set_block (set_block (set_block (set_block (set_block HK.out.rblk)))))
                have gN : wr.grownBy WN (some R) := by rw [hWN]; exact grown_put (grown_put (grown_put (grown_put (grown_put (grown_put (grown_refl _ _))))))
                have BF : Hid (Below w.heap.size w WN) := by
                  show Below _ _ _
                  rw [HRS.out, hWN]
                  exact below_put (below_put (below_put (below_put (below_put (below_put HK.out.bel (Nat.le_refl R) _) (Nat.le_refl R) _) (Nat.le_refl R) _) (Nat.le_refl R) _) (Nat.le_refl R) _) (Nat.le_refl R) _
                have VF : Hid (AnO R WN (.agg #[.int .i64 (k : Nat), .string tt, .int .i64 n1, .int .i64 n2, .slice ra rn rc, .slice oa i oc]) ⟨(k : Nat), t, n1, n2, XR, X⟩) := ⟨_, _, by rw [HTT.out], own_base (HK.out.rows.kept gN (.inr (HK.out.rows.low (by omega)))) (by omega), oen_base (oen_kept HK.out.ents gN (fun b hb => by omega) (fun e => by have := (HK.out.ents.own _ e).1; omega)) (by omega)⟩
                obtain ⟨y0, y1, y2, y3, y4, y5⟩ := six_cells zz
                have HWN := Lib.hid hWN
                clear hWN zz gN HK HRF
                go_wp2_with fail
                rw [← HWN.out]
                exact bodyPost_ret (v := .tuple #[.agg #[.int .i64 (k : Nat), .string tt, .int .i64 n1, .int .i64 n2, .slice ra rn rc, .slice oa i oc], .bool true]) (by simp [results, Try.results22, go_sem, y0, y1, y2, y3, y4, y5, Try.isAgg46, Try.sizeOf46]) rfl ⟨_, by rw [HTD.out], by rw [HTD.out, HRS.out]; exact VF.out, BF.out⟩
              · have HTD : Hid (toldE s = (zeroA, false)) := by show _ = _; unfold toldE; rw [HRF.out]; exact if_neg hok
                obtain ⟨WN, hWN⟩ : ∃ WN, WN = (((((wr.setCell ⟨R, 0, none⟩ (.int .i64 0)).setCell ⟨R, 1, none⟩ (.string (ByteArray.mk #[]))).setCell ⟨R, 2, none⟩ (.int .i64 0)).setCell ⟨R, 3, none⟩ (.int .i64 0)).setCell ⟨R, 4, none⟩ (.slice none 0 0)).setCell ⟨R, 5, none⟩ (.slice none 0 0) := ⟨_, rfl⟩
                have zz : WN.heap[R]? = some (.cells #[.int .i64 0, .string (ByteArray.mk #[]), .int .i64 0, .int .i64 0, .slice none 0 0, .slice none 0 0] 46 (0, 0)) := by rw [hWN]; exact set_block (set_block (set_block (set_block (set_block (set_block HK.out.rblk)))))
                have BF : Hid (Below w.heap.size w WN) := by
                  show Below _ _ _
                  rw [HRS.out, hWN]
                  exact below_put (below_put (below_put (below_put (below_put (below_put HK.out.bel (Nat.le_refl R) _) (Nat.le_refl R) _) (Nat.le_refl R) _) (Nat.le_refl R) _) (Nat.le_refl R) _) (Nat.le_refl R) _
                obtain ⟨y0, y1, y2, y3, y4, y5⟩ := six_cells zz
                have HWN := Lib.hid hWN
                clear hWN zz HK HRF
                cases rb with
                | true =>
                  clear hok
                  go_wp2_with fail
                  rw [← HWN.out]
                  exact bodyPost_ret (v := .tuple #[.agg #[.int .i64 0, .string (ByteArray.mk #[]), .int .i64 0, .int .i64 0, .slice none 0 0, .slice none 0 0], .bool false]) (by simp [results, Try.results22, go_sem, y0, y1, y2, y3, y4, y5, Try.isAgg46, Try.sizeOf46]) rfl ⟨_, by rw [HTD.out], by rw [HTD.out]; exact ano_zero _ _, BF.out⟩
                | false =>
                  have hE : (mkB rs_).toList.isEmpty = false := empty_no (fun e => hok ⟨rfl, e⟩)
                  generalize mkB rs_ = us at *
                  clear hok
                  go_wp2_with fail
                  rw [← HWN.out]
                  exact bodyPost_ret (v := .tuple #[.agg #[.int .i64 0, .string (ByteArray.mk #[]), .int .i64 0, .int .i64 0, .slice none 0 0, .slice none 0 0], .bool false]) (by simp [results, Try.results22, go_sem, y0, y1, y2, y3, y4, y5, Try.isAgg46, Try.sizeOf46]) rfl ⟨_, by rw [HTD.out], by rw [HTD.out]; exact ano_zero _ _, BF.out⟩
end Go.Proofs.Ythegkookfpnbeaa.Wds
