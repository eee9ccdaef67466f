/- State: the program's writer: segments, documents. -/
import Derived.Test.YtmdgjcikekojdaaGreatDoorZe
set_option linter.unusedVariables false
set_option linter.unusedSimpArgs false
set_option maxRecDepth 100000
namespace Go.Proofs.YtmdgjcikekojdaaGreatDoor.Sta
open Go.RowKit Go.Lib Go.Proofs.YtmdgjcikekojdaaGreatDoor.Bx Go.Proofs.YtmdgjcikekojdaaGreatDoor.Frm Go.Proofs.YtmdgjcikekojdaaGreatDoor.Wds

set_option maxHeartbeats 8000000 in
theorem put_Seg {base B : Nat} {w : World} {v : Value} {l : List UInt8} {bad : Bool} (h : Wr base w B v l bad) (x : Seg) (cs : List Value) (hR : segM.R (fun b => b < B) w cs x) (hl : l.length + (segC.enc x).length ≤ 290000000) : Calls Tryz.prog 71 #[.pointer (some ⟨B, 0, none⟩), .agg cs.toArray] w (Put base w B v (segC.put x (l, bad)).1 (segC.put x (l, bad)).2) := by
  obtain ⟨x0, x1, x2, x3, x4⟩ := x
  obtain ⟨u3, c3, u4, c4, rfl, r3, r4⟩ := segM_cells hR
  have HLE : Hid (l.length + ((numL x0).length + ((numL x1).length + ((textL x2).length + (((listC spnC).enc x3).length + (((listC sitC).enc x4).length))))) ≤ 290000000) := by
    show _ ≤ _
    have e : (segC.enc (x0, x1, x2, x3, x4)).length = (numL x0).length + ((numL x1).length + ((textL x2).length + (((listC spnC).enc x3).length + (((listC sitC).enc x4).length)))) := by
      show (numL x0 ++ (numL x1 ++ (textL x2 ++ ((listC spnC).enc x3 ++ ((listC sitC).enc x4))))).length = _
      simp only [List.length_append]
    rw [e] at hl
    exact hl
  clear hR hl
  simp only at r3
  obtain ⟨k3, hk3⟩ : ∃ k, k = x3.length := ⟨_, rfl⟩
  have HK3 := Lib.hid hk3
  have HR3 := Lib.hid r3
  simp only at r4
  obtain ⟨k4, hk4⟩ : ∃ k, k = x4.length := ⟨_, rfl⟩
  have HK4 := Lib.hid hk4
  have HR4 := Lib.hid r4
  obtain ⟨y2, hy2⟩ : ∃ y, y = mkB x2 := ⟨_, rfl⟩
  have HY2 := Lib.hid hy2
  show Calls _ _ #[_, .agg #[.int .i64 x0, .int .i64 x1, .string (mkB x2), .slice u3 x3.length c3, .slice u4 x4.length c4]] _ _
  rw [← hk3, ← hk4]
  rw [← hy2]
  obtain ⟨B1, P1, L1⟩ := box1 w #[.int .i64 x0, .int .i64 x1, .string y2, .slice u3 k3 c3, .slice u4 k4 c4] 112
  obtain ⟨Wa, hWa⟩ : ∃ Wa, Wa = w.alloc (.cells #[.int .i64 x0, .int .i64 x1, .string y2, .slice u3 k3 c3, .slice u4 k4 c4] 112) := ⟨_, rfl⟩
  rw [← hWa] at B1 P1 L1
  have HWA := Lib.hid hWa
  have HW := Lib.hid h
  have HP1 := Lib.hid P1
  have HLA := Lib.hid L1
  have HB1 := Lib.hid B1
  have hmf : ∀ (fn : Fn) (first cap : Array Value) (w : World), (Instr.makeFunc fn first cap).run Tryz.prog w = .ok (.func fn first cap) w := fun _ _ _ _ => rfl
  obtain ⟨q0, hq0⟩ : ∃ q0 : Q, q0 = (l, bad) := ⟨_, rfl⟩
  have K0 : Hid (Wr base Wa B v q0.1 q0.2) := by rw [hq0]; exact h.below B1
  have T0 : Hid (Stp Wa B v Wa v) := Stp.refl _ _ _
  have N0 : Hid (q0.1.length + ((numL x0).length + ((numL x1).length + ((textL x2).length + (((listC spnC).enc x3).length + (((listC sitC).enc x4).length))))) ≤ 290000000) := by rw [hq0]; exact HLE.out
  obtain ⟨q1, hq1⟩ : ∃ q1 : Q, q1 = numC.put x1 (numC.put x0 q0) := ⟨_, rfl⟩
  have N1 : Hid (q1.1.length + ((textL x2).length + (((listC spnC).enc x3).length + (((listC sitC).enc x4).length))) ≤ 290000000) := by
    show _ ≤ _
    have hN := N0.out
    have z0 := numC_ok.put_len x0 (q0)
    have z1 := numC_ok.put_len x1 (numC.put x0 (q0))
    rw [hq1]
    try simp only [show ∀ t, numC.enc t = numL t from fun _ => rfl, show ∀ t, flagC.enc t = flagL t from fun _ => rfl, show ∀ t, textC.enc t = textL t from fun _ => rfl] at *
    omega
  obtain ⟨q2, hq2⟩ : ∃ q2 : Q, q2 = textC.put x2 q1 := ⟨_, rfl⟩
  have N2 : Hid (q2.1.length + (((listC spnC).enc x3).length + (((listC sitC).enc x4).length)) ≤ 290000000) := by
    show _ ≤ _
    have hN := N1.out
    have z2 := textC_ok.put_len x2 (q1)
    rw [hq2]
    try simp only [show ∀ t, numC.enc t = numL t from fun _ => rfl, show ∀ t, flagC.enc t = flagL t from fun _ => rfl, show ∀ t, textC.enc t = textL t from fun _ => rfl] at *
    omega
  obtain ⟨q3, hq3⟩ : ∃ q3 : Q, q3 = (listC spnC).put x3 q2 := ⟨_, rfl⟩
  have N3 : Hid (q3.1.length + (((listC sitC).enc x4).length) ≤ 290000000) := by
    show _ ≤ _
    have hN := N2.out
    have z3 := (listC_ok spnC_ok).put_len x3 (q2)
    rw [hq3]
    try simp only [show ∀ t, numC.enc t = numL t from fun _ => rfl, show ∀ t, flagC.enc t = flagL t from fun _ => rfl, show ∀ t, textC.enc t = textL t from fun _ => rfl] at *
    omega
  obtain ⟨q4, hq4⟩ : ∃ q4 : Q, q4 = (listC sitC).put x4 q3 := ⟨_, rfl⟩
  have N4 : Hid (q4.1.length ≤ 290000000) := by
    show _ ≤ _
    have hN := N3.out
    have z4 := (listC_ok sitC_ok).put_len x4 (q3)
    rw [hq4]
    try simp only [show ∀ t, numC.enc t = numL t from fun _ => rfl, show ∀ t, flagC.enc t = flagL t from fun _ => rfl, show ∀ t, textC.enc t = textL t from fun _ => rfl] at *
    omega
  have HF : Hid (segC.put (x0, x1, x2, x3, x4) (l, bad) = q4) := by
    show _ = _
    rw [hq4, hq3, hq2, hq1, hq0]
    rfl
  have HQ1 := Lib.hid hq1
  have HQ2 := Lib.hid hq2
  have HQ3 := Lib.hid hq3
  have HQ4 := Lib.hid hq4
  rw [HF.out]
  clear h hWa B1 P1 L1 hq0 HLE hq1 hq2 hq3 hq4 hk3 r3 hk4 r4 hy2 HF
  go_enter Tryz.func71, Tryz.ntmps71
  have Z0 : Wa.heap[w.heap.size]? = some (.cells #[.int .i64 x0, .int .i64 x1, .string y2, .slice u3 k3 c3, .slice u4 k4 c4] 112 (0, 0)) := Stp.keep HW.out T0.out (Nat.le_refl _) (by have := HLA.out; omega) HP1.out
  have a0 : Wa.cell? ⟨w.heap.size, 0, none⟩ = some (.int .i64 x0) := by rw [cell_of_row _ _ _ _ _ _ Z0]; rfl
  have a1 : Wa.cell? ⟨w.heap.size, 1, none⟩ = some (.int .i64 x1) := by rw [cell_of_row _ _ _ _ _ _ Z0]; rfl
  obtain ⟨B2, P2, L2⟩ := box1 Wa #[.int .i64 x0, .int .i64 x1] 3
  obtain ⟨Wb0, hWb⟩ : ∃ Wb, Wb = (Wa.alloc (.cells #[.int .i64 x0, .int .i64 x1] 3)).drew := ⟨_, rfl⟩
  have ST := stays_drew (stays_new K0.out (Below.refl _ _) #[.int .i64 x0, .int .i64 x1] [x0, x1] rfl)
  replace B2 := Below.drew B2
  rw [← hWb] at B2 ST
  have HWB := Lib.hid hWb
  have C : Hid (Calls Tryz.prog 32 #[.pointer (some ⟨B, 0, none⟩), .slice (some ⟨Wa.heap.size, 0, none⟩) 2 2] Wb0 (Put base Wb0 B v q1.1 q1.2)) := by
    have c := pnums_any (K0.out.below B2) _ 2 [x0, x1] ST (by have := N0.out; show q0.1.length + 8 * 2 ≤ 300000000; omega)
    have e : q1 = (q0.1 ++ [x0, x1].flatMap numL, q0.2) := by rw [HQ1.out]; show (_, _) = (_, _); simp [numC]
    rw [e]
    exact c
  have HST : Hid (∀ {w7 : World} {v7 : Value}, Stp Wb0 B v w7 v7 → Stp Wa B v w7 v7) := fun s => T0.out.trans (K0.out.first B2 s)
  have HZ0 := Lib.hid Z0
  have HSZ : Hid (w.heap.size < Wa.heap.size) := (Array.getElem?_eq_some_iff.1 Z0).1
  have KR : Hid (Below Wa.heap.size Wa Wa) := Below.refl _ _
  clear P2 L2 hWb ST B2 Z0
  go_upto_region 1 with fail
  rw [← HWA.out]
  have BX : Hid (∀ w', Below Wa.heap.size Wa w' → w'.cell? ⟨w.heap.size, 0, none⟩ = some (.int .i64 x0) ∧ w'.cell? ⟨w.heap.size, 1, none⟩ = some (.int .i64 x1)) := fun w' hb => by
    have zz : w'.heap[w.heap.size]? = some (.cells #[.int .i64 x0, .int .i64 x1, .string y2, .slice u3 k3 c3, .slice u4 k4 c4] 112 (0, 0)) := (hb.block _ HSZ.out).trans HZ0.out
    exact ⟨by rw [cell_of_row _ _ _ _ _ _ zz]; rfl, by rw [cell_of_row _ _ _ _ _ _ zz]; rfl⟩
  go_region_held3 (fun w' => w'.cell? ⟨w.heap.size, 0, none⟩ = some (.int .i64 x0) ∧ w'.cell? ⟨w.heap.size, 1, none⟩ = some (.int .i64 x1))
    (first
      | exact k5.out
      | (refine BX.out _ ?_; focus ((repeat first | assumption | exact KR.out | apply Below.drew | apply below_drews | refine Below.alloc ?_ (Nat.le_refl _) _); done)))
    (first
      | (go_at_call 32; rw [← HWB.out]; (refine C.out.mono ?_); rintro e w1 ⟨rfl, v1, KTT, STT⟩; have T1 := Lib.hid (HST.out STT); have ZTT : w1.heap[w.heap.size]? = some (.cells #[.int .i64 x0, .int .i64 x1, .string y2, .slice u3 k3 c3, .slice u4 k4 c4] 112 (0, 0)) := Stp.keep HW.out T1.out (Nat.le_refl _) (by have := HLA.out; omega) HP1.out; have k5 : Hid (w1.cell? ⟨w.heap.size, 0, none⟩ = some (.int .i64 x0) ∧ w1.cell? ⟨w.heap.size, 1, none⟩ = some (.int .i64 x1)) := ⟨by rw [cell_of_row _ _ _ _ _ _ ZTT]; rfl, by rw [cell_of_row _ _ _ _ _ _ ZTT]; rfl⟩))
  have K1 := Lib.hid KTT
  clear KTT STT C HWB HST HSZ KR BX k5 ZTT HZ0 a0 a1
  have Z1 : w1.heap[w.heap.size]? = some (.cells #[.int .i64 x0, .int .i64 x1, .string y2, .slice u3 k3 c3, .slice u4 k4 c4] 112 (0, 0)) := Stp.keep HW.out T1.out (Nat.le_refl _) (by have := HLA.out; omega) HP1.out
  have a2 : w1.cell? ⟨w.heap.size, 2, none⟩ = some (.string y2) := by rw [cell_of_row _ _ _ _ _ _ Z1]; rfl
  have C : Hid (Calls Tryz.prog 76 #[.pointer (some ⟨B, 0, none⟩), .string y2] w1.drew (Put base w1 B v1 q2.1 q2.2)) := by
    rw [HQ2.out, HY2.out]
    exact (ptext_any K1.out.drew x2 (by have := N1.out; omega) (by have := N1.out; have e : (textL x2).length = x2.length + 2 := rfl; omega)).mono fun _ _ => Put.undrew
  clear Z1
  go_upto_region 2 with fail
  refine still_tailW 5 (by kernel_rfl) (by kernel_rfl) ?_
  simp only [List.take_succ_cons, List.take_zero, List.drop_succ_cons, List.drop_zero]
  have da := drew_cell a2
  generalize w1.drew = Wd1 at *
  repeat still_step
  refine wpStill_nil ?_
  clear da
  go_wp2_with fail
  refine C.out.mono ?_
  rintro e w2 ⟨rfl, v2, KTT, STT⟩
  have T2 := Lib.hid (T1.out.trans STT)
  have K2 := Lib.hid KTT
  clear KTT STT C a2
  have Z2 : w2.heap[w.heap.size]? = some (.cells #[.int .i64 x0, .int .i64 x1, .string y2, .slice u3 k3 c3, .slice u4 k4 c4] 112 (0, 0)) := Stp.keep HW.out T2.out (Nat.le_refl _) (by have := HLA.out; omega) HP1.out
  have a3 : w2.cell? ⟨w.heap.size, 3, none⟩ = some (.slice u3 k3 c3) := by rw [cell_of_row _ _ _ _ _ _ Z2]; rfl
  have C : Hid (Calls Tryz.prog 98 #[.pointer (some ⟨B, 0, none⟩), .slice u3 k3 c3, .func (.func 99) #[.pointer (some ⟨B, 0, none⟩)] #[]] w2 (Put base w2 B v2 q3.1 q3.2)) := by
    have r := HR3.out.keep spnM_ok (Keep.low ((HW.out.first HB1.out T2.out).low HW.out) (fun b h => h))
    rw [HQ3.out, HK3.out]
    exact plist_Span K2.out u3 c3 x3 r (by have := N2.out; omega)
  clear Z2
  go_upto_region 3 with fail
  go_wp2_with fail
  refine C.out.mono ?_
  rintro e w3 ⟨rfl, v3, KTT, STT⟩
  have T3 := Lib.hid (T2.out.trans STT)
  have K3 := Lib.hid KTT
  clear KTT STT C a3
  have Z3 : w3.heap[w.heap.size]? = some (.cells #[.int .i64 x0, .int .i64 x1, .string y2, .slice u3 k3 c3, .slice u4 k4 c4] 112 (0, 0)) := Stp.keep HW.out T3.out (Nat.le_refl _) (by have := HLA.out; omega) HP1.out
  have a4 : w3.cell? ⟨w.heap.size, 4, none⟩ = some (.slice u4 k4 c4) := by rw [cell_of_row _ _ _ _ _ _ Z3]; rfl
  have C : Hid (Calls Tryz.prog 100 #[.pointer (some ⟨B, 0, none⟩), .slice u4 k4 c4, .func (.func 101) #[.pointer (some ⟨B, 0, none⟩)] #[]] w3 (Put base w3 B v3 q4.1 q4.2)) := by
    have r := HR4.out.keep sitM_ok (Keep.low ((HW.out.first HB1.out T3.out).low HW.out) (fun b h => h))
    rw [HQ4.out, HK4.out]
    exact plist_Site K3.out u4 c4 x4 r (by have := N3.out; omega)
  clear Z3
  go_upto_region 4 with fail
  go_wp2_with fail
  refine C.out.mono ?_
  rintro e w4 ⟨rfl, v4, KTT, STT⟩
  have T4 := Lib.hid (T3.out.trans STT)
  have K4 := Lib.hid KTT
  clear KTT STT C a4
  have FE : Hid (Put base w B v q4.1 q4.2 (.returned (.tuple #[])) w4) := ⟨rfl, v4, K4.out, HW.out.first HB1.out T4.out⟩
  go_wp2_with fail
  all_goals exact bodyPost_ret (v := .tuple #[]) (by simp [results, Tryz.results71, go_sem]) rfl FE.out
set_option maxHeartbeats 8000000 in
theorem puts_Seg {base B : Nat} {w : World} {v : Value} {q0 : Q} (h : Wr base w B v q0.1 q0.2) (a : Option Addr) (c : Nat) (xs : List (Seg)) (hq : RowP segM (fun b => b < B) w (.slice a xs.length c) xs) (hl : q0.1.length + (xs.flatMap segC.enc).length ≤ 290000000) : Calls Tryz.prog 97 #[.pointer (some ⟨B, 0, none⟩), .slice a xs.length c, .func (.func 71) #[.pointer (some ⟨B, 0, none⟩)] #[]] w (Put base w B v (foldW segC.put xs q0).1 (foldW segC.put xs q0).2) := by
  have hn9 : xs.length ≤ 9223372036854775807 := by have := hq.len; unfold maxLen at this; omega
  obtain ⟨n, hn⟩ : ∃ n, n = xs.length := ⟨_, rfl⟩
  obtain ⟨QF, hQF⟩ : ∃ QF, QF = foldW segC.put xs q0 := ⟨_, rfl⟩
  have HF : Hid (QF = foldW segC.put xs q0) := hQF
  have HL : Hid (n = xs.length) := hn
  have HLL0 : Hid (q0.1.length + ((xs.drop 0).flatMap segC.enc).length ≤ 290000000) := hl
  rw [← hQF]
  have HQ : Hid (RowP segM (fun b => b < B) w (.slice a n c) xs) := by show RowP _ _ _ _ _; rw [hn]; exact hq
  rw [← hn] at hn9 ⊢
  have HW := Lib.hid h
  have HS1 : Hid (Stp w B v w v) := Stp.refl _ _ _
  clear h hl hq hn hQF
  go_enter Tryz.func97, Tryz.ntmps97
  go_wp2_with fail
  go_loopg [10] n (fun gg i_ wr => ∃ (i : Nat) (u : Value) (q : Q), i ≤ n ∧ n - i ≤ gg ∧ i_ = .int .i64 (i : Nat) ∧ Hid (Wr base wr B u q.1 q.2) ∧ Hid (Stp w B v wr u) ∧ Hid (QF = foldW segC.put (xs.drop i) q) ∧ Hid (q.1.length + ((xs.drop i).flatMap segC.enc).length ≤ 290000000))
  case atStart => exact ⟨0, v, q0, by omega, by omega, rfl, HW, HS1, HF, HLL0⟩
  case round =>
    obtain ⟨i, u, ⟨ql, qb⟩, hi, hg, rfl, HR, HS, HT, HLL⟩ := hrel
    by_cases hin : i < n
    · have iw : ((i : Nat) : Int) < (n : Int) := by omega
      have n0 : (0 : Int) ≤ ((i : Nat) : Int) := by omega
      have hix : i < xs.length := by rw [← HL.out]; exact hin
      have HN : Hid (QF = if qb = true then (ql, qb) else foldW segC.put (xs.drop (i + 1)) (segC.put xs[i] (ql, qb))) := by show _ = _; rw [HT.out]; exact fold_next hix _
      have HLN : Hid (ql.length + ((segC.enc xs[i]).length + ((xs.drop (i + 1)).flatMap segC.enc).length) ≤ 290000000) := by
        have h9 := HLL.out
        rw [List.drop_eq_getElem_cons hix, List.flatMap_cons, List.length_append] at h9
        exact h9
      have hrow := HQ.out.keep segM_ok (Keep.low (HS.out.low HW.out) (fun b h => h))
      obtain ⟨b, off, cs, rfl, hlt, _, hR, hcc⟩ := hrow.get hix
      obtain ⟨x, hx⟩ : ∃ x, x = xs[i] := ⟨_, rfl⟩
      rw [← hx] at hR
      have HN' : Hid (QF = if qb = true then (ql, qb) else foldW segC.put (xs.drop (i + 1)) (segC.put x (ql, qb))) := by rw [hx]; exact HN
      have HLN' : Hid (ql.length + ((segC.enc x).length + ((xs.drop (i + 1)).flatMap segC.enc).length) ≤ 290000000) := by rw [hx]; exact HLN
      clear HN HLN hx
      obtain ⟨u3, c3, u4, c4, rfl, _, _⟩ := segM_cells hR
      have hc0 : wr.cell? ⟨b, off + i * 5, none⟩ = some (.int .i64 x.1) := hcc 0 _ rfl
      have hc1 : wr.cell? ⟨b, off + i * 5 + 1, none⟩ = some (.int .i64 x.2.1) := hcc 1 _ rfl
      have hc2 : wr.cell? ⟨b, off + i * 5 + 2, none⟩ = some (.string (mkB x.2.2.1)) := hcc 2 _ rfl
      have hc3 : wr.cell? ⟨b, off + i * 5 + 3, none⟩ = some (.slice u3 x.2.2.2.1.length c3) := hcc 3 _ rfl
      have hc4 : wr.cell? ⟨b, off + i * 5 + 4, none⟩ = some (.slice u4 x.2.2.2.2.length c4) := hcc 4 _ rfl
      obtain ⟨Wa, hWa⟩ : ∃ Wa, Wa = wr.alloc (.cells #[.int .i64 x.1, .int .i64 x.2.1, .string (mkB x.2.2.1), .slice u3 x.2.2.2.1.length c3, .slice u4 x.2.2.2.2.length c4] 112) := ⟨_, rfl⟩
      have bA : Below wr.heap.size wr Wa := by rw [hWa]; exact (box1 wr _ _).1
      have zA : Wa.heap[wr.heap.size]? = some (.cells #[.int .i64 x.1, .int .i64 x.2.1, .string (mkB x.2.2.1), .slice u3 x.2.2.2.1.length c3, .slice u4 x.2.2.2.2.length c4] 112 (0, 0)) := by rw [hWa]; exact (box1 wr _ _).2.1
      have KA := HR.out.below bA
      have HWA := Lib.hid hWa
      have wa1 : Wa.cell? ⟨B, 1, none⟩ = some (.bool qb) := KA.cells.2.1
      have HSA : Hid (Stp w B v Wa u) := HS.out.trans (HR.out.first bA (Stp.refl _ _ _))
      have hRA := segM_ok.keep hR (Keep.below bA)
      obtain ⟨m0, m1, m2, m3, m4⟩ := five_cells zA
      cases qb with
      | true =>
        have FE : Hid (Put base w B v QF.1 QF.2 (.returned (.tuple #[])) Wa) := by
          have e := HN'.out
          rw [if_pos rfl] at e
          show Put _ _ _ _ _ _ _ _
          rw [e]
          exact ⟨rfl, u, KA, HSA.out⟩
        clear HN' HT HR HS HLN' HLL KA HSA hrow hcc hR hRA zA hWa bA
        go_upto_region 3 with fail
        rw [← HWA.out]
        go_wp2_with fail
        all_goals exact bodyPost_ret (v := .tuple #[]) (by simp [results, Tryz.results97, go_sem]) rfl FE.out
      | false =>
        have C2 := Lib.hid (put_Seg KA x _ hRA (Nat.le_trans (Nat.add_le_add_left (Nat.le_add_right _ _) _) HLN'.out))
        have HN2 : Hid (QF = foldW segC.put (xs.drop (i + 1)) (segC.put x (ql, false))) := HN'.out
        have HLN2 : Hid ((segC.put x (ql, false)).1.length + ((xs.drop (i + 1)).flatMap segC.enc).length ≤ 290000000) := by
          have h1 := segC_ok.put_len x (ql, false)
          have h2 := HLN'.out
          show _ ≤ _
          simp only at h1 h2 ⊢
          omega
        obtain ⟨q2, hq2⟩ : ∃ q2, q2 = segC.put x (ql, false) := ⟨_, rfl⟩
        rw [← hq2] at HN2 HLN2
        have C3 : Hid (Calls Tryz.prog 71 #[.pointer (some ⟨B, 0, none⟩), .agg #[.int .i64 x.1, .int .i64 x.2.1, .string (mkB x.2.2.1), .slice u3 x.2.2.2.1.length c3, .slice u4 x.2.2.2.2.length c4]] Wa (Put base Wa B u q2.1 q2.2)) := by rw [hq2]; exact C2.out
        clear HN' HT HR HS HLN' HLL KA C2 hq2 hrow hcc hR hRA zA hWa bA
        go_upto_region 3 with fail
        rw [← HWA.out]
        go_wp2_with fail
        refine C3.out.mono ?_
        rintro e w5 ⟨rfl, u5, K5, S5⟩
        have HK5 := Lib.hid K5
        have HS5 := Lib.hid (HSA.out.trans S5)
        clear K5 S5 C3 HSA
        go_wp2_with fail
        go_roundg (n - (i + 1))
        case measure => omega
        case rel => exact ⟨i + 1, u5, q2, by omega, Nat.le_refl _, by go_num, HK5, HS5, HN2, HLN2⟩
    · obtain rfl : i = n := by omega
      have iw : ¬ ((i : Nat) : Int) < ((i : Nat) : Int) := by omega
      have FE : Hid (Put base w B v QF.1 QF.2 (.returned (.tuple #[])) wr) := by
        have e := HT.out
        rw [List.drop_of_length_le (by rw [← HL.out]; exact Nat.le_refl _)] at e
        show Put _ _ _ _ _ _ _ _
        rw [e]
        exact ⟨rfl, u, HR.out, HS.out⟩
      clear HR HS HT HLL
      go_wp2_with fail
      all_goals exact bodyPost_ret (v := .tuple #[]) (by simp [results, Tryz.results97, go_sem]) rfl FE.out
set_option maxHeartbeats 8000000 in
theorem plist_Seg {base B : Nat} {w : World} {v : Value} {l : List UInt8} {bad : Bool} (h : Wr base w B v l bad) (a : Option Addr) (c : Nat) (xs : List (Seg)) (hq : RowP segM (fun b => b < B) w (.slice a xs.length c) xs) (hl : l.length + ((listC segC).enc xs).length ≤ 290000000) : Calls Tryz.prog 70 #[.pointer (some ⟨B, 0, none⟩), .slice a xs.length c, .func (.func 71) #[.pointer (some ⟨B, 0, none⟩)] #[]] w (Put base w B v ((listC segC).put xs (l, bad)).1 ((listC segC).put xs (l, bad)).2) := by
  have hn9 : xs.length ≤ 9223372036854775807 := by have := hq.len; unfold maxLen at this; omega
  obtain ⟨n, hn⟩ : ∃ n, n = xs.length := ⟨_, rfl⟩
  obtain ⟨q0, hq0⟩ : ∃ q0, q0 = pairW xs.length (l, bad) := ⟨_, rfl⟩
  have hl' : l.length + (2 + (xs.flatMap segC.enc).length) ≤ 290000000 := by
    have e : ((listC segC).enc xs).length = 2 + (xs.flatMap segC.enc).length := by show (pairL _ ++ _).length = _; rw [List.length_append, pair_len]
    rw [e] at hl
    exact hl
  have C0 := Lib.hid (ppairW_any h (xs.length : Int) (by omega))
  have HL : q0.1.length + (xs.flatMap segC.enc).length ≤ 290000000 := by
    have := pairW_len xs.length (l, bad)
    rw [← hq0] at this
    simp only at this
    omega
  have CI : Hid (∀ w1 v1, Wr base w1 B v1 q0.1 q0.2 → Stp w B v w1 v1 → Calls Tryz.prog 97 #[.pointer (some ⟨B, 0, none⟩), .slice a n c, .func (.func 71) #[.pointer (some ⟨B, 0, none⟩)] #[]] w1 (Put base w B v ((listC segC).put xs (l, bad)).1 ((listC segC).put xs (l, bad)).2)) := fun w1 v1 k s => by
    rw [hn]
    have e : (listC segC).put xs (l, bad) = foldW segC.put xs q0 := by rw [hq0]; rfl
    rw [e]
    exact (puts_Seg k a c xs (hq.keep segM_ok (Keep.low (s.low h) (fun b h => h))) HL).mono fun _ _ hh => Put.then s hh
  rw [← hq0] at C0
  generalize (listC segC).put xs (l, bad) = QF at *
  rw [← hn] at C0 hn9 ⊢
  clear h hl hl' hq hn hq0 HL
  go_enter Tryz.func70, Tryz.ntmps70
  go_wp2_with fail
  refine C0.out.mono ?_
  rintro e w1 ⟨rfl, v1, K1, S1⟩
  have C1 := Lib.hid (CI.out w1 v1 K1 S1)
  clear K1 S1 C0 CI
  go_wp2_with fail
  refine C1.out.mono ?_
  rintro e w2 ⟨rfl, H⟩
  have HH := Lib.hid H
  clear H C1
  go_wp2_with fail
  all_goals exact bodyPost_ret (v := .tuple #[]) (by simp [results, Tryz.results70, go_sem]) rfl ⟨rfl, HH.out⟩
set_option maxHeartbeats 8000000 in
theorem put_Doc {base B : Nat} {w : World} {v : Value} {l : List UInt8} {bad : Bool} (h : Wr base w B v l bad) (x : Doc) (cs : List Value) (hR : docM.R (fun b => b < B) w cs x) (hl : l.length + (docC.enc x).length ≤ 290000000) : Calls Tryz.prog 36 #[.pointer (some ⟨B, 0, none⟩), .agg cs.toArray] w (Put base w B v (docC.put x (l, bad)).1 (docC.put x (l, bad)).2) := by
  obtain ⟨x0, x1⟩ := x
  obtain ⟨u1, c1, rfl, r1⟩ := docM_cells hR
  have HLE : Hid (l.length + ((flagL x0).length + (((listC segC).enc x1).length)) ≤ 290000000) := by
    show _ ≤ _
    have e : (docC.enc (x0, x1)).length = (flagL x0).length + (((listC segC).enc x1).length) := by
      show (flagL x0 ++ ((listC segC).enc x1)).length = _
      simp only [List.length_append]
    rw [e] at hl
    exact hl
  clear hR hl
  simp only at r1
  obtain ⟨k1, hk1⟩ : ∃ k, k = x1.length := ⟨_, rfl⟩
  have HK1 := Lib.hid hk1
  have HR1 := Lib.hid r1
  show Calls _ _ #[_, .agg #[.bool x0, .slice u1 x1.length c1]] _ _
  rw [← hk1]
  obtain ⟨B1, P1, L1⟩ := box1 w #[.bool x0, .slice u1 k1 c1] 59
  obtain ⟨Wa, hWa⟩ : ∃ Wa, Wa = w.alloc (.cells #[.bool x0, .slice u1 k1 c1] 59) := ⟨_, rfl⟩
  rw [← hWa] at B1 P1 L1
  have HWA := Lib.hid hWa
  have HW := Lib.hid h
  have HP1 := Lib.hid P1
  have HLA := Lib.hid L1
  have HB1 := Lib.hid B1
  have hmf : ∀ (fn : Fn) (first cap : Array Value) (w : World), (Instr.makeFunc fn first cap).run Tryz.prog w = .ok (.func fn first cap) w := fun _ _ _ _ => rfl
  obtain ⟨q0, hq0⟩ : ∃ q0 : Q, q0 = (l, bad) := ⟨_, rfl⟩
  have K0 : Hid (Wr base Wa B v q0.1 q0.2) := by rw [hq0]; exact h.below B1
  have T0 : Hid (Stp Wa B v Wa v) := Stp.refl _ _ _
  have N0 : Hid (q0.1.length + ((flagL x0).length + (((listC segC).enc x1).length)) ≤ 290000000) := by rw [hq0]; exact HLE.out
  obtain ⟨q1, hq1⟩ : ∃ q1 : Q, q1 = flagC.put x0 q0 := ⟨_, rfl⟩
  have N1 : Hid (q1.1.length + (((listC segC).enc x1).length) ≤ 290000000) := by
    show _ ≤ _
    have hN := N0.out
    have z0 := flagC_ok.put_len x0 (q0)
    rw [hq1]
    try simp only [show ∀ t, numC.enc t = numL t from fun _ => rfl, show ∀ t, flagC.enc t = flagL t from fun _ => rfl, show ∀ t, textC.enc t = textL t from fun _ => rfl] at *
    omega
  obtain ⟨q2, hq2⟩ : ∃ q2 : Q, q2 = (listC segC).put x1 q1 := ⟨_, rfl⟩
  have N2 : Hid (q2.1.length ≤ 290000000) := by
    show _ ≤ _
    have hN := N1.out
    have z1 := (listC_ok segC_ok).put_len x1 (q1)
    rw [hq2]
    try simp only [show ∀ t, numC.enc t = numL t from fun _ => rfl, show ∀ t, flagC.enc t = flagL t from fun _ => rfl, show ∀ t, textC.enc t = textL t from fun _ => rfl] at *
    omega
  have HF : Hid (docC.put (x0, x1) (l, bad) = q2) := by
    show _ = _
    rw [hq2, hq1, hq0]
    rfl
  have HQ1 := Lib.hid hq1
  have HQ2 := Lib.hid hq2
  rw [HF.out]
  clear h hWa B1 P1 L1 hq0 HLE hq1 hq2 hk1 r1 HF
  go_enter Tryz.func36, Tryz.ntmps36
  have Z0 : Wa.heap[w.heap.size]? = some (.cells #[.bool x0, .slice u1 k1 c1] 59 (0, 0)) := Stp.keep HW.out T0.out (Nat.le_refl _) (by have := HLA.out; omega) HP1.out
  have a0 : Wa.cell? ⟨w.heap.size, 0, none⟩ = some (.bool x0) := by rw [cell_of_row _ _ _ _ _ _ Z0]; rfl
  have C : Hid (Calls Tryz.prog 69 #[.pointer (some ⟨B, 0, none⟩), .bool x0] Wa.drew (Put base Wa B v q1.1 q1.2)) := by
    rw [HQ1.out]
    exact (pbool_any K0.out.drew x0 (by have := N0.out; omega)).mono fun _ _ => Put.undrew
  clear Z0
  go_upto_region 1 with fail
  rw [← HWA.out]
  refine still_tailW 5 (by kernel_rfl) (by kernel_rfl) ?_
  simp only [List.take_succ_cons, List.take_zero, List.drop_succ_cons, List.drop_zero]
  have da := drew_cell a0
  generalize Wa.drew = Wd0 at *
  repeat still_step
  refine wpStill_nil ?_
  clear da
  go_wp2_with fail
  refine C.out.mono ?_
  rintro e w1 ⟨rfl, v1, KTT, STT⟩
  have T1 := Lib.hid (T0.out.trans STT)
  have K1 := Lib.hid KTT
  clear KTT STT C a0
  have Z1 : w1.heap[w.heap.size]? = some (.cells #[.bool x0, .slice u1 k1 c1] 59 (0, 0)) := Stp.keep HW.out T1.out (Nat.le_refl _) (by have := HLA.out; omega) HP1.out
  have a1 : w1.cell? ⟨w.heap.size, 1, none⟩ = some (.slice u1 k1 c1) := by rw [cell_of_row _ _ _ _ _ _ Z1]; rfl
  have C : Hid (Calls Tryz.prog 70 #[.pointer (some ⟨B, 0, none⟩), .slice u1 k1 c1, .func (.func 71) #[.pointer (some ⟨B, 0, none⟩)] #[]] w1 (Put base w1 B v1 q2.1 q2.2)) := by
    have r := HR1.out.keep segM_ok (Keep.low ((HW.out.first HB1.out T1.out).low HW.out) (fun b h => h))
    rw [HQ2.out, HK1.out]
    exact plist_Seg K1.out u1 c1 x1 r (by have := N1.out; omega)
  clear Z1
  go_upto_region 2 with fail
  go_wp2_with fail
  refine C.out.mono ?_
  rintro e w2 ⟨rfl, v2, KTT, STT⟩
  have T2 := Lib.hid (T1.out.trans STT)
  have K2 := Lib.hid KTT
  clear KTT STT C a1
  have FE : Hid (Put base w B v q2.1 q2.2 (.returned (.tuple #[])) w2) := ⟨rfl, v2, K2.out, HW.out.first HB1.out T2.out⟩
  go_wp2_with fail
  all_goals exact bodyPost_ret (v := .tuple #[]) (by simp [results, Tryz.results36, go_sem]) rfl FE.out
set_option maxHeartbeats 8000000 in
theorem puts_Doc {base B : Nat} {w : World} {v : Value} {q0 : Q} (h : Wr base w B v q0.1 q0.2) (a : Option Addr) (c : Nat) (xs : List (Doc)) (hq : RowP docM (fun b => b < B) w (.slice a xs.length c) xs) (hl : q0.1.length + (xs.flatMap docC.enc).length ≤ 290000000) : Calls Tryz.prog 68 #[.pointer (some ⟨B, 0, none⟩), .slice a xs.length c, .func (.func 36) #[.pointer (some ⟨B, 0, none⟩)] #[]] w (Put base w B v (foldW docC.put xs q0).1 (foldW docC.put xs q0).2) := by
  have hn9 : xs.length ≤ 9223372036854775807 := by have := hq.len; unfold maxLen at this; omega
  obtain ⟨n, hn⟩ : ∃ n, n = xs.length := ⟨_, rfl⟩
  obtain ⟨QF, hQF⟩ : ∃ QF, QF = foldW docC.put xs q0 := ⟨_, rfl⟩
  have HF : Hid (QF = foldW docC.put xs q0) := hQF
  have HL : Hid (n = xs.length) := hn
  have HLL0 : Hid (q0.1.length + ((xs.drop 0).flatMap docC.enc).length ≤ 290000000) := hl
  rw [← hQF]
  have HQ : Hid (RowP docM (fun b => b < B) w (.slice a n c) xs) := by show RowP _ _ _ _ _; rw [hn]; exact hq
  rw [← hn] at hn9 ⊢
  have HW := Lib.hid h
  have HS1 : Hid (Stp w B v w v) := Stp.refl _ _ _
  clear h hl hq hn hQF
  go_enter Tryz.func68, Tryz.ntmps68
  go_wp2_with fail
  go_loopg [10] n (fun gg i_ wr => ∃ (i : Nat) (u : Value) (q : Q), i ≤ n ∧ n - i ≤ gg ∧ i_ = .int .i64 (i : Nat) ∧ Hid (Wr base wr B u q.1 q.2) ∧ Hid (Stp w B v wr u) ∧ Hid (QF = foldW docC.put (xs.drop i) q) ∧ Hid (q.1.length + ((xs.drop i).flatMap docC.enc).length ≤ 290000000))
  case atStart => exact ⟨0, v, q0, by omega, by omega, rfl, HW, HS1, HF, HLL0⟩
  case round =>
    obtain ⟨i, u, ⟨ql, qb⟩, hi, hg, rfl, HR, HS, HT, HLL⟩ := hrel
    by_cases hin : i < n
    · have iw : ((i : Nat) : Int) < (n : Int) := by omega
      have n0 : (0 : Int) ≤ ((i : Nat) : Int) := by omega
      have hix : i < xs.length := by rw [← HL.out]; exact hin
      have HN : Hid (QF = if qb = true then (ql, qb) else foldW docC.put (xs.drop (i + 1)) (docC.put xs[i] (ql, qb))) := by show _ = _; rw [HT.out]; exact fold_next hix _
      have HLN : Hid (ql.length + ((docC.enc xs[i]).length + ((xs.drop (i + 1)).flatMap docC.enc).length) ≤ 290000000) := by
        have h9 := HLL.out
        rw [List.drop_eq_getElem_cons hix, List.flatMap_cons, List.length_append] at h9
        exact h9
      have hrow := HQ.out.keep docM_ok (Keep.low (HS.out.low HW.out) (fun b h => h))
      obtain ⟨b, off, cs, rfl, hlt, _, hR, hcc⟩ := hrow.get hix
      obtain ⟨x, hx⟩ : ∃ x, x = xs[i] := ⟨_, rfl⟩
      rw [← hx] at hR
      have HN' : Hid (QF = if qb = true then (ql, qb) else foldW docC.put (xs.drop (i + 1)) (docC.put x (ql, qb))) := by rw [hx]; exact HN
      have HLN' : Hid (ql.length + ((docC.enc x).length + ((xs.drop (i + 1)).flatMap docC.enc).length) ≤ 290000000) := by rw [hx]; exact HLN
      clear HN HLN hx
      obtain ⟨u1, c1, rfl, _⟩ := docM_cells hR
      have hc0 : wr.cell? ⟨b, off + i * 2, none⟩ = some (.bool x.1) := hcc 0 _ rfl
      have hc1 : wr.cell? ⟨b, off + i * 2 + 1, none⟩ = some (.slice u1 x.2.length c1) := hcc 1 _ rfl
      obtain ⟨Wa, hWa⟩ : ∃ Wa, Wa = wr.alloc (.cells #[.bool x.1, .slice u1 x.2.length c1] 59) := ⟨_, rfl⟩
      have bA : Below wr.heap.size wr Wa := by rw [hWa]; exact (box1 wr _ _).1
      have zA : Wa.heap[wr.heap.size]? = some (.cells #[.bool x.1, .slice u1 x.2.length c1] 59 (0, 0)) := by rw [hWa]; exact (box1 wr _ _).2.1
      have KA := HR.out.below bA
      have HWA := Lib.hid hWa
      have wa1 : Wa.cell? ⟨B, 1, none⟩ = some (.bool qb) := KA.cells.2.1
      have HSA : Hid (Stp w B v Wa u) := HS.out.trans (HR.out.first bA (Stp.refl _ _ _))
      have hRA := docM_ok.keep hR (Keep.below bA)
      obtain ⟨m0, m1⟩ := two_cells zA
      cases qb with
      | true =>
        have FE : Hid (Put base w B v QF.1 QF.2 (.returned (.tuple #[])) Wa) := by
          have e := HN'.out
          rw [if_pos rfl] at e
          show Put _ _ _ _ _ _ _ _
          rw [e]
          exact ⟨rfl, u, KA, HSA.out⟩
        clear HN' HT HR HS HLN' HLL KA HSA hrow hcc hR hRA zA hWa bA
        go_upto_region 3 with fail
        rw [← HWA.out]
        go_wp2_with fail
        all_goals exact bodyPost_ret (v := .tuple #[]) (by simp [results, Tryz.results68, go_sem]) rfl FE.out
      | false =>
        have C2 := Lib.hid (put_Doc KA x _ hRA (Nat.le_trans (Nat.add_le_add_left (Nat.le_add_right _ _) _) HLN'.out))
        have HN2 : Hid (QF = foldW docC.put (xs.drop (i + 1)) (docC.put x (ql, false))) := HN'.out
        have HLN2 : Hid ((docC.put x (ql, false)).1.length + ((xs.drop (i + 1)).flatMap docC.enc).length ≤ 290000000) := by
          have h1 := docC_ok.put_len x (ql, false)
          have h2 := HLN'.out
          show _ ≤ _
          simp only at h1 h2 ⊢
          omega
        obtain ⟨q2, hq2⟩ : ∃ q2, q2 = docC.put x (ql, false) := ⟨_, rfl⟩
        rw [← hq2] at HN2 HLN2
        have C3 : Hid (Calls Tryz.prog 36 #[.pointer (some ⟨B, 0, none⟩), .agg #[.bool x.1, .slice u1 x.2.length c1]] Wa (Put base Wa B u q2.1 q2.2)) := by rw [hq2]; exact C2.out
        clear HN' HT HR HS HLN' HLL KA C2 hq2 hrow hcc hR hRA zA hWa bA
        go_upto_region 3 with fail
        rw [← HWA.out]
        go_wp2_with fail
        refine C3.out.mono ?_
        rintro e w5 ⟨rfl, u5, K5, S5⟩
        have HK5 := Lib.hid K5
        have HS5 := Lib.hid (HSA.out.trans S5)
        clear K5 S5 C3 HSA
        go_wp2_with fail
        go_roundg (n - (i + 1))
        case measure => omega
        case rel => exact ⟨i + 1, u5, q2, by omega, Nat.le_refl _, by go_num, HK5, HS5, HN2, HLN2⟩
    · obtain rfl : i = n := by omega
      have iw : ¬ ((i : Nat) : Int) < ((i : Nat) : Int) := by omega
      have FE : Hid (Put base w B v QF.1 QF.2 (.returned (.tuple #[])) wr) := by
        have e := HT.out
        rw [List.drop_of_length_le (by rw [← HL.out]; exact Nat.le_refl _)] at e
        show Put _ _ _ _ _ _ _ _
        rw [e]
        exact ⟨rfl, u, HR.out, HS.out⟩
      clear HR HS HT HLL
      go_wp2_with fail
      all_goals exact bodyPost_ret (v := .tuple #[]) (by simp [results, Tryz.results68, go_sem]) rfl FE.out
set_option maxHeartbeats 8000000 in
theorem plist_Doc {base B : Nat} {w : World} {v : Value} {l : List UInt8} {bad : Bool} (h : Wr base w B v l bad) (a : Option Addr) (c : Nat) (xs : List (Doc)) (hq : RowP docM (fun b => b < B) w (.slice a xs.length c) xs) (hl : l.length + ((listC docC).enc xs).length ≤ 290000000) : Calls Tryz.prog 35 #[.pointer (some ⟨B, 0, none⟩), .slice a xs.length c, .func (.func 36) #[.pointer (some ⟨B, 0, none⟩)] #[]] w (Put base w B v ((listC docC).put xs (l, bad)).1 ((listC docC).put xs (l, bad)).2) := by
  have hn9 : xs.length ≤ 9223372036854775807 := by have := hq.len; unfold maxLen at this; omega
  obtain ⟨n, hn⟩ : ∃ n, n = xs.length := ⟨_, rfl⟩
  obtain ⟨q0, hq0⟩ : ∃ q0, q0 = pairW xs.length (l, bad) := ⟨_, rfl⟩
  have hl' : l.length + (2 + (xs.flatMap docC.enc).length) ≤ 290000000 := by
    have e : ((listC docC).enc xs).length = 2 + (xs.flatMap docC.enc).length := by show (pairL _ ++ _).length = _; rw [List.length_append, pair_len]
    rw [e] at hl
    exact hl
  have C0 := Lib.hid (ppairW_any h (xs.length : Int) (by omega))
  have HL : q0.1.length + (xs.flatMap docC.enc).length ≤ 290000000 := by
    have := pairW_len xs.length (l, bad)
    rw [← hq0] at this
    simp only at this
    omega
  have CI : Hid (∀ w1 v1, Wr base w1 B v1 q0.1 q0.2 → Stp w B v w1 v1 → Calls Tryz.prog 68 #[.pointer (some ⟨B, 0, none⟩), .slice a n c, .func (.func 36) #[.pointer (some ⟨B, 0, none⟩)] #[]] w1 (Put base w B v ((listC docC).put xs (l, bad)).1 ((listC docC).put xs (l, bad)).2)) := fun w1 v1 k s => by
    rw [hn]
    have e : (listC docC).put xs (l, bad) = foldW docC.put xs q0 := by rw [hq0]; rfl
    rw [e]
    exact (puts_Doc k a c xs (hq.keep docM_ok (Keep.low (s.low h) (fun b h => h))) HL).mono fun _ _ hh => Put.then s hh
  rw [← hq0] at C0
  generalize (listC docC).put xs (l, bad) = QF at *
  rw [← hn] at C0 hn9 ⊢
  clear h hl hl' hq hn hq0 HL
  go_enter Tryz.func35, Tryz.ntmps35
  go_wp2_with fail
  refine C0.out.mono ?_
  rintro e w1 ⟨rfl, v1, K1, S1⟩
  have C1 := Lib.hid (CI.out w1 v1 K1 S1)
  clear K1 S1 C0 CI
  go_wp2_with fail
  refine C1.out.mono ?_
  rintro e w2 ⟨rfl, H⟩
  have HH := Lib.hid H
  clear H C1
  go_wp2_with fail
  all_goals exact bodyPost_ret (v := .tuple #[]) (by simp [results, Tryz.results35, go_sem]) rfl ⟨rfl, HH.out⟩
end Go.Proofs.YtmdgjcikekojdaaGreatDoor.Sta
/- State: the program's writer: seats. -/
set_option linter.unusedVariables false
set_option linter.unusedSimpArgs false
set_option maxRecDepth 100000
namespace Go.Proofs.YtmdgjcikekojdaaGreatDoor.Sta
open Go.RowKit Go.Lib Go.Proofs.YtmdgjcikekojdaaGreatDoor.Bx Go.Proofs.YtmdgjcikekojdaaGreatDoor.Frm Go.Proofs.YtmdgjcikekojdaaGreatDoor.Wds

set_option maxHeartbeats 8000000 in
theorem put_Seat {base B : Nat} {w : World} {v : Value} {l : List UInt8} {bad : Bool} (h : Wr base w B v l bad) (x : Sea) (cs : List Value) (hR : seaM.R (fun b => b < B) w cs x) (hl : l.length + (seaC.enc x).length ≤ 290000000) : Calls Tryz.prog 40 #[.pointer (some ⟨B, 0, none⟩), .agg cs.toArray] w (Put base w B v (seaC.put x (l, bad)).1 (seaC.put x (l, bad)).2) := by
  obtain ⟨x0, x1, x2, x3, x4⟩ := x
  obtain rfl := seaM_cells hR
  have HLE : Hid (l.length + ((textL x0).length + ((numL x1).length + ((numL x2).length + ((numL x3).length + ((textL x4).length))))) ≤ 290000000) := by
    show _ ≤ _
    have e : (seaC.enc (x0, x1, x2, x3, x4)).length = (textL x0).length + ((numL x1).length + ((numL x2).length + ((numL x3).length + ((textL x4).length)))) := by
      show (textL x0 ++ (numL x1 ++ (numL x2 ++ (numL x3 ++ (textL x4))))).length = _
      simp only [List.length_append]
    rw [e] at hl
    exact hl
  clear hR hl
  obtain ⟨y0, hy0⟩ : ∃ y, y = mkB x0 := ⟨_, rfl⟩
  have HY0 := Lib.hid hy0
  obtain ⟨y4, hy4⟩ : ∃ y, y = mkB x4 := ⟨_, rfl⟩
  have HY4 := Lib.hid hy4
  show Calls _ _ #[_, .agg #[.string (mkB x0), .int .i64 x1, .int .i64 x2, .int .i64 x3, .string (mkB x4)]] _ _
  rw [← hy0, ← hy4]
  obtain ⟨B1, P1, L1⟩ := box1 w #[.string y0, .int .i64 x1, .int .i64 x2, .int .i64 x3, .string y4] 65
  obtain ⟨Wa, hWa⟩ : ∃ Wa, Wa = w.alloc (.cells #[.string y0, .int .i64 x1, .int .i64 x2, .int .i64 x3, .string y4] 65) := ⟨_, rfl⟩
  rw [← hWa] at B1 P1 L1
  have HWA := Lib.hid hWa
  have HW := Lib.hid h
  have HP1 := Lib.hid P1
  have HLA := Lib.hid L1
  have HB1 := Lib.hid B1
  have hmf : ∀ (fn : Fn) (first cap : Array Value) (w : World), (Instr.makeFunc fn first cap).run Tryz.prog w = .ok (.func fn first cap) w := fun _ _ _ _ => rfl
  obtain ⟨q0, hq0⟩ : ∃ q0 : Q, q0 = (l, bad) := ⟨_, rfl⟩
  have K0 : Hid (Wr base Wa B v q0.1 q0.2) := by rw [hq0]; exact h.below B1
  have T0 : Hid (Stp Wa B v Wa v) := Stp.refl _ _ _
  have N0 : Hid (q0.1.length + ((textL x0).length + ((numL x1).length + ((numL x2).length + ((numL x3).length + ((textL x4).length))))) ≤ 290000000) := by rw [hq0]; exact HLE.out
  obtain ⟨q1, hq1⟩ : ∃ q1 : Q, q1 = textC.put x0 q0 := ⟨_, rfl⟩
  have N1 : Hid (q1.1.length + ((numL x1).length + ((numL x2).length + ((numL x3).length + ((textL x4).length)))) ≤ 290000000) := by
    show _ ≤ _
    have hN := N0.out
    have z0 := textC_ok.put_len x0 (q0)
    rw [hq1]
    try simp only [show ∀ t, numC.enc t = numL t from fun _ => rfl, show ∀ t, flagC.enc t = flagL t from fun _ => rfl, show ∀ t, textC.enc t = textL t from fun _ => rfl] at *
    omega
  obtain ⟨q2, hq2⟩ : ∃ q2 : Q, q2 = numC.put x3 (numC.put x2 (numC.put x1 q1)) := ⟨_, rfl⟩
  have N2 : Hid (q2.1.length + ((textL x4).length) ≤ 290000000) := by
    show _ ≤ _
    have hN := N1.out
    have z1 := numC_ok.put_len x1 (q1)
    have z2 := numC_ok.put_len x2 (numC.put x1 (q1))
    have z3 := numC_ok.put_len x3 (numC.put x2 (numC.put x1 (q1)))
    rw [hq2]
    try simp only [show ∀ t, numC.enc t = numL t from fun _ => rfl, show ∀ t, flagC.enc t = flagL t from fun _ => rfl, show ∀ t, textC.enc t = textL t from fun _ => rfl] at *
    omega
  obtain ⟨q3, hq3⟩ : ∃ q3 : Q, q3 = textC.put x4 q2 := ⟨_, rfl⟩
  have N3 : Hid (q3.1.length ≤ 290000000) := by
    show _ ≤ _
    have hN := N2.out
    have z4 := textC_ok.put_len x4 (q2)
    rw [hq3]
    try simp only [show ∀ t, numC.enc t = numL t from fun _ => rfl, show ∀ t, flagC.enc t = flagL t from fun _ => rfl, show ∀ t, textC.enc t = textL t from fun _ => rfl] at *
    omega
  have HF : Hid (seaC.put (x0, x1, x2, x3, x4) (l, bad) = q3) := by
    show _ = _
    rw [hq3, hq2, hq1, hq0]
    rfl
  have HQ1 := Lib.hid hq1
  have HQ2 := Lib.hid hq2
  have HQ3 := Lib.hid hq3
  rw [HF.out]
  clear h hWa B1 P1 L1 hq0 HLE hq1 hq2 hq3 hy0 hy4 HF
  go_enter Tryz.func40, Tryz.ntmps40
  have Z0 : Wa.heap[w.heap.size]? = some (.cells #[.string y0, .int .i64 x1, .int .i64 x2, .int .i64 x3, .string y4] 65 (0, 0)) := Stp.keep HW.out T0.out (Nat.le_refl _) (by have := HLA.out; omega) HP1.out
  have a0 : Wa.cell? ⟨w.heap.size, 0, none⟩ = some (.string y0) := by rw [cell_of_row _ _ _ _ _ _ Z0]; rfl
  have C : Hid (Calls Tryz.prog 76 #[.pointer (some ⟨B, 0, none⟩), .string y0] Wa.drew (Put base Wa B v q1.1 q1.2)) := by
    rw [HQ1.out, HY0.out]
    exact (ptext_any K0.out.drew x0 (by have := N0.out; omega) (by have := N0.out; have e : (textL x0).length = x0.length + 2 := rfl; omega)).mono fun _ _ => Put.undrew
  clear Z0
  go_upto_region 1 with fail
  rw [← HWA.out]
  refine still_tailW 5 (by kernel_rfl) (by kernel_rfl) ?_
  simp only [List.take_succ_cons, List.take_zero, List.drop_succ_cons, List.drop_zero]
  have da := drew_cell a0
  generalize Wa.drew = Wd0 at *
  repeat still_step
  refine wpStill_nil ?_
  clear da
  go_wp2_with fail
  refine C.out.mono ?_
  rintro e w1 ⟨rfl, v1, KTT, STT⟩
  have T1 := Lib.hid (T0.out.trans STT)
  have K1 := Lib.hid KTT
  clear KTT STT C a0
  have Z1 : w1.heap[w.heap.size]? = some (.cells #[.string y0, .int .i64 x1, .int .i64 x2, .int .i64 x3, .string y4] 65 (0, 0)) := Stp.keep HW.out T1.out (Nat.le_refl _) (by have := HLA.out; omega) HP1.out
  have a1 : w1.cell? ⟨w.heap.size, 1, none⟩ = some (.int .i64 x1) := by rw [cell_of_row _ _ _ _ _ _ Z1]; rfl
  have a2 : w1.cell? ⟨w.heap.size, 2, none⟩ = some (.int .i64 x2) := by rw [cell_of_row _ _ _ _ _ _ Z1]; rfl
  have a3 : w1.cell? ⟨w.heap.size, 3, none⟩ = some (.int .i64 x3) := by rw [cell_of_row _ _ _ _ _ _ Z1]; rfl
  obtain ⟨B2, P2, L2⟩ := box1 w1 #[.int .i64 x1, .int .i64 x2, .int .i64 x3] 3
  obtain ⟨Wb1, hWb⟩ : ∃ Wb, Wb = (w1.alloc (.cells #[.int .i64 x1, .int .i64 x2, .int .i64 x3] 3)).drew := ⟨_, rfl⟩
  have ST := stays_drew (stays_new K1.out (Below.refl _ _) #[.int .i64 x1, .int .i64 x2, .int .i64 x3] [x1, x2, x3] rfl)
  replace B2 := Below.drew B2
  rw [← hWb] at B2 ST
  have HWB := Lib.hid hWb
  have C : Hid (Calls Tryz.prog 32 #[.pointer (some ⟨B, 0, none⟩), .slice (some ⟨w1.heap.size, 0, none⟩) 3 3] Wb1 (Put base Wb1 B v1 q2.1 q2.2)) := by
    have c := pnums_any (K1.out.below B2) _ 3 [x1, x2, x3] ST (by have := N1.out; show q1.1.length + 8 * 3 ≤ 300000000; omega)
    have e : q2 = (q1.1 ++ [x1, x2, x3].flatMap numL, q1.2) := by rw [HQ2.out]; show (_, _) = (_, _); simp [numC]
    rw [e]
    exact c
  have HST : Hid (∀ {w7 : World} {v7 : Value}, Stp Wb1 B v1 w7 v7 → Stp Wa B v w7 v7) := fun s => T1.out.trans (K1.out.first B2 s)
  have HZ1 := Lib.hid Z1
  have HSZ : Hid (w.heap.size < w1.heap.size) := (Array.getElem?_eq_some_iff.1 Z1).1
  have KR : Hid (Below w1.heap.size w1 w1) := Below.refl _ _
  clear P2 L2 hWb ST B2 Z1
  go_upto_region 2 with fail
  have BX : Hid (∀ w', Below w1.heap.size w1 w' → w'.cell? ⟨w.heap.size, 1, none⟩ = some (.int .i64 x1) ∧ w'.cell? ⟨w.heap.size, 2, none⟩ = some (.int .i64 x2) ∧ w'.cell? ⟨w.heap.size, 3, none⟩ = some (.int .i64 x3)) := fun w' hb => by
    have zz : w'.heap[w.heap.size]? = some (.cells #[.string y0, .int .i64 x1, .int .i64 x2, .int .i64 x3, .string y4] 65 (0, 0)) := (hb.block _ HSZ.out).trans HZ1.out
    exact ⟨by rw [cell_of_row _ _ _ _ _ _ zz]; rfl, by rw [cell_of_row _ _ _ _ _ _ zz]; rfl, by rw [cell_of_row _ _ _ _ _ _ zz]; rfl⟩
  go_region_held3 (fun w' => w'.cell? ⟨w.heap.size, 1, none⟩ = some (.int .i64 x1) ∧ w'.cell? ⟨w.heap.size, 2, none⟩ = some (.int .i64 x2) ∧ w'.cell? ⟨w.heap.size, 3, none⟩ = some (.int .i64 x3))
    (first
      | exact k5.out
      | (refine BX.out _ ?_; focus ((repeat first | assumption | exact KR.out | apply Below.drew | apply below_drews | refine Below.alloc ?_ (Nat.le_refl _) _); done)))
    (first
      | (go_at_call 32; rw [← HWB.out]; (refine C.out.mono ?_); rintro e w2 ⟨rfl, v2, KTT, STT⟩; have T2 := Lib.hid (HST.out STT); have ZTT : w2.heap[w.heap.size]? = some (.cells #[.string y0, .int .i64 x1, .int .i64 x2, .int .i64 x3, .string y4] 65 (0, 0)) := Stp.keep HW.out T2.out (Nat.le_refl _) (by have := HLA.out; omega) HP1.out; have k5 : Hid (w2.cell? ⟨w.heap.size, 1, none⟩ = some (.int .i64 x1) ∧ w2.cell? ⟨w.heap.size, 2, none⟩ = some (.int .i64 x2) ∧ w2.cell? ⟨w.heap.size, 3, none⟩ = some (.int .i64 x3)) := ⟨by rw [cell_of_row _ _ _ _ _ _ ZTT]; rfl, by rw [cell_of_row _ _ _ _ _ _ ZTT]; rfl, by rw [cell_of_row _ _ _ _ _ _ ZTT]; rfl⟩))
  have K2 := Lib.hid KTT
  clear KTT STT C HWB HST HSZ KR BX k5 ZTT HZ1 a1 a2 a3
  have Z2 : w2.heap[w.heap.size]? = some (.cells #[.string y0, .int .i64 x1, .int .i64 x2, .int .i64 x3, .string y4] 65 (0, 0)) := Stp.keep HW.out T2.out (Nat.le_refl _) (by have := HLA.out; omega) HP1.out
  have a4 : w2.cell? ⟨w.heap.size, 4, none⟩ = some (.string y4) := by rw [cell_of_row _ _ _ _ _ _ Z2]; rfl
  have C : Hid (Calls Tryz.prog 76 #[.pointer (some ⟨B, 0, none⟩), .string y4] w2.drew (Put base w2 B v2 q3.1 q3.2)) := by
    rw [HQ3.out, HY4.out]
    exact (ptext_any K2.out.drew x4 (by have := N2.out; omega) (by have := N2.out; have e : (textL x4).length = x4.length + 2 := rfl; omega)).mono fun _ _ => Put.undrew
  clear Z2
  go_upto_region 3 with fail
  refine still_tailW 5 (by kernel_rfl) (by kernel_rfl) ?_
  simp only [List.take_succ_cons, List.take_zero, List.drop_succ_cons, List.drop_zero]
  have da := drew_cell a4
  generalize w2.drew = Wd2 at *
  repeat still_step
  refine wpStill_nil ?_
  clear da
  go_wp2_with fail
  refine C.out.mono ?_
  rintro e w3 ⟨rfl, v3, KTT, STT⟩
  have T3 := Lib.hid (T2.out.trans STT)
  have K3 := Lib.hid KTT
  clear KTT STT C a4
  have FE : Hid (Put base w B v q3.1 q3.2 (.returned (.tuple #[])) w3) := ⟨rfl, v3, K3.out, HW.out.first HB1.out T3.out⟩
  go_wp2_with fail
  all_goals exact bodyPost_ret (v := .tuple #[]) (by simp [results, Tryz.results40, go_sem]) rfl FE.out
set_option maxHeartbeats 8000000 in
theorem puts_Seat {base B : Nat} {w : World} {v : Value} {q0 : Q} (h : Wr base w B v q0.1 q0.2) (a : Option Addr) (c : Nat) (xs : List (Sea)) (hq : RowP seaM (fun b => b < B) w (.slice a xs.length c) xs) (hl : q0.1.length + (xs.flatMap seaC.enc).length ≤ 290000000) : Calls Tryz.prog 75 #[.pointer (some ⟨B, 0, none⟩), .slice a xs.length c, .func (.func 40) #[.pointer (some ⟨B, 0, none⟩)] #[]] w (Put base w B v (foldW seaC.put xs q0).1 (foldW seaC.put xs q0).2) := by
  have hn9 : xs.length ≤ 9223372036854775807 := by have := hq.len; unfold maxLen at this; omega
  obtain ⟨n, hn⟩ : ∃ n, n = xs.length := ⟨_, rfl⟩
  obtain ⟨QF, hQF⟩ : ∃ QF, QF = foldW seaC.put xs q0 := ⟨_, rfl⟩
  have HF : Hid (QF = foldW seaC.put xs q0) := hQF
  have HL : Hid (n = xs.length) := hn
  have HLL0 : Hid (q0.1.length + ((xs.drop 0).flatMap seaC.enc).length ≤ 290000000) := hl
  rw [← hQF]
  have HQ : Hid (RowP seaM (fun b => b < B) w (.slice a n c) xs) := by show RowP _ _ _ _ _; rw [hn]; exact hq
  rw [← hn] at hn9 ⊢
  have HW := Lib.hid h
  have HS1 : Hid (Stp w B v w v) := Stp.refl _ _ _
  clear h hl hq hn hQF
  go_enter Tryz.func75, Tryz.ntmps75
  go_wp2_with fail
  go_loopg [10] n (fun gg i_ wr => ∃ (i : Nat) (u : Value) (q : Q), i ≤ n ∧ n - i ≤ gg ∧ i_ = .int .i64 (i : Nat) ∧ Hid (Wr base wr B u q.1 q.2) ∧ Hid (Stp w B v wr u) ∧ Hid (QF = foldW seaC.put (xs.drop i) q) ∧ Hid (q.1.length + ((xs.drop i).flatMap seaC.enc).length ≤ 290000000))
  case atStart => exact ⟨0, v, q0, by omega, by omega, rfl, HW, HS1, HF, HLL0⟩
  case round =>
    obtain ⟨i, u, ⟨ql, qb⟩, hi, hg, rfl, HR, HS, HT, HLL⟩ := hrel
    by_cases hin : i < n
    · have iw : ((i : Nat) : Int) < (n : Int) := by omega
      have n0 : (0 : Int) ≤ ((i : Nat) : Int) := by omega
      have hix : i < xs.length := by rw [← HL.out]; exact hin
      have HN : Hid (QF = if qb = true then (ql, qb) else foldW seaC.put (xs.drop (i + 1)) (seaC.put xs[i] (ql, qb))) := by show _ = _; rw [HT.out]; exact fold_next hix _
      have HLN : Hid (ql.length + ((seaC.enc xs[i]).length + ((xs.drop (i + 1)).flatMap seaC.enc).length) ≤ 290000000) := by
        have h9 := HLL.out
        rw [List.drop_eq_getElem_cons hix, List.flatMap_cons, List.length_append] at h9
        exact h9
      have hrow := HQ.out.keep seaM_ok (Keep.low (HS.out.low HW.out) (fun b h => h))
      obtain ⟨b, off, cs, rfl, hlt, _, hR, hcc⟩ := hrow.get hix
      obtain ⟨x, hx⟩ : ∃ x, x = xs[i] := ⟨_, rfl⟩
      rw [← hx] at hR
      have HN' : Hid (QF = if qb = true then (ql, qb) else foldW seaC.put (xs.drop (i + 1)) (seaC.put x (ql, qb))) := by rw [hx]; exact HN
      have HLN' : Hid (ql.length + ((seaC.enc x).length + ((xs.drop (i + 1)).flatMap seaC.enc).length) ≤ 290000000) := by rw [hx]; exact HLN
      clear HN HLN hx
      obtain rfl := seaM_cells hR
      have hc0 : wr.cell? ⟨b, off + i * 5, none⟩ = some (.string (mkB x.1)) := hcc 0 _ rfl
      have hc1 : wr.cell? ⟨b, off + i * 5 + 1, none⟩ = some (.int .i64 x.2.1) := hcc 1 _ rfl
      have hc2 : wr.cell? ⟨b, off + i * 5 + 2, none⟩ = some (.int .i64 x.2.2.1) := hcc 2 _ rfl
      have hc3 : wr.cell? ⟨b, off + i * 5 + 3, none⟩ = some (.int .i64 x.2.2.2.1) := hcc 3 _ rfl
      have hc4 : wr.cell? ⟨b, off + i * 5 + 4, none⟩ = some (.string (mkB x.2.2.2.2)) := hcc 4 _ rfl
      obtain ⟨Wa, hWa⟩ : ∃ Wa, Wa = wr.alloc (.cells #[.string (mkB x.1), .int .i64 x.2.1, .int .i64 x.2.2.1, .int .i64 x.2.2.2.1, .string (mkB x.2.2.2.2)] 65) := ⟨_, rfl⟩
      have bA : Below wr.heap.size wr Wa := by rw [hWa]; exact (box1 wr _ _).1
      have zA : Wa.heap[wr.heap.size]? = some (.cells #[.string (mkB x.1), .int .i64 x.2.1, .int .i64 x.2.2.1, .int .i64 x.2.2.2.1, .string (mkB x.2.2.2.2)] 65 (0, 0)) := by rw [hWa]; exact (box1 wr _ _).2.1
      have KA := HR.out.below bA
      have HWA := Lib.hid hWa
      have wa1 : Wa.cell? ⟨B, 1, none⟩ = some (.bool qb) := KA.cells.2.1
      have HSA : Hid (Stp w B v Wa u) := HS.out.trans (HR.out.first bA (Stp.refl _ _ _))
      have hRA := seaM_ok.keep hR (Keep.below bA)
      obtain ⟨m0, m1, m2, m3, m4⟩ := five_cells zA
      cases qb with
      | true =>
        have FE : Hid (Put base w B v QF.1 QF.2 (.returned (.tuple #[])) Wa) := by
          have e := HN'.out
          rw [if_pos rfl] at e
          show Put _ _ _ _ _ _ _ _
          rw [e]
          exact ⟨rfl, u, KA, HSA.out⟩
        clear HN' HT HR HS HLN' HLL KA HSA hrow hcc hR hRA zA hWa bA
        go_upto_region 3 with fail
        rw [← HWA.out]
        go_wp2_with fail
        all_goals exact bodyPost_ret (v := .tuple #[]) (by simp [results, Tryz.results75, go_sem]) rfl FE.out
      | false =>
        have C2 := Lib.hid (put_Seat KA x _ hRA (Nat.le_trans (Nat.add_le_add_left (Nat.le_add_right _ _) _) HLN'.out))
        have HN2 : Hid (QF = foldW seaC.put (xs.drop (i + 1)) (seaC.put x (ql, false))) := HN'.out
        have HLN2 : Hid ((seaC.put x (ql, false)).1.length + ((xs.drop (i + 1)).flatMap seaC.enc).length ≤ 290000000) := by
          have h1 := seaC_ok.put_len x (ql, false)
          have h2 := HLN'.out
          show _ ≤ _
          simp only at h1 h2 ⊢
          omega
        obtain ⟨q2, hq2⟩ : ∃ q2, q2 = seaC.put x (ql, false) := ⟨_, rfl⟩
        rw [← hq2] at HN2 HLN2
        have C3 : Hid (Calls Tryz.prog 40 #[.pointer (some ⟨B, 0, none⟩), .agg #[.string (mkB x.1), .int .i64 x.2.1, .int .i64 x.2.2.1, .int .i64 x.2.2.2.1, .string (mkB x.2.2.2.2)]] Wa (Put base Wa B u q2.1 q2.2)) := by rw [hq2]; exact C2.out
        clear HN' HT HR HS HLN' HLL KA C2 hq2 hrow hcc hR hRA zA hWa bA
        go_upto_region 3 with fail
        rw [← HWA.out]
        go_wp2_with fail
        refine C3.out.mono ?_
        rintro e w5 ⟨rfl, u5, K5, S5⟩
        have HK5 := Lib.hid K5
        have HS5 := Lib.hid (HSA.out.trans S5)
        clear K5 S5 C3 HSA
        go_wp2_with fail
        go_roundg (n - (i + 1))
        case measure => omega
        case rel => exact ⟨i + 1, u5, q2, by omega, Nat.le_refl _, by go_num, HK5, HS5, HN2, HLN2⟩
    · obtain rfl : i = n := by omega
      have iw : ¬ ((i : Nat) : Int) < ((i : Nat) : Int) := by omega
      have FE : Hid (Put base w B v QF.1 QF.2 (.returned (.tuple #[])) wr) := by
        have e := HT.out
        rw [List.drop_of_length_le (by rw [← HL.out]; exact Nat.le_refl _)] at e
        show Put _ _ _ _ _ _ _ _
        rw [e]
        exact ⟨rfl, u, HR.out, HS.out⟩
      clear HR HS HT HLL
      go_wp2_with fail
      all_goals exact bodyPost_ret (v := .tuple #[]) (by simp [results, Tryz.results75, go_sem]) rfl FE.out
set_option maxHeartbeats 8000000 in
theorem plist_Seat {base B : Nat} {w : World} {v : Value} {l : List UInt8} {bad : Bool} (h : Wr base w B v l bad) (a : Option Addr) (c : Nat) (xs : List (Sea)) (hq : RowP seaM (fun b => b < B) w (.slice a xs.length c) xs) (hl : l.length + ((listC seaC).enc xs).length ≤ 290000000) : Calls Tryz.prog 39 #[.pointer (some ⟨B, 0, none⟩), .slice a xs.length c, .func (.func 40) #[.pointer (some ⟨B, 0, none⟩)] #[]] w (Put base w B v ((listC seaC).put xs (l, bad)).1 ((listC seaC).put xs (l, bad)).2) := by
  have hn9 : xs.length ≤ 9223372036854775807 := by have := hq.len; unfold maxLen at this; omega
  obtain ⟨n, hn⟩ : ∃ n, n = xs.length := ⟨_, rfl⟩
  obtain ⟨q0, hq0⟩ : ∃ q0, q0 = pairW xs.length (l, bad) := ⟨_, rfl⟩
  have hl' : l.length + (2 + (xs.flatMap seaC.enc).length) ≤ 290000000 := by
    have e : ((listC seaC).enc xs).length = 2 + (xs.flatMap seaC.enc).length := by show (pairL _ ++ _).length = _; rw [List.length_append, pair_len]
    rw [e] at hl
    exact hl
  have C0 := Lib.hid (ppairW_any h (xs.length : Int) (by omega))
  have HL : q0.1.length + (xs.flatMap seaC.enc).length ≤ 290000000 := by
    have := pairW_len xs.length (l, bad)
    rw [← hq0] at this
    simp only at this
    omega
  have CI : Hid (∀ w1 v1, Wr base w1 B v1 q0.1 q0.2 → Stp w B v w1 v1 → Calls Tryz.prog 75 #[.pointer (some ⟨B, 0, none⟩), .slice a n c, .func (.func 40) #[.pointer (some ⟨B, 0, none⟩)] #[]] w1 (Put base w B v ((listC seaC).put xs (l, bad)).1 ((listC seaC).put xs (l, bad)).2)) := fun w1 v1 k s => by
    rw [hn]
    have e : (listC seaC).put xs (l, bad) = foldW seaC.put xs q0 := by rw [hq0]; rfl
    rw [e]
    exact (puts_Seat k a c xs (hq.keep seaM_ok (Keep.low (s.low h) (fun b h => h))) HL).mono fun _ _ hh => Put.then s hh
  rw [← hq0] at C0
  generalize (listC seaC).put xs (l, bad) = QF at *
  rw [← hn] at C0 hn9 ⊢
  clear h hl hl' hq hn hq0 HL
  go_enter Tryz.func39, Tryz.ntmps39
  go_wp2_with fail
  refine C0.out.mono ?_
  rintro e w1 ⟨rfl, v1, K1, S1⟩
  have C1 := Lib.hid (CI.out w1 v1 K1 S1)
  clear K1 S1 C0 CI
  go_wp2_with fail
  refine C1.out.mono ?_
  rintro e w2 ⟨rfl, H⟩
  have HH := Lib.hid H
  clear H C1
  go_wp2_with fail
  all_goals exact bodyPost_ret (v := .tuple #[]) (by simp [results, Tryz.results39, go_sem]) rfl ⟨rfl, HH.out⟩
end Go.Proofs.YtmdgjcikekojdaaGreatDoor.Sta
/- State: the program's writer: a state. -/
set_option linter.unusedVariables false
set_option linter.unusedSimpArgs false
set_option maxRecDepth 100000
namespace Go.Proofs.YtmdgjcikekojdaaGreatDoor.Sta
open Go.RowKit Go.Lib Go.Proofs.YtmdgjcikekojdaaGreatDoor.Bx Go.Proofs.YtmdgjcikekojdaaGreatDoor.Frm Go.Proofs.YtmdgjcikekojdaaGreatDoor.Wds

set_option maxHeartbeats 8000000 in
theorem put_State {base B : Nat} {w : World} {v : Value} {l : List UInt8} {bad : Bool} (h : Wr base w B v l bad) (x : Sta) (cs : List Value) (hR : staM.R (fun b => b < B) w cs x) (hl : l.length + (staC.enc x).length ≤ 290000000) : Calls Tryz.prog 11 #[.pointer (some ⟨B, 0, none⟩), .agg cs.toArray] w (Put base w B v (staC.put x (l, bad)).1 (staC.put x (l, bad)).2) := by
  obtain ⟨x0, x1, x2, x3, x4, x5, x6, x7⟩ := x
  obtain ⟨u3, c3, u4, c4, u5, c5, u6, c6, u7, c7, rfl, r3, r4, r5, r6, r7⟩ := staM_cells hR
  have HLE : Hid (l.length + ((numL x0).length + ((numL x1).length + ((numL x2).length + (((listC labC).enc x3).length + (((listC docC).enc x4).length + (((listC stkC).enc x5).length + (((listC seaC).enc x6).length + (((listC entC).enc x7).length)))))))) ≤ 290000000) := by
    show _ ≤ _
    have e : (staC.enc (x0, x1, x2, x3, x4, x5, x6, x7)).length = (numL x0).length + ((numL x1).length + ((numL x2).length + (((listC labC).enc x3).length + (((listC docC).enc x4).length + (((listC stkC).enc x5).length + (((listC seaC).enc x6).length + (((listC entC).enc x7).length))))))) := by
      show (numL x0 ++ (numL x1 ++ (numL x2 ++ ((listC labC).enc x3 ++ ((listC docC).enc x4 ++ ((listC stkC).enc x5 ++ ((listC seaC).enc x6 ++ ((listC entC).enc x7)))))))).length = _
      simp only [List.length_append]
    rw [e] at hl
    exact hl
  clear hR hl
  simp only at r3
  obtain ⟨k3, hk3⟩ : ∃ k, k = x3.length := ⟨_, rfl⟩
  have HK3 := Lib.hid hk3
  have HR3 := Lib.hid r3
  simp only at r4
  obtain ⟨k4, hk4⟩ : ∃ k, k = x4.length := ⟨_, rfl⟩
  have HK4 := Lib.hid hk4
  have HR4 := Lib.hid r4
  simp only at r5
  obtain ⟨k5, hk5⟩ : ∃ k, k = x5.length := ⟨_, rfl⟩
  have HK5 := Lib.hid hk5
  have HR5 := Lib.hid r5
  simp only at r6
  obtain ⟨k6, hk6⟩ : ∃ k, k = x6.length := ⟨_, rfl⟩
  have HK6 := Lib.hid hk6
  have HR6 := Lib.hid r6
  simp only at r7
  obtain ⟨k7, hk7⟩ : ∃ k, k = x7.length := ⟨_, rfl⟩
  have HK7 := Lib.hid hk7
  have HR7 := Lib.hid r7
  show Calls _ _ #[_, .agg #[.int .i64 x0, .int .i64 x1, .int .i64 x2, .slice u3 x3.length c3, .slice u4 x4.length c4, .slice u5 x5.length c5, .slice u6 x6.length c6, .slice u7 x7.length c7]] _ _
  rw [← hk3, ← hk4, ← hk5, ← hk6, ← hk7]
  obtain ⟨B1, P1, L1⟩ := box1 w #[.int .i64 x0, .int .i64 x1, .int .i64 x2, .slice u3 k3 c3, .slice u4 k4 c4, .slice u5 k5 c5, .slice u6 k6 c6, .slice u7 k7 c7] 28
  obtain ⟨Wa, hWa⟩ : ∃ Wa, Wa = w.alloc (.cells #[.int .i64 x0, .int .i64 x1, .int .i64 x2, .slice u3 k3 c3, .slice u4 k4 c4, .slice u5 k5 c5, .slice u6 k6 c6, .slice u7 k7 c7] 28) := ⟨_, rfl⟩
  rw [← hWa] at B1 P1 L1
  have HWA := Lib.hid hWa
  have HW := Lib.hid h
  have HP1 := Lib.hid P1
  have HLA := Lib.hid L1
  have HB1 := Lib.hid B1
  have hmf : ∀ (fn : Fn) (first cap : Array Value) (w : World), (Instr.makeFunc fn first cap).run Tryz.prog w = .ok (.func fn first cap) w := fun _ _ _ _ => rfl
  obtain ⟨q0, hq0⟩ : ∃ q0 : Q, q0 = (l, bad) := ⟨_, rfl⟩
  have K0 : Hid (Wr base Wa B v q0.1 q0.2) := by rw [hq0]; exact h.below B1
  have T0 : Hid (Stp Wa B v Wa v) := Stp.refl _ _ _
  have N0 : Hid (q0.1.length + ((numL x0).length + ((numL x1).length + ((numL x2).length + (((listC labC).enc x3).length + (((listC docC).enc x4).length + (((listC stkC).enc x5).length + (((listC seaC).enc x6).length + (((listC entC).enc x7).length)))))))) ≤ 290000000) := by rw [hq0]; exact HLE.out
  obtain ⟨q1, hq1⟩ : ∃ q1 : Q, q1 = numC.put x2 (numC.put x1 (numC.put x0 q0)) := ⟨_, rfl⟩
  have N1 : Hid (q1.1.length + (((listC labC).enc x3).length + (((listC docC).enc x4).length + (((listC stkC).enc x5).length + (((listC seaC).enc x6).length + (((listC entC).enc x7).length))))) ≤ 290000000) := by
    show _ ≤ _
    have hN := N0.out
    have z0 := numC_ok.put_len x0 (q0)
    have z1 := numC_ok.put_len x1 (numC.put x0 (q0))
    have z2 := numC_ok.put_len x2 (numC.put x1 (numC.put x0 (q0)))
    rw [hq1]
    try simp only [show ∀ t, numC.enc t = numL t from fun _ => rfl, show ∀ t, flagC.enc t = flagL t from fun _ => rfl, show ∀ t, textC.enc t = textL t from fun _ => rfl] at *
    omega
  obtain ⟨q2, hq2⟩ : ∃ q2 : Q, q2 = (listC labC).put x3 q1 := ⟨_, rfl⟩
  have N2 : Hid (q2.1.length + (((listC docC).enc x4).length + (((listC stkC).enc x5).length + (((listC seaC).enc x6).length + (((listC entC).enc x7).length)))) ≤ 290000000) := by
    show _ ≤ _
    have hN := N1.out
    have z3 := (listC_ok labC_ok).put_len x3 (q1)
    rw [hq2]
    try simp only [show ∀ t, numC.enc t = numL t from fun _ => rfl, show ∀ t, flagC.enc t = flagL t from fun _ => rfl, show ∀ t, textC.enc t = textL t from fun _ => rfl] at *
    omega
  obtain ⟨q3, hq3⟩ : ∃ q3 : Q, q3 = (listC docC).put x4 q2 := ⟨_, rfl⟩
  have N3 : Hid (q3.1.length + (((listC stkC).enc x5).length + (((listC seaC).enc x6).length + (((listC entC).enc x7).length))) ≤ 290000000) := by
    show _ ≤ _
    have hN := N2.out
    have z4 := (listC_ok docC_ok).put_len x4 (q2)
    rw [hq3]
    try simp only [show ∀ t, numC.enc t = numL t from fun _ => rfl, show ∀ t, flagC.enc t = flagL t from fun _ => rfl, show ∀ t, textC.enc t = textL t from fun _ => rfl] at *
    omega
  obtain ⟨q4, hq4⟩ : ∃ q4 : Q, q4 = (listC stkC).put x5 q3 := ⟨_, rfl⟩
  have N4 : Hid (q4.1.length + (((listC seaC).enc x6).length + (((listC entC).enc x7).length)) ≤ 290000000) := by
    show _ ≤ _
    have hN := N3.out
    have z5 := (listC_ok stkC_ok).put_len x5 (q3)
    rw [hq4]
    try simp only [show ∀ t, numC.enc t = numL t from fun _ => rfl, show ∀ t, flagC.enc t = flagL t from fun _ => rfl, show ∀ t, textC.enc t = textL t from fun _ => rfl] at *
    omega
  obtain ⟨q5, hq5⟩ : ∃ q5 : Q, q5 = (listC seaC).put x6 q4 := ⟨_, rfl⟩
  have N5 : Hid (q5.1.length + (((listC entC).enc x7).length) ≤ 290000000) := by
    show _ ≤ _
    have hN := N4.out
    have z6 := (listC_ok seaC_ok).put_len x6 (q4)
    rw [hq5]
    try simp only [show ∀ t, numC.enc t = numL t from fun _ => rfl, show ∀ t, flagC.enc t = flagL t from fun _ => rfl, show ∀ t, textC.enc t = textL t from fun _ => rfl] at *
    omega
  obtain ⟨q6, hq6⟩ : ∃ q6 : Q, q6 = (listC entC).put x7 q5 := ⟨_, rfl⟩
  have N6 : Hid (q6.1.length ≤ 290000000) := by
    show _ ≤ _
    have hN := N5.out
    have z7 := (listC_ok entC_ok).put_len x7 (q5)
    rw [hq6]
    try simp only [show ∀ t, numC.enc t = numL t from fun _ => rfl, show ∀ t, flagC.enc t = flagL t from fun _ => rfl, show ∀ t, textC.enc t = textL t from fun _ => rfl] at *
    omega
  have HF : Hid (staC.put (x0, x1, x2, x3, x4, x5, x6, x7) (l, bad) = q6) := by
    show _ = _
    rw [hq6, hq5, hq4, hq3, hq2, hq1, hq0]
    rfl
  have HQ1 := Lib.hid hq1
  have HQ2 := Lib.hid hq2
  have HQ3 := Lib.hid hq3
  have HQ4 := Lib.hid hq4
  have HQ5 := Lib.hid hq5
  have HQ6 := Lib.hid hq6
  rw [HF.out]
  clear h hWa B1 P1 L1 hq0 HLE hq1 hq2 hq3 hq4 hq5 hq6 hk3 r3 hk4 r4 hk5 r5 hk6 r6 hk7 r7 HF
  go_enter Tryz.func11, Tryz.ntmps11
  have Z0 : Wa.heap[w.heap.size]? = some (.cells #[.int .i64 x0, .int .i64 x1, .int .i64 x2, .slice u3 k3 c3, .slice u4 k4 c4, .slice u5 k5 c5, .slice u6 k6 c6, .slice u7 k7 c7] 28 (0, 0)) := Stp.keep HW.out T0.out (Nat.le_refl _) (by have := HLA.out; omega) HP1.out
  have a0 : Wa.cell? ⟨w.heap.size, 0, none⟩ = some (.int .i64 x0) := by rw [cell_of_row _ _ _ _ _ _ Z0]; rfl
  have a1 : Wa.cell? ⟨w.heap.size, 1, none⟩ = some (.int .i64 x1) := by rw [cell_of_row _ _ _ _ _ _ Z0]; rfl
  have a2 : Wa.cell? ⟨w.heap.size, 2, none⟩ = some (.int .i64 x2) := by rw [cell_of_row _ _ _ _ _ _ Z0]; rfl
  obtain ⟨B2, P2, L2⟩ := box1 Wa #[.int .i64 x0, .int .i64 x1, .int .i64 x2] 3
  obtain ⟨Wb0, hWb⟩ : ∃ Wb, Wb = (Wa.alloc (.cells #[.int .i64 x0, .int .i64 x1, .int .i64 x2] 3)).drew := ⟨_, rfl⟩
  have ST := stays_drew (stays_new K0.out (Below.refl _ _) #[.int .i64 x0, .int .i64 x1, .int .i64 x2] [x0, x1, x2] rfl)
  replace B2 := Below.drew B2
  rw [← hWb] at B2 ST
  have HWB := Lib.hid hWb
  have C : Hid (Calls Tryz.prog 32 #[.pointer (some ⟨B, 0, none⟩), .slice (some ⟨Wa.heap.size, 0, none⟩) 3 3] Wb0 (Put base Wb0 B v q1.1 q1.2)) := by
    have c := pnums_any (K0.out.below B2) _ 3 [x0, x1, x2] ST (by have := N0.out; show q0.1.length + 8 * 3 ≤ 300000000; omega)
    have e : q1 = (q0.1 ++ [x0, x1, x2].flatMap numL, q0.2) := by rw [HQ1.out]; show (_, _) = (_, _); simp [numC]
    rw [e]
    exact c
  have HST : Hid (∀ {w7 : World} {v7 : Value}, Stp Wb0 B v w7 v7 → Stp Wa B v w7 v7) := fun s => T0.out.trans (K0.out.first B2 s)
  have HZ0 := Lib.hid Z0
  have HSZ : Hid (w.heap.size < Wa.heap.size) := (Array.getElem?_eq_some_iff.1 Z0).1
  have KR : Hid (Below Wa.heap.size Wa Wa) := Below.refl _ _
  clear P2 L2 hWb ST B2 Z0
  go_upto_region 1 with fail
  rw [← HWA.out]
  have BX : Hid (∀ w', Below Wa.heap.size Wa w' → w'.cell? ⟨w.heap.size, 0, none⟩ = some (.int .i64 x0) ∧ w'.cell? ⟨w.heap.size, 1, none⟩ = some (.int .i64 x1) ∧ w'.cell? ⟨w.heap.size, 2, none⟩ = some (.int .i64 x2)) := fun w' hb => by
    have zz : w'.heap[w.heap.size]? = some (.cells #[.int .i64 x0, .int .i64 x1, .int .i64 x2, .slice u3 k3 c3, .slice u4 k4 c4, .slice u5 k5 c5, .slice u6 k6 c6, .slice u7 k7 c7] 28 (0, 0)) := (hb.block _ HSZ.out).trans HZ0.out
    exact ⟨by rw [cell_of_row _ _ _ _ _ _ zz]; rfl, by rw [cell_of_row _ _ _ _ _ _ zz]; rfl, by rw [cell_of_row _ _ _ _ _ _ zz]; rfl⟩
  go_region_held3 (fun w' => w'.cell? ⟨w.heap.size, 0, none⟩ = some (.int .i64 x0) ∧ w'.cell? ⟨w.heap.size, 1, none⟩ = some (.int .i64 x1) ∧ w'.cell? ⟨w.heap.size, 2, none⟩ = some (.int .i64 x2))
    (first
      | exact k5.out
      | (refine BX.out _ ?_; focus ((repeat first | assumption | exact KR.out | apply Below.drew | apply below_drews | refine Below.alloc ?_ (Nat.le_refl _) _); done)))
    (first
      | (go_at_call 32; rw [← HWB.out]; (refine C.out.mono ?_); rintro e w1 ⟨rfl, v1, KTT, STT⟩; have T1 := Lib.hid (HST.out STT); have ZTT : w1.heap[w.heap.size]? = some (.cells #[.int .i64 x0, .int .i64 x1, .int .i64 x2, .slice u3 k3 c3, .slice u4 k4 c4, .slice u5 k5 c5, .slice u6 k6 c6, .slice u7 k7 c7] 28 (0, 0)) := Stp.keep HW.out T1.out (Nat.le_refl _) (by have := HLA.out; omega) HP1.out; have k5 : Hid (w1.cell? ⟨w.heap.size, 0, none⟩ = some (.int .i64 x0) ∧ w1.cell? ⟨w.heap.size, 1, none⟩ = some (.int .i64 x1) ∧ w1.cell? ⟨w.heap.size, 2, none⟩ = some (.int .i64 x2)) := ⟨by rw [cell_of_row _ _ _ _ _ _ ZTT]; rfl, by rw [cell_of_row _ _ _ _ _ _ ZTT]; rfl, by rw [cell_of_row _ _ _ _ _ _ ZTT]; rfl⟩))
  have K1 := Lib.hid KTT
  clear KTT STT C HWB HST HSZ KR BX k5 ZTT HZ0 a0 a1 a2
  have Z1 : w1.heap[w.heap.size]? = some (.cells #[.int .i64 x0, .int .i64 x1, .int .i64 x2, .slice u3 k3 c3, .slice u4 k4 c4, .slice u5 k5 c5, .slice u6 k6 c6, .slice u7 k7 c7] 28 (0, 0)) := Stp.keep HW.out T1.out (Nat.le_refl _) (by have := HLA.out; omega) HP1.out
  have a3 : w1.cell? ⟨w.heap.size, 3, none⟩ = some (.slice u3 k3 c3) := by rw [cell_of_row _ _ _ _ _ _ Z1]; rfl
  have C : Hid (Calls Tryz.prog 33 #[.pointer (some ⟨B, 0, none⟩), .slice u3 k3 c3, .func (.func 34) #[.pointer (some ⟨B, 0, none⟩)] #[]] w1 (Put base w1 B v1 q2.1 q2.2)) := by
    have r := HR3.out.keep labM_ok (Keep.low ((HW.out.first HB1.out T1.out).low HW.out) (fun b h => h))
    rw [HQ2.out, HK3.out]
    exact plist_Label K1.out u3 c3 x3 r (by have := N1.out; omega)
  clear Z1
  go_upto_region 2 with fail
  go_wp2_with fail
  refine C.out.mono ?_
  rintro e w2 ⟨rfl, v2, KTT, STT⟩
  have T2 := Lib.hid (T1.out.trans STT)
  have K2 := Lib.hid KTT
  clear KTT STT C a3
  have Z2 : w2.heap[w.heap.size]? = some (.cells #[.int .i64 x0, .int .i64 x1, .int .i64 x2, .slice u3 k3 c3, .slice u4 k4 c4, .slice u5 k5 c5, .slice u6 k6 c6, .slice u7 k7 c7] 28 (0, 0)) := Stp.keep HW.out T2.out (Nat.le_refl _) (by have := HLA.out; omega) HP1.out
  have a4 : w2.cell? ⟨w.heap.size, 4, none⟩ = some (.slice u4 k4 c4) := by rw [cell_of_row _ _ _ _ _ _ Z2]; rfl
  have C : Hid (Calls Tryz.prog 35 #[.pointer (some ⟨B, 0, none⟩), .slice u4 k4 c4, .func (.func 36) #[.pointer (some ⟨B, 0, none⟩)] #[]] w2 (Put base w2 B v2 q3.1 q3.2)) := by
    have r := HR4.out.keep docM_ok (Keep.low ((HW.out.first HB1.out T2.out).low HW.out) (fun b h => h))
    rw [HQ3.out, HK4.out]
    exact plist_Doc K2.out u4 c4 x4 r (by have := N2.out; omega)
  clear Z2
  go_upto_region 3 with fail
  go_wp2_with fail
  refine C.out.mono ?_
  rintro e w3 ⟨rfl, v3, KTT, STT⟩
  have T3 := Lib.hid (T2.out.trans STT)
  have K3 := Lib.hid KTT
  clear KTT STT C a4
  have Z3 : w3.heap[w.heap.size]? = some (.cells #[.int .i64 x0, .int .i64 x1, .int .i64 x2, .slice u3 k3 c3, .slice u4 k4 c4, .slice u5 k5 c5, .slice u6 k6 c6, .slice u7 k7 c7] 28 (0, 0)) := Stp.keep HW.out T3.out (Nat.le_refl _) (by have := HLA.out; omega) HP1.out
  have a5 : w3.cell? ⟨w.heap.size, 5, none⟩ = some (.slice u5 k5 c5) := by rw [cell_of_row _ _ _ _ _ _ Z3]; rfl
  have C : Hid (Calls Tryz.prog 37 #[.pointer (some ⟨B, 0, none⟩), .slice u5 k5 c5, .func (.func 38) #[.pointer (some ⟨B, 0, none⟩)] #[]] w3 (Put base w3 B v3 q4.1 q4.2)) := by
    have r := HR5.out.keep stkM_ok (Keep.low ((HW.out.first HB1.out T3.out).low HW.out) (fun b h => h))
    rw [HQ4.out, HK5.out]
    exact plist_Stack K3.out u5 c5 x5 r (by have := N3.out; omega)
  clear Z3
  go_upto_region 4 with fail
  go_wp2_with fail
  refine C.out.mono ?_
  rintro e w4 ⟨rfl, v4, KTT, STT⟩
  have T4 := Lib.hid (T3.out.trans STT)
  have K4 := Lib.hid KTT
  clear KTT STT C a5
  have Z4 : w4.heap[w.heap.size]? = some (.cells #[.int .i64 x0, .int .i64 x1, .int .i64 x2, .slice u3 k3 c3, .slice u4 k4 c4, .slice u5 k5 c5, .slice u6 k6 c6, .slice u7 k7 c7] 28 (0, 0)) := Stp.keep HW.out T4.out (Nat.le_refl _) (by have := HLA.out; omega) HP1.out
  have a6 : w4.cell? ⟨w.heap.size, 6, none⟩ = some (.slice u6 k6 c6) := by rw [cell_of_row _ _ _ _ _ _ Z4]; rfl
  have C : Hid (Calls Tryz.prog 39 #[.pointer (some ⟨B, 0, none⟩), .slice u6 k6 c6, .func (.func 40) #[.pointer (some ⟨B, 0, none⟩)] #[]] w4 (Put base w4 B v4 q5.1 q5.2)) := by
    have r := HR6.out.keep seaM_ok (Keep.low ((HW.out.first HB1.out T4.out).low HW.out) (fun b h => h))
    rw [HQ5.out, HK6.out]
    exact plist_Seat K4.out u6 c6 x6 r (by have := N4.out; omega)
  clear Z4
  go_upto_region 5 with fail
  go_wp2_with fail
  refine C.out.mono ?_
  rintro e w5 ⟨rfl, v5, KTT, STT⟩
  have T5 := Lib.hid (T4.out.trans STT)
  have K5 := Lib.hid KTT
  clear KTT STT C a6
  have Z5 : w5.heap[w.heap.size]? = some (.cells #[.int .i64 x0, .int .i64 x1, .int .i64 x2, .slice u3 k3 c3, .slice u4 k4 c4, .slice u5 k5 c5, .slice u6 k6 c6, .slice u7 k7 c7] 28 (0, 0)) := Stp.keep HW.out T5.out (Nat.le_refl _) (by have := HLA.out; omega) HP1.out
  have a7 : w5.cell? ⟨w.heap.size, 7, none⟩ = some (.slice u7 k7 c7) := by rw [cell_of_row _ _ _ _ _ _ Z5]; rfl
  have C : Hid (Calls Tryz.prog 41 #[.pointer (some ⟨B, 0, none⟩), .slice u7 k7 c7, .func (.func 42) #[.pointer (some ⟨B, 0, none⟩)] #[]] w5 (Put base w5 B v5 q6.1 q6.2)) := by
    have r := HR7.out.keep entM_ok (Keep.low ((HW.out.first HB1.out T5.out).low HW.out) (fun b h => h))
    rw [HQ6.out, HK7.out]
    exact plist_Entry K5.out u7 c7 x7 r (by have := N5.out; omega)
  clear Z5
  go_upto_region 6 with fail
  go_wp2_with fail
  refine C.out.mono ?_
  rintro e w6 ⟨rfl, v6, KTT, STT⟩
  have T6 := Lib.hid (T5.out.trans STT)
  have K6 := Lib.hid KTT
  clear KTT STT C a7
  have FE : Hid (Put base w B v q6.1 q6.2 (.returned (.tuple #[])) w6) := ⟨rfl, v6, K6.out, HW.out.first HB1.out T6.out⟩
  go_wp2_with fail
  all_goals exact bodyPost_ret (v := .tuple #[]) (by simp [results, Tryz.results11, go_sem]) rfl FE.out
end Go.Proofs.YtmdgjcikekojdaaGreatDoor.Sta
