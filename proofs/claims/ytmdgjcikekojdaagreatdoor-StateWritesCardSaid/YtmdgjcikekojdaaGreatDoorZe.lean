/- State: the program's writer: numbers, spans, sites. -/
import Derived.Test.YtmdgjcikekojdaaGreatDoorTg
import Derived.Test.YtmdgjcikekojdaaGreatDoorZa
set_option linter.unusedVariables false
set_option linter.unusedSimpArgs false
set_option maxRecDepth 100000
namespace Go.Proofs.YtmdgjcikekojdaaGreatDoor.Sta
open Go.RowKit Go.Lib Go.Proofs.YtmdgjcikekojdaaGreatDoor.Bx Go.Proofs.YtmdgjcikekojdaaGreatDoor.Frm Go.Proofs.YtmdgjcikekojdaaGreatDoor.Wds

theorem ppairW_any {base B : Nat} {w : World} {v : Value} {l : List UInt8} {bad : Bool} (h : Wr base w B v l bad) (n : Int) (hl : l.length ≤ 300000000) : Calls Tryz.prog 65 #[.pointer (some ⟨B, 0, none⟩), .int .i64 n] w (Put base w B v (pairW n (l, bad)).1 (pairW n (l, bad)).2) := by
  unfold pairW
  by_cases h1 : 0 ≤ n ∧ n ≤ 65535
  · rw [if_pos h1]
    obtain ⟨k, rfl⟩ : ∃ k : Nat, n = (k : Int) := ⟨n.toNat, by omega⟩
    exact ppair_yes h k (by omega) hl
  · rw [if_neg h1]
    exact ppair_no h n (by omega)
set_option maxHeartbeats 8000000 in
theorem puts_int {base B : Nat} {w : World} {v : Value} {q0 : Q} (h : Wr base w B v q0.1 q0.2) (a : Option Addr) (c : Nat) (xs : List (Int)) (hq : RowP numM (fun b => b < B) w (.slice a xs.length c) xs) (hl : q0.1.length + (xs.flatMap numC.enc).length ≤ 290000000) : Calls Tryz.prog 95 #[.pointer (some ⟨B, 0, none⟩), .slice a xs.length c, .func (.func 64) #[.pointer (some ⟨B, 0, none⟩)] #[]] w (Put base w B v (foldW numC.put xs q0).1 (foldW numC.put xs q0).2) := by
  have hn9 : xs.length ≤ 9223372036854775807 := by have := hq.len; unfold maxLen at this; omega
  obtain ⟨n, hn⟩ : ∃ n, n = xs.length := ⟨_, rfl⟩
  obtain ⟨QF, hQF⟩ : ∃ QF, QF = foldW numC.put xs q0 := ⟨_, rfl⟩
  have HF : Hid (QF = foldW numC.put xs q0) := hQF
  have HL : Hid (n = xs.length) := hn
  have HLL0 : Hid (q0.1.length + ((xs.drop 0).flatMap numC.enc).length ≤ 290000000) := hl
  rw [← hQF]
  have HQ : Hid (RowP numM (fun b => b < B) w (.slice a n c) xs) := by show RowP _ _ _ _ _; rw [hn]; exact hq
  rw [← hn] at hn9 ⊢
  have HW := Lib.hid h
  have HS1 : Hid (Stp w B v w v) := Stp.refl _ _ _
  clear h hl hq hn hQF
  go_enter Tryz.func95, Tryz.ntmps95
  go_wp2_with fail
  go_loopg [10] n (fun gg i_ wr => ∃ (i : Nat) (u : Value) (q : Q), i ≤ n ∧ n - i ≤ gg ∧ i_ = .int .i64 (i : Nat) ∧ Hid (Wr base wr B u q.1 q.2) ∧ Hid (Stp w B v wr u) ∧ Hid (QF = foldW numC.put (xs.drop i) q) ∧ Hid (q.1.length + ((xs.drop i).flatMap numC.enc).length ≤ 290000000))
  case atStart => exact ⟨0, v, q0, by omega, by omega, rfl, HW, HS1, HF, HLL0⟩
  case round =>
    obtain ⟨i, u, ⟨ql, qb⟩, hi, hg, rfl, HR, HS, HT, HLL⟩ := hrel
    by_cases hin : i < n
    · have iw : ((i : Nat) : Int) < (n : Int) := by omega
      have n0 : (0 : Int) ≤ ((i : Nat) : Int) := by omega
      have hix : i < xs.length := by rw [← HL.out]; exact hin
      have HN : Hid (QF = if qb = true then (ql, qb) else foldW numC.put (xs.drop (i + 1)) (numC.put xs[i] (ql, qb))) := by show _ = _; rw [HT.out]; exact fold_next hix _
      have HLN : Hid (ql.length + ((numC.enc xs[i]).length + ((xs.drop (i + 1)).flatMap numC.enc).length) ≤ 290000000) := by
        have h9 := HLL.out
        rw [List.drop_eq_getElem_cons hix, List.flatMap_cons, List.length_append] at h9
        exact h9
      have hrow := HQ.out.keep numM_ok (Keep.low (HS.out.low HW.out) (fun b h => h))
      obtain ⟨b, off, cs, rfl, hlt, _, hR, hcc⟩ := hrow.get hix
      obtain ⟨x, hx⟩ : ∃ x, x = xs[i] := ⟨_, rfl⟩
      rw [← hx] at hR
      have HN' : Hid (QF = if qb = true then (ql, qb) else foldW numC.put (xs.drop (i + 1)) (numC.put x (ql, qb))) := by rw [hx]; exact HN
      have HLN' : Hid (ql.length + ((numC.enc x).length + ((xs.drop (i + 1)).flatMap numC.enc).length) ≤ 290000000) := by rw [hx]; exact HLN
      clear HN HLN hx
      have hR0 : cs = [.int .i64 x] := hR
      subst hR0
      have hc0 : wr.cell? ⟨b, off + i, none⟩ = some (.int .i64 x) := by have q := hcc 0 _ rfl; rw [show off + i * numM.k + 0 = off + i from by show off + i * 1 + 0 = _; omega] at q; exact q
      have wa1 : wr.cell? ⟨B, 1, none⟩ = some (.bool qb) := HR.out.cells.2.1
      have KA := HR.out
      have HSA := HS
      have hRA := hR
      cases qb with
      | true =>
        have FE : Hid (Put base w B v QF.1 QF.2 (.returned (.tuple #[])) wr) := by
          have e := HN'.out
          rw [if_pos rfl] at e
          show Put _ _ _ _ _ _ _ _
          rw [e]
          exact ⟨rfl, u, KA, HSA.out⟩
        clear HN' HT HR HS HLN' HLL KA HSA hrow hcc hR hRA
        go_wp2_with fail
        all_goals exact bodyPost_ret (v := .tuple #[]) (by simp [results, Tryz.results95, go_sem]) rfl FE.out
      | false =>
        have C2 := Lib.hid (pnum_any KA x (by have := HLN'.out; show ql.length ≤ _; omega))
        have HN2 : Hid (QF = foldW numC.put (xs.drop (i + 1)) (numC.put x (ql, false))) := HN'.out
        have HLN2 : Hid ((numC.put x (ql, false)).1.length + ((xs.drop (i + 1)).flatMap numC.enc).length ≤ 290000000) := by
          have h1 := numC_ok.put_len x (ql, false)
          have h2 := HLN'.out
          show _ ≤ _
          simp only at h1 h2 ⊢
          omega
        obtain ⟨q2, hq2⟩ : ∃ q2, q2 = numC.put x (ql, false) := ⟨_, rfl⟩
        rw [← hq2] at HN2 HLN2
        have C3 : Hid (Calls Tryz.prog 64 #[.pointer (some ⟨B, 0, none⟩), .int .i64 x] wr (Put base wr B u q2.1 q2.2)) := by rw [hq2]; exact C2.out
        clear HN' HT HR HS HLN' HLL KA C2 hq2 hrow hcc hR hRA
        go_wp2_with fail
        refine C3.out.mono ?_
        rintro e w5 ⟨rfl, u5, K5, S5⟩
        have HK5 := Lib.hid K5
        have HS5 := Lib.hid (HSA.out.trans S5)
        clear K5 S5 C3 HSA
        go_wp2_with fail
        go_roundg (n - (i + 1))
        case measure => omega
        case rel => exact ⟨i + 1, u5, q2, by omega, Nat.le_refl _, by go_num, HK5, HS5, HN2, HLN2⟩
    · obtain rfl : i = n := by omega
      have iw : ¬ ((i : Nat) : Int) < ((i : Nat) : Int) := by omega
      have FE : Hid (Put base w B v QF.1 QF.2 (.returned (.tuple #[])) wr) := by
        have e := HT.out
        rw [List.drop_of_length_le (by rw [← HL.out]; exact Nat.le_refl _)] at e
        show Put _ _ _ _ _ _ _ _
        rw [e]
        exact ⟨rfl, u, HR.out, HS.out⟩
      clear HR HS HT HLL
      go_wp2_with fail
      all_goals exact bodyPost_ret (v := .tuple #[]) (by simp [results, Tryz.results95, go_sem]) rfl FE.out
set_option maxHeartbeats 8000000 in
theorem plist_int {base B : Nat} {w : World} {v : Value} {l : List UInt8} {bad : Bool} (h : Wr base w B v l bad) (a : Option Addr) (c : Nat) (xs : List (Int)) (hq : RowP numM (fun b => b < B) w (.slice a xs.length c) xs) (hl : l.length + ((listC numC).enc xs).length ≤ 290000000) : Calls Tryz.prog 67 #[.pointer (some ⟨B, 0, none⟩), .slice a xs.length c, .func (.func 64) #[.pointer (some ⟨B, 0, none⟩)] #[]] w (Put base w B v ((listC numC).put xs (l, bad)).1 ((listC numC).put xs (l, bad)).2) := by
  have hn9 : xs.length ≤ 9223372036854775807 := by have := hq.len; unfold maxLen at this; omega
  obtain ⟨n, hn⟩ : ∃ n, n = xs.length := ⟨_, rfl⟩
  obtain ⟨q0, hq0⟩ : ∃ q0, q0 = pairW xs.length (l, bad) := ⟨_, rfl⟩
  have hl' : l.length + (2 + (xs.flatMap numC.enc).length) ≤ 290000000 := by
    have e : ((listC numC).enc xs).length = 2 + (xs.flatMap numC.enc).length := by show (pairL _ ++ _).length = _; rw [List.length_append, pair_len]
    rw [e] at hl
    exact hl
  have C0 := Lib.hid (ppairW_any h (xs.length : Int) (by omega))
  have HL : q0.1.length + (xs.flatMap numC.enc).length ≤ 290000000 := by
    have := pairW_len xs.length (l, bad)
    rw [← hq0] at this
    simp only at this
    omega
  have CI : Hid (∀ w1 v1, Wr base w1 B v1 q0.1 q0.2 → Stp w B v w1 v1 → Calls Tryz.prog 95 #[.pointer (some ⟨B, 0, none⟩), .slice a n c, .func (.func 64) #[.pointer (some ⟨B, 0, none⟩)] #[]] w1 (Put base w B v ((listC numC).put xs (l, bad)).1 ((listC numC).put xs (l, bad)).2)) := fun w1 v1 k s => by
    rw [hn]
    have e : (listC numC).put xs (l, bad) = foldW numC.put xs q0 := by rw [hq0]; rfl
    rw [e]
    exact (puts_int k a c xs (hq.keep numM_ok (Keep.low (s.low h) (fun b h => h))) HL).mono fun _ _ hh => Put.then s hh
  rw [← hq0] at C0
  generalize (listC numC).put xs (l, bad) = QF at *
  rw [← hn] at C0 hn9 ⊢
  clear h hl hl' hq hn hq0 HL
  go_enter Tryz.func67, Tryz.ntmps67
  go_wp2_with fail
  refine C0.out.mono ?_
  rintro e w1 ⟨rfl, v1, K1, S1⟩
  have C1 := Lib.hid (CI.out w1 v1 K1 S1)
  clear K1 S1 C0 CI
  go_wp2_with fail
  refine C1.out.mono ?_
  rintro e w2 ⟨rfl, H⟩
  have HH := Lib.hid H
  clear H C1
  go_wp2_with fail
  all_goals exact bodyPost_ret (v := .tuple #[]) (by simp [results, Tryz.results67, go_sem]) rfl ⟨rfl, HH.out⟩
set_option maxHeartbeats 8000000 in
theorem put_Span {base B : Nat} {w : World} {v : Value} {l : List UInt8} {bad : Bool} (h : Wr base w B v l bad) (x : Spn) (cs : List Value) (hR : spnM.R (fun b => b < B) w cs x) (hl : l.length + (spnC.enc x).length ≤ 290000000) : Calls Tryz.prog 99 #[.pointer (some ⟨B, 0, none⟩), .agg cs.toArray] w (Put base w B v (spnC.put x (l, bad)).1 (spnC.put x (l, bad)).2) := by
  obtain ⟨x0, x1, x2⟩ := x
  obtain rfl := spnM_cells hR
  have HLE : Hid (l.length + ((numL x0).length + ((numL x1).length + ((numL x2).length))) ≤ 290000000) := by
    show _ ≤ _
    have e : (spnC.enc (x0, x1, x2)).length = (numL x0).length + ((numL x1).length + ((numL x2).length)) := by
      show (numL x0 ++ (numL x1 ++ (numL x2))).length = _
      simp only [List.length_append]
    rw [e] at hl
    exact hl
  clear hR hl
  show Calls _ _ #[_, .agg #[.int .i64 x0, .int .i64 x1, .int .i64 x2]] _ _
  obtain ⟨B1, P1, L1⟩ := box1 w #[.int .i64 x0, .int .i64 x1, .int .i64 x2] 115
  obtain ⟨Wa, hWa⟩ : ∃ Wa, Wa = w.alloc (.cells #[.int .i64 x0, .int .i64 x1, .int .i64 x2] 115) := ⟨_, rfl⟩
  rw [← hWa] at B1 P1 L1
  have HWA := Lib.hid hWa
  have HW := Lib.hid h
  have HP1 := Lib.hid P1
  have HLA := Lib.hid L1
  have HB1 := Lib.hid B1
  have hmf : ∀ (fn : Fn) (first cap : Array Value) (w : World), (Instr.makeFunc fn first cap).run Tryz.prog w = .ok (.func fn first cap) w := fun _ _ _ _ => rfl
  obtain ⟨q0, hq0⟩ : ∃ q0 : Q, q0 = (l, bad) := ⟨_, rfl⟩
  have K0 : Hid (Wr base Wa B v q0.1 q0.2) := by rw [hq0]; exact h.below B1
  have T0 : Hid (Stp Wa B v Wa v) := Stp.refl _ _ _
  have N0 : Hid (q0.1.length + ((numL x0).length + ((numL x1).length + ((numL x2).length))) ≤ 290000000) := by rw [hq0]; exact HLE.out
  obtain ⟨q1, hq1⟩ : ∃ q1 : Q, q1 = numC.put x2 (numC.put x1 (numC.put x0 q0)) := ⟨_, rfl⟩
  have N1 : Hid (q1.1.length ≤ 290000000) := by
    show _ ≤ _
    have hN := N0.out
    have z0 := numC_ok.put_len x0 (q0)
    have z1 := numC_ok.put_len x1 (numC.put x0 (q0))
    have z2 := numC_ok.put_len x2 (numC.put x1 (numC.put x0 (q0)))
    rw [hq1]
    try simp only [show ∀ t, numC.enc t = numL t from fun _ => rfl, show ∀ t, flagC.enc t = flagL t from fun _ => rfl, show ∀ t, textC.enc t = textL t from fun _ => rfl] at *
    omega
  have HF : Hid (spnC.put (x0, x1, x2) (l, bad) = q1) := by
    show _ = _
    rw [hq1, hq0]
    rfl
  have HQ1 := Lib.hid hq1
  rw [HF.out]
  clear h hWa B1 P1 L1 hq0 HLE hq1 HF
  go_enter Tryz.func99, Tryz.ntmps99
  have Z0 : Wa.heap[w.heap.size]? = some (.cells #[.int .i64 x0, .int .i64 x1, .int .i64 x2] 115 (0, 0)) := Stp.keep HW.out T0.out (Nat.le_refl _) (by have := HLA.out; omega) HP1.out
  have a0 : Wa.cell? ⟨w.heap.size, 0, none⟩ = some (.int .i64 x0) := by rw [cell_of_row _ _ _ _ _ _ Z0]; rfl
  have a1 : Wa.cell? ⟨w.heap.size, 1, none⟩ = some (.int .i64 x1) := by rw [cell_of_row _ _ _ _ _ _ Z0]; rfl
  have a2 : Wa.cell? ⟨w.heap.size, 2, none⟩ = some (.int .i64 x2) := by rw [cell_of_row _ _ _ _ _ _ Z0]; rfl
  obtain ⟨B2, P2, L2⟩ := box1 Wa #[.int .i64 x0, .int .i64 x1, .int .i64 x2] 3
  obtain ⟨Wb0, hWb⟩ : ∃ Wb, Wb = (Wa.alloc (.cells #[.int .i64 x0, .int .i64 x1, .int .i64 x2] 3)).drew := ⟨_, rfl⟩
  have ST := stays_drew (stays_new K0.out (Below.refl _ _) #[.int .i64 x0, .int .i64 x1, .int .i64 x2] [x0, x1, x2] rfl)
  replace B2 := Below.drew B2
  rw [← hWb] at B2 ST
  have HWB := Lib.hid hWb
  have C : Hid (Calls Tryz.prog 32 #[.pointer (some ⟨B, 0, none⟩), .slice (some ⟨Wa.heap.size, 0, none⟩) 3 3] Wb0 (Put base Wb0 B v q1.1 q1.2)) := by
    have c := pnums_any (K0.out.below B2) _ 3 [x0, x1, x2] ST (by have := N0.out; show q0.1.length + 8 * 3 ≤ 300000000; omega)
    have e : q1 = (q0.1 ++ [x0, x1, x2].flatMap numL, q0.2) := by rw [HQ1.out]; show (_, _) = (_, _); simp [numC]
    rw [e]
    exact c
  have HST : Hid (∀ {w7 : World} {v7 : Value}, Stp Wb0 B v w7 v7 → Stp Wa B v w7 v7) := fun s => T0.out.trans (K0.out.first B2 s)
  have HZ0 := Lib.hid Z0
  have HSZ : Hid (w.heap.size < Wa.heap.size) := (Array.getElem?_eq_some_iff.1 Z0).1
  have KR : Hid (Below Wa.heap.size Wa Wa) := Below.refl _ _
  clear P2 L2 hWb ST B2 Z0
  go_upto_region 1 with fail
  rw [← HWA.out]
  have BX : Hid (∀ w', Below Wa.heap.size Wa w' → w'.cell? ⟨w.heap.size, 0, none⟩ = some (.int .i64 x0) ∧ w'.cell? ⟨w.heap.size, 1, none⟩ = some (.int .i64 x1) ∧ w'.cell? ⟨w.heap.size, 2, none⟩ = some (.int .i64 x2)) := fun w' hb => by
    have zz : w'.heap[w.heap.size]? = some (.cells #[.int .i64 x0, .int .i64 x1, .int .i64 x2] 115 (0, 0)) := (hb.block _ HSZ.out).trans HZ0.out
    exact ⟨by rw [cell_of_row _ _ _ _ _ _ zz]; rfl, by rw [cell_of_row _ _ _ _ _ _ zz]; rfl, by rw [cell_of_row _ _ _ _ _ _ zz]; rfl⟩
  go_region_held3 (fun w' => w'.cell? ⟨w.heap.size, 0, none⟩ = some (.int .i64 x0) ∧ w'.cell? ⟨w.heap.size, 1, none⟩ = some (.int .i64 x1) ∧ w'.cell? ⟨w.heap.size, 2, none⟩ = some (.int .i64 x2))
    (first
      | exact k5.out
      | (refine BX.out _ ?_; focus ((repeat first | assumption | exact KR.out | apply Below.drew | apply below_drews | refine Below.alloc ?_ (Nat.le_refl _) _); done)))
    (first
      | (go_at_call 32; rw [← HWB.out]; (refine C.out.mono ?_); rintro e w1 ⟨rfl, v1, KTT, STT⟩; have T1 := Lib.hid (HST.out STT); have ZTT : w1.heap[w.heap.size]? = some (.cells #[.int .i64 x0, .int .i64 x1, .int .i64 x2] 115 (0, 0)) := Stp.keep HW.out T1.out (Nat.le_refl _) (by have := HLA.out; omega) HP1.out; have k5 : Hid (w1.cell? ⟨w.heap.size, 0, none⟩ = some (.int .i64 x0) ∧ w1.cell? ⟨w.heap.size, 1, none⟩ = some (.int .i64 x1) ∧ w1.cell? ⟨w.heap.size, 2, none⟩ = some (.int .i64 x2)) := ⟨by rw [cell_of_row _ _ _ _ _ _ ZTT]; rfl, by rw [cell_of_row _ _ _ _ _ _ ZTT]; rfl, by rw [cell_of_row _ _ _ _ _ _ ZTT]; rfl⟩))
  have K1 := Lib.hid KTT
  clear KTT STT C HWB HST HSZ KR BX k5 ZTT HZ0 a0 a1 a2
  have FE : Hid (Put base w B v q1.1 q1.2 (.returned (.tuple #[])) w1) := ⟨rfl, v1, K1.out, HW.out.first HB1.out T1.out⟩
  go_wp2_with fail
  all_goals exact bodyPost_ret (v := .tuple #[]) (by simp [results, Tryz.results99, go_sem]) rfl FE.out
set_option maxHeartbeats 8000000 in
theorem puts_Span {base B : Nat} {w : World} {v : Value} {q0 : Q} (h : Wr base w B v q0.1 q0.2) (a : Option Addr) (c : Nat) (xs : List (Spn)) (hq : RowP spnM (fun b => b < B) w (.slice a xs.length c) xs) (hl : q0.1.length + (xs.flatMap spnC.enc).length ≤ 290000000) : Calls Tryz.prog 114 #[.pointer (some ⟨B, 0, none⟩), .slice a xs.length c, .func (.func 99) #[.pointer (some ⟨B, 0, none⟩)] #[]] w (Put base w B v (foldW spnC.put xs q0).1 (foldW spnC.put xs q0).2) := by
  have hn9 : xs.length ≤ 9223372036854775807 := by have := hq.len; unfold maxLen at this; omega
  obtain ⟨n, hn⟩ : ∃ n, n = xs.length := ⟨_, rfl⟩
  obtain ⟨QF, hQF⟩ : ∃ QF, QF = foldW spnC.put xs q0 := ⟨_, rfl⟩
  have HF : Hid (QF = foldW spnC.put xs q0) := hQF
  have HL : Hid (n = xs.length) := hn
  have HLL0 : Hid (q0.1.length + ((xs.drop 0).flatMap spnC.enc).length ≤ 290000000) := hl
  rw [← hQF]
  have HQ : Hid (RowP spnM (fun b => b < B) w (.slice a n c) xs) := by show RowP _ _ _ _ _; rw [hn]; exact hq
  rw [← hn] at hn9 ⊢
  have HW := Lib.hid h
  have HS1 : Hid (Stp w B v w v) := Stp.refl _ _ _
  clear h hl hq hn hQF
  go_enter Tryz.func114, Tryz.ntmps114
  go_wp2_with fail
  go_loopg [10] n (fun gg i_ wr => ∃ (i : Nat) (u : Value) (q : Q), i ≤ n ∧ n - i ≤ gg ∧ i_ = .int .i64 (i : Nat) ∧ Hid (Wr base wr B u q.1 q.2) ∧ Hid (Stp w B v wr u) ∧ Hid (QF = foldW spnC.put (xs.drop i) q) ∧ Hid (q.1.length + ((xs.drop i).flatMap spnC.enc).length ≤ 290000000))
  case atStart => exact ⟨0, v, q0, by omega, by omega, rfl, HW, HS1, HF, HLL0⟩
  case round =>
    obtain ⟨i, u, ⟨ql, qb⟩, hi, hg, rfl, HR, HS, HT, HLL⟩ := hrel
    by_cases hin : i < n
    · have iw : ((i : Nat) : Int) < (n : Int) := by omega
      have n0 : (0 : Int) ≤ ((i : Nat) : Int) := by omega
      have hix : i < xs.length := by rw [← HL.out]; exact hin
      have HN : Hid (QF = if qb = true then (ql, qb) else foldW spnC.put (xs.drop (i + 1)) (spnC.put xs[i] (ql, qb))) := by show _ = _; rw [HT.out]; exact fold_next hix _
      have HLN : Hid (ql.length + ((spnC.enc xs[i]).length + ((xs.drop (i + 1)).flatMap spnC.enc).length) ≤ 290000000) := by
        have h9 := HLL.out
        rw [List.drop_eq_getElem_cons hix, List.flatMap_cons, List.length_append] at h9
        exact h9
      have hrow := HQ.out.keep spnM_ok (Keep.low (HS.out.low HW.out) (fun b h => h))
      obtain ⟨b, off, cs, rfl, hlt, _, hR, hcc⟩ := hrow.get hix
      obtain ⟨x, hx⟩ : ∃ x, x = xs[i] := ⟨_, rfl⟩
      rw [← hx] at hR
      have HN' : Hid (QF = if qb = true then (ql, qb) else foldW spnC.put (xs.drop (i + 1)) (spnC.put x (ql, qb))) := by rw [hx]; exact HN
      have HLN' : Hid (ql.length + ((spnC.enc x).length + ((xs.drop (i + 1)).flatMap spnC.enc).length) ≤ 290000000) := by rw [hx]; exact HLN
      clear HN HLN hx
      obtain rfl := spnM_cells hR
      have hc0 : wr.cell? ⟨b, off + i * 3, none⟩ = some (.int .i64 x.1) := hcc 0 _ rfl
      have hc1 : wr.cell? ⟨b, off + i * 3 + 1, none⟩ = some (.int .i64 x.2.1) := hcc 1 _ rfl
      have hc2 : wr.cell? ⟨b, off + i * 3 + 2, none⟩ = some (.int .i64 x.2.2) := hcc 2 _ rfl
      obtain ⟨Wa, hWa⟩ : ∃ Wa, Wa = wr.alloc (.cells #[.int .i64 x.1, .int .i64 x.2.1, .int .i64 x.2.2] 115) := ⟨_, rfl⟩
      have bA : Below wr.heap.size wr Wa := by rw [hWa]; exact (box1 wr _ _).1
      have zA : Wa.heap[wr.heap.size]? = some (.cells #[.int .i64 x.1, .int .i64 x.2.1, .int .i64 x.2.2] 115 (0, 0)) := by rw [hWa]; exact (box1 wr _ _).2.1
      have KA := HR.out.below bA
      have HWA := Lib.hid hWa
      have wa1 : Wa.cell? ⟨B, 1, none⟩ = some (.bool qb) := KA.cells.2.1
      have HSA : Hid (Stp w B v Wa u) := HS.out.trans (HR.out.first bA (Stp.refl _ _ _))
      have hRA := spnM_ok.keep hR (Keep.below bA)
      obtain ⟨m0, m1, m2⟩ := three_cells zA
      cases qb with
      | true =>
        have FE : Hid (Put base w B v QF.1 QF.2 (.returned (.tuple #[])) Wa) := by
          have e := HN'.out
          rw [if_pos rfl] at e
          show Put _ _ _ _ _ _ _ _
          rw [e]
          exact ⟨rfl, u, KA, HSA.out⟩
        clear HN' HT HR HS HLN' HLL KA HSA hrow hcc hR hRA zA hWa bA
        go_upto_region 3 with fail
        rw [← HWA.out]
        go_wp2_with fail
        all_goals exact bodyPost_ret (v := .tuple #[]) (by simp [results, Tryz.results114, go_sem]) rfl FE.out
      | false =>
        have C2 := Lib.hid (put_Span KA x _ hRA (Nat.le_trans (Nat.add_le_add_left (Nat.le_add_right _ _) _) HLN'.out))
        have HN2 : Hid (QF = foldW spnC.put (xs.drop (i + 1)) (spnC.put x (ql, false))) := HN'.out
        have HLN2 : Hid ((spnC.put x (ql, false)).1.length + ((xs.drop (i + 1)).flatMap spnC.enc).length ≤ 290000000) := by
          have h1 := spnC_ok.put_len x (ql, false)
          have h2 := HLN'.out
          show _ ≤ _
          simp only at h1 h2 ⊢
          omega
        obtain ⟨q2, hq2⟩ : ∃ q2, q2 = spnC.put x (ql, false) := ⟨_, rfl⟩
        rw [← hq2] at HN2 HLN2
        have C3 : Hid (Calls Tryz.prog 99 #[.pointer (some ⟨B, 0, none⟩), .agg #[.int .i64 x.1, .int .i64 x.2.1, .int .i64 x.2.2]] Wa (Put base Wa B u q2.1 q2.2)) := by rw [hq2]; exact C2.out
        clear HN' HT HR HS HLN' HLL KA C2 hq2 hrow hcc hR hRA zA hWa bA
        go_upto_region 3 with fail
        rw [← HWA.out]
        go_wp2_with fail
        refine C3.out.mono ?_
        rintro e w5 ⟨rfl, u5, K5, S5⟩
        have HK5 := Lib.hid K5
        have HS5 := Lib.hid (HSA.out.trans S5)
        clear K5 S5 C3 HSA
        go_wp2_with fail
        go_roundg (n - (i + 1))
        case measure => omega
        case rel => exact ⟨i + 1, u5, q2, by omega, Nat.le_refl _, by go_num, HK5, HS5, HN2, HLN2⟩
    · obtain rfl : i = n := by omega
      have iw : ¬ ((i : Nat) : Int) < ((i : Nat) : Int) := by omega
      have FE : Hid (Put base w B v QF.1 QF.2 (.returned (.tuple #[])) wr) := by
        have e := HT.out
        rw [List.drop_of_length_le (by rw [← HL.out]; exact Nat.le_refl _)] at e
        show Put _ _ _ _ _ _ _ _
        rw [e]
        exact ⟨rfl, u, HR.out, HS.out⟩
      clear HR HS HT HLL
      go_wp2_with fail
      all_goals exact bodyPost_ret (v := .tuple #[]) (by simp [results, Tryz.results114, go_sem]) rfl FE.out
set_option maxHeartbeats 8000000 in
theorem plist_Span {base B : Nat} {w : World} {v : Value} {l : List UInt8} {bad : Bool} (h : Wr base w B v l bad) (a : Option Addr) (c : Nat) (xs : List (Spn)) (hq : RowP spnM (fun b => b < B) w (.slice a xs.length c) xs) (hl : l.length + ((listC spnC).enc xs).length ≤ 290000000) : Calls Tryz.prog 98 #[.pointer (some ⟨B, 0, none⟩), .slice a xs.length c, .func (.func 99) #[.pointer (some ⟨B, 0, none⟩)] #[]] w (Put base w B v ((listC spnC).put xs (l, bad)).1 ((listC spnC).put xs (l, bad)).2) := by
  have hn9 : xs.length ≤ 9223372036854775807 := by have := hq.len; unfold maxLen at this; omega
  obtain ⟨n, hn⟩ : ∃ n, n = xs.length := ⟨_, rfl⟩
  obtain ⟨q0, hq0⟩ : ∃ q0, q0 = pairW xs.length (l, bad) := ⟨_, rfl⟩
  have hl' : l.length + (2 + (xs.flatMap spnC.enc).length) ≤ 290000000 := by
    have e : ((listC spnC).enc xs).length = 2 + (xs.flatMap spnC.enc).length := by show (pairL _ ++ _).length = _; rw [List.length_append, pair_len]
    rw [e] at hl
    exact hl
  have C0 := Lib.hid (ppairW_any h (xs.length : Int) (by omega))
  have HL : q0.1.length + (xs.flatMap spnC.enc).length ≤ 290000000 := by
    have := pairW_len xs.length (l, bad)
    rw [← hq0] at this
    simp only at this
    omega
  have CI : Hid (∀ w1 v1, Wr base w1 B v1 q0.1 q0.2 → Stp w B v w1 v1 → Calls Tryz.prog 114 #[.pointer (some ⟨B, 0, none⟩), .slice a n c, .func (.func 99) #[.pointer (some ⟨B, 0, none⟩)] #[]] w1 (Put base w B v ((listC spnC).put xs (l, bad)).1 ((listC spnC).put xs (l, bad)).2)) := fun w1 v1 k s => by
    rw [hn]
    have e : (listC spnC).put xs (l, bad) = foldW spnC.put xs q0 := by rw [hq0]; rfl
    rw [e]
    exact (puts_Span k a c xs (hq.keep spnM_ok (Keep.low (s.low h) (fun b h => h))) HL).mono fun _ _ hh => Put.then s hh
  rw [← hq0] at C0
  generalize (listC spnC).put xs (l, bad) = QF at *
  rw [← hn] at C0 hn9 ⊢
  clear h hl hl' hq hn hq0 HL
  go_enter Tryz.func98, Tryz.ntmps98
  go_wp2_with fail
  refine C0.out.mono ?_
  rintro e w1 ⟨rfl, v1, K1, S1⟩
  have C1 := Lib.hid (CI.out w1 v1 K1 S1)
  clear K1 S1 C0 CI
  go_wp2_with fail
  refine C1.out.mono ?_
  rintro e w2 ⟨rfl, H⟩
  have HH := Lib.hid H
  clear H C1
  go_wp2_with fail
  all_goals exact bodyPost_ret (v := .tuple #[]) (by simp [results, Tryz.results98, go_sem]) rfl ⟨rfl, HH.out⟩
set_option maxHeartbeats 8000000 in
theorem put_Site {base B : Nat} {w : World} {v : Value} {l : List UInt8} {bad : Bool} (h : Wr base w B v l bad) (x : Sit) (cs : List Value) (hR : sitM.R (fun b => b < B) w cs x) (hl : l.length + (sitC.enc x).length ≤ 290000000) : Calls Tryz.prog 101 #[.pointer (some ⟨B, 0, none⟩), .agg cs.toArray] w (Put base w B v (sitC.put x (l, bad)).1 (sitC.put x (l, bad)).2) := by
  obtain ⟨x0, x1⟩ := x
  obtain rfl := sitM_cells hR
  have HLE : Hid (l.length + ((numL x0).length + ((numL x1).length)) ≤ 290000000) := by
    show _ ≤ _
    have e : (sitC.enc (x0, x1)).length = (numL x0).length + ((numL x1).length) := by
      show (numL x0 ++ (numL x1)).length = _
      simp only [List.length_append]
    rw [e] at hl
    exact hl
  clear hR hl
  show Calls _ _ #[_, .agg #[.int .i64 x0, .int .i64 x1]] _ _
  obtain ⟨B1, P1, L1⟩ := box1 w #[.int .i64 x0, .int .i64 x1] 117
  obtain ⟨Wa, hWa⟩ : ∃ Wa, Wa = w.alloc (.cells #[.int .i64 x0, .int .i64 x1] 117) := ⟨_, rfl⟩
  rw [← hWa] at B1 P1 L1
  have HWA := Lib.hid hWa
  have HW := Lib.hid h
  have HP1 := Lib.hid P1
  have HLA := Lib.hid L1
  have HB1 := Lib.hid B1
  have hmf : ∀ (fn : Fn) (first cap : Array Value) (w : World), (Instr.makeFunc fn first cap).run Tryz.prog w = .ok (.func fn first cap) w := fun _ _ _ _ => rfl
  obtain ⟨q0, hq0⟩ : ∃ q0 : Q, q0 = (l, bad) := ⟨_, rfl⟩
  have K0 : Hid (Wr base Wa B v q0.1 q0.2) := by rw [hq0]; exact h.below B1
  have T0 : Hid (Stp Wa B v Wa v) := Stp.refl _ _ _
  have N0 : Hid (q0.1.length + ((numL x0).length + ((numL x1).length)) ≤ 290000000) := by rw [hq0]; exact HLE.out
  obtain ⟨q1, hq1⟩ : ∃ q1 : Q, q1 = numC.put x1 (numC.put x0 q0) := ⟨_, rfl⟩
  have N1 : Hid (q1.1.length ≤ 290000000) := by
    show _ ≤ _
    have hN := N0.out
    have z0 := numC_ok.put_len x0 (q0)
    have z1 := numC_ok.put_len x1 (numC.put x0 (q0))
    rw [hq1]
    try simp only [show ∀ t, numC.enc t = numL t from fun _ => rfl, show ∀ t, flagC.enc t = flagL t from fun _ => rfl, show ∀ t, textC.enc t = textL t from fun _ => rfl] at *
    omega
  have HF : Hid (sitC.put (x0, x1) (l, bad) = q1) := by
    show _ = _
    rw [hq1, hq0]
    rfl
  have HQ1 := Lib.hid hq1
  rw [HF.out]
  clear h hWa B1 P1 L1 hq0 HLE hq1 HF
  go_enter Tryz.func101, Tryz.ntmps101
  have Z0 : Wa.heap[w.heap.size]? = some (.cells #[.int .i64 x0, .int .i64 x1] 117 (0, 0)) := Stp.keep HW.out T0.out (Nat.le_refl _) (by have := HLA.out; omega) HP1.out
  have a0 : Wa.cell? ⟨w.heap.size, 0, none⟩ = some (.int .i64 x0) := by rw [cell_of_row _ _ _ _ _ _ Z0]; rfl
  have a1 : Wa.cell? ⟨w.heap.size, 1, none⟩ = some (.int .i64 x1) := by rw [cell_of_row _ _ _ _ _ _ Z0]; rfl
  obtain ⟨B2, P2, L2⟩ := box1 Wa #[.int .i64 x0, .int .i64 x1] 3
  obtain ⟨Wb0, hWb⟩ : ∃ Wb, Wb = (Wa.alloc (.cells #[.int .i64 x0, .int .i64 x1] 3)).drew := ⟨_, rfl⟩
  have ST := stays_drew (stays_new K0.out (Below.refl _ _) #[.int .i64 x0, .int .i64 x1] [x0, x1] rfl)
  replace B2 := Below.drew B2
  rw [← hWb] at B2 ST
  have HWB := Lib.hid hWb
  have C : Hid (Calls Tryz.prog 32 #[.pointer (some ⟨B, 0, none⟩), .slice (some ⟨Wa.heap.size, 0, none⟩) 2 2] Wb0 (Put base Wb0 B v q1.1 q1.2)) := by
    have c := pnums_any (K0.out.below B2) _ 2 [x0, x1] ST (by have := N0.out; show q0.1.length + 8 * 2 ≤ 300000000; omega)
    have e : q1 = (q0.1 ++ [x0, x1].flatMap numL, q0.2) := by rw [HQ1.out]; show (_, _) = (_, _); simp [numC]
    rw [e]
    exact c
  have HST : Hid (∀ {w7 : World} {v7 : Value}, Stp Wb0 B v w7 v7 → Stp Wa B v w7 v7) := fun s => T0.out.trans (K0.out.first B2 s)
  have HZ0 := Lib.hid Z0
  have HSZ : Hid (w.heap.size < Wa.heap.size) := (Array.getElem?_eq_some_iff.1 Z0).1
  have KR : Hid (Below Wa.heap.size Wa Wa) := Below.refl _ _
  clear P2 L2 hWb ST B2 Z0
  go_upto_region 1 with fail
  rw [← HWA.out]
  have BX : Hid (∀ w', Below Wa.heap.size Wa w' → w'.cell? ⟨w.heap.size, 0, none⟩ = some (.int .i64 x0) ∧ w'.cell? ⟨w.heap.size, 1, none⟩ = some (.int .i64 x1)) := fun w' hb => by
    have zz : w'.heap[w.heap.size]? = some (.cells #[.int .i64 x0, .int .i64 x1] 117 (0, 0)) := (hb.block _ HSZ.out).trans HZ0.out
    exact ⟨by rw [cell_of_row _ _ _ _ _ _ zz]; rfl, by rw [cell_of_row _ _ _ _ _ _ zz]; rfl⟩
  go_region_held3 (fun w' => w'.cell? ⟨w.heap.size, 0, none⟩ = some (.int .i64 x0) ∧ w'.cell? ⟨w.heap.size, 1, none⟩ = some (.int .i64 x1))
    (first
      | exact k5.out
      | (refine BX.out _ ?_; focus ((repeat first | assumption | exact KR.out | apply Below.drew | apply below_drews | refine Below.alloc ?_ (Nat.le_refl _) _); done)))
    (first
      | (go_at_call 32; rw [← HWB.out]; (refine C.out.mono ?_); rintro e w1 ⟨rfl, v1, KTT, STT⟩; have T1 := Lib.hid (HST.out STT); have ZTT : w1.heap[w.heap.size]? = some (.cells #[.int .i64 x0, .int .i64 x1] 117 (0, 0)) := Stp.keep HW.out T1.out (Nat.le_refl _) (by have := HLA.out; omega) HP1.out; have k5 : Hid (w1.cell? ⟨w.heap.size, 0, none⟩ = some (.int .i64 x0) ∧ w1.cell? ⟨w.heap.size, 1, none⟩ = some (.int .i64 x1)) := ⟨by rw [cell_of_row _ _ _ _ _ _ ZTT]; rfl, by rw [cell_of_row _ _ _ _ _ _ ZTT]; rfl⟩))
  have K1 := Lib.hid KTT
  clear KTT STT C HWB HST HSZ KR BX k5 ZTT HZ0 a0 a1
  have FE : Hid (Put base w B v q1.1 q1.2 (.returned (.tuple #[])) w1) := ⟨rfl, v1, K1.out, HW.out.first HB1.out T1.out⟩
  go_wp2_with fail
  all_goals exact bodyPost_ret (v := .tuple #[]) (by simp [results, Tryz.results101, go_sem]) rfl FE.out
set_option maxHeartbeats 8000000 in
theorem puts_Site {base B : Nat} {w : World} {v : Value} {q0 : Q} (h : Wr base w B v q0.1 q0.2) (a : Option Addr) (c : Nat) (xs : List (Sit)) (hq : RowP sitM (fun b => b < B) w (.slice a xs.length c) xs) (hl : q0.1.length + (xs.flatMap sitC.enc).length ≤ 290000000) : Calls Tryz.prog 115 #[.pointer (some ⟨B, 0, none⟩), .slice a xs.length c, .func (.func 101) #[.pointer (some ⟨B, 0, none⟩)] #[]] w (Put base w B v (foldW sitC.put xs q0).1 (foldW sitC.put xs q0).2) := by
  have hn9 : xs.length ≤ 9223372036854775807 := by have := hq.len; unfold maxLen at this; omega
  obtain ⟨n, hn⟩ : ∃ n, n = xs.length := ⟨_, rfl⟩
  obtain ⟨QF, hQF⟩ : ∃ QF, QF = foldW sitC.put xs q0 := ⟨_, rfl⟩
  have HF : Hid (QF = foldW sitC.put xs q0) := hQF
  have HL : Hid (n = xs.length) := hn
  have HLL0 : Hid (q0.1.length + ((xs.drop 0).flatMap sitC.enc).length ≤ 290000000) := hl
  rw [← hQF]
  have HQ : Hid (RowP sitM (fun b => b < B) w (.slice a n c) xs) := by show RowP _ _ _ _ _; rw [hn]; exact hq
  rw [← hn] at hn9 ⊢
  have HW := Lib.hid h
  have HS1 : Hid (Stp w B v w v) := Stp.refl _ _ _
  clear h hl hq hn hQF
  go_enter Tryz.func115, Tryz.ntmps115
  go_wp2_with fail
  go_loopg [10] n (fun gg i_ wr => ∃ (i : Nat) (u : Value) (q : Q), i ≤ n ∧ n - i ≤ gg ∧ i_ = .int .i64 (i : Nat) ∧ Hid (Wr base wr B u q.1 q.2) ∧ Hid (Stp w B v wr u) ∧ Hid (QF = foldW sitC.put (xs.drop i) q) ∧ Hid (q.1.length + ((xs.drop i).flatMap sitC.enc).length ≤ 290000000))
  case atStart => exact ⟨0, v, q0, by omega, by omega, rfl, HW, HS1, HF, HLL0⟩
  case round =>
    obtain ⟨i, u, ⟨ql, qb⟩, hi, hg, rfl, HR, HS, HT, HLL⟩ := hrel
    by_cases hin : i < n
    · have iw : ((i : Nat) : Int) < (n : Int) := by omega
      have n0 : (0 : Int) ≤ ((i : Nat) : Int) := by omega
      have hix : i < xs.length := by rw [← HL.out]; exact hin
      have HN : Hid (QF = if qb = true then (ql, qb) else foldW sitC.put (xs.drop (i + 1)) (sitC.put xs[i] (ql, qb))) := by show _ = _; rw [HT.out]; exact fold_next hix _
      have HLN : Hid (ql.length + ((sitC.enc xs[i]).length + ((xs.drop (i + 1)).flatMap sitC.enc).length) ≤ 290000000) := by
        have h9 := HLL.out
        rw [List.drop_eq_getElem_cons hix, List.flatMap_cons, List.length_append] at h9
        exact h9
      have hrow := HQ.out.keep sitM_ok (Keep.low (HS.out.low HW.out) (fun b h => h))
      obtain ⟨b, off, cs, rfl, hlt, _, hR, hcc⟩ := hrow.get hix
      obtain ⟨x, hx⟩ : ∃ x, x = xs[i] := ⟨_, rfl⟩
      rw [← hx] at hR
      have HN' : Hid (QF = if qb = true then (ql, qb) else foldW sitC.put (xs.drop (i + 1)) (sitC.put x (ql, qb))) := by rw [hx]; exact HN
      have HLN' : Hid (ql.length + ((sitC.enc x).length + ((xs.drop (i + 1)).flatMap sitC.enc).length) ≤ 290000000) := by rw [hx]; exact HLN
      clear HN HLN hx
      obtain rfl := sitM_cells hR
      have hc0 : wr.cell? ⟨b, off + i * 2, none⟩ = some (.int .i64 x.1) := hcc 0 _ rfl
      have hc1 : wr.cell? ⟨b, off + i * 2 + 1, none⟩ = some (.int .i64 x.2) := hcc 1 _ rfl
      obtain ⟨Wa, hWa⟩ : ∃ Wa, Wa = wr.alloc (.cells #[.int .i64 x.1, .int .i64 x.2] 117) := ⟨_, rfl⟩
      have bA : Below wr.heap.size wr Wa := by rw [hWa]; exact (box1 wr _ _).1
      have zA : Wa.heap[wr.heap.size]? = some (.cells #[.int .i64 x.1, .int .i64 x.2] 117 (0, 0)) := by rw [hWa]; exact (box1 wr _ _).2.1
      have KA := HR.out.below bA
      have HWA := Lib.hid hWa
      have wa1 : Wa.cell? ⟨B, 1, none⟩ = some (.bool qb) := KA.cells.2.1
      have HSA : Hid (Stp w B v Wa u) := HS.out.trans (HR.out.first bA (Stp.refl _ _ _))
      have hRA := sitM_ok.keep hR (Keep.below bA)
      obtain ⟨m0, m1⟩ := two_cells zA
      cases qb with
      | true =>
        have FE : Hid (Put base w B v QF.1 QF.2 (.returned (.tuple #[])) Wa) := by
          have e := HN'.out
          rw [if_pos rfl] at e
          show Put _ _ _ _ _ _ _ _
          rw [e]
          exact ⟨rfl, u, KA, HSA.out⟩
        clear HN' HT HR HS HLN' HLL KA HSA hrow hcc hR hRA zA hWa bA
        go_upto_region 3 with fail
        rw [← HWA.out]
        go_wp2_with fail
        all_goals exact bodyPost_ret (v := .tuple #[]) (by simp [results, Tryz.results115, go_sem]) rfl FE.out
      | false =>
        have C2 := Lib.hid (put_Site KA x _ hRA (Nat.le_trans (Nat.add_le_add_left (Nat.le_add_right _ _) _) HLN'.out))
        have HN2 : Hid (QF = foldW sitC.put (xs.drop (i + 1)) (sitC.put x (ql, false))) := HN'.out
        have HLN2 : Hid ((sitC.put x (ql, false)).1.length + ((xs.drop (i + 1)).flatMap sitC.enc).length ≤ 290000000) := by
          have h1 := sitC_ok.put_len x (ql, false)
          have h2 := HLN'.out
          show _ ≤ _
          simp only at h1 h2 ⊢
          omega
        obtain ⟨q2, hq2⟩ : ∃ q2, q2 = sitC.put x (ql, false) := ⟨_, rfl⟩
        rw [← hq2] at HN2 HLN2
        have C3 : Hid (Calls Tryz.prog 101 #[.pointer (some ⟨B, 0, none⟩), .agg #[.int .i64 x.1, .int .i64 x.2]] Wa (Put base Wa B u q2.1 q2.2)) := by rw [hq2]; exact C2.out
        clear HN' HT HR HS HLN' HLL KA C2 hq2 hrow hcc hR hRA zA hWa bA
        go_upto_region 3 with fail
        rw [← HWA.out]
        go_wp2_with fail
        refine C3.out.mono ?_
        rintro e w5 ⟨rfl, u5, K5, S5⟩
        have HK5 := Lib.hid K5
        have HS5 := Lib.hid (HSA.out.trans S5)
        clear K5 S5 C3 HSA
        go_wp2_with fail
        go_roundg (n - (i + 1))
        case measure => omega
        case rel => exact ⟨i + 1, u5, q2, by omega, Nat.le_refl _, by go_num, HK5, HS5, HN2, HLN2⟩
    · obtain rfl : i = n := by omega
      have iw : ¬ ((i : Nat) : Int) < ((i : Nat) : Int) := by omega
      have FE : Hid (Put base w B v QF.1 QF.2 (.returned (.tuple #[])) wr) := by
        have e := HT.out
        rw [List.drop_of_length_le (by rw [← HL.out]; exact Nat.le_refl _)] at e
        show Put _ _ _ _ _ _ _ _
        rw [e]
        exact ⟨rfl, u, HR.out, HS.out⟩
      clear HR HS HT HLL
      go_wp2_with fail
      all_goals exact bodyPost_ret (v := .tuple #[]) (by simp [results, Tryz.results115, go_sem]) rfl FE.out
set_option maxHeartbeats 8000000 in
theorem plist_Site {base B : Nat} {w : World} {v : Value} {l : List UInt8} {bad : Bool} (h : Wr base w B v l bad) (a : Option Addr) (c : Nat) (xs : List (Sit)) (hq : RowP sitM (fun b => b < B) w (.slice a xs.length c) xs) (hl : l.length + ((listC sitC).enc xs).length ≤ 290000000) : Calls Tryz.prog 100 #[.pointer (some ⟨B, 0, none⟩), .slice a xs.length c, .func (.func 101) #[.pointer (some ⟨B, 0, none⟩)] #[]] w (Put base w B v ((listC sitC).put xs (l, bad)).1 ((listC sitC).put xs (l, bad)).2) := by
  have hn9 : xs.length ≤ 9223372036854775807 := by have := hq.len; unfold maxLen at this; omega
  obtain ⟨n, hn⟩ : ∃ n, n = xs.length := ⟨_, rfl⟩
  obtain ⟨q0, hq0⟩ : ∃ q0, q0 = pairW xs.length (l, bad) := ⟨_, rfl⟩
  have hl' : l.length + (2 + (xs.flatMap sitC.enc).length) ≤ 290000000 := by
    have e : ((listC sitC).enc xs).length = 2 + (xs.flatMap sitC.enc).length := by show (pairL _ ++ _).length = _; rw [List.length_append, pair_len]
    rw [e] at hl
    exact hl
  have C0 := Lib.hid (ppairW_any h (xs.length : Int) (by omega))
  have HL : q0.1.length + (xs.flatMap sitC.enc).length ≤ 290000000 := by
    have := pairW_len xs.length (l, bad)
    rw [← hq0] at this
    simp only at this
    omega
  have CI : Hid (∀ w1 v1, Wr base w1 B v1 q0.1 q0.2 → Stp w B v w1 v1 → Calls Tryz.prog 115 #[.pointer (some ⟨B, 0, none⟩), .slice a n c, .func (.func 101) #[.pointer (some ⟨B, 0, none⟩)] #[]] w1 (Put base w B v ((listC sitC).put xs (l, bad)).1 ((listC sitC).put xs (l, bad)).2)) := fun w1 v1 k s => by
    rw [hn]
    have e : (listC sitC).put xs (l, bad) = foldW sitC.put xs q0 := by rw [hq0]; rfl
    rw [e]
    exact (puts_Site k a c xs (hq.keep sitM_ok (Keep.low (s.low h) (fun b h => h))) HL).mono fun _ _ hh => Put.then s hh
  rw [← hq0] at C0
  generalize (listC sitC).put xs (l, bad) = QF at *
  rw [← hn] at C0 hn9 ⊢
  clear h hl hl' hq hn hq0 HL
  go_enter Tryz.func100, Tryz.ntmps100
  go_wp2_with fail
  refine C0.out.mono ?_
  rintro e w1 ⟨rfl, v1, K1, S1⟩
  have C1 := Lib.hid (CI.out w1 v1 K1 S1)
  clear K1 S1 C0 CI
  go_wp2_with fail
  refine C1.out.mono ?_
  rintro e w2 ⟨rfl, H⟩
  have HH := Lib.hid H
  clear H C1
  go_wp2_with fail
  all_goals exact bodyPost_ret (v := .tuple #[]) (by simp [results, Tryz.results100, go_sem]) rfl ⟨rfl, HH.out⟩
end Go.Proofs.YtmdgjcikekojdaaGreatDoor.Sta
/- State: the program's writer: things, stacks. -/
set_option linter.unusedVariables false
set_option linter.unusedSimpArgs false
set_option maxRecDepth 100000
namespace Go.Proofs.YtmdgjcikekojdaaGreatDoor.Sta
open Go.RowKit Go.Lib Go.Proofs.YtmdgjcikekojdaaGreatDoor.Bx Go.Proofs.YtmdgjcikekojdaaGreatDoor.Frm Go.Proofs.YtmdgjcikekojdaaGreatDoor.Wds

set_option maxHeartbeats 8000000 in
theorem put_Undo {base B : Nat} {w : World} {v : Value} {l : List UInt8} {bad : Bool} (h : Wr base w B v l bad) (x : Thg) (cs : List Value) (hR : thgM.R (fun b => b < B) w cs x) (hl : l.length + (thgC.enc x).length ≤ 290000000) : Calls Tryz.prog 74 #[.pointer (some ⟨B, 0, none⟩), .agg cs.toArray] w (Put base w B v (thgC.put x (l, bad)).1 (thgC.put x (l, bad)).2) := by
  obtain ⟨x0, x1, x2, x3, x4⟩ := x
  obtain rfl := thgM_cells hR
  have HLE : Hid (l.length + ((numL x0).length + ((numL x1).length + ((numL x2).length + ((numL x3).length + ((textL x4).length))))) ≤ 290000000) := by
    show _ ≤ _
    have e : (thgC.enc (x0, x1, x2, x3, x4)).length = (numL x0).length + ((numL x1).length + ((numL x2).length + ((numL x3).length + ((textL x4).length)))) := by
      show (numL x0 ++ (numL x1 ++ (numL x2 ++ (numL x3 ++ (textL x4))))).length = _
      simp only [List.length_append]
    rw [e] at hl
    exact hl
  clear hR hl
  obtain ⟨y4, hy4⟩ : ∃ y, y = mkB x4 := ⟨_, rfl⟩
  have HY4 := Lib.hid hy4
  show Calls _ _ #[_, .agg #[.int .i64 x0, .int .i64 x1, .int .i64 x2, .int .i64 x3, .string (mkB x4)]] _ _
  rw [← hy4]
  obtain ⟨B1, P1, L1⟩ := box1 w #[.int .i64 x0, .int .i64 x1, .int .i64 x2, .int .i64 x3, .string y4] 63
  obtain ⟨Wa, hWa⟩ : ∃ Wa, Wa = w.alloc (.cells #[.int .i64 x0, .int .i64 x1, .int .i64 x2, .int .i64 x3, .string y4] 63) := ⟨_, rfl⟩
  rw [← hWa] at B1 P1 L1
  have HWA := Lib.hid hWa
  have HW := Lib.hid h
  have HP1 := Lib.hid P1
  have HLA := Lib.hid L1
  have HB1 := Lib.hid B1
  have hmf : ∀ (fn : Fn) (first cap : Array Value) (w : World), (Instr.makeFunc fn first cap).run Tryz.prog w = .ok (.func fn first cap) w := fun _ _ _ _ => rfl
  obtain ⟨q0, hq0⟩ : ∃ q0 : Q, q0 = (l, bad) := ⟨_, rfl⟩
  have K0 : Hid (Wr base Wa B v q0.1 q0.2) := by rw [hq0]; exact h.below B1
  have T0 : Hid (Stp Wa B v Wa v) := Stp.refl _ _ _
  have N0 : Hid (q0.1.length + ((numL x0).length + ((numL x1).length + ((numL x2).length + ((numL x3).length + ((textL x4).length))))) ≤ 290000000) := by rw [hq0]; exact HLE.out
  obtain ⟨q1, hq1⟩ : ∃ q1 : Q, q1 = numC.put x3 (numC.put x2 (numC.put x1 (numC.put x0 q0))) := ⟨_, rfl⟩
  have N1 : Hid (q1.1.length + ((textL x4).length) ≤ 290000000) := by
    show _ ≤ _
    have hN := N0.out
    have z0 := numC_ok.put_len x0 (q0)
    have z1 := numC_ok.put_len x1 (numC.put x0 (q0))
    have z2 := numC_ok.put_len x2 (numC.put x1 (numC.put x0 (q0)))
    have z3 := numC_ok.put_len x3 (numC.put x2 (numC.put x1 (numC.put x0 (q0))))
    rw [hq1]
    try simp only [show ∀ t, numC.enc t = numL t from fun _ => rfl, show ∀ t, flagC.enc t = flagL t from fun _ => rfl, show ∀ t, textC.enc t = textL t from fun _ => rfl] at *
    omega
  obtain ⟨q2, hq2⟩ : ∃ q2 : Q, q2 = textC.put x4 q1 := ⟨_, rfl⟩
  have N2 : Hid (q2.1.length ≤ 290000000) := by
    show _ ≤ _
    have hN := N1.out
    have z4 := textC_ok.put_len x4 (q1)
    rw [hq2]
    try simp only [show ∀ t, numC.enc t = numL t from fun _ => rfl, show ∀ t, flagC.enc t = flagL t from fun _ => rfl, show ∀ t, textC.enc t = textL t from fun _ => rfl] at *
    omega
  have HF : Hid (thgC.put (x0, x1, x2, x3, x4) (l, bad) = q2) := by
    show _ = _
    rw [hq2, hq1, hq0]
    rfl
  have HQ1 := Lib.hid hq1
  have HQ2 := Lib.hid hq2
  rw [HF.out]
  clear h hWa B1 P1 L1 hq0 HLE hq1 hq2 hy4 HF
  go_enter Tryz.func74, Tryz.ntmps74
  have Z0 : Wa.heap[w.heap.size]? = some (.cells #[.int .i64 x0, .int .i64 x1, .int .i64 x2, .int .i64 x3, .string y4] 63 (0, 0)) := Stp.keep HW.out T0.out (Nat.le_refl _) (by have := HLA.out; omega) HP1.out
  have a0 : Wa.cell? ⟨w.heap.size, 0, none⟩ = some (.int .i64 x0) := by rw [cell_of_row _ _ _ _ _ _ Z0]; rfl
  have a1 : Wa.cell? ⟨w.heap.size, 1, none⟩ = some (.int .i64 x1) := by rw [cell_of_row _ _ _ _ _ _ Z0]; rfl
  have a2 : Wa.cell? ⟨w.heap.size, 2, none⟩ = some (.int .i64 x2) := by rw [cell_of_row _ _ _ _ _ _ Z0]; rfl
  have a3 : Wa.cell? ⟨w.heap.size, 3, none⟩ = some (.int .i64 x3) := by rw [cell_of_row _ _ _ _ _ _ Z0]; rfl
  obtain ⟨B2, P2, L2⟩ := box1 Wa #[.int .i64 x0, .int .i64 x1, .int .i64 x2, .int .i64 x3] 3
  obtain ⟨Wb0, hWb⟩ : ∃ Wb, Wb = (Wa.alloc (.cells #[.int .i64 x0, .int .i64 x1, .int .i64 x2, .int .i64 x3] 3)).drew := ⟨_, rfl⟩
  have ST := stays_drew (stays_new K0.out (Below.refl _ _) #[.int .i64 x0, .int .i64 x1, .int .i64 x2, .int .i64 x3] [x0, x1, x2, x3] rfl)
  replace B2 := Below.drew B2
  rw [← hWb] at B2 ST
  have HWB := Lib.hid hWb
  have C : Hid (Calls Tryz.prog 32 #[.pointer (some ⟨B, 0, none⟩), .slice (some ⟨Wa.heap.size, 0, none⟩) 4 4] Wb0 (Put base Wb0 B v q1.1 q1.2)) := by
    have c := pnums_any (K0.out.below B2) _ 4 [x0, x1, x2, x3] ST (by have := N0.out; show q0.1.length + 8 * 4 ≤ 300000000; omega)
    have e : q1 = (q0.1 ++ [x0, x1, x2, x3].flatMap numL, q0.2) := by rw [HQ1.out]; show (_, _) = (_, _); simp [numC]
    rw [e]
    exact c
  have HST : Hid (∀ {w7 : World} {v7 : Value}, Stp Wb0 B v w7 v7 → Stp Wa B v w7 v7) := fun s => T0.out.trans (K0.out.first B2 s)
  have HZ0 := Lib.hid Z0
  have HSZ : Hid (w.heap.size < Wa.heap.size) := (Array.getElem?_eq_some_iff.1 Z0).1
  have KR : Hid (Below Wa.heap.size Wa Wa) := Below.refl _ _
  clear P2 L2 hWb ST B2 Z0
  go_upto_region 1 with fail
  rw [← HWA.out]
  have BX : Hid (∀ w', Below Wa.heap.size Wa w' → w'.cell? ⟨w.heap.size, 0, none⟩ = some (.int .i64 x0) ∧ w'.cell? ⟨w.heap.size, 1, none⟩ = some (.int .i64 x1) ∧ w'.cell? ⟨w.heap.size, 2, none⟩ = some (.int .i64 x2) ∧ w'.cell? ⟨w.heap.size, 3, none⟩ = some (.int .i64 x3)) := fun w' hb => by
    have zz : w'.heap[w.heap.size]? = some (.cells #[.int .i64 x0, .int .i64 x1, .int .i64 x2, .int .i64 x3, .string y4] 63 (0, 0)) := (hb.block _ HSZ.out).trans HZ0.out
    exact ⟨by rw [cell_of_row _ _ _ _ _ _ zz]; rfl, by rw [cell_of_row _ _ _ _ _ _ zz]; rfl, by rw [cell_of_row _ _ _ _ _ _ zz]; rfl, by rw [cell_of_row _ _ _ _ _ _ zz]; rfl⟩
  go_region_held3 (fun w' => w'.cell? ⟨w.heap.size, 0, none⟩ = some (.int .i64 x0) ∧ w'.cell? ⟨w.heap.size, 1, none⟩ = some (.int .i64 x1) ∧ w'.cell? ⟨w.heap.size, 2, none⟩ = some (.int .i64 x2) ∧ w'.cell? ⟨w.heap.size, 3, none⟩ = some (.int .i64 x3))
    (first
      | exact k5.out
      | (refine BX.out _ ?_; focus ((repeat first | assumption | exact KR.out | apply Below.drew | apply below_drews | refine Below.alloc ?_ (Nat.le_refl _) _); done)))
    (first
      | (go_at_call 32; rw [← HWB.out]; (refine C.out.mono ?_); rintro e w1 ⟨rfl, v1, KTT, STT⟩; have T1 := Lib.hid (HST.out STT); have ZTT : w1.heap[w.heap.size]? = some (.cells #[.int .i64 x0, .int .i64 x1, .int .i64 x2, .int .i64 x3, .string y4] 63 (0, 0)) := Stp.keep HW.out T1.out (Nat.le_refl _) (by have := HLA.out; omega) HP1.out; have k5 : Hid (w1.cell? ⟨w.heap.size, 0, none⟩ = some (.int .i64 x0) ∧ w1.cell? ⟨w.heap.size, 1, none⟩ = some (.int .i64 x1) ∧ w1.cell? ⟨w.heap.size, 2, none⟩ = some (.int .i64 x2) ∧ w1.cell? ⟨w.heap.size, 3, none⟩ = some (.int .i64 x3)) := ⟨by rw [cell_of_row _ _ _ _ _ _ ZTT]; rfl, by rw [cell_of_row _ _ _ _ _ _ ZTT]; rfl, by rw [cell_of_row _ _ _ _ _ _ ZTT]; rfl, by rw [cell_of_row _ _ _ _ _ _ ZTT]; rfl⟩))
  have K1 := Lib.hid KTT
  clear KTT STT C HWB HST HSZ KR BX k5 ZTT HZ0 a0 a1 a2 a3
  have Z1 : w1.heap[w.heap.size]? = some (.cells #[.int .i64 x0, .int .i64 x1, .int .i64 x2, .int .i64 x3, .string y4] 63 (0, 0)) := Stp.keep HW.out T1.out (Nat.le_refl _) (by have := HLA.out; omega) HP1.out
  have a4 : w1.cell? ⟨w.heap.size, 4, none⟩ = some (.string y4) := by rw [cell_of_row _ _ _ _ _ _ Z1]; rfl
  have C : Hid (Calls Tryz.prog 76 #[.pointer (some ⟨B, 0, none⟩), .string y4] w1.drew (Put base w1 B v1 q2.1 q2.2)) := by
    rw [HQ2.out, HY4.out]
    exact (ptext_any K1.out.drew x4 (by have := N1.out; omega) (by have := N1.out; have e : (textL x4).length = x4.length + 2 := rfl; omega)).mono fun _ _ => Put.undrew
  clear Z1
  go_upto_region 2 with fail
  refine still_tailW 5 (by kernel_rfl) (by kernel_rfl) ?_
  simp only [List.take_succ_cons, List.take_zero, List.drop_succ_cons, List.drop_zero]
  have da := drew_cell a4
  generalize w1.drew = Wd1 at *
  repeat still_step
  refine wpStill_nil ?_
  clear da
  go_wp2_with fail
  refine C.out.mono ?_
  rintro e w2 ⟨rfl, v2, KTT, STT⟩
  have T2 := Lib.hid (T1.out.trans STT)
  have K2 := Lib.hid KTT
  clear KTT STT C a4
  have FE : Hid (Put base w B v q2.1 q2.2 (.returned (.tuple #[])) w2) := ⟨rfl, v2, K2.out, HW.out.first HB1.out T2.out⟩
  go_wp2_with fail
  all_goals exact bodyPost_ret (v := .tuple #[]) (by simp [results, Tryz.results74, go_sem]) rfl FE.out
set_option maxHeartbeats 8000000 in
theorem puts_Undo {base B : Nat} {w : World} {v : Value} {q0 : Q} (h : Wr base w B v q0.1 q0.2) (a : Option Addr) (c : Nat) (xs : List (Thg)) (hq : RowP thgM (fun b => b < B) w (.slice a xs.length c) xs) (hl : q0.1.length + (xs.flatMap thgC.enc).length ≤ 290000000) : Calls Tryz.prog 102 #[.pointer (some ⟨B, 0, none⟩), .slice a xs.length c, .func (.func 74) #[.pointer (some ⟨B, 0, none⟩)] #[]] w (Put base w B v (foldW thgC.put xs q0).1 (foldW thgC.put xs q0).2) := by
  have hn9 : xs.length ≤ 9223372036854775807 := by have := hq.len; unfold maxLen at this; omega
  obtain ⟨n, hn⟩ : ∃ n, n = xs.length := ⟨_, rfl⟩
  obtain ⟨QF, hQF⟩ : ∃ QF, QF = foldW thgC.put xs q0 := ⟨_, rfl⟩
  have HF : Hid (QF = foldW thgC.put xs q0) := hQF
  have HL : Hid (n = xs.length) := hn
  have HLL0 : Hid (q0.1.length + ((xs.drop 0).flatMap thgC.enc).length ≤ 290000000) := hl
  rw [← hQF]
  have HQ : Hid (RowP thgM (fun b => b < B) w (.slice a n c) xs) := by show RowP _ _ _ _ _; rw [hn]; exact hq
  rw [← hn] at hn9 ⊢
  have HW := Lib.hid h
  have HS1 : Hid (Stp w B v w v) := Stp.refl _ _ _
  clear h hl hq hn hQF
  go_enter Tryz.func102, Tryz.ntmps102
  go_wp2_with fail
  go_loopg [10] n (fun gg i_ wr => ∃ (i : Nat) (u : Value) (q : Q), i ≤ n ∧ n - i ≤ gg ∧ i_ = .int .i64 (i : Nat) ∧ Hid (Wr base wr B u q.1 q.2) ∧ Hid (Stp w B v wr u) ∧ Hid (QF = foldW thgC.put (xs.drop i) q) ∧ Hid (q.1.length + ((xs.drop i).flatMap thgC.enc).length ≤ 290000000))
  case atStart => exact ⟨0, v, q0, by omega, by omega, rfl, HW, HS1, HF, HLL0⟩
  case round =>
    obtain ⟨i, u, ⟨ql, qb⟩, hi, hg, rfl, HR, HS, HT, HLL⟩ := hrel
    by_cases hin : i < n
    · have iw : ((i : Nat) : Int) < (n : Int) := by omega
      have n0 : (0 : Int) ≤ ((i : Nat) : Int) := by omega
      have hix : i < xs.length := by rw [← HL.out]; exact hin
      have HN : Hid (QF = if qb = true then (ql, qb) else foldW thgC.put (xs.drop (i + 1)) (thgC.put xs[i] (ql, qb))) := by show _ = _; rw [HT.out]; exact fold_next hix _
      have HLN : Hid (ql.length + ((thgC.enc xs[i]).length + ((xs.drop (i + 1)).flatMap thgC.enc).length) ≤ 290000000) := by
        have h9 := HLL.out
        rw [List.drop_eq_getElem_cons hix, List.flatMap_cons, List.length_append] at h9
        exact h9
      have hrow := HQ.out.keep thgM_ok (Keep.low (HS.out.low HW.out) (fun b h => h))
      obtain ⟨b, off, cs, rfl, hlt, _, hR, hcc⟩ := hrow.get hix
      obtain ⟨x, hx⟩ : ∃ x, x = xs[i] := ⟨_, rfl⟩
      rw [← hx] at hR
      have HN' : Hid (QF = if qb = true then (ql, qb) else foldW thgC.put (xs.drop (i + 1)) (thgC.put x (ql, qb))) := by rw [hx]; exact HN
      have HLN' : Hid (ql.length + ((thgC.enc x).length + ((xs.drop (i + 1)).flatMap thgC.enc).length) ≤ 290000000) := by rw [hx]; exact HLN
      clear HN HLN hx
      obtain rfl := thgM_cells hR
      have hc0 : wr.cell? ⟨b, off + i * 5, none⟩ = some (.int .i64 x.1) := hcc 0 _ rfl
      have hc1 : wr.cell? ⟨b, off + i * 5 + 1, none⟩ = some (.int .i64 x.2.1) := hcc 1 _ rfl
      have hc2 : wr.cell? ⟨b, off + i * 5 + 2, none⟩ = some (.int .i64 x.2.2.1) := hcc 2 _ rfl
      have hc3 : wr.cell? ⟨b, off + i * 5 + 3, none⟩ = some (.int .i64 x.2.2.2.1) := hcc 3 _ rfl
      have hc4 : wr.cell? ⟨b, off + i * 5 + 4, none⟩ = some (.string (mkB x.2.2.2.2)) := hcc 4 _ rfl
      obtain ⟨Wa, hWa⟩ : ∃ Wa, Wa = wr.alloc (.cells #[.int .i64 x.1, .int .i64 x.2.1, .int .i64 x.2.2.1, .int .i64 x.2.2.2.1, .string (mkB x.2.2.2.2)] 63) := ⟨_, rfl⟩
      have bA : Below wr.heap.size wr Wa := by rw [hWa]; exact (box1 wr _ _).1
      have zA : Wa.heap[wr.heap.size]? = some (.cells #[.int .i64 x.1, .int .i64 x.2.1, .int .i64 x.2.2.1, .int .i64 x.2.2.2.1, .string (mkB x.2.2.2.2)] 63 (0, 0)) := by rw [hWa]; exact (box1 wr _ _).2.1
      have KA := HR.out.below bA
      have HWA := Lib.hid hWa
      have wa1 : Wa.cell? ⟨B, 1, none⟩ = some (.bool qb) := KA.cells.2.1
      have HSA : Hid (Stp w B v Wa u) := HS.out.trans (HR.out.first bA (Stp.refl _ _ _))
      have hRA := thgM_ok.keep hR (Keep.below bA)
      obtain ⟨m0, m1, m2, m3, m4⟩ := five_cells zA
      cases qb with
      | true =>
        have FE : Hid (Put base w B v QF.1 QF.2 (.returned (.tuple #[])) Wa) := by
          have e := HN'.out
          rw [if_pos rfl] at e
          show Put _ _ _ _ _ _ _ _
          rw [e]
          exact ⟨rfl, u, KA, HSA.out⟩
        clear HN' HT HR HS HLN' HLL KA HSA hrow hcc hR hRA zA hWa bA
        go_upto_region 3 with fail
        rw [← HWA.out]
        go_wp2_with fail
        all_goals exact bodyPost_ret (v := .tuple #[]) (by simp [results, Tryz.results102, go_sem]) rfl FE.out
      | false =>
        have C2 := Lib.hid (put_Undo KA x _ hRA (Nat.le_trans (Nat.add_le_add_left (Nat.le_add_right _ _) _) HLN'.out))
        have HN2 : Hid (QF = foldW thgC.put (xs.drop (i + 1)) (thgC.put x (ql, false))) := HN'.out
        have HLN2 : Hid ((thgC.put x (ql, false)).1.length + ((xs.drop (i + 1)).flatMap thgC.enc).length ≤ 290000000) := by
          have h1 := thgC_ok.put_len x (ql, false)
          have h2 := HLN'.out
          show _ ≤ _
          simp only at h1 h2 ⊢
          omega
        obtain ⟨q2, hq2⟩ : ∃ q2, q2 = thgC.put x (ql, false) := ⟨_, rfl⟩
        rw [← hq2] at HN2 HLN2
        have C3 : Hid (Calls Tryz.prog 74 #[.pointer (some ⟨B, 0, none⟩), .agg #[.int .i64 x.1, .int .i64 x.2.1, .int .i64 x.2.2.1, .int .i64 x.2.2.2.1, .string (mkB x.2.2.2.2)]] Wa (Put base Wa B u q2.1 q2.2)) := by rw [hq2]; exact C2.out
        clear HN' HT HR HS HLN' HLL KA C2 hq2 hrow hcc hR hRA zA hWa bA
        go_upto_region 3 with fail
        rw [← HWA.out]
        go_wp2_with fail
        refine C3.out.mono ?_
        rintro e w5 ⟨rfl, u5, K5, S5⟩
        have HK5 := Lib.hid K5
        have HS5 := Lib.hid (HSA.out.trans S5)
        clear K5 S5 C3 HSA
        go_wp2_with fail
        go_roundg (n - (i + 1))
        case measure => omega
        case rel => exact ⟨i + 1, u5, q2, by omega, Nat.le_refl _, by go_num, HK5, HS5, HN2, HLN2⟩
    · obtain rfl : i = n := by omega
      have iw : ¬ ((i : Nat) : Int) < ((i : Nat) : Int) := by omega
      have FE : Hid (Put base w B v QF.1 QF.2 (.returned (.tuple #[])) wr) := by
        have e := HT.out
        rw [List.drop_of_length_le (by rw [← HL.out]; exact Nat.le_refl _)] at e
        show Put _ _ _ _ _ _ _ _
        rw [e]
        exact ⟨rfl, u, HR.out, HS.out⟩
      clear HR HS HT HLL
      go_wp2_with fail
      all_goals exact bodyPost_ret (v := .tuple #[]) (by simp [results, Tryz.results102, go_sem]) rfl FE.out
set_option maxHeartbeats 8000000 in
theorem plist_Undo {base B : Nat} {w : World} {v : Value} {l : List UInt8} {bad : Bool} (h : Wr base w B v l bad) (a : Option Addr) (c : Nat) (xs : List (Thg)) (hq : RowP thgM (fun b => b < B) w (.slice a xs.length c) xs) (hl : l.length + ((listC thgC).enc xs).length ≤ 290000000) : Calls Tryz.prog 73 #[.pointer (some ⟨B, 0, none⟩), .slice a xs.length c, .func (.func 74) #[.pointer (some ⟨B, 0, none⟩)] #[]] w (Put base w B v ((listC thgC).put xs (l, bad)).1 ((listC thgC).put xs (l, bad)).2) := by
  have hn9 : xs.length ≤ 9223372036854775807 := by have := hq.len; unfold maxLen at this; omega
  obtain ⟨n, hn⟩ : ∃ n, n = xs.length := ⟨_, rfl⟩
  obtain ⟨q0, hq0⟩ : ∃ q0, q0 = pairW xs.length (l, bad) := ⟨_, rfl⟩
  have hl' : l.length + (2 + (xs.flatMap thgC.enc).length) ≤ 290000000 := by
    have e : ((listC thgC).enc xs).length = 2 + (xs.flatMap thgC.enc).length := by show (pairL _ ++ _).length = _; rw [List.length_append, pair_len]
    rw [e] at hl
    exact hl
  have C0 := Lib.hid (ppairW_any h (xs.length : Int) (by omega))
  have HL : q0.1.length + (xs.flatMap thgC.enc).length ≤ 290000000 := by
    have := pairW_len xs.length (l, bad)
    rw [← hq0] at this
    simp only at this
    omega
  have CI : Hid (∀ w1 v1, Wr base w1 B v1 q0.1 q0.2 → Stp w B v w1 v1 → Calls Tryz.prog 102 #[.pointer (some ⟨B, 0, none⟩), .slice a n c, .func (.func 74) #[.pointer (some ⟨B, 0, none⟩)] #[]] w1 (Put base w B v ((listC thgC).put xs (l, bad)).1 ((listC thgC).put xs (l, bad)).2)) := fun w1 v1 k s => by
    rw [hn]
    have e : (listC thgC).put xs (l, bad) = foldW thgC.put xs q0 := by rw [hq0]; rfl
    rw [e]
    exact (puts_Undo k a c xs (hq.keep thgM_ok (Keep.low (s.low h) (fun b h => h))) HL).mono fun _ _ hh => Put.then s hh
  rw [← hq0] at C0
  generalize (listC thgC).put xs (l, bad) = QF at *
  rw [← hn] at C0 hn9 ⊢
  clear h hl hl' hq hn hq0 HL
  go_enter Tryz.func73, Tryz.ntmps73
  go_wp2_with fail
  refine C0.out.mono ?_
  rintro e w1 ⟨rfl, v1, K1, S1⟩
  have C1 := Lib.hid (CI.out w1 v1 K1 S1)
  clear K1 S1 C0 CI
  go_wp2_with fail
  refine C1.out.mono ?_
  rintro e w2 ⟨rfl, H⟩
  have HH := Lib.hid H
  clear H C1
  go_wp2_with fail
  all_goals exact bodyPost_ret (v := .tuple #[]) (by simp [results, Tryz.results73, go_sem]) rfl ⟨rfl, HH.out⟩
set_option maxHeartbeats 4000000 in
theorem put_Stack {base B : Nat} {w : World} {v : Value} {l : List UInt8} {bad : Bool} (h : Wr base w B v l bad) (x : List Thg) {u0 : Option Addr} {c0 : Nat} (hR : stkM.R (fun b => b < B) w [.slice u0 x.length c0] x) (hl : l.length + (stkC.enc x).length ≤ 290000000) : Calls Tryz.prog 38 #[.pointer (some ⟨B, 0, none⟩), .slice u0 x.length c0] w (Put base w B v (stkC.put x (l, bad)).1 (stkC.put x (l, bad)).2) := by
  have r : RowP thgM (fun b => b < B) w (.slice u0 x.length c0) x := by
    obtain ⟨v', e, h⟩ := hR
    injection e with e _
    rw [e]
    exact h
  have C : Hid (Calls Tryz.prog 73 #[.pointer (some ⟨B, 0, none⟩), .slice u0 x.length c0, .func (.func 74) #[.pointer (some ⟨B, 0, none⟩)] #[]] w (Put base w B v (stkC.put x (l, bad)).1 (stkC.put x (l, bad)).2)) := plist_Undo h u0 c0 x r hl
  have hmf : ∀ (fn : Fn) (first cap : Array Value) (w : World), (Instr.makeFunc fn first cap).run Tryz.prog w = .ok (.func fn first cap) w := fun _ _ _ _ => rfl
  have hn9 : x.length ≤ 9223372036854775807 := by have := r.len; unfold maxLen at this; omega
  generalize stkC.put x (l, bad) = QF at *
  generalize x.length = n at *
  clear h hR hl r
  go_enter Tryz.func38, Tryz.ntmps38
  go_wp2_with fail
  refine C.out.mono ?_
  rintro e w2 ⟨rfl, H⟩
  have HH := Lib.hid H
  clear H C
  go_wp2_with fail
  all_goals exact bodyPost_ret (v := .tuple #[]) (by simp [results, Tryz.results38, go_sem]) rfl ⟨rfl, HH.out⟩
set_option maxHeartbeats 8000000 in
theorem puts_Stack {base B : Nat} {w : World} {v : Value} {q0 : Q} (h : Wr base w B v q0.1 q0.2) (a : Option Addr) (c : Nat) (xs : List (List Thg)) (hq : RowP stkM (fun b => b < B) w (.slice a xs.length c) xs) (hl : q0.1.length + (xs.flatMap stkC.enc).length ≤ 290000000) : Calls Tryz.prog 72 #[.pointer (some ⟨B, 0, none⟩), .slice a xs.length c, .func (.func 38) #[.pointer (some ⟨B, 0, none⟩)] #[]] w (Put base w B v (foldW stkC.put xs q0).1 (foldW stkC.put xs q0).2) := by
  have hn9 : xs.length ≤ 9223372036854775807 := by have := hq.len; unfold maxLen at this; omega
  obtain ⟨n, hn⟩ : ∃ n, n = xs.length := ⟨_, rfl⟩
  obtain ⟨QF, hQF⟩ : ∃ QF, QF = foldW stkC.put xs q0 := ⟨_, rfl⟩
  have HF : Hid (QF = foldW stkC.put xs q0) := hQF
  have HL : Hid (n = xs.length) := hn
  have HLL0 : Hid (q0.1.length + ((xs.drop 0).flatMap stkC.enc).length ≤ 290000000) := hl
  rw [← hQF]
  have HQ : Hid (RowP stkM (fun b => b < B) w (.slice a n c) xs) := by show RowP _ _ _ _ _; rw [hn]; exact hq
  rw [← hn] at hn9 ⊢
  have HW := Lib.hid h
  have HS1 : Hid (Stp w B v w v) := Stp.refl _ _ _
  clear h hl hq hn hQF
  go_enter Tryz.func72, Tryz.ntmps72
  go_wp2_with fail
  go_loopg [10] n (fun gg i_ wr => ∃ (i : Nat) (u : Value) (q : Q), i ≤ n ∧ n - i ≤ gg ∧ i_ = .int .i64 (i : Nat) ∧ Hid (Wr base wr B u q.1 q.2) ∧ Hid (Stp w B v wr u) ∧ Hid (QF = foldW stkC.put (xs.drop i) q) ∧ Hid (q.1.length + ((xs.drop i).flatMap stkC.enc).length ≤ 290000000))
  case atStart => exact ⟨0, v, q0, by omega, by omega, rfl, HW, HS1, HF, HLL0⟩
  case round =>
    obtain ⟨i, u, ⟨ql, qb⟩, hi, hg, rfl, HR, HS, HT, HLL⟩ := hrel
    by_cases hin : i < n
    · have iw : ((i : Nat) : Int) < (n : Int) := by omega
      have n0 : (0 : Int) ≤ ((i : Nat) : Int) := by omega
      have hix : i < xs.length := by rw [← HL.out]; exact hin
      have HN : Hid (QF = if qb = true then (ql, qb) else foldW stkC.put (xs.drop (i + 1)) (stkC.put xs[i] (ql, qb))) := by show _ = _; rw [HT.out]; exact fold_next hix _
      have HLN : Hid (ql.length + ((stkC.enc xs[i]).length + ((xs.drop (i + 1)).flatMap stkC.enc).length) ≤ 290000000) := by
        have h9 := HLL.out
        rw [List.drop_eq_getElem_cons hix, List.flatMap_cons, List.length_append] at h9
        exact h9
      have hrow := HQ.out.keep stkM_ok (Keep.low (HS.out.low HW.out) (fun b h => h))
      obtain ⟨b, off, cs, rfl, hlt, _, hR, hcc⟩ := hrow.get hix
      obtain ⟨x, hx⟩ : ∃ x, x = xs[i] := ⟨_, rfl⟩
      rw [← hx] at hR
      have HN' : Hid (QF = if qb = true then (ql, qb) else foldW stkC.put (xs.drop (i + 1)) (stkC.put x (ql, qb))) := by rw [hx]; exact HN
      have HLN' : Hid (ql.length + ((stkC.enc x).length + ((xs.drop (i + 1)).flatMap stkC.enc).length) ≤ 290000000) := by rw [hx]; exact HLN
      clear HN HLN hx
      obtain ⟨u0, c0, rfl, _⟩ := stkM_cells hR
      have hc0 : wr.cell? ⟨b, off + i, none⟩ = some (.slice u0 x.length c0) := by have q := hcc 0 _ rfl; rw [show off + i * stkM.k + 0 = off + i from by show off + i * 1 + 0 = _; omega] at q; exact q
      have wa1 : wr.cell? ⟨B, 1, none⟩ = some (.bool qb) := HR.out.cells.2.1
      have KA := HR.out
      have HSA := HS
      have hRA := hR
      cases qb with
      | true =>
        have FE : Hid (Put base w B v QF.1 QF.2 (.returned (.tuple #[])) wr) := by
          have e := HN'.out
          rw [if_pos rfl] at e
          show Put _ _ _ _ _ _ _ _
          rw [e]
          exact ⟨rfl, u, KA, HSA.out⟩
        clear HN' HT HR HS HLN' HLL KA HSA hrow hcc hR hRA
        go_wp2_with fail
        all_goals exact bodyPost_ret (v := .tuple #[]) (by simp [results, Tryz.results72, go_sem]) rfl FE.out
      | false =>
        have C2 := Lib.hid (put_Stack KA x hRA (Nat.le_trans (Nat.add_le_add_left (Nat.le_add_right _ _) _) HLN'.out))
        have HN2 : Hid (QF = foldW stkC.put (xs.drop (i + 1)) (stkC.put x (ql, false))) := HN'.out
        have HLN2 : Hid ((stkC.put x (ql, false)).1.length + ((xs.drop (i + 1)).flatMap stkC.enc).length ≤ 290000000) := by
          have h1 := stkC_ok.put_len x (ql, false)
          have h2 := HLN'.out
          show _ ≤ _
          simp only at h1 h2 ⊢
          omega
        obtain ⟨q2, hq2⟩ : ∃ q2, q2 = stkC.put x (ql, false) := ⟨_, rfl⟩
        rw [← hq2] at HN2 HLN2
        have C3 : Hid (Calls Tryz.prog 38 #[.pointer (some ⟨B, 0, none⟩), .slice u0 x.length c0] wr (Put base wr B u q2.1 q2.2)) := by rw [hq2]; exact C2.out
        clear HN' HT HR HS HLN' HLL KA C2 hq2 hrow hcc hR hRA
        go_wp2_with fail
        refine C3.out.mono ?_
        rintro e w5 ⟨rfl, u5, K5, S5⟩
        have HK5 := Lib.hid K5
        have HS5 := Lib.hid (HSA.out.trans S5)
        clear K5 S5 C3 HSA
        go_wp2_with fail
        go_roundg (n - (i + 1))
        case measure => omega
        case rel => exact ⟨i + 1, u5, q2, by omega, Nat.le_refl _, by go_num, HK5, HS5, HN2, HLN2⟩
    · obtain rfl : i = n := by omega
      have iw : ¬ ((i : Nat) : Int) < ((i : Nat) : Int) := by omega
      have FE : Hid (Put base w B v QF.1 QF.2 (.returned (.tuple #[])) wr) := by
        have e := HT.out
        rw [List.drop_of_length_le (by rw [← HL.out]; exact Nat.le_refl _)] at e
        show Put _ _ _ _ _ _ _ _
        rw [e]
        exact ⟨rfl, u, HR.out, HS.out⟩
      clear HR HS HT HLL
      go_wp2_with fail
      all_goals exact bodyPost_ret (v := .tuple #[]) (by simp [results, Tryz.results72, go_sem]) rfl FE.out
set_option maxHeartbeats 8000000 in
theorem plist_Stack {base B : Nat} {w : World} {v : Value} {l : List UInt8} {bad : Bool} (h : Wr base w B v l bad) (a : Option Addr) (c : Nat) (xs : List (List Thg)) (hq : RowP stkM (fun b => b < B) w (.slice a xs.length c) xs) (hl : l.length + ((listC stkC).enc xs).length ≤ 290000000) : Calls Tryz.prog 37 #[.pointer (some ⟨B, 0, none⟩), .slice a xs.length c, .func (.func 38) #[.pointer (some ⟨B, 0, none⟩)] #[]] w (Put base w B v ((listC stkC).put xs (l, bad)).1 ((listC stkC).put xs (l, bad)).2) := by
  have hn9 : xs.length ≤ 9223372036854775807 := by have := hq.len; unfold maxLen at this; omega
  obtain ⟨n, hn⟩ : ∃ n, n = xs.length := ⟨_, rfl⟩
  obtain ⟨q0, hq0⟩ : ∃ q0, q0 = pairW xs.length (l, bad) := ⟨_, rfl⟩
  have hl' : l.length + (2 + (xs.flatMap stkC.enc).length) ≤ 290000000 := by
    have e : ((listC stkC).enc xs).length = 2 + (xs.flatMap stkC.enc).length := by show (pairL _ ++ _).length = _; rw [List.length_append, pair_len]
    rw [e] at hl
    exact hl
  have C0 := Lib.hid (ppairW_any h (xs.length : Int) (by omega))
  have HL : q0.1.length + (xs.flatMap stkC.enc).length ≤ 290000000 := by
    have := pairW_len xs.length (l, bad)
    rw [← hq0] at this
    simp only at this
    omega
  have CI : Hid (∀ w1 v1, Wr base w1 B v1 q0.1 q0.2 → Stp w B v w1 v1 → Calls Tryz.prog 72 #[.pointer (some ⟨B, 0, none⟩), .slice a n c, .func (.func 38) #[.pointer (some ⟨B, 0, none⟩)] #[]] w1 (Put base w B v ((listC stkC).put xs (l, bad)).1 ((listC stkC).put xs (l, bad)).2)) := fun w1 v1 k s => by
    rw [hn]
    have e : (listC stkC).put xs (l, bad) = foldW stkC.put xs q0 := by rw [hq0]; rfl
    rw [e]
    exact (puts_Stack k a c xs (hq.keep stkM_ok (Keep.low (s.low h) (fun b h => h))) HL).mono fun _ _ hh => Put.then s hh
  rw [← hq0] at C0
  generalize (listC stkC).put xs (l, bad) = QF at *
  rw [← hn] at C0 hn9 ⊢
  clear h hl hl' hq hn hq0 HL
  go_enter Tryz.func37, Tryz.ntmps37
  go_wp2_with fail
  refine C0.out.mono ?_
  rintro e w1 ⟨rfl, v1, K1, S1⟩
  have C1 := Lib.hid (CI.out w1 v1 K1 S1)
  clear K1 S1 C0 CI
  go_wp2_with fail
  refine C1.out.mono ?_
  rintro e w2 ⟨rfl, H⟩
  have HH := Lib.hid H
  clear H C1
  go_wp2_with fail
  all_goals exact bodyPost_ret (v := .tuple #[]) (by simp [results, Tryz.results37, go_sem]) rfl ⟨rfl, HH.out⟩
end Go.Proofs.YtmdgjcikekojdaaGreatDoor.Sta
/- State: the program's writer: labels, entries. -/
set_option linter.unusedVariables false
set_option linter.unusedSimpArgs false
set_option maxRecDepth 100000
namespace Go.Proofs.YtmdgjcikekojdaaGreatDoor.Sta
open Go.RowKit Go.Lib Go.Proofs.YtmdgjcikekojdaaGreatDoor.Bx Go.Proofs.YtmdgjcikekojdaaGreatDoor.Frm Go.Proofs.YtmdgjcikekojdaaGreatDoor.Wds

set_option maxHeartbeats 8000000 in
theorem put_Label {base B : Nat} {w : World} {v : Value} {l : List UInt8} {bad : Bool} (h : Wr base w B v l bad) (x : Lab) (cs : List Value) (hR : labM.R (fun b => b < B) w cs x) (hl : l.length + (labC.enc x).length ≤ 290000000) : Calls Tryz.prog 34 #[.pointer (some ⟨B, 0, none⟩), .agg cs.toArray] w (Put base w B v (labC.put x (l, bad)).1 (labC.put x (l, bad)).2) := by
  obtain ⟨x0, x1, x2, x3⟩ := x
  obtain ⟨u2, c2, u3, c3, rfl, r2, r3⟩ := labM_cells hR
  have HLE : Hid (l.length + ((numL x0).length + ((numL x1).length + (((listC numC).enc x2).length + (((listC numC).enc x3).length)))) ≤ 290000000) := by
    show _ ≤ _
    have e : (labC.enc (x0, x1, x2, x3)).length = (numL x0).length + ((numL x1).length + (((listC numC).enc x2).length + (((listC numC).enc x3).length))) := by
      show (numL x0 ++ (numL x1 ++ ((listC numC).enc x2 ++ ((listC numC).enc x3)))).length = _
      simp only [List.length_append]
    rw [e] at hl
    exact hl
  clear hR hl
  simp only at r2
  obtain ⟨k2, hk2⟩ : ∃ k, k = x2.length := ⟨_, rfl⟩
  have HK2 := Lib.hid hk2
  have HR2 := Lib.hid r2
  simp only at r3
  obtain ⟨k3, hk3⟩ : ∃ k, k = x3.length := ⟨_, rfl⟩
  have HK3 := Lib.hid hk3
  have HR3 := Lib.hid r3
  show Calls _ _ #[_, .agg #[.int .i64 x0, .int .i64 x1, .slice u2 x2.length c2, .slice u3 x3.length c3]] _ _
  rw [← hk2, ← hk3]
  obtain ⟨B1, P1, L1⟩ := box1 w #[.int .i64 x0, .int .i64 x1, .slice u2 k2 c2, .slice u3 k3 c3] 51
  obtain ⟨Wa, hWa⟩ : ∃ Wa, Wa = w.alloc (.cells #[.int .i64 x0, .int .i64 x1, .slice u2 k2 c2, .slice u3 k3 c3] 51) := ⟨_, rfl⟩
  rw [← hWa] at B1 P1 L1
  have HWA := Lib.hid hWa
  have HW := Lib.hid h
  have HP1 := Lib.hid P1
  have HLA := Lib.hid L1
  have HB1 := Lib.hid B1
  have hmf : ∀ (fn : Fn) (first cap : Array Value) (w : World), (Instr.makeFunc fn first cap).run Tryz.prog w = .ok (.func fn first cap) w := fun _ _ _ _ => rfl
  obtain ⟨q0, hq0⟩ : ∃ q0 : Q, q0 = (l, bad) := ⟨_, rfl⟩
  have K0 : Hid (Wr base Wa B v q0.1 q0.2) := by rw [hq0]; exact h.below B1
  have T0 : Hid (Stp Wa B v Wa v) := Stp.refl _ _ _
  have N0 : Hid (q0.1.length + ((numL x0).length + ((numL x1).length + (((listC numC).enc x2).length + (((listC numC).enc x3).length)))) ≤ 290000000) := by rw [hq0]; exact HLE.out
  obtain ⟨q1, hq1⟩ : ∃ q1 : Q, q1 = numC.put x1 (numC.put x0 q0) := ⟨_, rfl⟩
  have N1 : Hid (q1.1.length + (((listC numC).enc x2).length + (((listC numC).enc x3).length)) ≤ 290000000) := by
    show _ ≤ _
    have hN := N0.out
    have z0 := numC_ok.put_len x0 (q0)
    have z1 := numC_ok.put_len x1 (numC.put x0 (q0))
    rw [hq1]
    try simp only [show ∀ t, numC.enc t = numL t from fun _ => rfl, show ∀ t, flagC.enc t = flagL t from fun _ => rfl, show ∀ t, textC.enc t = textL t from fun _ => rfl] at *
    omega
  obtain ⟨q2, hq2⟩ : ∃ q2 : Q, q2 = (listC numC).put x2 q1 := ⟨_, rfl⟩
  have N2 : Hid (q2.1.length + (((listC numC).enc x3).length) ≤ 290000000) := by
    show _ ≤ _
    have hN := N1.out
    have z2 := (listC_ok numC_ok).put_len x2 (q1)
    rw [hq2]
    try simp only [show ∀ t, numC.enc t = numL t from fun _ => rfl, show ∀ t, flagC.enc t = flagL t from fun _ => rfl, show ∀ t, textC.enc t = textL t from fun _ => rfl] at *
    omega
  obtain ⟨q3, hq3⟩ : ∃ q3 : Q, q3 = (listC numC).put x3 q2 := ⟨_, rfl⟩
  have N3 : Hid (q3.1.length ≤ 290000000) := by
    show _ ≤ _
    have hN := N2.out
    have z3 := (listC_ok numC_ok).put_len x3 (q2)
    rw [hq3]
    try simp only [show ∀ t, numC.enc t = numL t from fun _ => rfl, show ∀ t, flagC.enc t = flagL t from fun _ => rfl, show ∀ t, textC.enc t = textL t from fun _ => rfl] at *
    omega
  have HF : Hid (labC.put (x0, x1, x2, x3) (l, bad) = q3) := by
    show _ = _
    rw [hq3, hq2, hq1, hq0]
    rfl
  have HQ1 := Lib.hid hq1
  have HQ2 := Lib.hid hq2
  have HQ3 := Lib.hid hq3
  rw [HF.out]
  clear h hWa B1 P1 L1 hq0 HLE hq1 hq2 hq3 hk2 r2 hk3 r3 HF
  go_enter Tryz.func34, Tryz.ntmps34
  have Z0 : Wa.heap[w.heap.size]? = some (.cells #[.int .i64 x0, .int .i64 x1, .slice u2 k2 c2, .slice u3 k3 c3] 51 (0, 0)) := Stp.keep HW.out T0.out (Nat.le_refl _) (by have := HLA.out; omega) HP1.out
  have a0 : Wa.cell? ⟨w.heap.size, 0, none⟩ = some (.int .i64 x0) := by rw [cell_of_row _ _ _ _ _ _ Z0]; rfl
  have a1 : Wa.cell? ⟨w.heap.size, 1, none⟩ = some (.int .i64 x1) := by rw [cell_of_row _ _ _ _ _ _ Z0]; rfl
  obtain ⟨B2, P2, L2⟩ := box1 Wa #[.int .i64 x0, .int .i64 x1] 3
  obtain ⟨Wb0, hWb⟩ : ∃ Wb, Wb = (Wa.alloc (.cells #[.int .i64 x0, .int .i64 x1] 3)).drew := ⟨_, rfl⟩
  have ST := stays_drew (stays_new K0.out (Below.refl _ _) #[.int .i64 x0, .int .i64 x1] [x0, x1] rfl)
  replace B2 := Below.drew B2
  rw [← hWb] at B2 ST
  have HWB := Lib.hid hWb
  have C : Hid (Calls Tryz.prog 32 #[.pointer (some ⟨B, 0, none⟩), .slice (some ⟨Wa.heap.size, 0, none⟩) 2 2] Wb0 (Put base Wb0 B v q1.1 q1.2)) := by
    have c := pnums_any (K0.out.below B2) _ 2 [x0, x1] ST (by have := N0.out; show q0.1.length + 8 * 2 ≤ 300000000; omega)
    have e : q1 = (q0.1 ++ [x0, x1].flatMap numL, q0.2) := by rw [HQ1.out]; show (_, _) = (_, _); simp [numC]
    rw [e]
    exact c
  have HST : Hid (∀ {w7 : World} {v7 : Value}, Stp Wb0 B v w7 v7 → Stp Wa B v w7 v7) := fun s => T0.out.trans (K0.out.first B2 s)
  have HZ0 := Lib.hid Z0
  have HSZ : Hid (w.heap.size < Wa.heap.size) := (Array.getElem?_eq_some_iff.1 Z0).1
  have KR : Hid (Below Wa.heap.size Wa Wa) := Below.refl _ _
  clear P2 L2 hWb ST B2 Z0
  go_upto_region 1 with fail
  rw [← HWA.out]
  have BX : Hid (∀ w', Below Wa.heap.size Wa w' → w'.cell? ⟨w.heap.size, 0, none⟩ = some (.int .i64 x0) ∧ w'.cell? ⟨w.heap.size, 1, none⟩ = some (.int .i64 x1)) := fun w' hb => by
    have zz : w'.heap[w.heap.size]? = some (.cells #[.int .i64 x0, .int .i64 x1, .slice u2 k2 c2, .slice u3 k3 c3] 51 (0, 0)) := (hb.block _ HSZ.out).trans HZ0.out
    exact ⟨by rw [cell_of_row _ _ _ _ _ _ zz]; rfl, by rw [cell_of_row _ _ _ _ _ _ zz]; rfl⟩
  go_region_held3 (fun w' => w'.cell? ⟨w.heap.size, 0, none⟩ = some (.int .i64 x0) ∧ w'.cell? ⟨w.heap.size, 1, none⟩ = some (.int .i64 x1))
    (first
      | exact k5.out
      | (refine BX.out _ ?_; focus ((repeat first | assumption | exact KR.out | apply Below.drew | apply below_drews | refine Below.alloc ?_ (Nat.le_refl _) _); done)))
    (first
      | (go_at_call 32; rw [← HWB.out]; (refine C.out.mono ?_); rintro e w1 ⟨rfl, v1, KTT, STT⟩; have T1 := Lib.hid (HST.out STT); have ZTT : w1.heap[w.heap.size]? = some (.cells #[.int .i64 x0, .int .i64 x1, .slice u2 k2 c2, .slice u3 k3 c3] 51 (0, 0)) := Stp.keep HW.out T1.out (Nat.le_refl _) (by have := HLA.out; omega) HP1.out; have k5 : Hid (w1.cell? ⟨w.heap.size, 0, none⟩ = some (.int .i64 x0) ∧ w1.cell? ⟨w.heap.size, 1, none⟩ = some (.int .i64 x1)) := ⟨by rw [cell_of_row _ _ _ _ _ _ ZTT]; rfl, by rw [cell_of_row _ _ _ _ _ _ ZTT]; rfl⟩))
  have K1 := Lib.hid KTT
  clear KTT STT C HWB HST HSZ KR BX k5 ZTT HZ0 a0 a1
  have Z1 : w1.heap[w.heap.size]? = some (.cells #[.int .i64 x0, .int .i64 x1, .slice u2 k2 c2, .slice u3 k3 c3] 51 (0, 0)) := Stp.keep HW.out T1.out (Nat.le_refl _) (by have := HLA.out; omega) HP1.out
  have a2 : w1.cell? ⟨w.heap.size, 2, none⟩ = some (.slice u2 k2 c2) := by rw [cell_of_row _ _ _ _ _ _ Z1]; rfl
  have C : Hid (Calls Tryz.prog 67 #[.pointer (some ⟨B, 0, none⟩), .slice u2 k2 c2, .func (.func 64) #[.pointer (some ⟨B, 0, none⟩)] #[]] w1.drew (Put base w1 B v1 q2.1 q2.2)) := by
    have r := HR2.out.keep numM_ok (Keep.low ((HW.out.first HB1.out T1.out).low HW.out) (fun b h => h))
    rw [HQ2.out, HK2.out]
    exact (plist_int K1.out.drew u2 c2 x2 (r.keep numM_ok (Keep.below (Below.drew (Below.refl _ _)))) (by have := N1.out; omega)).mono fun _ _ => Put.undrew
  clear Z1
  go_upto_region 2 with fail
  refine still_tailW 7 (by kernel_rfl) (by kernel_rfl) ?_
  simp only [List.take_succ_cons, List.take_zero, List.drop_succ_cons, List.drop_zero]
  have da := drew_cell a2
  generalize w1.drew = Wd1 at *
  repeat still_step
  refine wpStill_nil ?_
  clear da
  go_wp2_with fail
  refine C.out.mono ?_
  rintro e w2 ⟨rfl, v2, KTT, STT⟩
  have T2 := Lib.hid (T1.out.trans STT)
  have K2 := Lib.hid KTT
  clear KTT STT C a2
  have Z2 : w2.heap[w.heap.size]? = some (.cells #[.int .i64 x0, .int .i64 x1, .slice u2 k2 c2, .slice u3 k3 c3] 51 (0, 0)) := Stp.keep HW.out T2.out (Nat.le_refl _) (by have := HLA.out; omega) HP1.out
  have a3 : w2.cell? ⟨w.heap.size, 3, none⟩ = some (.slice u3 k3 c3) := by rw [cell_of_row _ _ _ _ _ _ Z2]; rfl
  have C : Hid (Calls Tryz.prog 67 #[.pointer (some ⟨B, 0, none⟩), .slice u3 k3 c3, .func (.func 64) #[.pointer (some ⟨B, 0, none⟩)] #[]] w2.drew (Put base w2 B v2 q3.1 q3.2)) := by
    have r := HR3.out.keep numM_ok (Keep.low ((HW.out.first HB1.out T2.out).low HW.out) (fun b h => h))
    rw [HQ3.out, HK3.out]
    exact (plist_int K2.out.drew u3 c3 x3 (r.keep numM_ok (Keep.below (Below.drew (Below.refl _ _)))) (by have := N2.out; omega)).mono fun _ _ => Put.undrew
  clear Z2
  go_upto_region 3 with fail
  refine still_tailW 7 (by kernel_rfl) (by kernel_rfl) ?_
  simp only [List.take_succ_cons, List.take_zero, List.drop_succ_cons, List.drop_zero]
  have da := drew_cell a3
  generalize w2.drew = Wd2 at *
  repeat still_step
  refine wpStill_nil ?_
  clear da
  go_wp2_with fail
  refine C.out.mono ?_
  rintro e w3 ⟨rfl, v3, KTT, STT⟩
  have T3 := Lib.hid (T2.out.trans STT)
  have K3 := Lib.hid KTT
  clear KTT STT C a3
  have FE : Hid (Put base w B v q3.1 q3.2 (.returned (.tuple #[])) w3) := ⟨rfl, v3, K3.out, HW.out.first HB1.out T3.out⟩
  go_wp2_with fail
  all_goals exact bodyPost_ret (v := .tuple #[]) (by simp [results, Tryz.results34, go_sem]) rfl FE.out
set_option maxHeartbeats 8000000 in
theorem puts_Label {base B : Nat} {w : World} {v : Value} {q0 : Q} (h : Wr base w B v q0.1 q0.2) (a : Option Addr) (c : Nat) (xs : List (Lab)) (hq : RowP labM (fun b => b < B) w (.slice a xs.length c) xs) (hl : q0.1.length + (xs.flatMap labC.enc).length ≤ 290000000) : Calls Tryz.prog 66 #[.pointer (some ⟨B, 0, none⟩), .slice a xs.length c, .func (.func 34) #[.pointer (some ⟨B, 0, none⟩)] #[]] w (Put base w B v (foldW labC.put xs q0).1 (foldW labC.put xs q0).2) := by
  have hn9 : xs.length ≤ 9223372036854775807 := by have := hq.len; unfold maxLen at this; omega
  obtain ⟨n, hn⟩ : ∃ n, n = xs.length := ⟨_, rfl⟩
  obtain ⟨QF, hQF⟩ : ∃ QF, QF = foldW labC.put xs q0 := ⟨_, rfl⟩
  have HF : Hid (QF = foldW labC.put xs q0) := hQF
  have HL : Hid (n = xs.length) := hn
  have HLL0 : Hid (q0.1.length + ((xs.drop 0).flatMap labC.enc).length ≤ 290000000) := hl
  rw [← hQF]
  have HQ : Hid (RowP labM (fun b => b < B) w (.slice a n c) xs) := by show RowP _ _ _ _ _; rw [hn]; exact hq
  rw [← hn] at hn9 ⊢
  have HW := Lib.hid h
  have HS1 : Hid (Stp w B v w v) := Stp.refl _ _ _
  clear h hl hq hn hQF
  go_enter Tryz.func66, Tryz.ntmps66
  go_wp2_with fail
  go_loopg [10] n (fun gg i_ wr => ∃ (i : Nat) (u : Value) (q : Q), i ≤ n ∧ n - i ≤ gg ∧ i_ = .int .i64 (i : Nat) ∧ Hid (Wr base wr B u q.1 q.2) ∧ Hid (Stp w B v wr u) ∧ Hid (QF = foldW labC.put (xs.drop i) q) ∧ Hid (q.1.length + ((xs.drop i).flatMap labC.enc).length ≤ 290000000))
  case atStart => exact ⟨0, v, q0, by omega, by omega, rfl, HW, HS1, HF, HLL0⟩
  case round =>
    obtain ⟨i, u, ⟨ql, qb⟩, hi, hg, rfl, HR, HS, HT, HLL⟩ := hrel
    by_cases hin : i < n
    · have iw : ((i : Nat) : Int) < (n : Int) := by omega
      have n0 : (0 : Int) ≤ ((i : Nat) : Int) := by omega
      have hix : i < xs.length := by rw [← HL.out]; exact hin
      have HN : Hid (QF = if qb = true then (ql, qb) else foldW labC.put (xs.drop (i + 1)) (labC.put xs[i] (ql, qb))) := by show _ = _; rw [HT.out]; exact fold_next hix _
      have HLN : Hid (ql.length + ((labC.enc xs[i]).length + ((xs.drop (i + 1)).flatMap labC.enc).length) ≤ 290000000) := by
        have h9 := HLL.out
        rw [List.drop_eq_getElem_cons hix, List.flatMap_cons, List.length_append] at h9
        exact h9
      have hrow := HQ.out.keep labM_ok (Keep.low (HS.out.low HW.out) (fun b h => h))
      obtain ⟨b, off, cs, rfl, hlt, _, hR, hcc⟩ := hrow.get hix
      obtain ⟨x, hx⟩ : ∃ x, x = xs[i] := ⟨_, rfl⟩
      rw [← hx] at hR
      have HN' : Hid (QF = if qb = true then (ql, qb) else foldW labC.put (xs.drop (i + 1)) (labC.put x (ql, qb))) := by rw [hx]; exact HN
      have HLN' : Hid (ql.length + ((labC.enc x).length + ((xs.drop (i + 1)).flatMap labC.enc).length) ≤ 290000000) := by rw [hx]; exact HLN
      clear HN HLN hx
      obtain ⟨u2, c2, u3, c3, rfl, _, _⟩ := labM_cells hR
      have hc0 : wr.cell? ⟨b, off + i * 4, none⟩ = some (.int .i64 x.1) := hcc 0 _ rfl
      have hc1 : wr.cell? ⟨b, off + i * 4 + 1, none⟩ = some (.int .i64 x.2.1) := hcc 1 _ rfl
      have hc2 : wr.cell? ⟨b, off + i * 4 + 2, none⟩ = some (.slice u2 x.2.2.1.length c2) := hcc 2 _ rfl
      have hc3 : wr.cell? ⟨b, off + i * 4 + 3, none⟩ = some (.slice u3 x.2.2.2.length c3) := hcc 3 _ rfl
      obtain ⟨Wa, hWa⟩ : ∃ Wa, Wa = wr.alloc (.cells #[.int .i64 x.1, .int .i64 x.2.1, .slice u2 x.2.2.1.length c2, .slice u3 x.2.2.2.length c3] 51) := ⟨_, rfl⟩
      have bA : Below wr.heap.size wr Wa := by rw [hWa]; exact (box1 wr _ _).1
      have zA : Wa.heap[wr.heap.size]? = some (.cells #[.int .i64 x.1, .int .i64 x.2.1, .slice u2 x.2.2.1.length c2, .slice u3 x.2.2.2.length c3] 51 (0, 0)) := by rw [hWa]; exact (box1 wr _ _).2.1
      have KA := HR.out.below bA
      have HWA := Lib.hid hWa
      have wa1 : Wa.cell? ⟨B, 1, none⟩ = some (.bool qb) := KA.cells.2.1
      have HSA : Hid (Stp w B v Wa u) := HS.out.trans (HR.out.first bA (Stp.refl _ _ _))
      have hRA := labM_ok.keep hR (Keep.below bA)
      obtain ⟨m0, m1, m2, m3⟩ := four_cells zA
      cases qb with
      | true =>
        have FE : Hid (Put base w B v QF.1 QF.2 (.returned (.tuple #[])) Wa) := by
          have e := HN'.out
          rw [if_pos rfl] at e
          show Put _ _ _ _ _ _ _ _
          rw [e]
          exact ⟨rfl, u, KA, HSA.out⟩
        clear HN' HT HR HS HLN' HLL KA HSA hrow hcc hR hRA zA hWa bA
        go_upto_region 3 with fail
        rw [← HWA.out]
        go_wp2_with fail
        all_goals exact bodyPost_ret (v := .tuple #[]) (by simp [results, Tryz.results66, go_sem]) rfl FE.out
      | false =>
        have C2 := Lib.hid (put_Label KA x _ hRA (Nat.le_trans (Nat.add_le_add_left (Nat.le_add_right _ _) _) HLN'.out))
        have HN2 : Hid (QF = foldW labC.put (xs.drop (i + 1)) (labC.put x (ql, false))) := HN'.out
        have HLN2 : Hid ((labC.put x (ql, false)).1.length + ((xs.drop (i + 1)).flatMap labC.enc).length ≤ 290000000) := by
          have h1 := labC_ok.put_len x (ql, false)
          have h2 := HLN'.out
          show _ ≤ _
          simp only at h1 h2 ⊢
          omega
        obtain ⟨q2, hq2⟩ : ∃ q2, q2 = labC.put x (ql, false) := ⟨_, rfl⟩
        rw [← hq2] at HN2 HLN2
        have C3 : Hid (Calls Tryz.prog 34 #[.pointer (some ⟨B, 0, none⟩), .agg #[.int .i64 x.1, .int .i64 x.2.1, .slice u2 x.2.2.1.length c2, .slice u3 x.2.2.2.length c3]] Wa (Put base Wa B u q2.1 q2.2)) := by rw [hq2]; exact C2.out
        clear HN' HT HR HS HLN' HLL KA C2 hq2 hrow hcc hR hRA zA hWa bA
        go_upto_region 3 with fail
        rw [← HWA.out]
        go_wp2_with fail
        refine C3.out.mono ?_
        rintro e w5 ⟨rfl, u5, K5, S5⟩
        have HK5 := Lib.hid K5
        have HS5 := Lib.hid (HSA.out.trans S5)
        clear K5 S5 C3 HSA
        go_wp2_with fail
        go_roundg (n - (i + 1))
        case measure => omega
        case rel => exact ⟨i + 1, u5, q2, by omega, Nat.le_refl _, by go_num, HK5, HS5, HN2, HLN2⟩
    · obtain rfl : i = n := by omega
      have iw : ¬ ((i : Nat) : Int) < ((i : Nat) : Int) := by omega
      have FE : Hid (Put base w B v QF.1 QF.2 (.returned (.tuple #[])) wr) := by
        have e := HT.out
        rw [List.drop_of_length_le (by rw [← HL.out]; exact Nat.le_refl _)] at e
        show Put _ _ _ _ _ _ _ _
        rw [e]
        exact ⟨rfl, u, HR.out, HS.out⟩
      clear HR HS HT HLL
      go_wp2_with fail
      all_goals exact bodyPost_ret (v := .tuple #[]) (by simp [results, Tryz.results66, go_sem]) rfl FE.out
set_option maxHeartbeats 8000000 in
theorem plist_Label {base B : Nat} {w : World} {v : Value} {l : List UInt8} {bad : Bool} (h : Wr base w B v l bad) (a : Option Addr) (c : Nat) (xs : List (Lab)) (hq : RowP labM (fun b => b < B) w (.slice a xs.length c) xs) (hl : l.length + ((listC labC).enc xs).length ≤ 290000000) : Calls Tryz.prog 33 #[.pointer (some ⟨B, 0, none⟩), .slice a xs.length c, .func (.func 34) #[.pointer (some ⟨B, 0, none⟩)] #[]] w (Put base w B v ((listC labC).put xs (l, bad)).1 ((listC labC).put xs (l, bad)).2) := by
  have hn9 : xs.length ≤ 9223372036854775807 := by have := hq.len; unfold maxLen at this; omega
  obtain ⟨n, hn⟩ : ∃ n, n = xs.length := ⟨_, rfl⟩
  obtain ⟨q0, hq0⟩ : ∃ q0, q0 = pairW xs.length (l, bad) := ⟨_, rfl⟩
  have hl' : l.length + (2 + (xs.flatMap labC.enc).length) ≤ 290000000 := by
    have e : ((listC labC).enc xs).length = 2 + (xs.flatMap labC.enc).length := by show (pairL _ ++ _).length = _; rw [List.length_append, pair_len]
    rw [e] at hl
    exact hl
  have C0 := Lib.hid (ppairW_any h (xs.length : Int) (by omega))
  have HL : q0.1.length + (xs.flatMap labC.enc).length ≤ 290000000 := by
    have := pairW_len xs.length (l, bad)
    rw [← hq0] at this
    simp only at this
    omega
  have CI : Hid (∀ w1 v1, Wr base w1 B v1 q0.1 q0.2 → Stp w B v w1 v1 → Calls Tryz.prog 66 #[.pointer (some ⟨B, 0, none⟩), .slice a n c, .func (.func 34) #[.pointer (some ⟨B, 0, none⟩)] #[]] w1 (Put base w B v ((listC labC).put xs (l, bad)).1 ((listC labC).put xs (l, bad)).2)) := fun w1 v1 k s => by
    rw [hn]
    have e : (listC labC).put xs (l, bad) = foldW labC.put xs q0 := by rw [hq0]; rfl
    rw [e]
    exact (puts_Label k a c xs (hq.keep labM_ok (Keep.low (s.low h) (fun b h => h))) HL).mono fun _ _ hh => Put.then s hh
  rw [← hq0] at C0
  generalize (listC labC).put xs (l, bad) = QF at *
  rw [← hn] at C0 hn9 ⊢
  clear h hl hl' hq hn hq0 HL
  go_enter Tryz.func33, Tryz.ntmps33
  go_wp2_with fail
  refine C0.out.mono ?_
  rintro e w1 ⟨rfl, v1, K1, S1⟩
  have C1 := Lib.hid (CI.out w1 v1 K1 S1)
  clear K1 S1 C0 CI
  go_wp2_with fail
  refine C1.out.mono ?_
  rintro e w2 ⟨rfl, H⟩
  have HH := Lib.hid H
  clear H C1
  go_wp2_with fail
  all_goals exact bodyPost_ret (v := .tuple #[]) (by simp [results, Tryz.results33, go_sem]) rfl ⟨rfl, HH.out⟩
set_option maxHeartbeats 8000000 in
theorem put_Entry {base B : Nat} {w : World} {v : Value} {l : List UInt8} {bad : Bool} (h : Wr base w B v l bad) (x : Ent) (cs : List Value) (hR : entM.R (fun b => b < B) w cs x) (hl : l.length + (entC.enc x).length ≤ 290000000) : Calls Tryz.prog 42 #[.pointer (some ⟨B, 0, none⟩), .agg cs.toArray] w (Put base w B v (entC.put x (l, bad)).1 (entC.put x (l, bad)).2) := by
  obtain ⟨x0, x1, x2, x3, x4⟩ := x
  obtain ⟨u3, c3, u4, c4, rfl, r3, r4⟩ := entM_cells hR
  have HLE : Hid (l.length + ((numL x0).length + ((numL x1).length + ((numL x2).length + (((listC numC).enc x3).length + (((listC numC).enc x4).length))))) ≤ 290000000) := by
    show _ ≤ _
    have e : (entC.enc (x0, x1, x2, x3, x4)).length = (numL x0).length + ((numL x1).length + ((numL x2).length + (((listC numC).enc x3).length + (((listC numC).enc x4).length)))) := by
      show (numL x0 ++ (numL x1 ++ (numL x2 ++ ((listC numC).enc x3 ++ ((listC numC).enc x4))))).length = _
      simp only [List.length_append]
    rw [e] at hl
    exact hl
  clear hR hl
  simp only at r3
  obtain ⟨k3, hk3⟩ : ∃ k, k = x3.length := ⟨_, rfl⟩
  have HK3 := Lib.hid hk3
  have HR3 := Lib.hid r3
  simp only at r4
  obtain ⟨k4, hk4⟩ : ∃ k, k = x4.length := ⟨_, rfl⟩
  have HK4 := Lib.hid hk4
  have HR4 := Lib.hid r4
  show Calls _ _ #[_, .agg #[.int .i64 x0, .int .i64 x1, .int .i64 x2, .slice u3 x3.length c3, .slice u4 x4.length c4]] _ _
  rw [← hk3, ← hk4]
  obtain ⟨B1, P1, L1⟩ := box1 w #[.int .i64 x0, .int .i64 x1, .int .i64 x2, .slice u3 k3 c3, .slice u4 k4 c4] 67
  obtain ⟨Wa, hWa⟩ : ∃ Wa, Wa = w.alloc (.cells #[.int .i64 x0, .int .i64 x1, .int .i64 x2, .slice u3 k3 c3, .slice u4 k4 c4] 67) := ⟨_, rfl⟩
  rw [← hWa] at B1 P1 L1
  have HWA := Lib.hid hWa
  have HW := Lib.hid h
  have HP1 := Lib.hid P1
  have HLA := Lib.hid L1
  have HB1 := Lib.hid B1
  have hmf : ∀ (fn : Fn) (first cap : Array Value) (w : World), (Instr.makeFunc fn first cap).run Tryz.prog w = .ok (.func fn first cap) w := fun _ _ _ _ => rfl
  obtain ⟨q0, hq0⟩ : ∃ q0 : Q, q0 = (l, bad) := ⟨_, rfl⟩
  have K0 : Hid (Wr base Wa B v q0.1 q0.2) := by rw [hq0]; exact h.below B1
  have T0 : Hid (Stp Wa B v Wa v) := Stp.refl _ _ _
  have N0 : Hid (q0.1.length + ((numL x0).length + ((numL x1).length + ((numL x2).length + (((listC numC).enc x3).length + (((listC numC).enc x4).length))))) ≤ 290000000) := by rw [hq0]; exact HLE.out
  obtain ⟨q1, hq1⟩ : ∃ q1 : Q, q1 = numC.put x2 (numC.put x1 (numC.put x0 q0)) := ⟨_, rfl⟩
  have N1 : Hid (q1.1.length + (((listC numC).enc x3).length + (((listC numC).enc x4).length)) ≤ 290000000) := by
    show _ ≤ _
    have hN := N0.out
    have z0 := numC_ok.put_len x0 (q0)
    have z1 := numC_ok.put_len x1 (numC.put x0 (q0))
    have z2 := numC_ok.put_len x2 (numC.put x1 (numC.put x0 (q0)))
    rw [hq1]
    try simp only [show ∀ t, numC.enc t = numL t from fun _ => rfl, show ∀ t, flagC.enc t = flagL t from fun _ => rfl, show ∀ t, textC.enc t = textL t from fun _ => rfl] at *
    omega
  obtain ⟨q2, hq2⟩ : ∃ q2 : Q, q2 = (listC numC).put x3 q1 := ⟨_, rfl⟩
  have N2 : Hid (q2.1.length + (((listC numC).enc x4).length) ≤ 290000000) := by
    show _ ≤ _
    have hN := N1.out
    have z3 := (listC_ok numC_ok).put_len x3 (q1)
    rw [hq2]
    try simp only [show ∀ t, numC.enc t = numL t from fun _ => rfl, show ∀ t, flagC.enc t = flagL t from fun _ => rfl, show ∀ t, textC.enc t = textL t from fun _ => rfl] at *
    omega
  obtain ⟨q3, hq3⟩ : ∃ q3 : Q, q3 = (listC numC).put x4 q2 := ⟨_, rfl⟩
  have N3 : Hid (q3.1.length ≤ 290000000) := by
    show _ ≤ _
    have hN := N2.out
    have z4 := (listC_ok numC_ok).put_len x4 (q2)
    rw [hq3]
    try simp only [show ∀ t, numC.enc t = numL t from fun _ => rfl, show ∀ t, flagC.enc t = flagL t from fun _ => rfl, show ∀ t, textC.enc t = textL t from fun _ => rfl] at *
    omega
  have HF : Hid (entC.put (x0, x1, x2, x3, x4) (l, bad) = q3) := by
    show _ = _
    rw [hq3, hq2, hq1, hq0]
    rfl
  have HQ1 := Lib.hid hq1
  have HQ2 := Lib.hid hq2
  have HQ3 := Lib.hid hq3
  rw [HF.out]
  clear h hWa B1 P1 L1 hq0 HLE hq1 hq2 hq3 hk3 r3 hk4 r4 HF
  go_enter Tryz.func42, Tryz.ntmps42
  have Z0 : Wa.heap[w.heap.size]? = some (.cells #[.int .i64 x0, .int .i64 x1, .int .i64 x2, .slice u3 k3 c3, .slice u4 k4 c4] 67 (0, 0)) := Stp.keep HW.out T0.out (Nat.le_refl _) (by have := HLA.out; omega) HP1.out
  have a0 : Wa.cell? ⟨w.heap.size, 0, none⟩ = some (.int .i64 x0) := by rw [cell_of_row _ _ _ _ _ _ Z0]; rfl
  have a1 : Wa.cell? ⟨w.heap.size, 1, none⟩ = some (.int .i64 x1) := by rw [cell_of_row _ _ _ _ _ _ Z0]; rfl
  have a2 : Wa.cell? ⟨w.heap.size, 2, none⟩ = some (.int .i64 x2) := by rw [cell_of_row _ _ _ _ _ _ Z0]; rfl
  obtain ⟨B2, P2, L2⟩ := box1 Wa #[.int .i64 x0, .int .i64 x1, .int .i64 x2] 3
  obtain ⟨Wb0, hWb⟩ : ∃ Wb, Wb = (Wa.alloc (.cells #[.int .i64 x0, .int .i64 x1, .int .i64 x2] 3)).drew := ⟨_, rfl⟩
  have ST := stays_drew (stays_new K0.out (Below.refl _ _) #[.int .i64 x0, .int .i64 x1, .int .i64 x2] [x0, x1, x2] rfl)
  replace B2 := Below.drew B2
  rw [← hWb] at B2 ST
  have HWB := Lib.hid hWb
  have C : Hid (Calls Tryz.prog 32 #[.pointer (some ⟨B, 0, none⟩), .slice (some ⟨Wa.heap.size, 0, none⟩) 3 3] Wb0 (Put base Wb0 B v q1.1 q1.2)) := by
    have c := pnums_any (K0.out.below B2) _ 3 [x0, x1, x2] ST (by have := N0.out; show q0.1.length + 8 * 3 ≤ 300000000; omega)
    have e : q1 = (q0.1 ++ [x0, x1, x2].flatMap numL, q0.2) := by rw [HQ1.out]; show (_, _) = (_, _); simp [numC]
    rw [e]
    exact c
  have HST : Hid (∀ {w7 : World} {v7 : Value}, Stp Wb0 B v w7 v7 → Stp Wa B v w7 v7) := fun s => T0.out.trans (K0.out.first B2 s)
  have HZ0 := Lib.hid Z0
  have HSZ : Hid (w.heap.size < Wa.heap.size) := (Array.getElem?_eq_some_iff.1 Z0).1
  have KR : Hid (Below Wa.heap.size Wa Wa) := Below.refl _ _
  clear P2 L2 hWb ST B2 Z0
  go_upto_region 1 with fail
  rw [← HWA.out]
  have BX : Hid (∀ w', Below Wa.heap.size Wa w' → w'.cell? ⟨w.heap.size, 0, none⟩ = some (.int .i64 x0) ∧ w'.cell? ⟨w.heap.size, 1, none⟩ = some (.int .i64 x1) ∧ w'.cell? ⟨w.heap.size, 2, none⟩ = some (.int .i64 x2)) := fun w' hb => by
    have zz : w'.heap[w.heap.size]? = some (.cells #[.int .i64 x0, .int .i64 x1, .int .i64 x2, .slice u3 k3 c3, .slice u4 k4 c4] 67 (0, 0)) := (hb.block _ HSZ.out).trans HZ0.out
    exact ⟨by rw [cell_of_row _ _ _ _ _ _ zz]; rfl, by rw [cell_of_row _ _ _ _ _ _ zz]; rfl, by rw [cell_of_row _ _ _ _ _ _ zz]; rfl⟩
  go_region_held3 (fun w' => w'.cell? ⟨w.heap.size, 0, none⟩ = some (.int .i64 x0) ∧ w'.cell? ⟨w.heap.size, 1, none⟩ = some (.int .i64 x1) ∧ w'.cell? ⟨w.heap.size, 2, none⟩ = some (.int .i64 x2))
    (first
      | exact k5.out
      | (refine BX.out _ ?_; focus ((repeat first | assumption | exact KR.out | apply Below.drew | apply below_drews | refine Below.alloc ?_ (Nat.le_refl _) _); done)))
    (first
      | (go_at_call 32; rw [← HWB.out]; (refine C.out.mono ?_); rintro e w1 ⟨rfl, v1, KTT, STT⟩; have T1 := Lib.hid (HST.out STT); have ZTT : w1.heap[w.heap.size]? = some (.cells #[.int .i64 x0, .int .i64 x1, .int .i64 x2, .slice u3 k3 c3, .slice u4 k4 c4] 67 (0, 0)) := Stp.keep HW.out T1.out (Nat.le_refl _) (by have := HLA.out; omega) HP1.out; have k5 : Hid (w1.cell? ⟨w.heap.size, 0, none⟩ = some (.int .i64 x0) ∧ w1.cell? ⟨w.heap.size, 1, none⟩ = some (.int .i64 x1) ∧ w1.cell? ⟨w.heap.size, 2, none⟩ = some (.int .i64 x2)) := ⟨by rw [cell_of_row _ _ _ _ _ _ ZTT]; rfl, by rw [cell_of_row _ _ _ _ _ _ ZTT]; rfl, by rw [cell_of_row _ _ _ _ _ _ ZTT]; rfl⟩))
  have K1 := Lib.hid KTT
  clear KTT STT C HWB HST HSZ KR BX k5 ZTT HZ0 a0 a1 a2
  have Z1 : w1.heap[w.heap.size]? = some (.cells #[.int .i64 x0, .int .i64 x1, .int .i64 x2, .slice u3 k3 c3, .slice u4 k4 c4] 67 (0, 0)) := Stp.keep HW.out T1.out (Nat.le_refl _) (by have := HLA.out; omega) HP1.out
  have a3 : w1.cell? ⟨w.heap.size, 3, none⟩ = some (.slice u3 k3 c3) := by rw [cell_of_row _ _ _ _ _ _ Z1]; rfl
  have C : Hid (Calls Tryz.prog 67 #[.pointer (some ⟨B, 0, none⟩), .slice u3 k3 c3, .func (.func 64) #[.pointer (some ⟨B, 0, none⟩)] #[]] w1.drew (Put base w1 B v1 q2.1 q2.2)) := by
    have r := HR3.out.keep numM_ok (Keep.low ((HW.out.first HB1.out T1.out).low HW.out) (fun b h => h))
    rw [HQ2.out, HK3.out]
    exact (plist_int K1.out.drew u3 c3 x3 (r.keep numM_ok (Keep.below (Below.drew (Below.refl _ _)))) (by have := N1.out; omega)).mono fun _ _ => Put.undrew
  clear Z1
  go_upto_region 2 with fail
  refine still_tailW 7 (by kernel_rfl) (by kernel_rfl) ?_
  simp only [List.take_succ_cons, List.take_zero, List.drop_succ_cons, List.drop_zero]
  have da := drew_cell a3
  generalize w1.drew = Wd1 at *
  repeat still_step
  refine wpStill_nil ?_
  clear da
  go_wp2_with fail
  refine C.out.mono ?_
  rintro e w2 ⟨rfl, v2, KTT, STT⟩
  have T2 := Lib.hid (T1.out.trans STT)
  have K2 := Lib.hid KTT
  clear KTT STT C a3
  have Z2 : w2.heap[w.heap.size]? = some (.cells #[.int .i64 x0, .int .i64 x1, .int .i64 x2, .slice u3 k3 c3, .slice u4 k4 c4] 67 (0, 0)) := Stp.keep HW.out T2.out (Nat.le_refl _) (by have := HLA.out; omega) HP1.out
  have a4 : w2.cell? ⟨w.heap.size, 4, none⟩ = some (.slice u4 k4 c4) := by rw [cell_of_row _ _ _ _ _ _ Z2]; rfl
  have C : Hid (Calls Tryz.prog 67 #[.pointer (some ⟨B, 0, none⟩), .slice u4 k4 c4, .func (.func 64) #[.pointer (some ⟨B, 0, none⟩)] #[]] w2.drew (Put base w2 B v2 q3.1 q3.2)) := by
    have r := HR4.out.keep numM_ok (Keep.low ((HW.out.first HB1.out T2.out).low HW.out) (fun b h => h))
    rw [HQ3.out, HK4.out]
    exact (plist_int K2.out.drew u4 c4 x4 (r.keep numM_ok (Keep.below (Below.drew (Below.refl _ _)))) (by have := N2.out; omega)).mono fun _ _ => Put.undrew
  clear Z2
  go_upto_region 3 with fail
  refine still_tailW 7 (by kernel_rfl) (by kernel_rfl) ?_
  simp only [List.take_succ_cons, List.take_zero, List.drop_succ_cons, List.drop_zero]
  have da := drew_cell a4
  generalize w2.drew = Wd2 at *
  repeat still_step
  refine wpStill_nil ?_
  clear da
  go_wp2_with fail
  refine C.out.mono ?_
  rintro e w3 ⟨rfl, v3, KTT, STT⟩
  have T3 := Lib.hid (T2.out.trans STT)
  have K3 := Lib.hid KTT
  clear KTT STT C a4
  have FE : Hid (Put base w B v q3.1 q3.2 (.returned (.tuple #[])) w3) := ⟨rfl, v3, K3.out, HW.out.first HB1.out T3.out⟩
  go_wp2_with fail
  all_goals exact bodyPost_ret (v := .tuple #[]) (by simp [results, Tryz.results42, go_sem]) rfl FE.out
set_option maxHeartbeats 8000000 in
theorem puts_Entry {base B : Nat} {w : World} {v : Value} {q0 : Q} (h : Wr base w B v q0.1 q0.2) (a : Option Addr) (c : Nat) (xs : List (Ent)) (hq : RowP entM (fun b => b < B) w (.slice a xs.length c) xs) (hl : q0.1.length + (xs.flatMap entC.enc).length ≤ 290000000) : Calls Tryz.prog 77 #[.pointer (some ⟨B, 0, none⟩), .slice a xs.length c, .func (.func 42) #[.pointer (some ⟨B, 0, none⟩)] #[]] w (Put base w B v (foldW entC.put xs q0).1 (foldW entC.put xs q0).2) := by
  have hn9 : xs.length ≤ 9223372036854775807 := by have := hq.len; unfold maxLen at this; omega
  obtain ⟨n, hn⟩ : ∃ n, n = xs.length := ⟨_, rfl⟩
  obtain ⟨QF, hQF⟩ : ∃ QF, QF = foldW entC.put xs q0 := ⟨_, rfl⟩
  have HF : Hid (QF = foldW entC.put xs q0) := hQF
  have HL : Hid (n = xs.length) := hn
  have HLL0 : Hid (q0.1.length + ((xs.drop 0).flatMap entC.enc).length ≤ 290000000) := hl
  rw [← hQF]
  have HQ : Hid (RowP entM (fun b => b < B) w (.slice a n c) xs) := by show RowP _ _ _ _ _; rw [hn]; exact hq
  rw [← hn] at hn9 ⊢
  have HW := Lib.hid h
  have HS1 : Hid (Stp w B v w v) := Stp.refl _ _ _
  clear h hl hq hn hQF
  go_enter Tryz.func77, Tryz.ntmps77
  go_wp2_with fail
  go_loopg [10] n (fun gg i_ wr => ∃ (i : Nat) (u : Value) (q : Q), i ≤ n ∧ n - i ≤ gg ∧ i_ = .int .i64 (i : Nat) ∧ Hid (Wr base wr B u q.1 q.2) ∧ Hid (Stp w B v wr u) ∧ Hid (QF = foldW entC.put (xs.drop i) q) ∧ Hid (q.1.length + ((xs.drop i).flatMap entC.enc).length ≤ 290000000))
  case atStart => exact ⟨0, v, q0, by omega, by omega, rfl, HW, HS1, HF, HLL0⟩
  case round =>
    obtain ⟨i, u, ⟨ql, qb⟩, hi, hg, rfl, HR, HS, HT, HLL⟩ := hrel
    by_cases hin : i < n
    · have iw : ((i : Nat) : Int) < (n : Int) := by omega
      have n0 : (0 : Int) ≤ ((i : Nat) : Int) := by omega
      have hix : i < xs.length := by rw [← HL.out]; exact hin
      have HN : Hid (QF = if qb = true then (ql, qb) else foldW entC.put (xs.drop (i + 1)) (entC.put xs[i] (ql, qb))) := by show _ = _; rw [HT.out]; exact fold_next hix _
      have HLN : Hid (ql.length + ((entC.enc xs[i]).length + ((xs.drop (i + 1)).flatMap entC.enc).length) ≤ 290000000) := by
        have h9 := HLL.out
        rw [List.drop_eq_getElem_cons hix, List.flatMap_cons, List.length_append] at h9
        exact h9
      have hrow := HQ.out.keep entM_ok (Keep.low (HS.out.low HW.out) (fun b h => h))
      obtain ⟨b, off, cs, rfl, hlt, _, hR, hcc⟩ := hrow.get hix
      obtain ⟨x, hx⟩ : ∃ x, x = xs[i] := ⟨_, rfl⟩
      rw [← hx] at hR
      have HN' : Hid (QF = if qb = true then (ql, qb) else foldW entC.put (xs.drop (i + 1)) (entC.put x (ql, qb))) := by rw [hx]; exact HN
      have HLN' : Hid (ql.length + ((entC.enc x).length + ((xs.drop (i + 1)).flatMap entC.enc).length) ≤ 290000000) := by rw [hx]; exact HLN
      clear HN HLN hx
      obtain ⟨u3, c3, u4, c4, rfl, _, _⟩ := entM_cells hR
      have hc0 : wr.cell? ⟨b, off + i * 5, none⟩ = some (.int .i64 x.1) := hcc 0 _ rfl
      have hc1 : wr.cell? ⟨b, off + i * 5 + 1, none⟩ = some (.int .i64 x.2.1) := hcc 1 _ rfl
      have hc2 : wr.cell? ⟨b, off + i * 5 + 2, none⟩ = some (.int .i64 x.2.2.1) := hcc 2 _ rfl
      have hc3 : wr.cell? ⟨b, off + i * 5 + 3, none⟩ = some (.slice u3 x.2.2.2.1.length c3) := hcc 3 _ rfl
      have hc4 : wr.cell? ⟨b, off + i * 5 + 4, none⟩ = some (.slice u4 x.2.2.2.2.length c4) := hcc 4 _ rfl
      obtain ⟨Wa, hWa⟩ : ∃ Wa, Wa = wr.alloc (.cells #[.int .i64 x.1, .int .i64 x.2.1, .int .i64 x.2.2.1, .slice u3 x.2.2.2.1.length c3, .slice u4 x.2.2.2.2.length c4] 67) := ⟨_, rfl⟩
      have bA : Below wr.heap.size wr Wa := by rw [hWa]; exact (box1 wr _ _).1
      have zA : Wa.heap[wr.heap.size]? = some (.cells #[.int .i64 x.1, .int .i64 x.2.1, .int .i64 x.2.2.1, .slice u3 x.2.2.2.1.length c3, .slice u4 x.2.2.2.2.length c4] 67 (0, 0)) := by rw [hWa]; exact (box1 wr _ _).2.1
      have KA := HR.out.below bA
      have HWA := Lib.hid hWa
      have wa1 : Wa.cell? ⟨B, 1, none⟩ = some (.bool qb) := KA.cells.2.1
      have HSA : Hid (Stp w B v Wa u) := HS.out.trans (HR.out.first bA (Stp.refl _ _ _))
      have hRA := entM_ok.keep hR (Keep.below bA)
      obtain ⟨m0, m1, m2, m3, m4⟩ := five_cells zA
      cases qb with
      | true =>
        have FE : Hid (Put base w B v QF.1 QF.2 (.returned (.tuple #[])) Wa) := by
          have e := HN'.out
          rw [if_pos rfl] at e
          show Put _ _ _ _ _ _ _ _
          rw [e]
          exact ⟨rfl, u, KA, HSA.out⟩
        clear HN' HT HR HS HLN' HLL KA HSA hrow hcc hR hRA zA hWa bA
        go_upto_region 3 with fail
        rw [← HWA.out]
        go_wp2_with fail
        all_goals exact bodyPost_ret (v := .tuple #[]) (by simp [results, Tryz.results77, go_sem]) rfl FE.out
      | false =>
        have C2 := Lib.hid (put_Entry KA x _ hRA (Nat.le_trans (Nat.add_le_add_left (Nat.le_add_right _ _) _) HLN'.out))
        have HN2 : Hid (QF = foldW entC.put (xs.drop (i + 1)) (entC.put x (ql, false))) := HN'.out
        have HLN2 : Hid ((entC.put x (ql, false)).1.length + ((xs.drop (i + 1)).flatMap entC.enc).length ≤ 290000000) := by
          have h1 := entC_ok.put_len x (ql, false)
          have h2 := HLN'.out
          show _ ≤ _
          simp only at h1 h2 ⊢
          omega
        obtain ⟨q2, hq2⟩ : ∃ q2, q2 = entC.put x (ql, false) := ⟨_, rfl⟩
        rw [← hq2] at HN2 HLN2
        have C3 : Hid (Calls Tryz.prog 42 #[.pointer (some ⟨B, 0, none⟩), .agg #[.int .i64 x.1, .int .i64 x.2.1, .int .i64 x.2.2.1, .slice u3 x.2.2.2.1.length c3, .slice u4 x.2.2.2.2.length c4]] Wa (Put base Wa B u q2.1 q2.2)) := by rw [hq2]; exact C2.out
        clear HN' HT HR HS HLN' HLL KA C2 hq2 hrow hcc hR hRA zA hWa bA
        go_upto_region 3 with fail
        rw [← HWA.out]
        go_wp2_with fail
        refine C3.out.mono ?_
        rintro e w5 ⟨rfl, u5, K5, S5⟩
        have HK5 := Lib.hid K5
        have HS5 := Lib.hid (HSA.out.trans S5)
        clear K5 S5 C3 HSA
        go_wp2_with fail
        go_roundg (n - (i + 1))
        case measure => omega
        case rel => exact ⟨i + 1, u5, q2, by omega, Nat.le_refl _, by go_num, HK5, HS5, HN2, HLN2⟩
    · obtain rfl : i = n := by omega
      have iw : ¬ ((i : Nat) : Int) < ((i : Nat) : Int) := by omega
      have FE : Hid (Put base w B v QF.1 QF.2 (.returned (.tuple #[])) wr) := by
        have e := HT.out
        rw [List.drop_of_length_le (by rw [← HL.out]; exact Nat.le_refl _)] at e
        show Put _ _ _ _ _ _ _ _
        rw [e]
        exact ⟨rfl, u, HR.out, HS.out⟩
      clear HR HS HT HLL
      go_wp2_with fail
      all_goals exact bodyPost_ret (v := .tuple #[]) (by simp [results, Tryz.results77, go_sem]) rfl FE.out
set_option maxHeartbeats 8000000 in
theorem plist_Entry {base B : Nat} {w : World} {v : Value} {l : List UInt8} {bad : Bool} (h : Wr base w B v l bad) (a : Option Addr) (c : Nat) (xs : List (Ent)) (hq : RowP entM (fun b => b < B) w (.slice a xs.length c) xs) (hl : l.length + ((listC entC).enc xs).length ≤ 290000000) : Calls Tryz.prog 41 #[.pointer (some ⟨B, 0, none⟩), .slice a xs.length c, .func (.func 42) #[.pointer (some ⟨B, 0, none⟩)] #[]] w (Put base w B v ((listC entC).put xs (l, bad)).1 ((listC entC).put xs (l, bad)).2) := by
  have hn9 : xs.length ≤ 9223372036854775807 := by have := hq.len; unfold maxLen at this; omega
  obtain ⟨n, hn⟩ : ∃ n, n = xs.length := ⟨_, rfl⟩
  obtain ⟨q0, hq0⟩ : ∃ q0, q0 = pairW xs.length (l, bad) := ⟨_, rfl⟩
  have hl' : l.length + (2 + (xs.flatMap entC.enc).length) ≤ 290000000 := by
    have e : ((listC entC).enc xs).length = 2 + (xs.flatMap entC.enc).length := by show (pairL _ ++ _).length = _; rw [List.length_append, pair_len]
    rw [e] at hl
    exact hl
  have C0 := Lib.hid (ppairW_any h (xs.length : Int) (by omega))
  have HL : q0.1.length + (xs.flatMap entC.enc).length ≤ 290000000 := by
    have := pairW_len xs.length (l, bad)
    rw [← hq0] at this
    simp only at this
    omega
  have CI : Hid (∀ w1 v1, Wr base w1 B v1 q0.1 q0.2 → Stp w B v w1 v1 → Calls Tryz.prog 77 #[.pointer (some ⟨B, 0, none⟩), .slice a n c, .func (.func 42) #[.pointer (some ⟨B, 0, none⟩)] #[]] w1 (Put base w B v ((listC entC).put xs (l, bad)).1 ((listC entC).put xs (l, bad)).2)) := fun w1 v1 k s => by
    rw [hn]
    have e : (listC entC).put xs (l, bad) = foldW entC.put xs q0 := by rw [hq0]; rfl
    rw [e]
    exact (puts_Entry k a c xs (hq.keep entM_ok (Keep.low (s.low h) (fun b h => h))) HL).mono fun _ _ hh => Put.then s hh
  rw [← hq0] at C0
  generalize (listC entC).put xs (l, bad) = QF at *
  rw [← hn] at C0 hn9 ⊢
  clear h hl hl' hq hn hq0 HL
  go_enter Tryz.func41, Tryz.ntmps41
  go_wp2_with fail
  refine C0.out.mono ?_
  rintro e w1 ⟨rfl, v1, K1, S1⟩
  have C1 := Lib.hid (CI.out w1 v1 K1 S1)
  clear K1 S1 C0 CI
  go_wp2_with fail
  refine C1.out.mono ?_
  rintro e w2 ⟨rfl, H⟩
  have HH := Lib.hid H
  clear H C1
  go_wp2_with fail
  all_goals exact bodyPost_ret (v := .tuple #[]) (by simp [results, Tryz.results41, go_sem]) rfl ⟨rfl, HH.out⟩
end Go.Proofs.YtmdgjcikekojdaaGreatDoor.Sta
