/- Words: the program's Call: a call's bytes. -/
import Derived.Test.YthegkookfpnbeaaJf
set_option linter.unusedVariables false
set_option linter.unusedSimpArgs false
set_option maxRecDepth 100000
namespace Go.Proofs.Ythegkookfpnbeaa.Wds
open Go.RowKit Go.Lib Go.Proofs.Ythegkookfpnbeaa.Bx Go.Proofs.Ythegkookfpnbeaa.Frm

set_option maxHeartbeats 4000000 in
theorem written_no {base B : Nat} {w : World} {v : Value} {l : List UInt8} (h : Wr base w B v l true) : Calls Try.prog 27 #[.pointer (some ⟨B, 0, none⟩)] w fun e w' => e = .returned (.tuple #[.string (ByteArray.mk #[]), .bool false]) ∧ Below w.heap.size w w' := by
  obtain ⟨c0, c1, f0, f1⟩ := h.cells
  clear h
  go_enter Try.func27, Try.ntmps27
  go_wp2_with fail
  all_goals exact bodyPost_ret (v := .tuple #[.string (ByteArray.mk #[]), .bool false]) (by simp [results, Try.results27, go_sem]) rfl ⟨rfl, Below.refl _ _⟩
set_option maxHeartbeats 4000000 in
theorem written_yes {base B : Nat} {w : World} {v : Value} {l : List UInt8} (h : Wr base w B v l false) (hl : l ≠ []) : Calls Try.prog 27 #[.pointer (some ⟨B, 0, none⟩)] w fun e w' => e = .returned (.tuple #[.string (mkB l), .bool true]) ∧ Below w.heap.size w w' := by
  obtain ⟨c0, c1, f0, f1⟩ := h.cells
  obtain ⟨a, c, rfl⟩ := h.is_slice
  have hr := h.2.2.2.row
  have CV := row_text hr hl
  generalize mkB l = s at *
  generalize l.length = n at *
  clear h hr hl
  go_enter Try.func27, Try.ntmps27
  go_wp2_with fail
  all_goals exact bodyPost_ret (v := .tuple #[.string s, .bool true]) (by simp [results, Try.results27, go_sem]) rfl ⟨rfl, Below.refl _ _⟩
def outV (q : List UInt8 × Bool) : List UInt8 × Bool := if q.2 = true then ([], false) else (q.1, true)
theorem written_any {base B : Nat} {w : World} {v : Value} {l : List UInt8} {bad : Bool} (h : Wr base w B v l bad) (hl : l ≠ []) : Calls Try.prog 27 #[.pointer (some ⟨B, 0, none⟩)] w fun e w' => e = .returned (.tuple #[.string (mkB (outV (l, bad)).1), .bool (outV (l, bad)).2]) ∧ Below w.heap.size w w' := by
  cases bad with
  | true => exact written_no h
  | false => exact written_yes h hl
theorem tw_bad (t : List UInt8) (q : List UInt8 × Bool) (h : q.2 = true) : (tw t q).2 = true := by
  unfold tw
  split
  · exact h
  · rfl
theorem askW_bad (p : Pl) (q : List UInt8 × Bool) (h : q.2 = true) : (askW p q).2 = true := by
  unfold askW
  split
  · rfl
  · split
    · exact tw_bad _ _ (tw_bad _ _ h)
    · split
      · exact tw_bad _ _ h
      · split
        · exact h
        · exact h
theorem tw_pre (t : List UInt8) (q : List UInt8 × Bool) (h : q.1 ≠ []) : (tw t q).1 ≠ [] := by
  unfold tw
  split
  · exact List.append_ne_nil_of_left_ne_nil h _
  · exact h
theorem askW_pre (p : Pl) (q : List UInt8 × Bool) (h : q.1 ≠ []) : (askW p q).1 ≠ [] := by
  unfold askW
  split
  · exact h
  · split
    · exact tw_pre _ _ (tw_pre _ _ h)
    · split
      · exact tw_pre _ _ (List.append_ne_nil_of_left_ne_nil h _)
      · split
        · exact List.append_ne_nil_of_left_ne_nil (List.append_ne_nil_of_left_ne_nil (List.append_ne_nil_of_left_ne_nil h _) _) _
        · exact List.append_ne_nil_of_left_ne_nil h _
/-- A call, put. -/
def callW (p : Pl) : List UInt8 × Bool := askW p ((tw p.tok ([UInt8.ofNat (opE p).toNat], false)).1 ++ numL p.seq, (tw p.tok ([UInt8.ofNat (opE p).toNat], false)).2)
theorem out_call (p : Pl) : outV (callW p) = callE p := by
  unfold callW callE
  by_cases h0 : opE p = 0
  · rw [if_pos (.inl h0)]
    unfold askW outV
    rw [if_pos h0]
    rfl
  · by_cases h1 : 65535 < p.tok.length
    · rw [if_pos (.inr h1)]
      have e : tw p.tok ([UInt8.ofNat (opE p).toNat], false) = ([UInt8.ofNat (opE p).toNat], true) := by unfold tw; rw [if_neg (by omega)]
      rw [e]
      unfold outV
      rw [if_pos (askW_bad _ _ rfl)]
    · rw [if_neg (by rintro (h | h); exact h0 h; exact h1 h)]
      have eo : opE p = p.op := by
        unfold opE at h0 ⊢
        split at h0
        · exact absurd rfl h0
        · rename_i h; rw [if_neg h]
      have e : tw p.tok ([UInt8.ofNat (opE p).toNat], false) = ([UInt8.ofNat p.op.toNat] ++ textL p.tok, false) := by unfold tw textX; rw [if_pos (by omega), eo]; rfl
      rw [e]
      unfold askW
      rw [if_neg h0]
      have hb : bodyL p = [UInt8.ofNat p.op.toNat] ++ textL p.tok ++ numL p.seq ++ ((p.n.take (countN p.op)).flatMap numL ++ (txt (p.op = 1 ∨ p.op = 4) p.text ++ (txt (p.op = 1) p.more ++ (flg (p.op = 14) p.a ++ flg (p.op = 14) p.b)))) := by
        unfold bodyL
        simp only [List.append_assoc]
      rw [hb]
      by_cases k1 : p.op = 1
      · have en : (p.n.take (countN p.op)).flatMap numL = [] := by rw [k1]; rfl
        rw [if_pos k1, en]
        unfold tw textX txt flg outV
        by_cases q1 : p.text.length ≤ 65535
        · have m1 : ¬ 65535 < p.text.length := by omega
          by_cases q2 : p.more.length ≤ 65535
          · have m2 : ¬ 65535 < p.more.length := by omega
            simp [k1, q1, q2, m1, m2]
          · have m2 : 65535 < p.more.length := by omega
            simp [k1, q1, q2, m1, m2]
        · have m1 : 65535 < p.text.length := by omega
          simp [k1, q1, m1]
          split <;> rfl
      · rw [if_neg k1]
        by_cases k4 : p.op = 4
        · rw [if_pos k4]
          unfold tw textX txt flg outV
          by_cases q1 : p.text.length ≤ 65535
          · have m1 : ¬ 65535 < p.text.length := by omega
            simp [k4, q1, m1]
          · have m1 : 65535 < p.text.length := by omega
            simp [k4, q1, m1]
        · rw [if_neg k4]
          unfold txt flg outV
          by_cases k14 : p.op = 14
          · simp [k14]
          · simp [k1, k4, k14]
theorem tw_le (t : List UInt8) (l : List UInt8) (b : Bool) : (tw t (l, b)).1.length ≤ l.length + 65537 := tw_len t (l, b)
set_option maxHeartbeats 8000000 in
theorem call_ok : CallOk := fun p v w hp hw ha => by
  obtain ⟨R, hR⟩ : ∃ R, R = w.heap.size := ⟨_, rfl⟩
  obtain ⟨B0, P0, L0⟩ := box1 w #[.string (mkB p.tok), .int .i64 p.seq, v] 30
  obtain ⟨W0, hW0⟩ : ∃ W0, W0 = w.alloc (.cells #[.string (mkB p.tok), .int .i64 p.seq, v] 30) := ⟨_, rfl⟩
  rw [← hW0] at B0 P0 L0
  obtain ⟨B1, P1, L1⟩ := box1 W0 #[.slice none 0 0, .bool false] 58
  obtain ⟨W1, hW1⟩ : ∃ W1, W1 = W0.alloc (.cells #[.slice none 0 0, .bool false] 58) := ⟨_, rfl⟩
  rw [← hW1] at B1 P1 L1
  rw [← hR] at L0 P0
  rw [L0] at P1 L1
  have HW : Hid (Wr (R + 1 + 1) W1 (R + 1) (.slice none 0 0) [] false) := ⟨by omega, by omega, P1, Rk.OwnK.nil_ _ _ _ _⟩
  have q0 : W1.heap[R]? = some (.cells #[.string (mkB p.tok), .int .i64 p.seq, v] 30 (0, 0)) := (B1.block R (by omega)).trans P0
  have HC : Hid (∀ w', Below (R + 1) W1 w' → w'.cell? ⟨R, 0, none⟩ = some (.string (mkB p.tok)) ∧ w'.cell? ⟨R, 1, none⟩ = some (.int .i64 p.seq) ∧ w'.cell? ⟨R, 2, none⟩ = some v) := fun w' hb => three_cells ((hb.block R (by omega)).trans q0)
  have HB1 : Hid (Below R w W1) := by rw [hR]; exact below_on B0 B1
  have HL1 : Hid (W1.heap.size = R + 1 + 1) := L1
  have HW1 : Hid (W1 = (w.alloc (.cells #[.string (mkB p.tok), .int .i64 p.seq, v] 30)).alloc (.cells #[.slice none 0 0, .bool false] 58)) := by show _ = _; rw [hW1, hW0]
  have HL0 : Hid (w.heap.size = R) := hR.symm
  obtain ⟨k, hk⟩ : ∃ k : Nat, opE p = (k : Int) := ⟨(opE p).toNat, by unfold opE; split <;> omega⟩
  have hk15 : k ≤ 255 := by have : opE p ≤ 15 := by unfold opE; split <;> omega
                            omega
  have HE := Lib.hid (out_call p)
  have C1 : Hid (∀ w, Calls Try.prog 11 #[v] w fun e w' => e = .returned (.int .i64 (k : Nat)) ∧ Below w.heap.size w w') := fun w => by rw [← hk]; exact op_ok p v w ha
  have HP := Lib.hid (And.intro hp (And.intro hw ha))
  have HK := Lib.hid (And.intro hk hk15)
  have C2 : Hid (∀ w', Below W1.heap.size W1 w' → Calls Try.prog 23 #[.pointer (some ⟨R + 1, 0, none⟩), .int .i64 (k : Nat)] w' fun e w'' => e = .returned (.tuple #[]) ∧ ∃ v2, Wr (R + 1 + 1) w'' (R + 1) v2 ([] ++ [UInt8.ofNat k]) false ∧ Below (R + 1) W1 w'') := fun w' hb => (pbyte_yes (HW.out.below hb) k hk15 (by decide)).mono fun e w'' h => by
    obtain ⟨e1, v2, h1, h2⟩ := h
    exact ⟨e1, v2, h1, (hb.mono (by rw [L1]; omega)).trans (h2.low (HW.out.below hb))⟩
  have BX : Hid (∀ w', Below (R + 1) W1 w' → w'.cell? ⟨R, 2, none⟩ = some v) := fun w' hb => (HC.out w' hb).2.2
  have KR : Hid (Below W1.heap.size W1 W1) := Below.refl _ _
  have KL : Hid (∀ w', Below W1.heap.size W1 w' → Below (R + 1) W1 w') := fun w' hb => hb.mono (by rw [L1]; omega)
  clear hR B0 P0 L0 B1 P1 L1 hW0 hW1 q0 hp hw ha hk hk15
  go_enter Try.func8, Try.ntmps8
  go_upto_region 2 with fail
  rw [← HW1.out, HL0.out]
  go_region_held3 (fun w' => w'.cell? ⟨R, 2, none⟩ = some v)
    (first
      | (refine BX.out _ (KL.out _ ?_); focus ((repeat first | assumption | exact KR.out | apply Below.drew | apply below_drews); done))
      | (refine BX.out _ ?_; with_reducible assumption))
    (first
      | (go_at_call 11; (with_reducible refine (C1.out _).mono ?_); rintro e w1 ⟨rfl, b1⟩; have b1' := fun h => below_on (w := W1) h b1; replace b1' := b1' (by (repeat first | assumption | exact KR.out | apply Below.drew | apply below_drews)))
      | (go_at_call 23; (with_reducible refine (C2.out _ ?c2).mono ?_); (case c2 => (repeat first | assumption | exact KR.out | apply Below.drew | apply below_drews)); rintro e w2 ⟨rfl, v2, K2, D2⟩))
  replace D2 := Lib.hid D2
  clear C1 C2
  obtain ⟨a0, a1, a2⟩ := HC.out w2 D2.out
  have C3 := Lib.hid ((ptext_any K2.drew p.tok (by show 1 ≤ 300000000; decide) HP.out.2.1.1).mono fun _ _ => Put.undrew)
  have K2' := Lib.hid K2
  clear K2
  go_upto_region 3 with fail
  refine still_tailW 5 (by kernel_rfl) (by kernel_rfl) ?_
  simp only [List.take_succ_cons, List.take_zero, List.drop_succ_cons, List.drop_zero]
  have d0 := drew_cell a0
  generalize w2.drew = Wd2 at *
  repeat still_step
  refine wpStill_nil ?_
  clear d0
  go_wp2_with fail
  refine C3.out.mono ?_
  rintro e w3 ⟨rfl, v3, K3, S3⟩
  have D3 : Hid (Below (R + 1) W1 w3) := D2.out.trans (S3.low K2'.out)
  clear K2' S3 C3 D2 a0 a1 a2
  obtain ⟨a0, a1, a2⟩ := HC.out w3 D3.out
  have C4 := Lib.hid ((pnum_any K3.drew p.seq (by have := tw_le p.tok ([] ++ [UInt8.ofNat k]) false; have h1 : ([] ++ [UInt8.ofNat k]).length = 1 := rfl; omega)).mono fun _ _ => Put.undrew)
  have K3' := Lib.hid K3
  clear K3
  go_upto_region 4 with fail
  refine still_tailW 5 (by kernel_rfl) (by kernel_rfl) ?_
  simp only [List.take_succ_cons, List.take_zero, List.drop_succ_cons, List.drop_zero]
  have d1 := drew_cell a1
  generalize w3.drew = Wd3 at *
  repeat still_step
  refine wpStill_nil ?_
  clear d1
  go_wp2_with fail
  refine C4.out.mono ?_
  rintro e w4 ⟨rfl, v4, K4, S4⟩
  have D4 : Hid (Below (R + 1) W1 w4) := D3.out.trans (S4.low K3'.out)
  clear K3' S4 C4 D3 a0 a1 a2
  obtain ⟨a0, a1, a2⟩ := HC.out w4 D4.out
  have C5 := Lib.hid (pask_any K4 p v HP.out.2.2 HP.out.1.1 (by rw [List.length_append, num_len]; have := tw_le p.tok ([] ++ [UInt8.ofNat k]) false; have h1 : ([] ++ [UInt8.ofNat k]).length = 1 := rfl; omega) HP.out.2.1.2)
  have K4' := Lib.hid K4
  clear K4
  go_wp2_with fail
  refine C5.out.mono ?_
  rintro e w5 ⟨rfl, v5, K5, S5⟩
  have D5 : Hid (Below (R + 1) W1 w5) := D4.out.trans (S5.low K4'.out)
  clear K4' S5 C5 D4 a0 a1 a2
  have C6 := Lib.hid (written_any K5 (askW_pre p _ (by show _ ++ _ ≠ []; exact List.append_ne_nil_of_left_ne_nil (tw_pre p.tok _ (by simp)) _)))
  have HF : Hid (outV ((askW p ((tw p.tok ([] ++ [UInt8.ofNat k], false)).1 ++ numL p.seq, (tw p.tok ([] ++ [UInt8.ofNat k], false)).2)).1, (askW p ((tw p.tok ([] ++ [UInt8.ofNat k], false)).1 ++ numL p.seq, (tw p.tok ([] ++ [UInt8.ofNat k], false)).2)).2) = callE p) := by
    show _ = _
    rw [← HE.out]
    unfold callW
    rw [HK.out.1, Int.toNat_natCast]
    rfl
  rw [HF.out] at C6
  have HL5 : Hid (R + 1 + 1 ≤ w5.heap.size) := K5.2.1
  clear K5 HF
  go_wp2_with fail
  refine C6.out.mono ?_
  rintro e w6 ⟨rfl, b6⟩
  have FE : Hid (Below w.heap.size w w6) := by
    show Below _ _ _
    rw [HL0.out]
    exact HB1.out.trans ((D5.out.trans (b6.mono (by have := HL5.out; omega))).mono (Nat.le_succ _))
  clear b6 C6
  go_wp2_with fail
  exact bodyPost_ret (v := .tuple #[.string (mkB (callE p).1), .bool (callE p).2]) (by simp [results, Try.results8, go_sem]) rfl ⟨rfl, FE.out⟩
end Go.Proofs.Ythegkookfpnbeaa.Wds
