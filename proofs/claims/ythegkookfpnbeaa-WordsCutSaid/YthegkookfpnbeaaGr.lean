/- Words: the walk of WordsCalls. -/
import Derived.Test.YthegkookfpnbeaaGs
set_option linter.unusedVariables false
set_option linter.unusedSimpArgs false
set_option maxRecDepth 100000
namespace Go.Proofs.Ythegkookfpnbeaa.Wds
open Go.RowKit Go.Lib Go.Proofs.Ythegkookfpnbeaa.Bx Go.Proofs.Ythegkookfpnbeaa.Frm

theorem body_len {p : Pl} (h6 : p.n.length = 6) (ht : p.tok.length ≤ 65535) (hx : p.op = 1 ∨ p.op = 4 → p.text.length ≤ 65535) (hm : p.op = 1 → p.more.length ≤ 65535) : (bodyL p).length ≤ 200000 := by
  have hc := count_le p.op
  have h2 := nums_len (p.n.take (countN p.op))
  unfold numsL at h2
  have h3 : (p.n.take (countN p.op)).length ≤ 6 := by rw [List.length_take]; omega
  unfold bodyL txt flg textL flagL
  generalize (p.n.take (countN p.op)).flatMap numL = X at *
  generalize (p.n.take (countN p.op)).length = k at *
  by_cases h1 : p.op = 1
  · have a1 := hx (.inl h1)
    have a2 := hm h1
    simp [h1, h2, num_len]; omega
  · by_cases h4 : p.op = 4
    · have a1 := hx (.inr h4)
      simp [h4, h2, num_len]; omega
    · by_cases h14 : p.op = 14
      · simp [h14, h2, num_len]; omega
      · simp [h1, h4, h14, h2, num_len]; omega
set_option maxHeartbeats 16000000 in
theorem calls_walk (HCO : CallOk) (HOO : OpOk) (HAO : AskOk) (p : Pl) (hp : okP p) (hw : p.tok.length ≤ 9223372036854775807 ∧ p.text.length ≤ 9223372036854775807 ∧ p.more.length ≤ 9223372036854775807) (w : World) : Calls Try.prog 3 #[plV p] w fun e w' => e = .returned (.bool true) ∧ Below w.heap.size w w' := by
  obtain ⟨R, hR⟩ : ∃ R, R = w.heap.size := ⟨_, rfl⟩
  obtain ⟨b0, z0⟩ := boxP w p
  obtain ⟨W0, hW0⟩ : ∃ W0, W0 = w.alloc (.cells (cellsP p).toArray 24) := ⟨_, rfl⟩
  rw [← hW0, ← hR] at z0
  rw [← hW0] at b0
  have HW0 : Hid (W0 = w.alloc (.cells #[.int .i64 p.op, .string (mkB p.tok), .int .i64 p.seq, .int .i64 (nn p 0), .int .i64 (nn p 1), .int .i64 (nn p 2), .int .i64 (nn p 3), .int .i64 (nn p 4), .int .i64 (nn p 5), .string (mkB p.text), .string (mkB p.more), .bool p.a, .bool p.b] 24)) := hW0
  have HB0 := Lib.hid b0
  have HR := Lib.hid hR
  have HZ : Hid (∀ w', Below W0.heap.size W0 w' → w'.cell? ⟨R, 0, none⟩ = some (.int .i64 p.op) ∧ w'.cell? ⟨R, 1, none⟩ = some (.string (mkB p.tok)) ∧ w'.cell? ⟨R, 2, none⟩ = some (.int .i64 p.seq) ∧ w'.cell? ⟨R, 3, none⟩ = some (.int .i64 (nn p 0)) ∧ w'.cell? ⟨R, 4, none⟩ = some (.int .i64 (nn p 1)) ∧ w'.cell? ⟨R, 5, none⟩ = some (.int .i64 (nn p 2)) ∧ w'.cell? ⟨R, 6, none⟩ = some (.int .i64 (nn p 3)) ∧ w'.cell? ⟨R, 7, none⟩ = some (.int .i64 (nn p 4)) ∧ w'.cell? ⟨R, 8, none⟩ = some (.int .i64 (nn p 5)) ∧ w'.cell? ⟨R, 9, none⟩ = some (.string (mkB p.text)) ∧ w'.cell? ⟨R, 10, none⟩ = some (.string (mkB p.more)) ∧ w'.cell? ⟨R, 11, none⟩ = some (.bool p.a) ∧ w'.cell? ⟨R, 12, none⟩ = some (.bool p.b)) := fun w' hb => (z0.below hb).all
  have hmi : ∀ (x : Value) (w : World), (Instr.makeInterface 28 x).run Try.prog w = .ok (.iface 28 x) w := fun x w => run_makeInterface _ _ _ (by kernel_rfl)
  have CX : Hid (Calls Try.prog 8 #[.agg #[.string (ByteArray.mk #[116]), .int .i64 1, .iface 28 (.agg #[])]] W0 fun e w' => e = .returned (.tuple #[.string (ByteArray.mk #[2, 0, 1, 116, 0, 0, 0, 0, 0, 0, 0, 1]), .bool true]) ∧ Below W0.heap.size W0 w') := by
    have h := HCO pX _ W0 okX (by decide) isX
    rw [callX] at h
    exact h
  have SX : ((ByteArray.mk #[2, 0, 1, 116, 0, 0, 0, 0, 0, 0, 0, 1]).toList == (ByteArray.mk #[2, 0, 1, 116, 0, 0, 0, 0, 0, 0, 0, 1]).toList) = true := by simp
  have COF : Hid (∀ w', Calls Try.prog 9 #[.agg #[.int .i64 p.op, .string (mkB p.tok), .int .i64 p.seq, .int .i64 (nn p 0), .int .i64 (nn p 1), .int .i64 (nn p 2), .int .i64 (nn p 3), .int .i64 (nn p 4), .int .i64 (nn p 5), .string (mkB p.text), .string (mkB p.more), .bool p.a, .bool p.b]] w' fun e w'' => ∃ v, e = .returned (.agg #[.string (mkB p.tok), .int .i64 p.seq, v]) ∧ AskIs p v ∧ Below w'.heap.size w' w'') := fun w' => of_any p w'
  have sz1 : (mkB p.tok).size = p.tok.length := mkB_size _
  have sz2 : (mkB p.text).size = p.text.length := mkB_size _
  have sz3 : (mkB p.more).size = p.more.length := mkB_size _
  obtain ⟨d0, d1, d2, d3, d4, d5, d6, d7, d8, d9, d10, d11, d12⟩ := z0.all
  unfold plV
  clear hW0 b0 z0 hR
  go_enter Try.func3, Try.ntmps3
  go_upto_region 1 with fail
  rw [← HW0.out, ← HR.out]
  go_wp2_with fail
  refine CX.out.mono ?_
  rintro e w1 ⟨rfl, b1⟩
  have KR := Lib.hid b1
  clear b1 CX d0 d1 d2 d3 d4 d5 d6 d7 d8 d9 d10 d11 d12
  obtain ⟨d0, d1, d2, d3, d4, d5, d6, d7, d8, d9, d10, d11, d12⟩ := HZ.out w1 KR.out
  go_upto_region 4 with fail
  obtain ⟨m1, hm1⟩ : ∃ m1, m1 = p.tok.length := ⟨_, rfl⟩
  obtain ⟨m2, hm2⟩ : ∃ m2, m2 = p.text.length := ⟨_, rfl⟩
  obtain ⟨m3, hm3⟩ : ∃ m3, m3 = p.more.length := ⟨_, rfl⟩
  have HM := Lib.hid (And.intro hm1 (And.intro hm2 hm3))
  rw [← hm1] at sz1 hw
  rw [← hm2] at sz2 hw
  rw [← hm3] at sz3 hw
  have HWB := Lib.hid hw
  obtain ⟨hw1, hw2, hw3⟩ := hw
  obtain ⟨u1, hu1⟩ : ∃ u1, u1 = IntKind.i64.wrap ((m1 : Int) + (m2 : Int)) := ⟨_, rfl⟩
  obtain ⟨u2, hu2⟩ : ∃ u2, u2 = IntKind.i64.wrap (u1 + (m3 : Int)) := ⟨_, rfl⟩
  have ws1 := hu1.symm
  have ws2 := hu2.symm
  clear hu1 hu2
  obtain ⟨ts, hts⟩ : ∃ ts, ts = mkB p.tok := ⟨_, rfl⟩
  obtain ⟨xs, hxs⟩ : ∃ xs, xs = mkB p.text := ⟨_, rfl⟩
  obtain ⟨ms, hms⟩ : ∃ ms, ms = mkB p.more := ⟨_, rfl⟩
  have HS := Lib.hid (And.intro hts (And.intro hxs hms))
  have HP0 := Lib.hid hp
  by_cases hbig : (140000 : Int) < u2
  · clear COF HZ hm1 hm2 hm3 hts hxs hms
    have HBW := Lib.hid (below_on HB0.out KR.out)
    go_wp2_with fail
    go_ret
    exact ⟨rfl, HBW.out⟩
  · have HSUM : Hid (p.tok.length ≤ 9223372036854775807 ∧ p.text.length ≤ 9223372036854775807 ∧ p.more.length ≤ 9223372036854775807) := by rw [← hm1, ← hm2, ← hm3]; exact ⟨hw1, hw2, hw3⟩
    clear hm1 hm2 hm3 hts hxs hms
    go_wp2_with fail
    refine (COF.out _).mono ?_
    rintro e w2 ⟨v, rfl, hv, b2⟩
    have HV := Lib.hid hv
    have ST := store_iface w2 (.string (mkB p.tok)) (.int .i64 p.seq) v 30 hv.form
    have KR2 := Lib.hid (below_on KR.out b2)
    clear b2 COF hv KR d0 d1 d2 d3 d4 d5 d6 d7 d8 d9 d10 d11 d12
    obtain ⟨d0, d1, d2, d3, d4, d5, d6, d7, d8, d9, d10, d11, d12⟩ := HZ.out w2 KR2.out
    obtain ⟨CB, hCB⟩ : ∃ CB, CB = w2.heap.size := ⟨_, rfl⟩
    obtain ⟨W3, hW3⟩ : ∃ W3, W3 = w2.alloc (.cells #[.string (mkB p.tok), .int .i64 p.seq, v] 30) := ⟨_, rfl⟩
    have P3 : W3.heap[CB]? = some (.cells #[.string (mkB p.tok), .int .i64 p.seq, v] 30 (0, 0)) := by rw [hW3, hCB]; exact heap_alloc_new _ _
    have KR3 : Hid (Below W0.heap.size W0 W3) := by rw [hW3]; exact below_al KR2.out _
    have HP3 := Lib.hid P3
    have HCC : Hid (∀ w', Below W3.heap.size W3 w' → Below W0.heap.size W0 w' ∧ w'.cell? ⟨CB, 2, none⟩ = some v ∧ w'.cell? ⟨R, 0, none⟩ = some (.int .i64 p.op) ∧ w'.cell? ⟨R, 1, none⟩ = some (.string (mkB p.tok)) ∧ w'.cell? ⟨R, 2, none⟩ = some (.int .i64 p.seq) ∧ w'.cell? ⟨R, 3, none⟩ = some (.int .i64 (nn p 0)) ∧ w'.cell? ⟨R, 4, none⟩ = some (.int .i64 (nn p 1)) ∧ w'.cell? ⟨R, 5, none⟩ = some (.int .i64 (nn p 2)) ∧ w'.cell? ⟨R, 6, none⟩ = some (.int .i64 (nn p 3)) ∧ w'.cell? ⟨R, 7, none⟩ = some (.int .i64 (nn p 4)) ∧ w'.cell? ⟨R, 8, none⟩ = some (.int .i64 (nn p 5)) ∧ w'.cell? ⟨R, 9, none⟩ = some (.string (mkB p.text)) ∧ w'.cell? ⟨R, 10, none⟩ = some (.string (mkB p.more)) ∧ w'.cell? ⟨R, 11, none⟩ = some (.bool p.a) ∧ w'.cell? ⟨R, 12, none⟩ = some (.bool p.b)) := fun w' hb => by
      have h1 := (hb.block CB (Array.getElem?_eq_some_iff.1 HP3.out).1).trans HP3.out
      have h0 : Below W0.heap.size W0 w' := below_on KR3.out hb
      exact ⟨h0, (three_cells h1).2.2, HZ.out w' h0⟩
    obtain ⟨k0, k1, k2⟩ := three_cells P3
    go_upto_region 7 with fail
    rw [← hW3, ← hCB]
    clear hW3 hCB KR2 P3 ST d0 d1 d2 d3 d4 d5 d6 d7 d8 d9 d10 d11 d12
    obtain ⟨d0, d1, d2, d3, d4, d5, d6, d7, d8, d9, d10, d11, d12⟩ := HZ.out W3 KR3.out
    have C4 : Hid (Calls Try.prog 8 #[.agg #[.string (mkB p.tok), .int .i64 p.seq, v]] W3 fun e w' => e = .returned (.tuple #[.string (mkB (callE p).1), .bool (callE p).2]) ∧ Below W3.heap.size W3 w') := HCO p v W3 HP0.out HSUM.out HV.out
    have C5 : Hid (∀ w', Calls Try.prog 10 #[.agg #[.int .i64 p.op, .string (mkB p.tok), .int .i64 p.seq, .int .i64 (nn p 0), .int .i64 (nn p 1), .int .i64 (nn p 2), .int .i64 (nn p 3), .int .i64 (nn p 4), .int .i64 (nn p 5), .string (mkB p.text), .string (mkB p.more), .bool p.a, .bool p.b]] w' fun e w'' => e = .returned (.tuple #[.string (mkB (callE p).1), .bool (callE p).2]) ∧ Below w'.heap.size w' w'') := fun w' => rcall_any p w' HP0.out.1
    have C6 : Hid (∀ w', Calls Try.prog 11 #[v] w' fun e w'' => e = .returned (.int .i64 (opE p)) ∧ Below w'.heap.size w' w'') := fun w' => HOO p v w' HV.out
    have C7 : Hid (∀ w', Calls Try.prog 12 #[.agg #[.int .i64 p.op, .string (mkB p.tok), .int .i64 p.seq, .int .i64 (nn p 0), .int .i64 (nn p 1), .int .i64 (nn p 2), .int .i64 (nn p 3), .int .i64 (nn p 4), .int .i64 (nn p 5), .string (mkB p.text), .string (mkB p.more), .bool p.a, .bool p.b]] w' fun e w'' => e = .returned (.int .i64 (opE p)) ∧ Below w'.heap.size w' w'') := fun w' => op_any p w'
    have HYES : Hid ((callE p).2 = true → askE (callE p).1 = (normP p, true) ∧ alikeB p (normP p) = true ∧ (1 ≤ p.op ∧ p.op ≤ 15) ∧ (callE p).1.length ≤ 200000) := fun h => by
      refine ⟨ask_call HP0.out h, alike_norm HP0.out h, ⟨(call_yes h).2.1, (call_yes h).2.2.1⟩, ?_⟩
      rw [(call_yes h).1]
      exact body_len HP0.out.1 (call_yes h).2.2.2.1 (call_yes h).2.2.2.2.1 (call_yes h).2.2.2.2.2
    obtain ⟨cs, hcs⟩ : ∃ cs, cs = (callE p).1 := ⟨_, rfl⟩
    obtain ⟨ck, hck⟩ : ∃ ck, ck = (callE p).2 := ⟨_, rfl⟩
    rw [← hcs, ← hck] at C4 C5 HYES
    obtain ⟨st, hst⟩ : ∃ st, st = mkB cs := ⟨_, rfl⟩
    rw [← hst] at C4 C5
    have HST := Lib.hid hst
    have SS : (st.toList == st.toList) = true := by simp
    generalize opE p = oe at *
    clear hcs hck hst
    go_wp2_with fail
    refine C4.out.mono ?_
    rintro e w4 ⟨rfl, b4⟩
    have K4 := Lib.hid b4
    clear b4 C4 k0 k1 k2 d0 d1 d2 d3 d4 d5 d6 d7 d8 d9 d10 d11 d12
    obtain ⟨_, k2, d0, d1, d2, d3, d4, d5, d6, d7, d8, d9, d10, d11, d12⟩ := HCC.out w4 K4.out
    go_wp2_with fail
    refine (C5.out _).mono ?_
    rintro e w5 ⟨rfl, b5⟩
    have K5 := Lib.hid (below_on K4.out b5)
    clear b5 C5 k2 K4 d0 d1 d2 d3 d4 d5 d6 d7 d8 d9 d10 d11 d12
    obtain ⟨_, k2, d0, d1, d2, d3, d4, d5, d6, d7, d8, d9, d10, d11, d12⟩ := HCC.out w5 K5.out
    have HCD : Hid (∀ w', Below W3.heap.size W3 w' → Below W3.heap.size W3 w' ∧ w'.cell? ⟨CB, 2, none⟩ = some v ∧ w'.cell? ⟨R, 0, none⟩ = some (.int .i64 p.op) ∧ w'.cell? ⟨R, 1, none⟩ = some (.string (mkB p.tok)) ∧ w'.cell? ⟨R, 2, none⟩ = some (.int .i64 p.seq) ∧ w'.cell? ⟨R, 3, none⟩ = some (.int .i64 (nn p 0)) ∧ w'.cell? ⟨R, 4, none⟩ = some (.int .i64 (nn p 1)) ∧ w'.cell? ⟨R, 5, none⟩ = some (.int .i64 (nn p 2)) ∧ w'.cell? ⟨R, 6, none⟩ = some (.int .i64 (nn p 3)) ∧ w'.cell? ⟨R, 7, none⟩ = some (.int .i64 (nn p 4)) ∧ w'.cell? ⟨R, 8, none⟩ = some (.int .i64 (nn p 5)) ∧ w'.cell? ⟨R, 9, none⟩ = some (.string (mkB p.text)) ∧ w'.cell? ⟨R, 10, none⟩ = some (.string (mkB p.more)) ∧ w'.cell? ⟨R, 11, none⟩ = some (.bool p.a) ∧ w'.cell? ⟨R, 12, none⟩ = some (.bool p.b)) := fun w' hb => ⟨hb, (HCC.out w' hb).2⟩
    go_upto_region 9 with fail
    go_cut [64] from 49 to 64 (fun x wx => x = .bool false ∧ Hid (Below W3.heap.size W3 wx))
    case first =>
      go_region_held3 (fun w' => Below W3.heap.size W3 w' ∧ w'.cell? ⟨CB, 2, none⟩ = some v ∧ w'.cell? ⟨R, 0, none⟩ = some (.int .i64 p.op) ∧ w'.cell? ⟨R, 1, none⟩ = some (.string (mkB p.tok)) ∧ w'.cell? ⟨R, 2, none⟩ = some (.int .i64 p.seq) ∧ w'.cell? ⟨R, 3, none⟩ = some (.int .i64 (nn p 0)) ∧ w'.cell? ⟨R, 4, none⟩ = some (.int .i64 (nn p 1)) ∧ w'.cell? ⟨R, 5, none⟩ = some (.int .i64 (nn p 2)) ∧ w'.cell? ⟨R, 6, none⟩ = some (.int .i64 (nn p 3)) ∧ w'.cell? ⟨R, 7, none⟩ = some (.int .i64 (nn p 4)) ∧ w'.cell? ⟨R, 8, none⟩ = some (.int .i64 (nn p 5)) ∧ w'.cell? ⟨R, 9, none⟩ = some (.string (mkB p.text)) ∧ w'.cell? ⟨R, 10, none⟩ = some (.string (mkB p.more)) ∧ w'.cell? ⟨R, 11, none⟩ = some (.bool p.a) ∧ w'.cell? ⟨R, 12, none⟩ = some (.bool p.b))
        ((refine HCD.out _ ?_; focus ((repeat first | with_reducible assumption | with_reducible exact K5.out | with_reducible apply Below.drew | with_reducible apply below_drews); done)))
        (first
          | (go_at_call 11; (with_reducible refine (C6.out _).mono ?_); rintro e wt ⟨rfl, bt⟩; have hkt := below_on (B := W3.heap.size) (w := W3) (by (repeat first | with_reducible assumption | with_reducible exact K5.out | with_reducible apply Below.drew | with_reducible apply below_drews)) bt (Nat.le_refl _); clear bt)
          | (go_at_call 12; (with_reducible refine (C7.out _).mono ?_); rintro e wt ⟨rfl, bt⟩; have hkt := below_on (B := W3.heap.size) (w := W3) (by (repeat first | with_reducible assumption | with_reducible exact K5.out | with_reducible apply Below.drew | with_reducible apply below_drews)) bt (Nat.le_refl _); clear bt))
      all_goals go_wp2_with fail
      all_goals go_meet
      all_goals exact ⟨by first | rfl | (simp; done), Lib.hid (by (repeat first | with_reducible assumption | with_reducible exact K5.out | with_reducible apply Below.drew | with_reducible apply below_drews))⟩
    case rest =>
      obtain ⟨rfl, K9⟩ := hcut
      clear K5 C6 C7 k2 d0 d1 d2 d3 d4 d5 d6 d7 d8 d9 d10 d11 d12
      have HBW := Lib.hid (below_on HB0.out (below_on KR3.out K9.out))
      cases ck with
      | false =>
        go_wp2_with fail
        go_ret
        exact ⟨rfl, HBW.out⟩
      | true =>
        obtain ⟨ha, hal, h15, hlen⟩ := HYES.out rfl
        have CA : Hid (∀ w', Calls Try.prog 13 #[.string st] w' fun e w'' => e = .returned (.tuple #[.agg #[.string (mkB p.tok), .int .i64 p.seq, askV (normP p)], .bool true]) ∧ Below w'.heap.size w' w'') := fun w' => by
          have h := HAO cs w' hlen
          rw [ha] at h
          rw [HST.out]
          exact h
        have CB_ : Hid (∀ w', Calls Try.prog 15 #[.agg #[.string (mkB p.tok), .int .i64 p.seq, askV (normP p)]] w' fun e w'' => e = .returned (plV (normP p)) ∧ Below w'.heap.size w' w'') := fun w' => by
          have h := back_any (normP p) w' (norm_len HP0.out.1) h15
          rw [norm_norm HP0.out.1] at h
          exact h
        have CAL : Hid (∀ w', Calls Try.prog 14 #[.agg #[.int .i64 p.op, .string (mkB p.tok), .int .i64 p.seq, .int .i64 (nn p 0), .int .i64 (nn p 1), .int .i64 (nn p 2), .int .i64 (nn p 3), .int .i64 (nn p 4), .int .i64 (nn p 5), .string (mkB p.text), .string (mkB p.more), .bool p.a, .bool p.b], plV (normP p)] w' fun e w'' => e = .returned (.bool true) ∧ Below w'.heap.size w' w'') := fun w' => by
          have h := alike_any p (normP p) w' HP0.out.1 (norm_len HP0.out.1)
          rw [hal] at h
          exact h
        obtain ⟨dv, hdv⟩ : ∃ dv, dv = askV (normP p) := ⟨_, rfl⟩
        have hdf : dv = .nilIface ∨ ∃ t x, dv = .iface t x := by rw [hdv]; exact askV_form _
        obtain ⟨pv, hpv⟩ : ∃ pv, pv = plV (normP p) := ⟨_, rfl⟩
        rw [← hdv] at CA CB_
        rw [← hpv] at CB_ CAL
        clear ha hal h15 hlen HYES hdv hpv
        go_wp2_with fail
        refine (CA.out _).mono ?_
        rintro e w10 ⟨rfl, b10⟩
        have K10 := Lib.hid (below_on K9.out b10)
        have ST := store_iface w10 (.string (mkB p.tok)) (.int .i64 p.seq) dv 30 hdf
        clear b10 CA
        obtain ⟨DB, hDB⟩ : ∃ DB, DB = w10.heap.size := ⟨_, rfl⟩
        obtain ⟨W5, hW5⟩ : ∃ W5, W5 = w10.alloc (.cells #[.string (mkB p.tok), .int .i64 p.seq, dv] 30) := ⟨_, rfl⟩
        have P5 : W5.heap[DB]? = some (.cells #[.string (mkB p.tok), .int .i64 p.seq, dv] 30 (0, 0)) := by rw [hW5, hDB]; exact heap_alloc_new _ _
        have K11 : Hid (Below W3.heap.size W3 W5) := by rw [hW5]; exact below_al K10.out _
        have HP5 := Lib.hid P5
        have HB5 := Lib.hid (below_on HB0.out (below_on KR3.out K11.out))
        have HCE : Hid (∀ w', Below W5.heap.size W5 w' → Below W5.heap.size W5 w' ∧ (w'.cell? ⟨DB, 0, none⟩ = some (.string (mkB p.tok)) ∧ w'.cell? ⟨DB, 1, none⟩ = some (.int .i64 p.seq) ∧ w'.cell? ⟨DB, 2, none⟩ = some dv) ∧ w'.cell? ⟨R, 0, none⟩ = some (.int .i64 p.op) ∧ w'.cell? ⟨R, 1, none⟩ = some (.string (mkB p.tok)) ∧ w'.cell? ⟨R, 2, none⟩ = some (.int .i64 p.seq) ∧ w'.cell? ⟨R, 3, none⟩ = some (.int .i64 (nn p 0)) ∧ w'.cell? ⟨R, 4, none⟩ = some (.int .i64 (nn p 1)) ∧ w'.cell? ⟨R, 5, none⟩ = some (.int .i64 (nn p 2)) ∧ w'.cell? ⟨R, 6, none⟩ = some (.int .i64 (nn p 3)) ∧ w'.cell? ⟨R, 7, none⟩ = some (.int .i64 (nn p 4)) ∧ w'.cell? ⟨R, 8, none⟩ = some (.int .i64 (nn p 5)) ∧ w'.cell? ⟨R, 9, none⟩ = some (.string (mkB p.text)) ∧ w'.cell? ⟨R, 10, none⟩ = some (.string (mkB p.more)) ∧ w'.cell? ⟨R, 11, none⟩ = some (.bool p.a) ∧ w'.cell? ⟨R, 12, none⟩ = some (.bool p.b)) := fun w' hb => by
          have h1 := (hb.block DB (Array.getElem?_eq_some_iff.1 HP5.out).1).trans HP5.out
          exact ⟨hb, three_cells h1, (HCC.out w' (below_on K11.out hb)).2.2⟩
        have KQ : Hid (Below W5.heap.size W5 W5) := Below.refl _ _
        go_upto_region 14 with fail
        rw [← hW5, ← hDB]
        clear hW5 hDB P5 ST K10
        go_region_held3 (fun w' => Below W5.heap.size W5 w' ∧ (w'.cell? ⟨DB, 0, none⟩ = some (.string (mkB p.tok)) ∧ w'.cell? ⟨DB, 1, none⟩ = some (.int .i64 p.seq) ∧ w'.cell? ⟨DB, 2, none⟩ = some dv) ∧ w'.cell? ⟨R, 0, none⟩ = some (.int .i64 p.op) ∧ w'.cell? ⟨R, 1, none⟩ = some (.string (mkB p.tok)) ∧ w'.cell? ⟨R, 2, none⟩ = some (.int .i64 p.seq) ∧ w'.cell? ⟨R, 3, none⟩ = some (.int .i64 (nn p 0)) ∧ w'.cell? ⟨R, 4, none⟩ = some (.int .i64 (nn p 1)) ∧ w'.cell? ⟨R, 5, none⟩ = some (.int .i64 (nn p 2)) ∧ w'.cell? ⟨R, 6, none⟩ = some (.int .i64 (nn p 3)) ∧ w'.cell? ⟨R, 7, none⟩ = some (.int .i64 (nn p 4)) ∧ w'.cell? ⟨R, 8, none⟩ = some (.int .i64 (nn p 5)) ∧ w'.cell? ⟨R, 9, none⟩ = some (.string (mkB p.text)) ∧ w'.cell? ⟨R, 10, none⟩ = some (.string (mkB p.more)) ∧ w'.cell? ⟨R, 11, none⟩ = some (.bool p.a) ∧ w'.cell? ⟨R, 12, none⟩ = some (.bool p.b))
          ((refine HCE.out _ ?_; focus ((repeat first | with_reducible assumption | with_reducible exact KQ.out | with_reducible apply Below.drew | with_reducible apply below_drews); done)))
          (first
            | (go_at_call 15; (with_reducible refine (CB_.out _).mono ?_); rintro e wt ⟨rfl, bt⟩; have hkt := below_on (B := W5.heap.size) (w := W5) (by (repeat first | with_reducible assumption | with_reducible exact KQ.out | with_reducible apply Below.drew | with_reducible apply below_drews)) bt (Nat.le_refl _); clear bt)
            | (go_at_call 14; (with_reducible refine (CAL.out _).mono ?_); rintro e wt ⟨rfl, bt⟩; have hkt := below_on (B := W5.heap.size) (w := W5) (by (repeat first | with_reducible assumption | with_reducible exact KQ.out | with_reducible apply Below.drew | with_reducible apply below_drews)) bt (Nat.le_refl _); clear bt))
        all_goals go_wp2_with fail
        all_goals go_ret
        all_goals exact ⟨by first | rfl | (simp; done), below_on HB5.out (by (repeat first | with_reducible assumption | with_reducible exact KQ.out | with_reducible apply Below.drew | with_reducible apply below_drews))⟩
end Go.Proofs.Ythegkookfpnbeaa.Wds
