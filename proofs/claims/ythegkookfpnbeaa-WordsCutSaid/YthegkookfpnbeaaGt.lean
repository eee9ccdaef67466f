/- Words: the walk of WordsAsks. -/
import Derived.Test.YthegkookfpnbeaaGr
import Derived.Test.YthegkookfpnbeaaGs
set_option linter.unusedVariables false
set_option linter.unusedSimpArgs false
set_option maxRecDepth 100000
namespace Go.Proofs.Ythegkookfpnbeaa.Wds
open Go.RowKit Go.Lib Go.Proofs.Ythegkookfpnbeaa.Bx Go.Proofs.Ythegkookfpnbeaa.Frm

theorem askX : askE [2, 0, 1, 116, 0, 0, 0, 0, 0, 0, 0, 1] = (pX, true) := by
  have h := ask_call okX (by rw [callX])
  rw [callX] at h
  exact h
theorem alike_self {p : Pl} (h6 : p.n.length = 6) {s : List UInt8} (h : callE p = (s, true)) : alikeB (normP p) p = true := by
  have h2 : (callE p).2 = true := by rw [h]
  have hn := call_norm h6 h2
  have hb := (call_yes h2).1
  unfold alikeB
  rw [hn, h, ← hb, h]
  simp
set_option maxHeartbeats 16000000 in
theorem asks_walk (HCO : CallOk) (HOO : OpOk) (HAO : AskOk) (s : List UInt8) (hs : s.length ≤ 9223372036854775807) (w : World) : Calls Try.prog 4 #[.string (mkB s)] w fun e w' => e = .returned (.bool true) ∧ Below w.heap.size w w' := by
  have CX : Hid (Calls Try.prog 13 #[.string (ByteArray.mk #[2, 0, 1, 116, 0, 0, 0, 0, 0, 0, 0, 1])] w fun e w' => e = .returned (.tuple #[.agg #[.string (ByteArray.mk #[116]), .int .i64 1, .iface 28 (.agg #[])], .bool true]) ∧ Below w.heap.size w w') := by
    have h := HAO [2, 0, 1, 116, 0, 0, 0, 0, 0, 0, 0, 1] w (by decide)
    rw [askX] at h
    exact h
  have COX : Hid (∀ w', Calls Try.prog 11 #[.iface 28 (.agg #[])] w' fun e w'' => e = .returned (.int .i64 2) ∧ Below w'.heap.size w' w'') := fun w' => HOO pX _ w' isX
  have SX : ((ByteArray.mk #[116]).toList == (ByteArray.mk #[116]).toList) = true := by simp
  have sz : (mkB s).size = s.length := mkB_size _
  obtain ⟨n, hn⟩ : ∃ n, n = s.length := ⟨_, rfl⟩
  have HN := Lib.hid hn
  rw [← hn] at sz hs
  obtain ⟨st, hst⟩ : ∃ st, st = mkB s := ⟨_, rfl⟩
  have HST := Lib.hid hst
  rw [← hst] at sz ⊢
  clear hn hst
  go_enter Try.func4, Try.ntmps4
  go_wp2_with fail
  refine CX.out.mono ?_
  rintro e w1 ⟨rfl, b1⟩
  have HB1 := Lib.hid b1
  clear b1 CX
  go_wp2_with fail
  refine (COX.out _).mono ?_
  rintro e w2 ⟨rfl, b2⟩
  have HB2 := Lib.hid (below_on (below_al HB1.out _) b2)
  clear b2 COX
  by_cases hbig : 5000 < n
  · have g1 : (5000 : Int) < (n : Int) := by omega
    go_wp2_with fail
    go_ret
    exact ⟨rfl, HB2.out⟩
  · have g1 : ¬ (5000 : Int) < (n : Int) := by omega
    have HA := Lib.hid (fun w' => HAO s w' (by rw [← HN.out]; omega))
    have HRA : Hid (∀ w', Calls Try.prog 16 #[.string st] w' fun e w'' => e = .returned (.tuple #[plV (askE s).1, .bool (askE s).2]) ∧ Below w'.heap.size w' w'') := fun w' => by rw [HST.out]; exact rask_any s w'
    rw [← HST.out] at HA
    cases hk : (askE s).2 with
    | false =>
      have h0 := ask_no hk
      rw [h0] at HA HRA
      have HA' : Hid (∀ w', Calls Try.prog 13 #[.string st] w' fun e w'' => e = .returned (.tuple #[.agg #[.string (ByteArray.mk #[]), .int .i64 0, .nilIface], .bool false]) ∧ Below w'.heap.size w' w'') := HA
      have HRA' : Hid (∀ w', Calls Try.prog 16 #[.string st] w' fun e w'' => e = .returned (.tuple #[.agg #[.int .i64 0, .string (ByteArray.mk #[]), .int .i64 0, .int .i64 0, .int .i64 0, .int .i64 0, .int .i64 0, .int .i64 0, .int .i64 0, .string (ByteArray.mk #[]), .string (ByteArray.mk #[]), .bool false, .bool false], .bool false]) ∧ Below w'.heap.size w' w'') := HRA
      clear HA HRA hk h0
      go_wp2_with fail
      refine (HA'.out _).mono ?_
      rintro e w3 ⟨rfl, b3⟩
      have HB3 := Lib.hid (below_on HB2.out b3)
      have PC := three_cells (heap_alloc_new w3 (.cells #[.string (ByteArray.mk #[]), .int .i64 0, .nilIface] 30))
      have HB4 : Hid (Below w.heap.size w (w3.alloc (.cells #[.string (ByteArray.mk #[]), .int .i64 0, .nilIface] 30))) := below_al HB3.out _
      have P4 := Lib.hid (heap_alloc_new w3 (.cells #[.string (ByteArray.mk #[]), .int .i64 0, .nilIface] 30))
      obtain ⟨CB, hCB⟩ : ∃ CB, CB = w3.heap.size := ⟨_, rfl⟩
      obtain ⟨W4, hW4⟩ : ∃ W4, W4 = w3.alloc (.cells #[.string (ByteArray.mk #[]), .int .i64 0, .nilIface] 30) := ⟨_, rfl⟩
      rw [← hW4, ← hCB] at P4
      rw [← hW4] at HB4
      clear b3 HA' PC HB3
      go_upto_region 7 with fail
      rw [← hW4, ← hCB]
      clear hW4 hCB
      go_wp2_with fail
      refine (HRA'.out _).mono ?_
      rintro e w5 ⟨rfl, b5⟩
      obtain ⟨Z5, hZ5⟩ : ∃ Z5, Z5 = Obj.cells #[.int .i64 0, .string (ByteArray.mk #[]), .int .i64 0, .int .i64 0, .int .i64 0, .int .i64 0, .int .i64 0, .int .i64 0, .int .i64 0, .string (ByteArray.mk #[]), .string (ByteArray.mk #[]), .bool false, .bool false] 24 (0, 0) := ⟨_, rfl⟩
      have P6 : Hid ((w5.alloc Z5).heap[CB]? = some (.cells #[.string (ByteArray.mk #[]), .int .i64 0, .nilIface] 30 (0, 0))) := ((below_al (Below.refl w5.heap.size w5) Z5).block CB (Nat.lt_of_lt_of_le (Array.getElem?_eq_some_iff.1 P4.out).1 b5.size)).trans ((b5.block CB (Array.getElem?_eq_some_iff.1 P4.out).1).trans P4.out)
      have HB6 := Lib.hid (below_al (below_on HB4.out b5) Z5)
      rw [hZ5] at P6 HB6
      obtain ⟨k0, k1, k2⟩ := three_cells P6.out
      clear b5 HRA' hZ5 P4 HB4
      go_wp2_with fail
      go_ret
      exact ⟨by first | rfl | (simp; done), HB6.out⟩
    | true =>
      obtain ⟨hok, hcall, h15, hsum⟩ := ask_yes hk
      have hak : askE s = ((askE s).1, true) := by rw [← hk]
      rw [hak] at HA
      rw [hk] at HRA
      clear hak hk
      generalize (askE s).1 = p at *
      have HA' : Hid (∀ w', Calls Try.prog 13 #[.string st] w' fun e w'' => e = .returned (.tuple #[.agg #[.string (mkB p.tok), .int .i64 p.seq, askV p], .bool true]) ∧ Below w'.heap.size w' w'') := HA
      have HRA' : Hid (∀ w', Calls Try.prog 16 #[.string st] w' fun e w'' => e = .returned (.tuple #[.agg #[.int .i64 p.op, .string (mkB p.tok), .int .i64 p.seq, .int .i64 (nn p 0), .int .i64 (nn p 1), .int .i64 (nn p 2), .int .i64 (nn p 3), .int .i64 (nn p 4), .int .i64 (nn p 5), .string (mkB p.text), .string (mkB p.more), .bool p.a, .bool p.b], .bool true]) ∧ Below w'.heap.size w' w'') := HRA
      have HCC : Hid (∀ w', Calls Try.prog 8 #[.agg #[.string (mkB p.tok), .int .i64 p.seq, askV p]] w' fun e w'' => e = .returned (.tuple #[.string st, .bool true]) ∧ Below w'.heap.size w' w'') := fun w' => by
        have h := HCO p (askV p) w' hok hsum ⟨fun _ => rfl, fun h => absurd h15 h⟩
        rw [hcall, ← HST.out] at h
        exact h
      have HBK : Hid (∀ w', Calls Try.prog 15 #[.agg #[.string (mkB p.tok), .int .i64 p.seq, askV p]] w' fun e w'' => e = .returned (plV (normP p)) ∧ Below w'.heap.size w' w'') := fun w' => back_any p w' hok.1 h15
      have HAL : Hid (∀ w', Calls Try.prog 14 #[plV (normP p), .agg #[.int .i64 p.op, .string (mkB p.tok), .int .i64 p.seq, .int .i64 (nn p 0), .int .i64 (nn p 1), .int .i64 (nn p 2), .int .i64 (nn p 3), .int .i64 (nn p 4), .int .i64 (nn p 5), .string (mkB p.text), .string (mkB p.more), .bool p.a, .bool p.b]] w' fun e w'' => e = .returned (.bool true) ∧ Below w'.heap.size w' w'') := fun w' => by
        have h := alike_any (normP p) p w' (norm_len hok.1) hok.1
        rw [alike_self hok.1 hcall] at h
        exact h
      obtain ⟨v, hv⟩ : ∃ v, v = askV p := ⟨_, rfl⟩
      have hvf : v = .nilIface ∨ ∃ t x, v = .iface t x := by rw [hv]; exact askV_form _
      obtain ⟨pv, hpv⟩ : ∃ pv, pv = plV (normP p) := ⟨_, rfl⟩
      rw [← hv] at HA' HCC HBK
      rw [← hpv] at HBK HAL
      have SS : (st.toList == st.toList) = true := by simp
      clear HA HRA hok hcall h15 hsum hv hpv
      go_wp2_with fail
      refine (HA'.out _).mono ?_
      rintro e w3 ⟨rfl, b3⟩
      have HB3 := Lib.hid (below_on HB2.out b3)
      have STq := store_iface w3 (.string (mkB p.tok)) (.int .i64 p.seq) v 30 hvf
      have P4 := Lib.hid (heap_alloc_new w3 (.cells #[.string (mkB p.tok), .int .i64 p.seq, v] 30))
      have HB4 : Hid (Below w.heap.size w (w3.alloc (.cells #[.string (mkB p.tok), .int .i64 p.seq, v] 30))) := below_al HB3.out _
      obtain ⟨CB, hCB⟩ : ∃ CB, CB = w3.heap.size := ⟨_, rfl⟩
      obtain ⟨W4, hW4⟩ : ∃ W4, W4 = w3.alloc (.cells #[.string (mkB p.tok), .int .i64 p.seq, v] 30) := ⟨_, rfl⟩
      rw [← hW4, ← hCB] at P4
      rw [← hW4] at HB4
      clear b3 HA' HB3
      go_upto_region 7 with fail
      rw [← hW4, ← hCB]
      clear hW4 hCB STq
      go_wp2_with fail
      refine (HRA'.out _).mono ?_
      rintro e w5 ⟨rfl, b5⟩
      have HB5 := Lib.hid (below_on HB4.out b5)
      have P5 : Hid (w5.heap[CB]? = some (.cells #[.string (mkB p.tok), .int .i64 p.seq, v] 30 (0, 0))) := (b5.block CB (Array.getElem?_eq_some_iff.1 P4.out).1).trans P4.out
      have Q6 : Hid (BlkP (w5.alloc (.cells #[.int .i64 p.op, .string (mkB p.tok), .int .i64 p.seq, .int .i64 (nn p 0), .int .i64 (nn p 1), .int .i64 (nn p 2), .int .i64 (nn p 3), .int .i64 (nn p 4), .int .i64 (nn p 5), .string (mkB p.text), .string (mkB p.more), .bool p.a, .bool p.b] 24)) w5.heap.size p) := (boxP w5 p).2
      have P6 : Hid ((w5.alloc (.cells #[.int .i64 p.op, .string (mkB p.tok), .int .i64 p.seq, .int .i64 (nn p 0), .int .i64 (nn p 1), .int .i64 (nn p 2), .int .i64 (nn p 3), .int .i64 (nn p 4), .int .i64 (nn p 5), .string (mkB p.text), .string (mkB p.more), .bool p.a, .bool p.b] 24)).heap[CB]? = some (.cells #[.string (mkB p.tok), .int .i64 p.seq, v] 30 (0, 0))) := ((below_al (Below.refl w5.heap.size w5) _).block CB (Array.getElem?_eq_some_iff.1 P5.out).1).trans P5.out
      have HB6 : Hid (Below w.heap.size w (w5.alloc (.cells #[.int .i64 p.op, .string (mkB p.tok), .int .i64 p.seq, .int .i64 (nn p 0), .int .i64 (nn p 1), .int .i64 (nn p 2), .int .i64 (nn p 3), .int .i64 (nn p 4), .int .i64 (nn p 5), .string (mkB p.text), .string (mkB p.more), .bool p.a, .bool p.b] 24))) := below_al HB5.out _
      obtain ⟨PB, hPB⟩ : ∃ PB, PB = w5.heap.size := ⟨_, rfl⟩
      obtain ⟨W6, hW6⟩ : ∃ W6, W6 = w5.alloc (.cells #[.int .i64 p.op, .string (mkB p.tok), .int .i64 p.seq, .int .i64 (nn p 0), .int .i64 (nn p 1), .int .i64 (nn p 2), .int .i64 (nn p 3), .int .i64 (nn p 4), .int .i64 (nn p 5), .string (mkB p.text), .string (mkB p.more), .bool p.a, .bool p.b] 24) := ⟨_, rfl⟩
      rw [← hW6, ← hPB] at Q6
      rw [← hW6] at P6 HB6
      clear b5 HRA' P4 P5 HB4 HB5
      go_upto_region 8 with fail
      rw [← hW6, ← hPB]
      clear hW6 hPB
      obtain ⟨k0, k1, k2⟩ := three_cells P6.out
      have HCD : Hid (∀ w', Below W6.heap.size W6 w' → Below W6.heap.size W6 w' ∧ (w'.cell? ⟨CB, 0, none⟩ = some (.string (mkB p.tok)) ∧ w'.cell? ⟨CB, 1, none⟩ = some (.int .i64 p.seq) ∧ w'.cell? ⟨CB, 2, none⟩ = some v) ∧ w'.cell? ⟨PB, 0, none⟩ = some (.int .i64 p.op) ∧ w'.cell? ⟨PB, 1, none⟩ = some (.string (mkB p.tok)) ∧ w'.cell? ⟨PB, 2, none⟩ = some (.int .i64 p.seq) ∧ w'.cell? ⟨PB, 3, none⟩ = some (.int .i64 (nn p 0)) ∧ w'.cell? ⟨PB, 4, none⟩ = some (.int .i64 (nn p 1)) ∧ w'.cell? ⟨PB, 5, none⟩ = some (.int .i64 (nn p 2)) ∧ w'.cell? ⟨PB, 6, none⟩ = some (.int .i64 (nn p 3)) ∧ w'.cell? ⟨PB, 7, none⟩ = some (.int .i64 (nn p 4)) ∧ w'.cell? ⟨PB, 8, none⟩ = some (.int .i64 (nn p 5)) ∧ w'.cell? ⟨PB, 9, none⟩ = some (.string (mkB p.text)) ∧ w'.cell? ⟨PB, 10, none⟩ = some (.string (mkB p.more)) ∧ w'.cell? ⟨PB, 11, none⟩ = some (.bool p.a) ∧ w'.cell? ⟨PB, 12, none⟩ = some (.bool p.b)) := fun w' hb => ⟨hb, three_cells ((hb.block CB (Array.getElem?_eq_some_iff.1 P6.out).1).trans P6.out), (Q6.out.below hb).all⟩
      go_wp2_with fail
      refine (HCC.out _).mono ?_
      rintro e w7 ⟨rfl, b7⟩
      have K7 := Lib.hid b7
      clear b7 HCC k0 k1 k2
      go_upto_region 13 with fail
      go_region_held3 (fun w' => Below W6.heap.size W6 w' ∧ (w'.cell? ⟨CB, 0, none⟩ = some (.string (mkB p.tok)) ∧ w'.cell? ⟨CB, 1, none⟩ = some (.int .i64 p.seq) ∧ w'.cell? ⟨CB, 2, none⟩ = some v) ∧ w'.cell? ⟨PB, 0, none⟩ = some (.int .i64 p.op) ∧ w'.cell? ⟨PB, 1, none⟩ = some (.string (mkB p.tok)) ∧ w'.cell? ⟨PB, 2, none⟩ = some (.int .i64 p.seq) ∧ w'.cell? ⟨PB, 3, none⟩ = some (.int .i64 (nn p 0)) ∧ w'.cell? ⟨PB, 4, none⟩ = some (.int .i64 (nn p 1)) ∧ w'.cell? ⟨PB, 5, none⟩ = some (.int .i64 (nn p 2)) ∧ w'.cell? ⟨PB, 6, none⟩ = some (.int .i64 (nn p 3)) ∧ w'.cell? ⟨PB, 7, none⟩ = some (.int .i64 (nn p 4)) ∧ w'.cell? ⟨PB, 8, none⟩ = some (.int .i64 (nn p 5)) ∧ w'.cell? ⟨PB, 9, none⟩ = some (.string (mkB p.text)) ∧ w'.cell? ⟨PB, 10, none⟩ = some (.string (mkB p.more)) ∧ w'.cell? ⟨PB, 11, none⟩ = some (.bool p.a) ∧ w'.cell? ⟨PB, 12, none⟩ = some (.bool p.b))
        ((refine HCD.out _ ?_; focus ((repeat first | with_reducible assumption | with_reducible exact K7.out | with_reducible apply Below.drew | with_reducible apply below_drews); done)))
        (first
          | (go_at_call 15; (with_reducible refine (HBK.out _).mono ?_); rintro e wt ⟨rfl, bt⟩; have hkt := below_on (B := W6.heap.size) (w := W6) (by (repeat first | with_reducible assumption | with_reducible exact K7.out | with_reducible apply Below.drew | with_reducible apply below_drews)) bt (Nat.le_refl _); clear bt)
          | (go_at_call 14; (with_reducible refine (HAL.out _).mono ?_); rintro e wt ⟨rfl, bt⟩; have hkt := below_on (B := W6.heap.size) (w := W6) (by (repeat first | with_reducible assumption | with_reducible exact K7.out | with_reducible apply Below.drew | with_reducible apply below_drews)) bt (Nat.le_refl _); clear bt))
      all_goals go_wp2_with fail
      all_goals go_ret
      all_goals exact ⟨by first | rfl | (simp; done), below_on HB6.out (by (repeat first | with_reducible assumption | with_reducible exact K7.out | with_reducible apply Below.drew | with_reducible apply below_drews))⟩
end Go.Proofs.Ythegkookfpnbeaa.Wds
