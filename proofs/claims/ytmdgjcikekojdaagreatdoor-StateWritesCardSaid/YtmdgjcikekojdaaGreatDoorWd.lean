/- State: the plain text's doc. -/
import Derived.Test.YtmdgjcikekojdaaGreatDoorWt
import Derived.Test.YtmdgjcikekojdaaGreatDoorWa
set_option linter.unusedVariables false
set_option linter.unusedSimpArgs false
set_option maxRecDepth 100000
namespace Go.Proofs.YtmdgjcikekojdaaGreatDoor.Sta
open Go.RowKit Go.Lib Go.Proofs.YtmdgjcikekojdaaGreatDoor.Bx Go.Proofs.YtmdgjcikekojdaaGreatDoor.Frm Go.Proofs.YtmdgjcikekojdaaGreatDoor.Wds

theorem add_fact (a b : List UInt8) (w : World) (h : a.length + b.length ≤ 290000000) : (Op.stringOp .add (mkB a) (mkB b)).run Tryz.prog w = .ok (.string (mkB (a ++ b))) w := by
  rw [← mkB_app]
  exact run_string_add_sum w _ _ (by rw [mkB_size, mkB_size]; omega)
theorem take_le_flat {α : Type} (f : α → List UInt8) (xs : List α) {i : Nat} (h : i < xs.length) : ((xs.take i).flatMap f).length + (f xs[i]).length ≤ (xs.flatMap f).length := by
  have e := congrArg List.length (take_flat f xs h)
  rw [List.length_append] at e
  rw [← e]
  conv => rhs; rw [← List.take_append_drop (i + 1) xs, List.flatMap_append, List.length_append]
  omega
def segA (y : Seg) : List UInt8 := numL y.1 ++ (numL y.2.1 ++ (textL y.2.2.1 ++ pairL y.2.2.2.1.length))
theorem segC_is (y : Seg) : segC.enc y = segA y ++ (y.2.2.2.1.flatMap spnC.enc ++ (pairL y.2.2.2.2.length ++ y.2.2.2.2.flatMap sitC.enc)) := by
  show numL y.1 ++ (numL y.2.1 ++ (textL y.2.2.1 ++ ((pairL y.2.2.2.1.length ++ y.2.2.2.1.flatMap spnC.enc) ++ (pairL y.2.2.2.2.length ++ y.2.2.2.2.flatMap sitC.enc)))) = _
  unfold segA
  simp only [List.append_assoc]
theorem spnC_is (z : Spn) : spnC.enc z = numL z.1 ++ (numL z.2.1 ++ numL z.2.2) := rfl
theorem sitC_is (z : Sit) : sitC.enc z = numL z.1 ++ numL z.2 := rfl
theorem docC_is (x : Doc) : docC.enc x = flagL x.1 ++ (pairL x.2.length ++ x.2.flatMap segC.enc) := rfl
theorem doc_fit {x : Doc} (h : docC.fit x) : x.2.length ≤ 65535 ∧ ∀ y ∈ x.2, y.2.2.1.length ≤ 65535 ∧ y.2.2.2.1.length ≤ 65535 ∧ y.2.2.2.2.length ≤ 65535 := by
  obtain ⟨_, h1, h2⟩ := h
  refine ⟨h1, fun y hy => ?_⟩
  obtain ⟨_, _, h3, ⟨h4, _⟩, h5, _⟩ := h2 y hy
  exact ⟨h3, h4, h5⟩
set_option maxHeartbeats 16000000 in
theorem doc14 {P : Nat → Prop} {k1 : List Value} (x : Doc) (w : World) (h : docM.R P w k1 x) (hf : docC.fit x) (hl : (docC.enc x).length ≤ 290000000) : Calls Tryz.prog 22 #[.agg k1.toArray] w fun e w' => e = .returned (.string (mkB (docC.enc x))) ∧ Below w.heap.size w w' := by
  obtain ⟨u1, c1, rfl, p1⟩ := docM_cells h
  obtain ⟨f1, f2⟩ := doc_fit hf
  clear h hf
  obtain ⟨xb, D⟩ := x
  simp only at p1 f1 f2 ⊢
  have HG := Lib.hid (docC_is (xb, D))
  rw [docC_is] at hl
  simp only [List.length_append, pair_len] at hl HG
  have HFL := Lib.hid (fun w' => flag14 xb w')
  have HLN := Lib.hid (fun (n : Nat) (hn : n ≤ 65535) w' => length14 n hn w')
  have HF2 := Lib.hid f2
  have HD := Lib.hid p1
  obtain ⟨n, hn⟩ : ∃ n, n = D.length := ⟨_, rfl⟩
  rw [← hn] at HD f1 ⊢
  have HN := Lib.hid hn
  have HHL := Lib.hid hl
  obtain ⟨sf, hsf⟩ : ∃ u, u = mkB (flagL xb) := ⟨_, rfl⟩
  obtain ⟨sn, hsn⟩ : ∃ u, u = mkB (pairL n) := ⟨_, rfl⟩
  obtain ⟨t, ht⟩ : ∃ u, u = mkB (flagL xb ++ pairL n) := ⟨_, rfl⟩
  have AT : ∀ w, (Op.stringOp .add sf sn).run Tryz.prog w = .ok (.string t) w := fun w => by rw [ht, hsf, hsn]; exact add_fact _ _ w (by rw [pair_len]; omega)
  have HFc : Hid (∀ w', Calls Tryz.prog 48 #[.bool xb] w' fun e w'' => e = .returned (.string sf) ∧ Below w'.heap.size w' w'') := by rw [hsf]; exact HFL.out
  have HLc : Hid (∀ w', Calls Tryz.prog 20 #[.int .i64 (n : Nat)] w' fun e w'' => e = .returned (.string sn) ∧ Below w'.heap.size w' w'') := by rw [hsn]; exact HLN.out n f1
  have HT := Lib.hid ht
  clear hsf hsn ht p1 f2 hl hn
  show Calls _ _ #[.agg #[.bool xb, .slice u1 n c1]] _ _
  obtain ⟨B0, P0, L0⟩ := box1 w #[.bool xb, .slice u1 n c1] 59
  obtain ⟨W0, hW0⟩ : ∃ W0, W0 = w.alloc (.cells #[.bool xb, .slice u1 n c1] 59) := ⟨_, rfl⟩
  rw [← hW0] at B0 P0 L0
  obtain ⟨R, hR⟩ : ∃ R, R = w.heap.size := ⟨_, rfl⟩
  rw [← hR] at P0 L0
  have HB : Hid (Below w.heap.size w W0) := B0
  have HP := Lib.hid P0
  have HL : Hid (W0.heap.size = R + 1) := L0
  have HW := Lib.hid hW0
  have HR : Hid (w.heap.size = R) := hR.symm
  have K0 : Hid (Below W0.heap.size W0 W0) := Below.refl _ _
  have HCD : Hid (∀ w', Below W0.heap.size W0 w' → Below W0.heap.size W0 w' ∧ w'.cell? ⟨R, 0, none⟩ = some (.bool xb) ∧ w'.cell? ⟨R, 1, none⟩ = some (.slice u1 n c1)) := fun w' hb => ⟨hb, two_cells ((hb.block R (by have := HL.out; omega)).trans HP.out)⟩
  clear hR B0 P0 L0 hW0
  go_enter Tryz.func22, Tryz.ntmps22
  go_upto_region 1 with fail
  rw [← HW.out, HR.out]
  go_region_held3 (fun w' => Below W0.heap.size W0 w' ∧ w'.cell? ⟨R, 0, none⟩ = some (.bool xb) ∧ w'.cell? ⟨R, 1, none⟩ = some (.slice u1 n c1))
    ((refine HCD.out _ ?_; focus ((repeat first | with_reducible assumption | with_reducible exact K0.out | with_reducible apply Below.drew | with_reducible apply below_drews); done)))
    (first
      | (go_at_call 48; (with_reducible refine (HFc.out _).mono ?_); rintro e wt ⟨rfl, bt⟩; have hkt := below_on (B := W0.heap.size) (w := W0) (by (repeat first | with_reducible assumption | with_reducible exact K0.out | with_reducible apply Below.drew | with_reducible apply below_drews)) bt (Nat.le_refl _); clear bt)
      | (go_at_call 20; (with_reducible refine (HLc.out _).mono ?_); rintro e wt ⟨rfl, bt⟩; have hkt := below_on (B := W0.heap.size) (w := W0) (by (repeat first | with_reducible assumption | with_reducible exact K0.out | with_reducible apply Below.drew | with_reducible apply below_drews)) bt (Nat.le_refl _); clear bt))
  have HX0 := Lib.hid hkt
  clear hkt HFc HLc HCD K0 AT
  go_wp2_with fail
  have HDW : Hid (∀ w', Below W0.heap.size W0 w' → RowP segM P w' (.slice u1 n c1) D) := fun w' b => HD.out.keep segM_ok (Keep.below (HB.out.trans (b.mono HB.out.size)))
  go_loopg [3, 4] n (fun g t_ i_ wr => ∃ (i : Nat) (lv : List UInt8) (v : ByteArray), i ≤ n ∧ n - i ≤ g ∧ i_ = .int .i64 (i : Nat) ∧ t_ = .string v ∧ Hid (v = mkB lv ∧ lv = (flagL xb ++ pairL n) ++ (D.take i).flatMap segC.enc) ∧ Hid (Below W0.heap.size W0 wr))
  case atStart => exact ⟨0, flagL xb ++ pairL n, _, by omega, by omega, rfl, rfl, ⟨HT.out, by rw [List.take_zero]; exact (List.append_nil _).symm⟩, HX0⟩
  case round =>
    clear HX0
    obtain ⟨i, lv, v, hi, hg, rfl, rfl, HV, HX⟩ := hrel
    obtain ⟨c0, c1'⟩ := two_cells ((HX.out.block R (by have := HL.out; omega)).trans HP.out)
    by_cases hin : i < n
    · have iw : ((i : Nat) : Int) < (n : Int) := by omega
      have n0 : (0 : Int) ≤ ((i : Nat) : Int) := by omega
      have hix : i < D.length := by rw [← HN.out]; exact hin
      obtain ⟨b1, f1, s1, rfl, hlt1, _, hR1, hc1⟩ := (HDW.out wr HX.out).get hix
      have hbd := take_le_flat segC.enc D hix
      have hnx := take_flat segC.enc D hix
      obtain ⟨y, hy⟩ : ∃ z, z = D[i] := ⟨_, rfl⟩
      have hfy : y ∈ D := hy ▸ List.getElem_mem hix
      obtain ⟨hf1, hf2, hf3⟩ := HF2.out y hfy
      rw [← hy] at hR1 hbd hnx
      rw [segC_is] at hbd
      obtain ⟨u3, k3, u4, k4, rfl, p3, p4⟩ := segM_cells hR1
      clear hy hix hfy
      obtain ⟨y0, y1, yt, Sp, Si⟩ := y
      have HSC := Lib.hid (segC_is (y0, y1, yt, Sp, Si))
      unfold segA at hbd HSC
      simp only at p3 p4 hf1 hf2 hf3 hbd HSC hc1
      obtain ⟨n3, h3⟩ : ∃ q, q = Sp.length := ⟨_, rfl⟩
      obtain ⟨n4, h4⟩ : ∃ q, q = Si.length := ⟨_, rfl⟩
      obtain ⟨st, hst⟩ : ∃ q, q = mkB yt := ⟨_, rfl⟩
      rw [← h3] at p3 hf2 hbd hc1 HSC
      rw [← h4] at p4 hf3 hbd hc1 HSC
      rw [← hst] at hc1
      have m0 : wr.cell? ⟨b1, f1 + i * 5, none⟩ = some (.int .i64 y0) := hc1 0 _ rfl
      have m1 : wr.cell? ⟨b1, f1 + i * 5 + 1, none⟩ = some (.int .i64 y1) := hc1 1 _ rfl
      have m2 : wr.cell? ⟨b1, f1 + i * 5 + 2, none⟩ = some (.string st) := hc1 2 _ rfl
      have m3 : wr.cell? ⟨b1, f1 + i * 5 + 3, none⟩ = some (.slice u3 n3 k3) := hc1 3 _ rfl
      have m4 : wr.cell? ⟨b1, f1 + i * 5 + 4, none⟩ = some (.slice u4 n4 k4) := hc1 4 _ rfl
      simp only [List.length_append, num_len, pair_len] at hbd
      have hv := HV.out.1
      have HBD : Hid (lv.length + (18 + (textL yt).length + (Sp.flatMap spnC.enc).length + 2 + (Si.flatMap sitC.enc).length) ≤ 290000000) := by
        have := congrArg List.length HV.out.2
        simp only [List.length_append, pair_len] at this
        have := HHL.out
        show _ ≤ _
        omega
      have hb0 := HBD.out
      obtain ⟨g0, hg0⟩ : ∃ q, q = mkB (numL y0) := ⟨_, rfl⟩
      obtain ⟨g1, hg1⟩ : ∃ q, q = mkB (numL y1) := ⟨_, rfl⟩
      obtain ⟨g2, hg2⟩ : ∃ q, q = mkB (textL yt) := ⟨_, rfl⟩
      obtain ⟨g3, hg3⟩ : ∃ q, q = mkB (pairL n3) := ⟨_, rfl⟩
      have N0 : Hid (∀ w', Calls Tryz.prog 19 #[.int .i64 y0] w' fun e w'' => e = .returned (.string g0) ∧ Below w'.heap.size w' w'') := by rw [hg0]; exact fun w' => num14 y0 w'
      have N1 : Hid (∀ w', Calls Tryz.prog 19 #[.int .i64 y1] w' fun e w'' => e = .returned (.string g1) ∧ Below w'.heap.size w' w'') := by rw [hg1]; exact fun w' => num14 y1 w'
      have N2 : Hid (∀ w', Calls Tryz.prog 23 #[.string st] w' fun e w'' => e = .returned (.string g2) ∧ Below w'.heap.size w' w'') := by rw [hg2, hst]; exact fun w' => text14 yt hf1 w'
      have N3 : Hid (∀ w', Calls Tryz.prog 20 #[.int .i64 (n3 : Nat)] w' fun e w'' => e = .returned (.string g3) ∧ Below w'.heap.size w' w'') := by rw [hg3]; exact HLN.out n3 hf2
      obtain ⟨v1, hv1⟩ : ∃ u, u = mkB (lv ++ numL y0) := ⟨_, rfl⟩
      have Av1 : ∀ w, (Op.stringOp .add v g0).run Tryz.prog w = .ok (.string v1) w := fun w => by rw [hv1, hv, hg0]; exact add_fact _ _ w (by (try simp only [List.length_append, num_len, pair_len]); omega)
      obtain ⟨v2, hv2⟩ : ∃ u, u = mkB ((lv ++ numL y0) ++ numL y1) := ⟨_, rfl⟩
      have Av2 : ∀ w, (Op.stringOp .add v1 g1).run Tryz.prog w = .ok (.string v2) w := fun w => by rw [hv2, hv1, hg1]; exact add_fact _ _ w (by (try simp only [List.length_append, num_len, pair_len]); omega)
      obtain ⟨v3, hv3⟩ : ∃ u, u = mkB (((lv ++ numL y0) ++ numL y1) ++ textL yt) := ⟨_, rfl⟩
      have Av3 : ∀ w, (Op.stringOp .add v2 g2).run Tryz.prog w = .ok (.string v3) w := fun w => by rw [hv3, hv2, hg2]; exact add_fact _ _ w (by (try simp only [List.length_append, num_len, pair_len]); omega)
      obtain ⟨v4, hv4⟩ : ∃ u, u = mkB ((((lv ++ numL y0) ++ numL y1) ++ textL yt) ++ pairL n3) := ⟨_, rfl⟩
      have Av4 : ∀ w, (Op.stringOp .add v3 g3).run Tryz.prog w = .ok (.string v4) w := fun w => by rw [hv4, hv3, hg3]; exact add_fact _ _ w (by (try simp only [List.length_append, num_len, pair_len]); omega)
      obtain ⟨l1, hl1⟩ : ∃ q, q = ((((lv ++ numL y0) ++ numL y1) ++ textL yt) ++ pairL n3) := ⟨_, rfl⟩
      have HV4 : Hid (v4 = mkB l1) := by show _ = _; rw [hv4, hl1]
      obtain ⟨bX, pX, lX⟩ := box1 wr #[.int .i64 y0, .int .i64 y1, .string st, .slice u3 n3 k3, .slice u4 n4 k4] 112
      obtain ⟨W5, hW5⟩ : ∃ W5, W5 = wr.alloc (.cells #[.int .i64 y0, .int .i64 y1, .string st, .slice u3 n3 k3, .slice u4 n4 k4] 112) := ⟨_, rfl⟩
      rw [← hW5] at bX pX lX
      obtain ⟨X, hX⟩ : ∃ X, X = wr.heap.size := ⟨_, rfl⟩
      rw [← hX] at pX lX
      have HS3 : Hid (∀ w', Below W5.heap.size W5 w' → RowP spnM P w' (.slice u3 n3 k3) Sp) := fun w' b => p3.keep spnM_ok (Keep.below (bX.trans (b.mono bX.size)))
      have HS4 : Hid (∀ w', Below W5.heap.size W5 w' → RowP sitM P w' (.slice u4 n4 k4) Si) := fun w' b => p4.keep sitM_ok (Keep.below (bX.trans (b.mono bX.size)))
      have HPX := Lib.hid pX
      have HXL : Hid (W5.heap.size = X + 1) := lX
      have HW5 := Lib.hid hW5
      have HXX : Hid (wr.heap.size = X) := hX.symm
      have HX5 : Hid (Below W0.heap.size W0 W5) := below_on HX.out bX
      have K5 : Hid (Below W5.heap.size W5 W5) := Below.refl _ _
      have HCX : Hid (∀ w', Below W5.heap.size W5 w' → Below W5.heap.size W5 w' ∧ w'.cell? ⟨X, 0, none⟩ = some (.int .i64 y0) ∧ w'.cell? ⟨X, 1, none⟩ = some (.int .i64 y1) ∧ w'.cell? ⟨X, 2, none⟩ = some (.string st) ∧ w'.cell? ⟨X, 3, none⟩ = some (.slice u3 n3 k3) ∧ w'.cell? ⟨X, 4, none⟩ = some (.slice u4 n4 k4)) := fun w' hb => ⟨hb, five_cells' ((hb.block X (by have := HXL.out; omega)).trans HPX.out)⟩
      have Hn3 := Lib.hid h3
      have Hn4 := Lib.hid h4
      have HL1 := Lib.hid hl1
      have HN4 : Hid (n4 ≤ 65535) := hf3
      have HNX : Hid ((D.take (i + 1)).flatMap segC.enc = (D.take i).flatMap segC.enc ++ segC.enc (y0, y1, yt, Sp, Si)) := hnx
      have HVl : Hid (lv = (flagL xb ++ pairL n) ++ (D.take i).flatMap segC.enc) := HV.out.2
      have HBL3 : Hid (l1.length + ((Sp.flatMap spnC.enc).length + 2 + (Si.flatMap sitC.enc).length) ≤ 290000000) := by
        have h9 := HBD.out
        show _ ≤ _
        rw [hl1]
        simp only [List.length_append, num_len, pair_len]
        omega
      have hn3 : n3 ≤ 65535 := hf2
      clear hbd hb0 hnx hf1 hf2 hf3 p3 p4 hc1 hR1 hst h3 h4 hg0 hg1 hg2 hg3 hv hv1 hv2 hv3 hv4 hl1 bX pX lX hW5 hX
      go_upto_region 6 with fail
      rw [← HW5.out, HXX.out]
      clear c0 c1' m0 m1 m2 m3 m4
      go_region_held3 (fun w' => Below W5.heap.size W5 w' ∧ w'.cell? ⟨X, 0, none⟩ = some (.int .i64 y0) ∧ w'.cell? ⟨X, 1, none⟩ = some (.int .i64 y1) ∧ w'.cell? ⟨X, 2, none⟩ = some (.string st) ∧ w'.cell? ⟨X, 3, none⟩ = some (.slice u3 n3 k3) ∧ w'.cell? ⟨X, 4, none⟩ = some (.slice u4 n4 k4))
        ((refine HCX.out _ ?_; focus ((repeat first | with_reducible assumption | with_reducible exact K5.out | with_reducible apply Below.drew | with_reducible apply below_drews); done)))
        (first
          | (go_at_call 19; (with_reducible refine (N0.out _).mono ?_); rintro e wt ⟨rfl, bt⟩; have hkt := below_on (B := W5.heap.size) (w := W5) (by (repeat first | with_reducible assumption | with_reducible exact K5.out | with_reducible apply Below.drew | with_reducible apply below_drews)) bt (Nat.le_refl _); clear bt)
          | (go_at_call 19; (with_reducible refine (N1.out _).mono ?_); rintro e wt ⟨rfl, bt⟩; have hkt := below_on (B := W5.heap.size) (w := W5) (by (repeat first | with_reducible assumption | with_reducible exact K5.out | with_reducible apply Below.drew | with_reducible apply below_drews)) bt (Nat.le_refl _); clear bt)
          | (go_at_call 23; (with_reducible refine (N2.out _).mono ?_); rintro e wt ⟨rfl, bt⟩; have hkt := below_on (B := W5.heap.size) (w := W5) (by (repeat first | with_reducible assumption | with_reducible exact K5.out | with_reducible apply Below.drew | with_reducible apply below_drews)) bt (Nat.le_refl _); clear bt)
          | (go_at_call 20; (with_reducible refine (N3.out _).mono ?_); rintro e wt ⟨rfl, bt⟩; have hkt := below_on (B := W5.heap.size) (w := W5) (by (repeat first | with_reducible assumption | with_reducible exact K5.out | with_reducible apply Below.drew | with_reducible apply below_drews)) bt (Nat.le_refl _); clear bt))
      have HX := Lib.hid hkt
      clear hkt N0 N1 N2 N3 HCX K5 Av1 Av2 Av3 Av4
      go_wp2_with fail
      go_loopg [3, 6] n3 (fun g t_ i_ wr => ∃ (j : Nat) (lv : List UInt8) (v : ByteArray), j ≤ n3 ∧ n3 - j ≤ g ∧ i_ = .int .i64 (j : Nat) ∧ t_ = .string v ∧ Hid (v = mkB lv ∧ lv = l1 ++ (Sp.take j).flatMap spnC.enc) ∧ Hid (Below W5.heap.size W5 wr))
      case atStart => exact ⟨0, l1, _, by omega, by omega, rfl, rfl, ⟨HV4.out, by rw [List.take_zero]; exact (List.append_nil _).symm⟩, HX⟩
      case round =>
        clear HX
        obtain ⟨j, lv, v, hj, hg2, rfl, rfl, HV, HX⟩ := hrel
        obtain ⟨a0, a1, a2, a3, a4⟩ := five_cells' ((HX.out.block X (by have := HXL.out; omega)).trans HPX.out)
        by_cases hjn : j < n3
        · have jw : ((j : Nat) : Int) < (n3 : Int) := by omega
          have j0 : (0 : Int) ≤ ((j : Nat) : Int) := by omega
          have hix : j < Sp.length := by rw [← Hn3.out]; exact hjn
          obtain ⟨b1, f1, s1, rfl, hlt1, _, hR1, hc1⟩ := (HS3.out wr HX.out).get hix
          have hbd := take_le_flat spnC.enc Sp hix
          have hnx := take_flat spnC.enc Sp hix
          obtain ⟨z, hz⟩ : ∃ z, z = Sp[j] := ⟨_, rfl⟩
          rw [← hz] at hR1 hbd hnx
          obtain rfl := spnM_cells hR1
          rw [spnC_is] at hbd hnx
          clear hz hix
          obtain ⟨z0, hz0⟩ : ∃ q, q = z.1 := ⟨_, rfl⟩
          obtain ⟨z1, hz1⟩ : ∃ q, q = z.2.1 := ⟨_, rfl⟩
          obtain ⟨z2, hz2⟩ : ∃ q, q = z.2.2 := ⟨_, rfl⟩
          rw [← hz0, ← hz1, ← hz2] at hc1 hbd hnx
          have m0 : wr.cell? ⟨b1, f1 + j * 3, none⟩ = some (.int .i64 z0) := hc1 0 _ rfl
          have m1 : wr.cell? ⟨b1, f1 + j * 3 + 1, none⟩ = some (.int .i64 z1) := hc1 1 _ rfl
          have m2 : wr.cell? ⟨b1, f1 + j * 3 + 2, none⟩ = some (.int .i64 z2) := hc1 2 _ rfl
          simp only [List.length_append, num_len] at hbd
          have hv := HV.out.1
          have hlv : lv.length + 24 ≤ 290000000 := by
            have := congrArg List.length HV.out.2
            rw [List.length_append] at this
            have := HBL3.out
            omega
          obtain ⟨q0, hq0⟩ : ∃ q, q = mkB (numL z0) := ⟨_, rfl⟩
          have N0 : Hid (∀ w', Calls Tryz.prog 19 #[.int .i64 z0] w' fun e w'' => e = .returned (.string q0) ∧ Below w'.heap.size w' w'') := by rw [hq0]; exact fun w' => num14 z0 w'
          obtain ⟨q1, hq1⟩ : ∃ q, q = mkB (numL z1) := ⟨_, rfl⟩
          have N1 : Hid (∀ w', Calls Tryz.prog 19 #[.int .i64 z1] w' fun e w'' => e = .returned (.string q1) ∧ Below w'.heap.size w' w'') := by rw [hq1]; exact fun w' => num14 z1 w'
          obtain ⟨q2, hq2⟩ : ∃ q, q = mkB (numL z2) := ⟨_, rfl⟩
          have N2 : Hid (∀ w', Calls Tryz.prog 19 #[.int .i64 z2] w' fun e w'' => e = .returned (.string q2) ∧ Below w'.heap.size w' w'') := by rw [hq2]; exact fun w' => num14 z2 w'
          obtain ⟨v1, hv1⟩ : ∃ u, u = mkB (lv ++ numL z0) := ⟨_, rfl⟩
          have Av1 : ∀ w, (Op.stringOp .add v q0).run Tryz.prog w = .ok (.string v1) w := fun w => by rw [hv1, hv, hq0]; exact add_fact _ _ w (by (try simp only [List.length_append, num_len, pair_len]); omega)
          obtain ⟨v2, hv2⟩ : ∃ u, u = mkB ((lv ++ numL z0) ++ numL z1) := ⟨_, rfl⟩
          have Av2 : ∀ w, (Op.stringOp .add v1 q1).run Tryz.prog w = .ok (.string v2) w := fun w => by rw [hv2, hv1, hq1]; exact add_fact _ _ w (by (try simp only [List.length_append, num_len, pair_len]); omega)
          obtain ⟨v3, hv3⟩ : ∃ u, u = mkB (((lv ++ numL z0) ++ numL z1) ++ numL z2) := ⟨_, rfl⟩
          have Av3 : ∀ w, (Op.stringOp .add v2 q2).run Tryz.prog w = .ok (.string v3) w := fun w => by rw [hv3, hv2, hq2]; exact add_fact _ _ w (by (try simp only [List.length_append, num_len, pair_len]); omega)
          have HV2 : Hid (v3 = mkB (((lv ++ numL z0) ++ numL z1) ++ numL z2) ∧ (((lv ++ numL z0) ++ numL z1) ++ numL z2) = l1 ++ (Sp.take (j + 1)).flatMap spnC.enc) := ⟨hv3, by rw [hnx, HV.out.2]; simp only [List.append_assoc]⟩
          have KX : Hid (Below wr.heap.size wr wr) := Below.refl _ _
          have HCX : Hid (∀ w', Below wr.heap.size wr w' → Below wr.heap.size wr w' ∧ w'.cell? ⟨X, 0, none⟩ = some (.int .i64 y0) ∧ w'.cell? ⟨X, 1, none⟩ = some (.int .i64 y1) ∧ w'.cell? ⟨X, 2, none⟩ = some (.string st) ∧ w'.cell? ⟨X, 3, none⟩ = some (.slice (some ⟨b1, f1, none⟩) n3 k3) ∧ w'.cell? ⟨X, 4, none⟩ = some (.slice u4 n4 k4) ∧ w'.cell? ⟨b1, f1 + j * 3, none⟩ = some (.int .i64 z0) ∧ w'.cell? ⟨b1, f1 + j * 3 + 1, none⟩ = some (.int .i64 z1) ∧ w'.cell? ⟨b1, f1 + j * 3 + 2, none⟩ = some (.int .i64 z2)) := fun w' hb => ⟨hb, vcell hb (by have := HXL.out; have := HX.out.size; omega) a0, vcell hb (by have := HXL.out; have := HX.out.size; omega) a1, vcell hb (by have := HXL.out; have := HX.out.size; omega) a2, vcell hb (by have := HXL.out; have := HX.out.size; omega) a3, vcell hb (by have := HXL.out; have := HX.out.size; omega) a4, vcell hb hlt1 m0, vcell hb hlt1 m1, vcell hb hlt1 m2⟩
          clear hbd hnx hR1 hc1 hq0 hz0 hv1 hq1 hz1 hv2 hq2 hz2 hv3 hv hlv
          go_upto_region 10 with fail
          clear a0 a1 a2 a3 a4 m0 m1 m2
          go_region_held3 (fun w' => Below wr.heap.size wr w' ∧ w'.cell? ⟨X, 0, none⟩ = some (.int .i64 y0) ∧ w'.cell? ⟨X, 1, none⟩ = some (.int .i64 y1) ∧ w'.cell? ⟨X, 2, none⟩ = some (.string st) ∧ w'.cell? ⟨X, 3, none⟩ = some (.slice (some ⟨b1, f1, none⟩) n3 k3) ∧ w'.cell? ⟨X, 4, none⟩ = some (.slice u4 n4 k4) ∧ w'.cell? ⟨b1, f1 + j * 3, none⟩ = some (.int .i64 z0) ∧ w'.cell? ⟨b1, f1 + j * 3 + 1, none⟩ = some (.int .i64 z1) ∧ w'.cell? ⟨b1, f1 + j * 3 + 2, none⟩ = some (.int .i64 z2))
            ((refine HCX.out _ ?_; focus ((repeat first | with_reducible assumption | with_reducible exact KX.out | with_reducible apply Below.drew | with_reducible apply below_drews); done)))
            (first
              | (go_at_call 19; (with_reducible refine (N0.out _).mono ?_); rintro e wt ⟨rfl, bt⟩; have hkt := below_on (B := wr.heap.size) (w := wr) (by (repeat first | with_reducible assumption | with_reducible exact KX.out | with_reducible apply Below.drew | with_reducible apply below_drews)) bt (Nat.le_refl _); clear bt)
              | (go_at_call 19; (with_reducible refine (N1.out _).mono ?_); rintro e wt ⟨rfl, bt⟩; have hkt := below_on (B := wr.heap.size) (w := wr) (by (repeat first | with_reducible assumption | with_reducible exact KX.out | with_reducible apply Below.drew | with_reducible apply below_drews)) bt (Nat.le_refl _); clear bt)
              | (go_at_call 19; (with_reducible refine (N2.out _).mono ?_); rintro e wt ⟨rfl, bt⟩; have hkt := below_on (B := wr.heap.size) (w := wr) (by (repeat first | with_reducible assumption | with_reducible exact KX.out | with_reducible apply Below.drew | with_reducible apply below_drews)) bt (Nat.le_refl _); clear bt))
          have HX2 : Hid (Below W5.heap.size W5 wt) := below_on HX.out hkt
          clear HX HCX KX hkt
          go_wp2_with fail
          go_roundg (n3 - (j + 1))
          case measure => omega
          case rel => exact ⟨j + 1, _, _, by omega, Nat.le_refl _, by go_num, rfl, HV2, HX2⟩
        · obtain rfl : n3 = j := by omega
          have jw : ¬ ((n3 : Nat) : Int) < ((n3 : Nat) : Int) := by omega
          obtain ⟨l2, hl2⟩ : ∃ q, q = (l1 ++ Sp.flatMap spnC.enc) ++ pairL n4 := ⟨_, rfl⟩
          have HL2 := Lib.hid hl2
          have hv : v = mkB (l1 ++ Sp.flatMap spnC.enc) := by rw [HV.out.1, HV.out.2, List.take_of_length_le (by rw [← Hn3.out]; exact Nat.le_refl _)]
          have HBL4 : Hid (l2.length + (Si.flatMap sitC.enc).length ≤ 290000000) := by
            have h9 := HBL3.out
            show _ ≤ _
            rw [hl2]
            simp only [List.length_append, pair_len]
            omega
          obtain ⟨g4, hg4⟩ : ∃ q, q = mkB (pairL n4) := ⟨_, rfl⟩
          obtain ⟨t2, ht2⟩ : ∃ q, q = mkB l2 := ⟨_, rfl⟩
          have A2 : ∀ w, (Op.stringOp .add v g4).run Tryz.prog w = .ok (.string t2) w := fun w => by
            rw [ht2, hl2, hv, hg4]
            exact add_fact _ _ w (by have h9 := HBL3.out; simp only [List.length_append, pair_len]; omega)
          have HT2 := Lib.hid ht2
          have C4 : Hid (Calls Tryz.prog 20 #[.int .i64 (n4 : Nat)] wr fun e w'' => e = .returned (.string g4) ∧ Below wr.heap.size wr w'') := by rw [hg4]; exact HLN.out n4 HN4.out wr
          clear hl2 hv hg4 ht2 HV
          have hn4 : n4 ≤ 65535 := HN4.out
          go_wp2_with fail
          refine C4.out.mono ?_
          rintro e w7 ⟨rfl, b7⟩
          have HX7 : Hid (Below W5.heap.size W5 w7) := below_on HX.out b7
          clear b7 C4 HX a0 a1 a2 a3 a4
          have HX := HX7
          clear HX7 hj hg2
          go_wp2_with fail
          go_loopg [3, 7] n4 (fun g t_ i_ wr => ∃ (j : Nat) (lv : List UInt8) (v : ByteArray), j ≤ n4 ∧ n4 - j ≤ g ∧ i_ = .int .i64 (j : Nat) ∧ t_ = .string v ∧ Hid (v = mkB lv ∧ lv = l2 ++ (Si.take j).flatMap sitC.enc) ∧ Hid (Below W5.heap.size W5 wr))
          case atStart => exact ⟨0, l2, _, by omega, by omega, rfl, rfl, ⟨HT2.out, by rw [List.take_zero]; exact (List.append_nil _).symm⟩, HX⟩
          case round =>
            clear HX
            obtain ⟨j, lv, v, hj, hg2, rfl, rfl, HV, HX⟩ := hrel
            obtain ⟨a0, a1, a2, a3, a4⟩ := five_cells' ((HX.out.block X (by have := HXL.out; omega)).trans HPX.out)
            by_cases hjn : j < n4
            · have jw : ((j : Nat) : Int) < (n4 : Int) := by omega
              have j0 : (0 : Int) ≤ ((j : Nat) : Int) := by omega
              have hix : j < Si.length := by rw [← Hn4.out]; exact hjn
              obtain ⟨b1, f1, s1, rfl, hlt1, _, hR1, hc1⟩ := (HS4.out wr HX.out).get hix
              have hbd := take_le_flat sitC.enc Si hix
              have hnx := take_flat sitC.enc Si hix
              obtain ⟨z, hz⟩ : ∃ z, z = Si[j] := ⟨_, rfl⟩
              rw [← hz] at hR1 hbd hnx
              obtain rfl := sitM_cells hR1
              rw [sitC_is] at hbd hnx
              clear hz hix
              obtain ⟨z0, hz0⟩ : ∃ q, q = z.1 := ⟨_, rfl⟩
              obtain ⟨z1, hz1⟩ : ∃ q, q = z.2 := ⟨_, rfl⟩
              rw [← hz0, ← hz1] at hc1 hbd hnx
              have m0 : wr.cell? ⟨b1, f1 + j * 2, none⟩ = some (.int .i64 z0) := hc1 0 _ rfl
              have m1 : wr.cell? ⟨b1, f1 + j * 2 + 1, none⟩ = some (.int .i64 z1) := hc1 1 _ rfl
              simp only [List.length_append, num_len] at hbd
              have hv := HV.out.1
              have hlv : lv.length + 16 ≤ 290000000 := by
                have := congrArg List.length HV.out.2
                rw [List.length_append] at this
                have := HBL4.out
                omega
              obtain ⟨q0, hq0⟩ : ∃ q, q = mkB (numL z0) := ⟨_, rfl⟩
              have N0 : Hid (∀ w', Calls Tryz.prog 19 #[.int .i64 z0] w' fun e w'' => e = .returned (.string q0) ∧ Below w'.heap.size w' w'') := by rw [hq0]; exact fun w' => num14 z0 w'
              obtain ⟨q1, hq1⟩ : ∃ q, q = mkB (numL z1) := ⟨_, rfl⟩
              have N1 : Hid (∀ w', Calls Tryz.prog 19 #[.int .i64 z1] w' fun e w'' => e = .returned (.string q1) ∧ Below w'.heap.size w' w'') := by rw [hq1]; exact fun w' => num14 z1 w'
              obtain ⟨v1, hv1⟩ : ∃ u, u = mkB (lv ++ numL z0) := ⟨_, rfl⟩
              have Av1 : ∀ w, (Op.stringOp .add v q0).run Tryz.prog w = .ok (.string v1) w := fun w => by rw [hv1, hv, hq0]; exact add_fact _ _ w (by (try simp only [List.length_append, num_len, pair_len]); omega)
              obtain ⟨v2, hv2⟩ : ∃ u, u = mkB ((lv ++ numL z0) ++ numL z1) := ⟨_, rfl⟩
              have Av2 : ∀ w, (Op.stringOp .add v1 q1).run Tryz.prog w = .ok (.string v2) w := fun w => by rw [hv2, hv1, hq1]; exact add_fact _ _ w (by (try simp only [List.length_append, num_len, pair_len]); omega)
              have HV2 : Hid (v2 = mkB ((lv ++ numL z0) ++ numL z1) ∧ ((lv ++ numL z0) ++ numL z1) = l2 ++ (Si.take (j + 1)).flatMap sitC.enc) := ⟨hv2, by rw [hnx, HV.out.2]; simp only [List.append_assoc]⟩
              have KX : Hid (Below wr.heap.size wr wr) := Below.refl _ _
              have HCX : Hid (∀ w', Below wr.heap.size wr w' → Below wr.heap.size wr w' ∧ w'.cell? ⟨X, 0, none⟩ = some (.int .i64 y0) ∧ w'.cell? ⟨X, 1, none⟩ = some (.int .i64 y1) ∧ w'.cell? ⟨X, 2, none⟩ = some (.string st) ∧ w'.cell? ⟨X, 3, none⟩ = some (.slice u3 n3 k3) ∧ w'.cell? ⟨X, 4, none⟩ = some (.slice (some ⟨b1, f1, none⟩) n4 k4) ∧ w'.cell? ⟨b1, f1 + j * 2, none⟩ = some (.int .i64 z0) ∧ w'.cell? ⟨b1, f1 + j * 2 + 1, none⟩ = some (.int .i64 z1)) := fun w' hb => ⟨hb, vcell hb (by have := HXL.out; have := HX.out.size; omega) a0, vcell hb (by have := HXL.out; have := HX.out.size; omega) a1, vcell hb (by have := HXL.out; have := HX.out.size; omega) a2, vcell hb (by have := HXL.out; have := HX.out.size; omega) a3, vcell hb (by have := HXL.out; have := HX.out.size; omega) a4, vcell hb hlt1 m0, vcell hb hlt1 m1⟩
              clear hbd hnx hR1 hc1 hq0 hz0 hv1 hq1 hz1 hv2 hv hlv
              go_upto_region 15 with fail
              clear a0 a1 a2 a3 a4 m0 m1
              go_region_held3 (fun w' => Below wr.heap.size wr w' ∧ w'.cell? ⟨X, 0, none⟩ = some (.int .i64 y0) ∧ w'.cell? ⟨X, 1, none⟩ = some (.int .i64 y1) ∧ w'.cell? ⟨X, 2, none⟩ = some (.string st) ∧ w'.cell? ⟨X, 3, none⟩ = some (.slice u3 n3 k3) ∧ w'.cell? ⟨X, 4, none⟩ = some (.slice (some ⟨b1, f1, none⟩) n4 k4) ∧ w'.cell? ⟨b1, f1 + j * 2, none⟩ = some (.int .i64 z0) ∧ w'.cell? ⟨b1, f1 + j * 2 + 1, none⟩ = some (.int .i64 z1))
                ((refine HCX.out _ ?_; focus ((repeat first | with_reducible assumption | with_reducible exact KX.out | with_reducible apply Below.drew | with_reducible apply below_drews); done)))
                (first
                  | (go_at_call 19; (with_reducible refine (N0.out _).mono ?_); rintro e wt ⟨rfl, bt⟩; have hkt := below_on (B := wr.heap.size) (w := wr) (by (repeat first | with_reducible assumption | with_reducible exact KX.out | with_reducible apply Below.drew | with_reducible apply below_drews)) bt (Nat.le_refl _); clear bt)
                  | (go_at_call 19; (with_reducible refine (N1.out _).mono ?_); rintro e wt ⟨rfl, bt⟩; have hkt := below_on (B := wr.heap.size) (w := wr) (by (repeat first | with_reducible assumption | with_reducible exact KX.out | with_reducible apply Below.drew | with_reducible apply below_drews)) bt (Nat.le_refl _); clear bt))
              have HX2 : Hid (Below W5.heap.size W5 wt) := below_on HX.out hkt
              clear HX HCX KX hkt
              go_wp2_with fail
              go_roundg (n4 - (j + 1))
              case measure => omega
              case rel => exact ⟨j + 1, _, _, by omega, Nat.le_refl _, by go_num, rfl, HV2, HX2⟩
            · obtain rfl : n4 = j := by omega
              have jw : ¬ ((n4 : Nat) : Int) < ((n4 : Nat) : Int) := by omega
              have HV3 : Hid (v = mkB (l2 ++ Si.flatMap sitC.enc) ∧ l2 ++ Si.flatMap sitC.enc = (flagL xb ++ pairL n) ++ (D.take (i + 1)).flatMap segC.enc) := ⟨by rw [HV.out.1, HV.out.2, List.take_of_length_le (by rw [← Hn4.out]; exact Nat.le_refl _)], by rw [HNX.out, HSC.out, HL2.out, HL1.out, HVl.out]; simp only [List.append_assoc]⟩
              have HX9 : Hid (Below W0.heap.size W0 wr) := HX5.out.trans (HX.out.mono HX5.out.size)
              clear HV HX HPX HXL HS3 HS4 Hn3
              go_wp2_with fail
              go_roundg (n - (i + 1))
              case measure => omega
              case rel => exact ⟨i + 1, _, _, by omega, Nat.le_refl _, by go_num, rfl, HV3, HX9⟩
    · obtain rfl : i = n := by omega
      have iw : ¬ ((i : Nat) : Int) < ((i : Nat) : Int) := by omega
      have E1 : Hid (v = mkB (docC.enc (xb, D))) := by
        show _ = _
        rw [HV.out.1, HV.out.2, HG.out, List.take_of_length_le (by rw [← HN.out]; exact Nat.le_refl _), ← HN.out, List.append_assoc]
      have HE : Hid (Below w.heap.size w wr) := HB.out.trans (HX.out.mono HB.out.size)
      clear HV HG
      go_wp2_with fail
      go_ret
      exact ⟨by rw [E1.out]; rfl, HE.out⟩
end Go.Proofs.YtmdgjcikekojdaaGreatDoor.Sta
