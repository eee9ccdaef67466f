/- Desk: slices.DeleteFunc at seats of the call's own. -/
import Derived.Test.YtkbjbmhplocdnaaDq
set_option linter.unusedVariables false
set_option linter.unusedSimpArgs false
set_option maxRecDepth 100000
namespace Go.Proofs.Ytkbjbmhplocdnaa.Dsk
open Go.RowKit Go.Lib Go.Proofs.Ytkbjbmhplocdnaa.Bx

set_option maxHeartbeats 4000000 in
theorem df_any (K : World → Prop) (p : Se → Bool) (gf : Nat) (lb : Array Value) {base : Nat} {v : Value} {A : List Se} (w : World) (h : OSe base w v A) (hbs : base ≤ w.heap.size) (hK : K w) (kb : KeptOn K) (ks : ∀ gg, v.ownBlock = some gg → ∀ w o u, K w → K (w.setCell ⟨gg, o, none⟩ u)) (eg : Enters gf) (hp : PredC K gf lb p A) :
    Calls Try.prog 28 #[v, .func (.func gf) #[] lb] w fun e w' => ∃ v', e = .returned v' ∧ OSe base w' v' (A.filter fun y => !p y) ∧ Below base w w' := by
  have hBX : ∀ w', Below w.heap.size w w' → Below base w w' := fun w' hb => hb.mono hbs
  have HBX := Lib.hid hBX
  obtain ⟨a, cap, rfl⟩ := h.is_slice
  obtain ⟨_, hn, hm⟩ := h.len
  have CX := Lib.hid (ixf_any K p gf lb w h.seats.cells hn hm hK kb eg hp)
  have HO := Lib.hid h
  cases hx : ixO p A with
  | none =>
    have hf : (A.filter fun y => !p y) = A := by
      rw [List.filter_eq_self]
      intro y hy
      rw [ix_all hx y hy]
      rfl
    rw [ix_neg hx] at CX
    rw [hf]
    clear h hK kb ks hp hx hf hBX hbs
    go_enter Try.func28, Try.ntmps28
    go_wp2_with fail
    refine CX.out.mono ?_
    rintro e w1 ⟨rfl, b1⟩
    have HB1 := Lib.hid b1
    clear b1 CX
    go_wp2_with fail
    go_ret
    exact ⟨_, rfl, HO.out.below HB1.out, HBX.out _ HB1.out⟩
  | some k0 =>
    obtain ⟨hk0, _, _⟩ := ix_lt hx
    obtain ⟨g, cap', e1, hbg, _, _⟩ := h.at_ hk0
    injection e1 with e1 e2 e3
    subst e1 e3
    have HF0 := Lib.hid (FL.start hx)
    have hKS : ∀ w o u, K w → K (w.setCell ⟨g, o, none⟩ u) := ks g rfl
    have HKS := Lib.hid hKS
    have HKB := Lib.hid kb
    have HK := Lib.hid hK
    have HPC : Hid (∀ w, K w → ∀ j, j < A.length → Calls Try.prog gf (#[.agg #[.string (se A j).t, .int .i64 (se A j).u, .int .i64 (se A j).d, .int .i64 (se A j).q, .string (se A j).a]] ++ lb) w fun e w' => e = .returned (.bool (p (se A j))) ∧ Below w.heap.size w w') := hp
    rw [ix_int hx] at CX
    unfold Enters at eg
    unfold maxLen at hm
    obtain ⟨n, hnn⟩ : ∃ n, n = A.length := ⟨_, rfl⟩
    have HNN := Lib.hid hnn
    have hk0n : k0 < n := by omega
    have nk : ¬ ((k0 : Int) = -1) := by omega
    rw [← hnn] at CX HO HPC hn ⊢
    clear h hK kb ks hp hx hBX hKS hnn hk0 e2
    go_enter Try.func28, Try.ntmps28
    go_wp2_with fail
    refine CX.out.mono ?_
    rintro e w1 ⟨rfl, b1⟩
    have HB1 := Lib.hid b1
    clear b1 CX
    go_wp2_with fail
    go_loopg [5, 6, 7] n (fun gg i_ j_ _ wr => ∃ (i j : Nat) (D : List Se), j ≤ n ∧ n - j ≤ gg ∧ i_ = .int .i64 i ∧ j_ = .int .i64 j ∧ Hid (FL p A i j D) ∧ Hid (OSe base wr (.slice (some ⟨g, 0, none⟩) n cap) D) ∧ Hid (Below base w wr) ∧ Hid (K wr) ∧ Hid (base ≤ wr.heap.size))
    case atStart => exact ⟨k0, k0 + 1, A, by omega, by omega, rfl, by go_num, HF0.out, HO.out.below HB1.out, HBX.out _ HB1.out, HKB.out _ _ HK.out HB1.out, by show _ ≤ _; exact Nat.le_trans hbs HB1.out.size⟩
    case round =>
      obtain ⟨i, j, D, hj, hgg, rfl, rfl, HF, HD, HB, HKR, HSZ⟩ := hrel
      clear HF0 HO HB1 HK
      by_cases hjn : j < n
      · have jw : ((j : Nat) : Int) < (n : Int) := by omega
        have j0 : (0 : Int) ≤ (j : Int) := by omega
        have hDl : D.length = n := by rw [HF.out.1]; exact HNN.out.symm
        obtain ⟨g', cap', e1, hbg', hcell, hfree⟩ := HD.out.at_ (i := j) (by omega)
        injection e1 with e1 e2 e3
        injection e1 with e1
        injection e1 with e1 _ _
        subst e1 e3
        rw [HF.out.get (by rw [← HNN.out]; exact hjn)] at hcell
        have c0 : wr.cell? ⟨g, j * 5, none⟩ = some (.string (se A j).t) := hcell 0 _ rfl
        have c1 := hcell 1 _ rfl
        have c2 := hcell 2 _ rfl
        have c3 := hcell 3 _ rfl
        have c4 := hcell 4 _ rfl
        have hF := HF.out
        have hsk := Lib.hid (fun h => hF.skip (by rw [← HNN.out]; exact hjn) h)
        have hke := Lib.hid (fun h => hF.keep (by rw [← HNN.out]; exact hjn) h)
        have hij : i < n := by have := hF.2.2.2.1; omega
        have hgo : good (se A j) := by
          have h9 := HF.out.get (by rw [← HNN.out]; exact hjn)
          rw [← h9, se_at (by omega)]
          exact HD.out.2 _ (List.getElem_mem _)
        have HGO := Lib.hid hgo
        obtain ⟨W1, hW1⟩ : ∃ W1, W1 = wr.alloc (.cells (cellsS (se A j)).toArray 28) := ⟨_, rfl⟩
        obtain ⟨B1, R1, L1⟩ := box1 wr (cellsS (se A j)).toArray 28
        rw [← hW1] at B1 R1 L1
        have C := Lib.hid (HPC.out W1 (HKB.out _ _ HKR.out B1) j hjn)
        have HX : Hid (∀ w2, Below W1.heap.size W1 w2 → w2.heap[wr.heap.size]? = some (.cells (cellsS (se A j)).toArray 28 (0, 0)) ∧ OSe base w2 (.slice (some ⟨g, 0, none⟩) n cap) D ∧ Below base w w2 ∧ K w2 ∧ base ≤ w2.heap.size) := fun w2 b2 => by
          have b02 : Below wr.heap.size wr w2 := below_on B1 b2
          refine ⟨(b2.block _ (by omega)).trans R1, HD.out.below b02, ?_, HKB.out _ _ HKR.out b02, Nat.le_trans HSZ.out b02.size⟩
          exact HB.out.trans (b02.mono HSZ.out)
        have HW1 : Hid (W1 = wr.alloc (.cells #[.string (se A j).t, .int .i64 (se A j).u, .int .i64 (se A j).d, .int .i64 (se A j).q, .string (se A j).a] 28)) := hW1
        have HV5 : Hid (cellsS (se A j) = [.string (se A j).t, .int .i64 (se A j).u, .int .i64 (se A j).d, .int .i64 (se A j).q, .string (se A j).a]) := rfl
        clear hcell hfree e2 hF hgo hW1 B1 R1 L1 HD HB HKR HSZ
        generalize p (se A j) = q at *
        generalize se A j = y at *
        rw [HV5.out] at HX
        obtain ⟨yt, yu, yd, yq, ya⟩ := y
        simp only at c0 c1 c2 c3 c4 C HX HW1
        clear HV5
        rw [HW1.out] at C HX
        cases q with
        | true =>
          have HFN := Lib.hid (hsk rfl)
          clear hsk hke
          go_wp2_with (go_at_fn gf; refine C.out.mono ?_; rintro e w2 ⟨rfl, b2⟩; obtain ⟨r2, hd2, hb2, hk2, hs2⟩ := HX.out w2 b2)
          go_roundg (n - (j + 1))
          case measure => omega
          case rel => exact ⟨i, j + 1, D, by omega, Nat.le_refl _, rfl, by go_num, HFN.out, hd2, hb2, hk2, hs2⟩
        | false =>
          have HFN := Lib.hid (hke rfl)
          have iw : ((i : Nat) : Int) < (n : Int) := by omega
          have i0 : (0 : Int) ≤ (i : Int) := by omega
          have hiD : i < D.length := by omega
          clear hsk hke
          have HAT := Lib.hid (fun w2 (hd2 : OSe base w2 (.slice (some ⟨g, 0, none⟩) n cap) D) => hd2.at5 hiD)
          have HPUT := Lib.hid (fun w2 (hd2 : OSe base w2 (.slice (some ⟨g, 0, none⟩) n cap) D) => hd2.put5 hiD HGO.out)
          have HBG := Lib.hid hbg
          clear hbg
          go_wp2_with (go_at_fn gf; refine C.out.mono ?_; rintro e w2 ⟨rfl, b2⟩; obtain ⟨r2, hd2, hb2, hk2, hs2⟩ := HX.out w2 b2; have HD2 := Lib.hid hd2; have HB2 := Lib.hid hb2; have HK2 := Lib.hid hk2; have HS2 := Lib.hid hs2; obtain ⟨d0, d1, d2, d3, d4⟩ := five_cells r2; obtain ⟨u0, u1, u2, u3, u4, k0', k1, k2, k3, k4, f0, f1, f2, f3, f4⟩ := HAT.out w2 hd2; clear hd2 hb2 hk2 hs2 r2 b2 C HX)
          go_roundg (n - (j + 1))
          case measure => omega
          case rel => exact ⟨i + 1, j + 1, D.set i ⟨yt, yu, yd, yq, ya⟩, by omega, Nat.le_refl _, by go_num, by go_num, HFN.out, HPUT.out _ HD2.out, below_put (below_put (below_put (below_put (below_put HB2.out HBG.out _) HBG.out _) HBG.out _) HBG.out _) HBG.out _, HKS.out _ _ _ (HKS.out _ _ _ (HKS.out _ _ _ (HKS.out _ _ _ (HKS.out _ _ _ HK2.out)))), by show _ ≤ _; rw [size_set, size_set, size_set, size_set, size_set]; exact HS2.out⟩
      · obtain rfl : j = n := by omega
        have jw : ¬ ((j : Nat) : Int) < (j : Int) := by omega
        have hij : i < j := HF.out.2.2.2.1
        have hDl : D.length = j := by rw [HF.out.1]; exact HNN.out.symm
        have i0 : (0 : Int) ≤ (i : Int) := by omega
        have iw : ((i : Nat) : Int) ≤ (j : Int) := by omega
        have icw : ((i : Nat) : Int) ≤ (cap : Int) := by omega
        have hjc : ((j : Nat) : Int) ≤ (cap : Int) := by omega
        obtain ⟨hc, hfz⟩ := HD.out.somes
        obtain ⟨vs, hcl⟩ := clear_seats wr g (i * 5) (j - i) (cap - i) (by omega) (fun q hq => hc _ (by rw [hDl, Nat.sub_mul] at *; omega)) hfz
        have HR := Lib.hid (HD.out.cut (i := i) (by omega) vs)
        rw [show D.take i = A.filter fun y => !p y from (by have h := HF.out; rw [HNN.out] at h; exact h.done)] at HR
        have HBR := Lib.hid (below_setCells hbg vs (i * 5) wr HB.out)
        clear hc hfz
        go_wp2_with fail
        go_ret
        exact ⟨_, rfl, HR.out, HBR.out⟩
end Go.Proofs.Ytkbjbmhplocdnaa.Dsk
