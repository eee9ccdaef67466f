/- Desk: Open of the plain text. -/
import Derived.Test.YtkbjbmhplocdnaaDd
set_option linter.unusedVariables false
set_option linter.unusedSimpArgs false
set_option maxRecDepth 100000
namespace Go.Proofs.Ytkbjbmhplocdnaa.Dsk
open Go.RowKit Go.Lib Go.Proofs.Ytkbjbmhplocdnaa.Bx

theorem pl_nonneg {A : List Se} {tok : ByteArray} : decide (0 ≤ plI A tok) = (plO A tok).isSome := by
  cases h : plO A tok with
  | none => rw [pl_neg h]; rfl
  | some i => rw [pl_int h]; simp
theorem rOpen_any {a : Option Addr} {cap : Nat} {A : List Se} (tok : ByteArray) (u now ttl most : Int) (w : World) (h : Seats w (.slice a A.length cap) A) (h60 : A.length ≤ 60) (hr : InR A) (hu : i64 u) (h1 : 0 ≤ now ∧ now ≤ 1099511627776) : Calls Try.prog 9 #[.slice a A.length cap, .string tok, .int .i64 u, .int .i64 now, .int .i64 ttl, .int .i64 most] w fun e w' => ∃ v, e = .returned (.tuple #[v, .int .i64 (openE A tok u now ttl most).2]) ∧ Seats w' v (openE A tok u now ttl most).1 ∧ Below w.heap.size w w' := by
  have HE := Lib.hid h.cells
  have HS := Lib.hid h
  obtain ⟨_, _, e, hn, hm⟩ := h.is_slice
  injection e with e1 _ e3
  rw [← e3] at hn hm
  clear e1 e3
  have HX : Hid (∀ i, i < A.length → (A.take (i + 1)).filter (fun y => !pastB now ttl y) = (A.take i).filter (fun y => !pastB now ttl y) ++ (if (!pastB now ttl (se A i)) = true then [se A i] else [])) := fun i hi => filter_next hi
  have HLE : Hid (∀ i, ((A.take i).filter (fun y => !pastB now ttl y)).length ≤ i) := filter_le A _
  have HFI : Hid ((A.take A.length).filter (fun y => !pastB now ttl y) = fresh A now ttl) := by show _ = _; rw [List.take_length]; rfl
  have HOE : Hid (openE A tok u now ttl most = if tok.size = 0 ∨ (plO (fresh A now ttl) tok).isSome then (A, 9) else if most ≤ (fresh A now ttl).length then (A, 4) else (fresh A now ttl ++ [⟨tok, u, now, 0, ByteArray.mk #[]⟩], 0)) := rfl
  obtain ⟨F, hF⟩ : ∃ F : Nat → List Se, F = fun i => (A.take i).filter (fun y => !pastB now ttl y) := ⟨_, rfl⟩
  have hF0 : F 0 = [] := by rw [hF]; rfl
  replace HX : Hid (∀ i, i < A.length → F (i + 1) = F i ++ (if (!pastB now ttl (se A i)) = true then [se A i] else [])) := by rw [hF]; exact HX
  replace HLE : Hid (∀ i, (F i).length ≤ i) := by rw [hF]; exact HLE
  replace HFI : Hid (F A.length = fresh A now ttl) := by rw [hF]; exact HFI
  have HF0 := Lib.hid hF0
  have HIR := Lib.hid hr
  have HU := Lib.hid hu
  have HNW := Lib.hid h1
  clear hF hF0 hr hu h1
  obtain ⟨n, hnn⟩ : ∃ n, n = A.length := ⟨_, rfl⟩
  have HNL := Lib.hid hnn
  rw [← hnn] at HE HX HFI hn h60 HS ⊢
  have HRI : Hid (∀ i, i < n → 0 ≤ (se A i).d ∧ (se A i).d ≤ 1099511627776) := fun i hi => HIR.out i (by rw [← HNL.out]; exact hi)
  obtain ⟨X, hX⟩ : ∃ X, X = fresh A now ttl := ⟨_, rfl⟩
  rw [← hX] at HFI HOE
  obtain ⟨R, hR⟩ : ∃ R, R = openE A tok u now ttl most := ⟨_, rfl⟩
  rw [← hR] at HOE ⊢
  unfold maxLen at hm
  clear h hnn hX hR
  go_enter Try.func9, Try.ntmps9
  go_wp2_with fail
  go_loopg [14, 15] n (fun g o_ i_ wr => ∃ (i : Nat), i ≤ n ∧ n - i ≤ g ∧ i_ = .int .i64 i ∧ (∃ a c, o_ = .slice a (F i).length c) ∧ Hid (OSe w.heap.size wr o_ (F i)) ∧ Below w.heap.size w wr)
  case atStart => exact ⟨0, by omega, by omega, rfl, ⟨_, _, by rw [HF0.out]; rfl⟩, by rw [HF0.out]; exact OSe.nil_ _ _, Below.refl _ _⟩
  case round =>
    obtain ⟨i, hi, hg, rfl, ⟨oa, oc, rfl⟩, HO, hbel⟩ := hrel
    have HB := Lib.hid hbel
    by_cases hin : i < n
    · have iw : ((i : Nat) : Int) < (n : Int) := by omega
      have n0 : (0 : Int) ≤ (i : Int) := by omega
      obtain ⟨b, off, rfl, hlt, c0, c1, c2, c3, c4, hgd⟩ := HE.out wr hbel i hin
      have HN := Lib.hid (HX.out i hin)
      have hll := HLE.out i
      obtain ⟨_, hl1, hl2⟩ := HO.out.len
      unfold maxLen at hl2
      have CQ := Lib.hid (rpast_any (se A i) now ttl wr HNW.out (HRI.out i hin))
      have HCC : Hid (∀ w', Below w.heap.size w w' → w'.cell? ⟨b, off + i * 5, none⟩ = some (.string (se A i).t) ∧ w'.cell? ⟨b, off + i * 5 + 1, none⟩ = some (.int .i64 (se A i).u) ∧ w'.cell? ⟨b, off + i * 5 + 2, none⟩ = some (.int .i64 (se A i).d) ∧ w'.cell? ⟨b, off + i * 5 + 3, none⟩ = some (.int .i64 (se A i).q) ∧ w'.cell? ⟨b, off + i * 5 + 4, none⟩ = some (.string (se A i).a)) := fun w' hb => by
        obtain ⟨b', off', e, _, d0, d1, d2, d3, d4, _⟩ := HE.out w' hb i hin
        injection e with e
        injection e with e1 e2
        subst e1 e2
        exact ⟨d0, d1, d2, d3, d4⟩
      generalize pastB now ttl (se A i) = p at *
      generalize se A i = y at *
      have HGD := Lib.hid hgd
      have CE : Hid ((cellsS y).toArray = #[.string y.t, .int .i64 y.u, .int .i64 y.d, .int .i64 y.q, .string y.a]) := rfl
      obtain ⟨k, hk⟩ : ∃ k, k = (F i).length := ⟨_, rfl⟩
      have HK := Lib.hid hk
      rw [← hk] at hll hl1 HO ⊢
      clear hbel hgd hk
      go_wp2_with fail
      refine CQ.out.mono ?_
      rintro e wp ⟨rfl, bp⟩
      have HBP := Lib.hid (below_on HB.out bp)
      have HOP : Hid (OSe w.heap.size wp (.slice oa k oc) (F i)) := HO.out.below bp
      clear bp CQ c0 c1 c2 c3 c4 HO
      obtain ⟨c0, c1, c2, c3, c4⟩ := HCC.out wp HBP.out
      cases p with
      | true =>
        have HN2 : Hid (F (i + 1) = F i) := by show _ = _; rw [HN.out]; simp
        have HK2 : Hid (k = (F (i + 1)).length) := by show _ = _; rw [HN2.out]; exact HK.out
        rw [← HN2.out, HK2.out] at HOP
        clear HN HN2 HCC
        rw [HK2.out]
        clear HK2
        go_wp2_with fail
        go_roundg (n - (i + 1))
        case measure => omega
        case rel => exact ⟨i + 1, by omega, Nat.le_refl _, by go_num, ⟨_, _, rfl⟩, HOP, HBP.out⟩
      | false =>
        have HN2 : Hid (F (i + 1) = F i ++ [y]) := by show _ = _; rw [HN.out]; simp
        have A1 : Hid (Rk.OwnK 28 5 w.heap.size (wp.alloc (.cells (cellsS y).toArray 28)) (.slice oa k oc) ((F i).map cellsS)) := by
          exact Rk.OwnK.below HOP.out.1 (below_al (Below.refl wp.heap.size wp) (.cells (cellsS y).toArray 28))
        have HGX := Lib.hid HOP.out.2
        have A2 : Hid (Rk.RowK 5 (wp.alloc (.cells (cellsS y).toArray 28)) (.slice (some ⟨wp.heap.size, 0, none⟩) 1 1) [cellsS y]) := row_seat (heap_alloc_new _ _)
        have A3 : Hid (((F i).map cellsS).length + 1 ≤ 100000) := by show _ ≤ _; rw [List.length_map, ← HK.out]; omega
        have HBY : Hid (Below w.heap.size w (wp.alloc (.cells (cellsS y).toArray 28))) := below_al HBP.out _
        have A4 : Hid (w.heap.size ≤ (wp.alloc (.cells (cellsS y).toArray 28)).heap.size) := HBY.out.size
        rw [CE.out] at A1 A2 HBY A4
        clear HN HOP HCC
        go_wp2_with (at_builtin; refine Rk.wpList_append_rowk rfl _ _ 22 28 5 56 _ Try.underlying22 infoSe rfl (by decide) (by decide) rfl w.heap.size _ _ ((F i).map cellsS) [cellsS y] rfl rfl A1.out A2.out (seat_one1 y) A3.out A4.out ?_)
        intro v6 w9 h5 g5 k5
        have K9 : Hid (OSe w.heap.size w9 v6 (F (i + 1))) := by
          show OSe _ _ _ _
          rw [HN2.out]
          exact OSe.more h5 HGX.out HGD.out
        have HB6 := Lib.hid (A1.out.belowOf HBY.out (Nat.le_refl _) A4.out g5)
        obtain ⟨a6, c6, rfl⟩ := K9.out.is_slice
        clear h5 g5 k5 A1 A2 A3 A4 HBY
        go_wp2_with fail
        go_roundg (n - (i + 1))
        case measure => omega
        case rel => exact ⟨i + 1, by omega, Nat.le_refl _, by go_num, ⟨_, _, rfl⟩, K9, HB6.out⟩
    · obtain rfl : i = n := by omega
      have iw : ¬ ((i : Int) < (i : Int)) := by omega
      have hxl := HLE.out i
      rw [HFI.out] at HO hxl
      rw [HFI.out]
      have SE := str_empty tok
      obtain ⟨_, hl1, hl2⟩ := HO.out.len
      have CP := Lib.hid (rplace_any tok wr HO.out.seats.cells hl1 hl2)
      have HPN : Hid (decide (0 ≤ plI X tok) = (plO X tok).isSome) := pl_nonneg
      have HSW : Hid (Seats wr (.slice a i cap) A) := HS.out.below hbel
      unfold maxLen at hl2
      obtain ⟨m, hmm⟩ : ∃ m, m = X.length := ⟨_, rfl⟩
      have HMX := Lib.hid hmm
      rw [← hmm] at hxl hl1 CP HOE ⊢
      clear hbel hmm
      by_cases hz : tok.size = 0
      · rw [decide_eq_true hz] at SE
        have hR : R = (A, 9) := by rw [HOE.out, if_pos (.inl hz)]
        subst hR
        clear HOE CP HPN hz
        go_wp2_with fail
        exact bodyPost_ret (v := .tuple #[.slice a i cap, .int .i64 9]) (by simp [results, Try.results9, go_sem]) rfl ⟨_, rfl, HSW.out, HB.out⟩
      · rw [decide_eq_false hz] at SE
        generalize plI X tok = pi at *
        cases hs : (plO X tok).isSome with
        | true =>
          have hR : R = (A, 9) := by rw [HOE.out, if_pos (.inr hs)]
          rw [hs] at HPN
          have q1 : (0 : Int) ≤ pi := of_decide_eq_true HPN.out
          subst hR
          clear HOE HPN hz hs
          go_wp2_with fail
          refine CP.out.mono ?_
          rintro e w2 ⟨rfl, rfl⟩
          go_wp2_with fail
          exact bodyPost_ret (v := .tuple #[.slice a i cap, .int .i64 9]) (by simp [results, Try.results9, go_sem]) rfl ⟨_, rfl, HSW.out, HB.out⟩
        | false =>
          rw [hs] at HPN
          have q1 : ¬ (0 : Int) ≤ pi := of_decide_eq_false HPN.out
          by_cases hmo : most ≤ (m : Int)
          · have hR : R = (A, 4) := by rw [HOE.out, if_neg (fun h => by rcases h with h | h; exact hz h; rw [hs] at h; cases h), if_pos hmo]
            subst hR
            clear HOE HPN hz hs
            go_wp2_with fail
            refine CP.out.mono ?_
            rintro e w2 ⟨rfl, rfl⟩
            go_wp2_with fail
            exact bodyPost_ret (v := .tuple #[.slice a i cap, .int .i64 4]) (by simp [results, Try.results9, go_sem]) rfl ⟨_, rfl, HSW.out, HB.out⟩
          · have hR : R = (X ++ [⟨tok, u, now, 0, ByteArray.mk #[]⟩], 0) := by rw [HOE.out, if_neg (fun h => by rcases h with h | h; exact hz h; rw [hs] at h; cases h), if_neg hmo]
            subst hR
            obtain ⟨y, hy⟩ : ∃ y : Se, y = ⟨tok, u, now, 0, ByteArray.mk #[]⟩ := ⟨_, rfl⟩
            have HGD : Hid (good y) := by rw [hy]; exact ⟨HU.out, by have := HNW.out; show -9223372036854775808 ≤ now ∧ now ≤ 9223372036854775807; omega, by show -9223372036854775808 ≤ (0 : Int) ∧ (0 : Int) ≤ 9223372036854775807; omega⟩
            have CE : Hid ((cellsS y).toArray = #[.string tok, .int .i64 u, .int .i64 now, .int .i64 0, .string (ByteArray.mk #[])]) := by rw [hy]; rfl
            have HYE := Lib.hid hy
            have A1 : Hid (Rk.OwnK 28 5 w.heap.size (wr.alloc (.cells (cellsS y).toArray 28)) (.slice oa m oc) (X.map cellsS)) := by
              have := Rk.OwnK.below HO.out.1 (below_al (Below.refl wr.heap.size wr) (.cells (cellsS y).toArray 28))
              rwa [← HMX.out] at this
            have HGX := Lib.hid HO.out.2
            have A2 : Hid (Rk.RowK 5 (wr.alloc (.cells (cellsS y).toArray 28)) (.slice (some ⟨wr.heap.size, 0, none⟩) 1 1) [cellsS y]) := row_seat (heap_alloc_new _ _)
            have A3 : Hid ((X.map cellsS).length + 1 ≤ 100000) := by show _ ≤ _; rw [List.length_map, ← HMX.out]; omega
            have HBY : Hid (Below w.heap.size w (wr.alloc (.cells (cellsS y).toArray 28))) := below_al HB.out _
            have A4 : Hid (w.heap.size ≤ (wr.alloc (.cells (cellsS y).toArray 28)).heap.size) := HBY.out.size
            rw [CE.out] at A1 A2 HBY A4
            clear HOE HPN hz hs hy HO
            go_wp2_with fail
            refine CP.out.mono ?_
            rintro e w2 ⟨rfl, rfl⟩
            go_wp2_with (at_builtin; refine Rk.wpList_append_rowk rfl _ _ 22 28 5 56 _ Try.underlying22 infoSe rfl (by decide) (by decide) rfl w.heap.size _ _ (X.map cellsS) [cellsS y] rfl rfl A1.out A2.out (seat_one1 y) A3.out A4.out ?_)
            intro v6 w9 h5 g5 k5
            have K9 : Hid (OSe w.heap.size w9 v6 (X ++ [y])) := OSe.more h5 HGX.out HGD.out
            have HB6 := Lib.hid (A1.out.belowOf HBY.out (Nat.le_refl _) A4.out g5)
            clear h5 g5 k5 A1 A2 A3 A4 HBY
            go_wp2_with fail
            exact bodyPost_ret (v := .tuple #[v6, .int .i64 0]) (by simp [results, Try.results9, go_sem]) rfl ⟨_, rfl, by have h9 := K9.out; rw [HYE.out] at h9; exact h9.seats, HB6.out⟩
end Go.Proofs.Ytkbjbmhplocdnaa.Dsk
