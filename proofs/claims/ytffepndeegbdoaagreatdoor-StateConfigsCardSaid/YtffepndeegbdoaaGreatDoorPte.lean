/- Salt: the program's putText and end. -/
import Derived.Test.YtffepndeegbdoaaGreatDoorPpu
import Derived.Test.YtffepndeegbdoaaGreatDoorSs
set_option linter.unusedVariables false
set_option linter.unusedSimpArgs false
set_option maxRecDepth 100000
namespace Go.Proofs.YtffepndeegbdoaaGreatDoor.Slt
open Go.RowKit Go.Lib Go.Proofs.YtffepndeegbdoaaGreatDoor.Bx

theorem take_snoc (l : List Nat) {i : Nat} (hi : i < l.length) : l.take (i + 1) = l.take i ++ [l.getD i 0] := by
  rw [List.take_succ_eq_append_getElem hi, List.getD_eq_getElem?_getD, List.getElem?_eq_getElem hi]
  rfl
theorem pputText_any (g : Nat) (l : List Nat) (s : ByteArray) (w : World) (h : St g w l) (hn : l.length + s.size < 1000000) (hR : Roots w) (hg : 0 < g) : Calls Tryz.prog 47 #[.pointer (some ⟨g, 0, none⟩), .string s] w fun e w' => e = .returned (.tuple #[]) ∧ St g w' (l ++ bytesN s) ∧ w.grownBy w' (some g) := by
  have HS : Hid (St g w (l ++ (bytesN s).take 0)) := by rw [List.take_zero, List.append_nil]; exact h
  have HN : Hid ((bytesN s).length = s.size) := bytesN_len s
  have HRR := Lib.hid hR
  have HG := Lib.hid hg
  have HGN : Hid (g < w.heap.size) := by obtain ⟨B, h1, _⟩ := h; exact h1.lt
  clear h hR hg
  go_enter Tryz.func47, Tryz.ntmps47
  go_wp2_with fail
  go_loopg [7] s.size (fun g_ i_ wr => ∃ i : Nat, i ≤ s.size ∧ s.size - i ≤ g_ ∧ i_ = .int .i64 i ∧ Hid (St g wr (l ++ (bytesN s).take i)) ∧ w.grownBy wr (some g))
  case atStart => exact ⟨0, by omega, by omega, rfl, HS, grown_refl _ _⟩
  case round =>
    obtain ⟨i, hi, hg2, rfl, HI, hgr⟩ := hrel
    have HGR := Lib.hid hgr
    by_cases hlt : i < s.size
    · have iw : ((i : Nat) : Int) < (s.size : Int) := by omega
      have IX := fun w => index_at w s .i64 hlt
      have CP := Lib.hid (pput_any g (l ++ (bytesN s).take i) ((bytesN s).getD i 0) wr HI.out (bytesN_lt s i) (by rw [List.length_append, List.length_take]; omega) (HRR.out.grown hgr HG.out (by have := HGN.out; omega)) HG.out)
      have ET : Hid ((bytesN s).take (i + 1) = (bytesN s).take i ++ [(bytesN s).getD i 0]) := take_snoc _ (by rw [HN.out]; exact hlt)
      generalize (bytesN s).getD i 0 = b at *
      clear hgr
      go_wp2_with fail
      refine CP.out.mono ?_
      rintro e w2 ⟨rfl, hst, g2⟩
      rw [List.append_assoc, ← ET.out] at hst
      have K1 := Lib.hid hst
      have K2 := Lib.hid (grown_trans HGR.out g2)
      clear hst g2
      go_wp2_with fail
      go_roundg (s.size - (i + 1))
      case measure => omega
      case rel => exact ⟨i + 1, by omega, Nat.le_refl _, by go_num, K1, K2.out⟩
    · obtain rfl : i = s.size := by omega
      have iw : ¬ (((s.size : Nat) : Int) < (s.size : Int)) := by omega
      have K1 : Hid (St g wr (l ++ bytesN s)) := by
        have := HI.out
        rwa [← HN.out, List.take_length] at this
      clear hgr
      go_wp2_with fail
      go_end0
      exact ⟨rfl, K1.out, HGR.out⟩
theorem pend_any (g : Nat) (l : List Nat) (w : World) (h : St g w l) (hn : l.length < 100000) (hR : Roots w) (hg : 0 < g) : Calls Tryz.prog 50 #[.pointer (some ⟨g, 0, none⟩)] w fun e w' => e = .returned (.agg (toC .u32 (blocks (padL l) ((padL l).length / 64)))) ∧ w.grownBy w' (some g) := by
  have HS := Lib.hid h
  have HRR := Lib.hid hR
  have HG := Lib.hid hg
  have HGN : Hid (g < w.heap.size) := by obtain ⟨B, h1, _⟩ := h; exact h1.lt
  obtain ⟨n, hnn⟩ : ∃ n, n = l.length := ⟨_, rfl⟩
  have HNN := Lib.hid hnn
  rw [← hnn] at hn
  clear h hR hg hnn
  go_enter Tryz.func50, Tryz.ntmps50
  go_upto_region 1 with fail
  obtain ⟨RB, hRB⟩ : ∃ RB, RB = w.heap.size := ⟨_, rfl⟩
  obtain ⟨W1, hW1⟩ : ∃ W1, W1 = w.alloc (.cells #[.int .u32 0, .int .u32 0, .int .u32 0, .int .u32 0, .int .u32 0, .int .u32 0, .int .u32 0, .int .u32 0] 73) := ⟨_, rfl⟩
  rw [← hW1, ← hRB]
  have B1 : Hid (Below w.heap.size w W1) := by rw [hW1]; exact below_al (Below.refl _ _) _
  have P1 : Hid (W1.heap[RB]? = some (.cells #[.int .u32 0, .int .u32 0, .int .u32 0, .int .u32 0, .int .u32 0, .int .u32 0, .int .u32 0, .int .u32 0] 73 (0, 0))) := by show _ = _; rw [hW1, hRB]; exact heap_alloc_new _ _
  have L1 : Hid (RB < W1.heap.size) := (Array.getElem?_eq_some_iff.1 P1.out).1
  have HGB : Hid (g < RB) := by show _ < _; rw [hRB]; exact HGN.out
  have HS1 : Hid (St g W1 l) := HS.out.below B1.out
  have HR1 : Hid (Roots W1) := HRR.out.below B1.out (by have := HGN.out; omega)
  have cn : W1.cell? ⟨g, 72, none⟩ = some (.int .u64 (n : Nat)) := by
    obtain ⟨B, h1, _⟩ := HS1.out
    rw [HNN.out]
    exact h1.n
  have HRB := Lib.hid hRB
  clear hRB hW1
  go_upto_region 2 with fail
  clear cn
  have CP := Lib.hid (pput_any g l 128 W1 HS1.out (by decide) (by rw [← HNN.out]; omega) HR1.out HG.out)
  go_wp2_with fail
  refine CP.out.mono ?_
  rintro e W2 ⟨rfl, hst2, g2⟩
  obtain ⟨zn, hzn⟩ : ∃ zn, zn = zeros n := ⟨_, rfl⟩
  have zb : zn < 64 ∧ (n + 1 + zn) % 64 = 56 ∧ ∀ j, j < zn → (n + 1 + j) % 64 ≠ 56 := by
    rw [hzn]
    unfold zeros
    refine ⟨by omega, by omega, fun j hj => by omega⟩
  have HZN := Lib.hid hzn
  have HS2 : Hid (St g W2 (l ++ [128] ++ List.replicate 0 0)) := by rw [List.replicate_zero, List.append_nil]; exact hst2
  have HG2 := Lib.hid g2
  clear hst2 g2 CP hzn
  go_wp2_with fail
  go_loopg [] zn (fun g_ wr => ∃ j : Nat, j ≤ zn ∧ zn - j ≤ g_ ∧ Hid (St g wr (l ++ [128] ++ List.replicate j 0)) ∧ W1.grownBy wr (some g))
  case atStart => exact ⟨0, by omega, by omega, HS2, HG2.out⟩
  case round =>
    obtain ⟨j, hj, hgh, HI, hgr⟩ := hrel
    have HGR := Lib.hid hgr
    obtain ⟨m, hm⟩ : ∃ m, m = n + 1 + j := ⟨_, rfl⟩
    have HL : Hid ((l ++ [128] ++ List.replicate j 0).length = m) := by show _ = _; rw [List.length_append, List.length_append, List.length_replicate, ← HNN.out, hm]; rfl
    have cn : wr.cell? ⟨g, 72, none⟩ = some (.int .u64 (m : Nat)) := by
      obtain ⟨B, h1, _⟩ := HI.out
      rw [← HL.out]
      exact h1.n
    have HRW : Hid (Roots wr) := HR1.out.grown hgr HG.out (by have := L1.out; omega)
    by_cases hlt : j < zn
    · have j1 : (((m : Int) % 64) != 56) = true := by
        have := zb.2.2 j hlt
        simp
        omega
      have CP := Lib.hid (pput_any g _ 0 wr HI.out (by decide) (by rw [HL.out]; omega) HRW.out HG.out)
      rw [List.append_assoc, show (List.replicate j 0 ++ [0] : List Nat) = List.replicate (j + 1) 0 from (List.replicate_succ' ..).symm] at CP
      clear hgr hm
      go_wp2_with fail
      refine CP.out.mono ?_
      rintro e W3 ⟨rfl, hst3, g3⟩
      have K1 := Lib.hid hst3
      have K2 := Lib.hid (grown_trans HGR.out g3)
      clear hst3 g3 CP
      go_wp2_with fail
      go_roundg (zn - (j + 1))
      case measure => omega
      case rel => exact ⟨j + 1, by omega, Nat.le_refl _, K1, K2.out⟩
    · obtain rfl : zn = j := by omega
      have j1 : (((m : Int) % 64) != 56) = false := by
        have := zb.2.1
        simp
        omega
      obtain ⟨L, hL⟩ : ∃ L, L = l ++ [128] ++ List.replicate zn 0 := ⟨_, rfl⟩
      rw [← hL] at HI HL
      have HPAD : Hid (padL l = L ++ lenB n 8) := by
        show _ = _
        unfold padL
        rw [hL, ← HNN.out, HZN.out]
      have zb2 : m % 64 = 56 := by have := zb.2.1; omega
      have m1 : m ≤ 100100 := by omega
      obtain ⟨wo, hwo⟩ : ∃ wo, wo = wr := ⟨_, rfl⟩
      rw [← hwo] at HI HGR cn ⊢
      clear hgr hm hL hwo zb hlt hgh hj HRW
      go_wp2_with fail
      go_loopg [4] 8 (fun g_ i_ wr => ∃ k : Nat, k ≤ 8 ∧ 8 - k ≤ g_ ∧ i_ = .int .i64 (56 - 8 * (k : Int)) ∧ Hid (St g wr (L ++ lenB n k)) ∧ W1.grownBy wr (some g))
      case atStart => exact ⟨0, by omega, by omega, by simp, by rw [show lenB n 0 = [] from rfl, List.append_nil]; exact HI, HGR.out⟩
      case round =>
        obtain ⟨k, hk, hgh, rfl, HI2, hgr⟩ := hrel
        have HGR2 := Lib.hid hgr
        by_cases hk8 : k < 8
        · obtain ⟨sh, hsh⟩ : ∃ sh : Nat, sh = 8 * (7 - k) := ⟨_, rfl⟩
          have es : 56 - 8 * (k : Int) = (sh : Nat) := by omega
          have HK7 : Hid ((sh : Int) - 8 = 56 - 8 * ((k + 1 : Nat) : Int)) := by show _ = _; omega
          rw [es]
          have HLB : Hid (lenB n (k + 1) = lenB n k ++ [n * 8 / 2 ^ sh % 256]) := by show _ = _; rw [lenB_succ, hsh]
          have HRW : Hid (Roots wr) := HR1.out.grown hgr HG.out (by have := L1.out; omega)
          have HLL : Hid ((L ++ lenB n k).length = m + k) := by show _ = _; rw [List.length_append, HL.out, lenB, List.length_map, List.length_range]
          have CP := Lib.hid (pput_any g _ (n * 8 / 2 ^ sh % 256) wr HI2.out (Nat.mod_lt _ (by decide)) (by rw [HLL.out]; omega) HRW.out HG.out)
          rw [List.append_assoc, ← HLB.out] at CP
          have EY : ((n * 8 / 2 ^ sh % 256 : Nat) : Int) = (n : Int) * 8 / 2 ^ sh % 256 := by
            rw [Int.natCast_emod, Int.natCast_ediv, Int.natCast_mul, Int.natCast_pow]
            rfl
          rw [EY] at CP
          have i1 : (0 : Int) ≤ (sh : Int) := by omega
          have sh56 : sh ≤ 56 := by omega
          clear hgr es hsh EY
          go_wp2_with fail
          refine CP.out.mono ?_
          rintro e W3 ⟨rfl, hst3, g3⟩
          have K1 := Lib.hid hst3
          have K2 := Lib.hid (grown_trans HGR2.out g3)
          clear hst3 g3 CP
          go_wp2_with fail
          go_roundg (8 - (k + 1))
          case measure => omega
          case rel => exact ⟨k + 1, by omega, Nat.le_refl _, by rw [HK7.out], K1, K2.out⟩
        · obtain rfl : k = 8 := by omega
          have i1 : ¬ ((0 : Int) ≤ 56 - 8 * ((8 : Nat) : Int)) := by omega
          have d1 : decide ((0 : Int) ≤ 56 - 8 * ((8 : Nat) : Int)) = false := decide_eq_false i1
          rw [← HPAD.out] at HI2
          obtain ⟨B, hd, _⟩ := HI2.out
          obtain ⟨H, hH⟩ : ∃ H, H = blocks (padL l) ((padL l).length / 64) := ⟨_, rfl⟩
          have HHE := Lib.hid hH
          rw [← hH] at hd
          have LH := Lib.hid hd.load_h
          have IH : Hid ((Tryz.prog.info? 73).map (·.size) = some (H.map fun x => Value.int .u32 (x : Nat)).length) := by show _ = _; rw [List.length_map, hd.1]; exact info8
          have IH1 : Hid ((Tryz.prog.info? 73).map (·.size) = some (toC .u32 H).size) := by show _ = _; rw [toC_size, hd.1]; exact info8
          have IH2 : Hid (Z8.size = (toC .u32 H).size) := by show _ = _; rw [toC_size, hd.1]; rfl
          have PB : Hid (wr.heap[RB]? = some (.cells Z8 73 (0, 0))) := by
            refine (hgr.block RB L1.out ?_).trans P1.out
            intro e
            injection e with e
            have := HGB.out
            omega
          have HF : Hid ((wr.setRow RB (toC .u32 H)).heap[RB]? = some (.cells (toC .u32 H) 73 (0, 0))) := setRow_heap wr RB Z8 (toC .u32 H) 73 (0, 0) PB.out
          have HGF : Hid (w.grownBy (wr.setRow RB (toC .u32 H)) (some g)) := by
            have h1 := grown_trans (grown_below (grown_refl w (some g)) B1.out) hgr
            refine ⟨h1.os, h1.tape, h1.output, by rw [setRow_size]; exact h1.size, fun k hk hn => ?_⟩
            rw [setRow_other _ _ _ _ (by have := HGN.out; rw [HRB.out]; omega)]
            exact h1.block k hk hn
          clear hgr hd hH
          go_upto_region 9 with fail
          go_wp2_with (first | refine wpList_load_off rfl _ _ rfl g 0 rfl _ _ LH.out Tryz.underlying73 rfl IH.out ?_ | refine wpList_store_row rfl _ _ _ rfl RB (toC .u32 H) rfl rfl _ _ PB.out IH1.out IH2.out (toC_one _ _) ?_)
          refine bodyPost_ret (v := .agg (toC .u32 H)) ?_ rfl ⟨by rw [HHE.out], HGF.out⟩
          exact results_cell_row rfl _ _ RB _ _ _ _ rfl HF.out Tryz.underlying73 rfl IH1.out
end Go.Proofs.YtffepndeegbdoaaGreatDoor.Slt
