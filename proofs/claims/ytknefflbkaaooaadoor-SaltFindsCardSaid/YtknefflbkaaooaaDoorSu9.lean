/- Salt: Sum of the plain text. -/
import Derived.Test.YtknefflbkaaooaaDoorSq
set_option linter.unusedVariables false
set_option linter.unusedSimpArgs false
set_option maxRecDepth 100000
namespace Go.Proofs.YtknefflbkaaooaaDoor.Slt
open Go.RowKit Go.Lib Go.Proofs.YtknefflbkaaooaaDoor.Bx

set_option maxHeartbeats 100000000 in
theorem rsum_any (s : ByteArray) (w : World) (hs : s.size ≤ 10000) : Calls Tryd.prog 18 #[.string s] w fun e w' => ∃ t, e = .returned (.string t) ∧ bytesN t = sumL (bytesN s) ∧ Below w.heap.size w w' := by
  obtain ⟨n, hn⟩ : ∃ n, n = s.size := ⟨_, rfl⟩
  have HN := Lib.hid hn
  have C1 : Hid (∀ w', Calls Tryd.prog 23 #[.int .i64 8, .int .i64 2] w' (GiveO H0 w')) := fun w' => by rw [← H0_is]; exact table_own 8 2 w' (by decide) (by decide) (by decide)
  have C2 : Hid (∀ w', Calls Tryd.prog 23 #[.int .i64 64, .int .i64 3] w' (GiveO K0 w')) := fun w' => by rw [← K0_is]; exact table_own 64 3 w' (by decide) (by decide) (by decide)
  have C11 := Lib.hid (C1.out w)
  obtain ⟨s1, hs1⟩ : ∃ s1 : ByteArray, s1 = s ++ ByteArray.mk #[128] := ⟨_, rfl⟩
  have hz1 : s1.size = n + 1 := by rw [hs1, ByteArray.size_append, hn]; rfl
  have HB1 : Hid (bytesN s1 = bytesN s ++ [128]) := by show _ = _; rw [hs1, bytesN_app]; rfl
  have AD : ∀ w, (Op.stringOp .add s (ByteArray.mk #[128])).run Tryd.prog w = .ok (.string s1) w := fun w => by rw [hs1]; exact run_string_add_sum w _ _ (by show s.size + 1 ≤ _; omega)
  have CV := fun w => Lib.run_convert_string_bytes (P := Tryd.prog) w 9 43 5 s1 Tryd.underlying9 Tryd.underlying43 Tryd.underlying5
  rw [hz1] at CV
  have HZ1 := Lib.hid hz1
  rw [← hn] at hs
  clear hs1 hn hz1
  go_enter Tryd.func18, Tryd.ntmps18
  go_wp2_with fail
  refine (C11.out).mono ?_
  rintro e w1 ⟨hv, rfl, h1, b1⟩
  have K1 := Lib.hid b1
  obtain ⟨hb, hc, rfl, hbase, hl1, hm1, HH⟩ := Row8.of h1 rfl
  have HHB := Lib.hid hbase
  replace HH := Lib.hid HH
  have C21 := Lib.hid (C2.out w1)
  unfold maxLen at hm1
  clear b1 C11 C1 C2 h1 hbase
  go_wp2_with fail
  refine (C21.out).mono ?_
  rintro e w2 ⟨kv, rfl, h2, b2⟩
  have K2 := Lib.hid b2
  have e64 : K0.length = 64 := rfl
  obtain ⟨kb, kc, rfl, kbase, klt, kl1, km1, kx1⟩ := h2.at_ (by decide)
  rw [e64] at kl1 kx1 ⊢
  have HKB := Lib.hid kbase
  have HKL := Lib.hid klt
  have HKX := Lib.hid kx1
  unfold maxLen at km1
  clear b2 C21 kx1 e64 kbase klt h2
  obtain ⟨O3, B3⟩ := Rk.conv_own w2 5 s1 (by rw [HZ1.out]; omega)
  rw [HZ1.out, conv_u8s, HB1.out] at O3
  have HO3 := Lib.hid O3
  have HB3 := Lib.hid B3
  obtain ⟨cc, hcc⟩ : ∃ cc, cc = grownCap w2 (n + 1) 0 5 := ⟨_, rfl⟩
  rw [← hcc] at HO3
  have CV2 := CV w2
  rw [← hcc] at CV2
  obtain ⟨W3, hW3⟩ : ∃ W3, W3 = Lib.bytesWorld w2 5 s1 := ⟨_, rfl⟩
  rw [← hW3] at HO3 HB3 CV2
  clear CV O3 B3 hcc hW3
  go_upto_region 4 with fail
  obtain ⟨zn, hzn⟩ : ∃ zn, zn = zeros n := ⟨_, rfl⟩
  have zb : zn < 64 ∧ (n + 1 + zn) % 64 = 56 ∧ ∀ j, j < zn → (n + 1 + j) % 64 ≠ 56 := by
    rw [hzn]
    unfold zeros
    refine ⟨by omega, by omega, fun j hj => by omega⟩
  have HZN := Lib.hid hzn
  have HS8 := Lib.hid (bytesN_len s)
  rw [← HN.out] at HS8
  clear hzn
  obtain ⟨P, hP⟩ : ∃ P, P = bytesN s ++ [128] := ⟨_, rfl⟩
  rw [← hP] at HO3
  have HPE := Lib.hid hP
  clear hP
  go_loopg [5] zn (fun g b_ wr => ∃ j : Nat, j ≤ zn ∧ zn - j ≤ g ∧ (∃ a c, b_ = .slice a (n + 1 + j) c) ∧ Hid (Rk.OwnT 5 w2.heap.size wr b_ (u8s (P ++ List.replicate j 0))) ∧ Below w2.heap.size w2 wr)
  case atStart => exact ⟨0, Nat.zero_le _, by omega, ⟨_, _, rfl⟩, by rw [List.replicate_zero, List.append_nil]; exact HO3, HB3.out⟩
  case round =>
    obtain ⟨j, hj, hg, ⟨ba, bc, rfl⟩, HO, hbel⟩ := hrel
    have HB := Lib.hid hbel
    obtain ⟨_, _, e4, c1, c2⟩ := HO.out.is_slice
    injection e4 with y1 y2 y3
    rw [← y3] at c1 c2
    rw [← y2] at c1
    unfold maxLen at c2
    have HL : Hid ((u8s (P ++ List.replicate j 0)).length = n + 1 + j) := y2.symm
    clear y1 y2 y3
    obtain ⟨m, hm⟩ : ∃ m, m = n + 1 + j := ⟨_, rfl⟩
    have HM := Lib.hid hm
    by_cases hlt : j < zn
    · -- @1
      have j1 : (((m : Int) % 64) != 56) = true := by
        have := zb.2.2 j hlt
        simp
        omega
      have EQ : Hid (u8s (P ++ List.replicate (j + 1) 0) = u8s (P ++ List.replicate j 0) ++ [.int .u8 0]) := by
        show _ = _
        rw [List.replicate_succ', ← List.append_assoc, u8s_app]
        rfl
      have A1 : Hid (Rk.OwnT 5 w2.heap.size (wr.alloc (.cells #[.int .u8 0] 5)) (.slice ba (n + 1 + j) bc) (u8s (P ++ List.replicate j 0))) := HO.out.below (below_al (Below.refl _ _) _)
      have A2 : Hid ((wr.alloc (.cells #[.int .u8 0] 5)).cell? ⟨wr.heap.size, 0, none⟩ = some (.int .u8 0)) := one_cell (heap_alloc_new _ _)
      have HBY : Hid (Below w2.heap.size w2 (wr.alloc (.cells #[.int .u8 0] 5))) := below_al HB.out _
      have A4 : Hid (w2.heap.size ≤ (wr.alloc (.cells #[.int .u8 0] 5)).heap.size) := HBY.out.size
      have A3 : Hid ((u8s (P ++ List.replicate j 0)).length + 1 ≤ 100000) := by show _ ≤ _; rw [HL.out]; omega
      rw [← hm] at A1 c1 ⊢
      clear hbel hm
      go_wp2_with (at_builtin; refine Rk.wpList_append_one rfl _ _ 43 5 1 _ Tryd.underlying43 infoU8 rfl (by decide) rfl w2.heap.size _ _ ⟨wr.heap.size, 0, none⟩ _ (.int .u8 0) rfl rfl A1.out A2.out rfl A3.out A4.out ?_)
      intro v6 w9 h5 g5
      have K9 : Hid (Rk.OwnT 5 w2.heap.size w9 v6 (u8s (P ++ List.replicate (j + 1) 0))) := by
        show Rk.OwnT _ _ _ _ _
        rw [EQ.out]
        exact h5
      have HB6 := Lib.hid (A1.out.belowOf HBY.out (Nat.le_refl _) A4.out g5)
      obtain ⟨a6, c6, rfl, _, _⟩ := K9.out.is_slice
      have HL6 : Hid ((u8s (P ++ List.replicate (j + 1) 0)).length = n + 1 + (j + 1)) := by show _ = _; rw [EQ.out, List.length_append, HL.out]; rfl
      clear h5 g5 A1 A2 A3 A4 HBY EQ
      rw [HL6.out] at K9 ⊢
      go_wp2_with fail
      go_roundg (zn - (j + 1))
      case measure => omega
      case rel => exact ⟨j + 1, by omega, Nat.le_refl _, ⟨_, _, rfl⟩, K9, HB6.out⟩
    · obtain rfl : zn = j := by omega
      have j1 : (((m : Int) % 64) != 56) = false := by
        have := zb.2.1
        simp
        omega
      have m1 : m ≤ 10100 := by omega
      rw [← hm] at HO c1 HL ⊢
      obtain ⟨L, hL⟩ : ∃ L, L = P ++ List.replicate zn 0 := ⟨_, rfl⟩
      have HLE := Lib.hid hL
      rw [← hL] at HO HL
      obtain ⟨wo, hwo⟩ : ∃ wo, wo = wr := ⟨_, rfl⟩
      rw [← hwo] at HO HB ⊢
      have zb2 : m % 64 = 56 := by have := zb.2.1; omega
      clear hbel hm hL hwo zb hlt hg hj
      have hsn : s.size = n := HN.out.symm
      go_wp2_with fail
      clear hsn
      go_loopg [5, 7] 8 (fun g b_ i_ wr => ∃ k : Nat, k ≤ 8 ∧ 8 - k ≤ g ∧ i_ = .int .i64 (7 - (k : Int)) ∧ (∃ a c, b_ = .slice a (m + k) c) ∧ Hid (Rk.OwnT 5 w2.heap.size wr b_ (u8s (L ++ lenB n k))) ∧ Below w2.heap.size w2 wr)
      case atStart => exact ⟨0, by omega, by omega, by simp, ⟨_, _, rfl⟩, by rw [show lenB n 0 = [] from rfl, List.append_nil]; exact HO, HB.out⟩
      case round =>
        obtain ⟨k, hk, hg, rfl, ⟨da, dc, rfl⟩, HO2, hbel⟩ := hrel
        have HB2 := Lib.hid hbel
        by_cases hk8 : k < 8
        · -- @2
          have i1 : (0 : Int) ≤ 7 - (k : Int) := by omega
          have d1 : decide ((0 : Int) ≤ 7 - (k : Int)) = true := decide_eq_true i1
          obtain ⟨y, hy⟩ : ∃ y : Nat, y = n * 8 / 2 ^ (8 * (7 - k)) % 256 := ⟨_, rfl⟩
          have HY : Hid ((n : Int) * 8 / 2 ^ (8 * (7 - k)) % 256 = (y : Nat)) := by
            show _ = _
            rw [hy, Int.natCast_emod, Int.natCast_ediv, Int.natCast_mul, Int.natCast_pow]
            rfl
          have EQ : Hid (u8s (L ++ lenB n (k + 1)) = u8s (L ++ lenB n k) ++ [.int .u8 ((n : Int) * 8 / 2 ^ (8 * (7 - k)) % 256)]) := by
            show _ = _
            rw [lenB_succ, ← List.append_assoc, u8s_app, HY.out, hy]
            rfl
          obtain ⟨_, _, e4, c3, c4⟩ := HO2.out.is_slice
          injection e4 with y1 y2 y3
          rw [← y3] at c3 c4
          rw [← y2] at c3
          unfold maxLen at c4
          have HL2 : Hid ((u8s (L ++ lenB n k)).length = m + k) := y2.symm
          clear y1 y2 y3
          have A1 : Hid (Rk.OwnT 5 w2.heap.size (wr.alloc (.cells #[.int .u8 ((n : Int) * 8 / 2 ^ (8 * (7 - k)) % 256)] 5)) (.slice da (m + k) dc) (u8s (L ++ lenB n k))) := HO2.out.below (below_al (Below.refl _ _) _)
          have A2 : Hid ((wr.alloc (.cells #[.int .u8 ((n : Int) * 8 / 2 ^ (8 * (7 - k)) % 256)] 5)).cell? ⟨wr.heap.size, 0, none⟩ = some (.int .u8 ((n : Int) * 8 / 2 ^ (8 * (7 - k)) % 256))) := one_cell (heap_alloc_new _ _)
          have HBY2 : Hid (Below w2.heap.size w2 (wr.alloc (.cells #[.int .u8 ((n : Int) * 8 / 2 ^ (8 * (7 - k)) % 256)] 5))) := below_al HB2.out _
          have A4 : Hid (w2.heap.size ≤ (wr.alloc (.cells #[.int .u8 ((n : Int) * 8 / 2 ^ (8 * (7 - k)) % 256)] 5)).heap.size) := HBY2.out.size
          have A3 : Hid ((u8s (L ++ lenB n k)).length + 1 ≤ 100000) := by show _ ≤ _; rw [HL2.out]; omega
          have HK7 : Hid (7 - (k : Int) - 1 = 7 - ((k + 1 : Nat) : Int)) := by show _ = _; omega
          clear hbel hy
          go_wp2_with (at_builtin; refine Rk.wpList_append_one rfl _ _ 43 5 1 _ Tryd.underlying43 infoU8 rfl (by decide) rfl w2.heap.size _ _ ⟨wr.heap.size, 0, none⟩ _ (.int .u8 ((n : Int) * 8 / 2 ^ (8 * (7 - k)) % 256)) rfl rfl A1.out A2.out rfl A3.out A4.out ?_)
          intro v6 w9 h5 g5
          have K9 : Hid (Rk.OwnT 5 w2.heap.size w9 v6 (u8s (L ++ lenB n (k + 1)))) := by
            show Rk.OwnT _ _ _ _ _
            rw [EQ.out]
            exact h5
          have HB6 := Lib.hid (A1.out.belowOf HBY2.out (Nat.le_refl _) A4.out g5)
          obtain ⟨a6, c6, rfl, _, _⟩ := K9.out.is_slice
          have HL6 : Hid ((u8s (L ++ lenB n (k + 1))).length = m + (k + 1)) := by show _ = _; rw [EQ.out, List.length_append, HL2.out]; rfl
          clear h5 g5 A1 A2 A3 A4 HBY2 EQ
          rw [HL6.out] at K9 ⊢
          go_wp2_with fail
          go_roundg (8 - (k + 1))
          case measure => omega
          case rel => exact ⟨k + 1, by omega, Nat.le_refl _, by rw [HK7.out], ⟨_, _, rfl⟩, K9, HB6.out⟩
        · obtain rfl : k = 8 := by omega
          have i1 : ¬ ((0 : Int) ≤ 7 - ((8 : Nat) : Int)) := by omega
          have d1 : decide ((0 : Int) ≤ 7 - ((8 : Nat) : Int)) = false := decide_eq_false i1
          obtain ⟨N, hN⟩ : ∃ N, N = m + 8 := ⟨_, rfl⟩
          obtain ⟨B, hB⟩ : ∃ B, B = L ++ lenB n 8 := ⟨_, rfl⟩
          have HPAD : Hid (padL (bytesN s) = B) := by
            show _ = _
            unfold padL
            rw [HS8.out, hB, HLE.out, HPE.out, HZN.out]
          have HBL : Hid (B.length = N) := by
            show _ = _
            have := HL.out
            rw [u8s_len] at this
            rw [hB, hN, List.length_append, this]
            rfl
          have HB8 : Hid (B8 B) := by show B8 B; rw [← HPAD.out]; exact pad_ok s
          rw [← hB] at HO2
          rw [← hN] at HO2 ⊢
          have hN2 : N % 64 = 0 ∧ 64 ≤ N ∧ N ≤ 10200 := by omega
          obtain ⟨bb, rfl, hbb⟩ : ∃ bb, da = some ⟨bb, 0, none⟩ ∧ w2.heap.size ≤ bb := by
            obtain ⟨g, cap, cur, fz, e1, h1, _⟩ := HO2.out
            injection e1 with e1 _ _
            exact ⟨g, e1, h1⟩
          obtain ⟨nb, hnb⟩ : ∃ nb, N = 64 * nb := ⟨N / 64, by omega⟩
          obtain ⟨wz, hwz⟩ : ∃ wz, wz = wr := ⟨_, rfl⟩
          rw [← hwz] at HO2 HB2 ⊢
          have hbk : hb < w1.heap.size := HH.out.lt
          have HKC : Hid (∀ w', wz.grownBy w' (some hb) → ∀ t, t < 64 → w'.cell? ⟨kb, t, none⟩ = some (.int .u32 (K0.getD t 0 : Nat))) := fun w' h t ht =>
            grown_cell h (Nat.lt_of_lt_of_le HKL.out HB2.out.size) (by have := HKB.out; omega) (vcell HB2.out HKL.out (HKX.out t ht))
          have HBC : Hid (∀ w', wz.grownBy w' (some hb) → ∀ j, j < N → w'.cell? ⟨bb, j, none⟩ = some (.int .u8 (B.getD j 0 : Nat))) := fun w' h j hj => by
            have hj' : j < (u8s B).length := by rw [u8s_len, HBL.out]; exact hj
            obtain ⟨g, e1, hg, hc⟩ := HO2.out.cell hj'
            injection e1 with e1
            injection e1 with e1 _ _
            subst e1
            rw [u8s_get hj'] at hc
            exact grown_cell h hg (by have := HKB.out; have := HKL.out; omega) hc
          have HRW : Hid (Row8 hb wz (blocks B 0)) := (HH.out.below K2.out).below HB2.out
          have HWZ : Hid (Below w.heap.size w wz) := below_on (below_on K1.out K2.out) HB2.out
          obtain ⟨_, _, e4, c3, c4⟩ := HO2.out.is_slice
          injection e4 with y1 y2 y3
          rw [← y3] at c3 c4
          rw [u8s_len, HBL.out] at c3
          unfold maxLen at c4
          have HSIZE : Hid (w.heap.size ≤ wz.heap.size) := HWZ.out.size
          clear y1 y2 y3 hN hB hwz hbel HO2 HKX HKL HKB hbk hbb HB K1 K2 HB2 HO3 HB3 HH HLE HPE HL HO
          go_wp2_with fail
          go_loopg [8] nb (fun g a_ wr => ∃ q : Nat, q ≤ nb ∧ nb - q ≤ g ∧ a_ = .int .i64 ((64 * q : Nat) : Int) ∧ Hid (Row8 hb wr (blocks B q)) ∧ wz.grownBy wr (some hb))
          case atStart => exact ⟨0, Nat.zero_le _, by omega, rfl, HRW, grown_refl _ _⟩
          case round =>
            obtain ⟨q, hq, hg, rfl, HR, hgr⟩ := hrel
            have HG := Lib.hid hgr
            by_cases hqn : q < nb
            · -- @5
              have i1 : (((64 * q : Nat) : Int) < (N : Int)) := by omega
              obtain ⟨i0, hi0, hz0, hz1, hz2⟩ := Rk.kparts infoU32
              have A2 : Hid (i0.bytes * 64 ≤ 281474976710656) := by show _ ≤ _; rw [hz2]; omega
              have A3 : Hid (64 ≤ maxLen) := by show _ ≤ _; unfold maxLen; omega
              obtain ⟨wq, hwq⟩ : ∃ wq, wq = wr := ⟨_, rfl⟩
              rw [← hwq] at HR HG ⊢
              clear hgr hwq
              go_wp2_with (at_make; refine wpList_make_full _ rfl _ _ 48 rfl wq.heap.size 31 i0 (.int .u32 0) 1 Tryd.underlying48 hi0 hz0 hz1 .i64 .i64 _ _ 64 rfl rfl (by first | rfl | (simp; done)) (by first | rfl | (simp; done)) A2.out A3.out (Nat.le_refl _) ?_)
              intro w4 hown hgro
              have hblk := made32 hown
              have HB4 : Hid (Below wq.heap.size wq w4) := ⟨hgro.os, hgro.tape, hgro.output, hgro.size, fun k hk => hgro.block k hk (by simp)⟩
              obtain ⟨wb, hwb⟩ : ∃ wb, wb = wq.heap.size := ⟨_, rfl⟩
              rw [← hwb] at hblk ⊢
              have HWB := Lib.hid hwb
              have HS0 : Hid (w4.heap[wb]? = some (.cells (toC .u32 (sched B (64 * q) 0)) 31 (0, 0))) := hblk
              clear hown hgro hblk hwb A2 A3 hi0 hz0 hz1 hz2
              go_wp2_with fail
              go_loopg [10] 64 (fun g t_ wr => ∃ t : Nat, t ≤ 64 ∧ 64 - t ≤ g ∧ t_ = .int .i64 t ∧ Hid (wr.heap[wb]? = some (.cells (toC .u32 (sched B (64 * q) t)) 31 (0, 0))) ∧ Below wq.heap.size wq wr)
              case atStart => exact ⟨0, by omega, by omega, rfl, HS0, HB4.out⟩
              case round =>
                obtain ⟨t, ht, hg2, rfl, HS, hbel⟩ := hrel
                have HB := Lib.hid hbel
                by_cases ht64 : t < 64
                · -- @3
                  have hsl : t < (sched B (64 * q) t).length := by rw [sched_len]; exact ht64
                  have cw := toC_cell HS.out hsl
                  have fw := free_at (i := t) HS.out
                  have SE : Hid (sched B (64 * q) (t + 1) = (sched B (64 * q) t).set t (if t < 16 then wordN B (64 * q + 4 * t) else wNext (sched B (64 * q) t) t)) := rfl
                  have HSO : Hid (B32 (sched B (64 * q) t)) := sched_ok HB8.out _ _
                  have HSL : Hid ((sched B (64 * q) t).length = 64) := sched_len _ _ _
                  generalize sched B (64 * q) t = S at *
                  have iw : ((t : Nat) : Int) < 64 := by omega
                  by_cases ht16 : t < 16
                  · rw [if_pos ht16] at SE
                    obtain ⟨j, hj⟩ : ∃ j, j = 64 * q + 4 * t := ⟨_, rfl⟩
                    have jn : j + 3 < N := by omega
                    have HGR : Hid (wz.grownBy wr (some hb)) := grown_below HG.out hbel
                    have cb0 := HBC.out wr HGR.out j (by omega)
                    have cb1 := HBC.out wr HGR.out (j + 1) (by omega)
                    have cb2 := HBC.out wr HGR.out (j + 2) (by omega)
                    have cb3 := HBC.out wr HGR.out (j + 3) (by omega)
                    have x0 := HB8.out j
                    have x1 := HB8.out (j + 1)
                    have x2 := HB8.out (j + 2)
                    have x3 := HB8.out (j + 3)
                    rw [← hj] at SE
                    have HWN : Hid (wordN B j = ((B.getD j 0 * 16777216 ||| B.getD (j + 1) 0 * 65536) ||| B.getD (j + 2) 0 * 256) ||| B.getD (j + 3) 0) := rfl
                    generalize B.getD j 0 = y0 at *
                    generalize B.getD (j + 1) 0 = y1 at *
                    generalize B.getD (j + 2) 0 = y2 at *
                    generalize B.getD (j + 3) 0 = y3 at *
                    clear hbel
                    go_upto_region 19 with fail
                    go_cut [11] from 64 to 67 (fun x wx => x = .int .i64 (j : Nat) ∧ wx = wr)
                    case first =>
                      go_wp2_with fail
                      go_meet
                      exact ⟨by rw [hj]; first | rfl | (congr 1; omega), rfl⟩
                    case rest =>
                      obtain ⟨rfl, rfl⟩ := hcut
                      clear hj
                      as_aux_lemma =>
                        go_upto_region 20 with fail
                        go_region
                        go_wp2_with fail
                        go_roundg (64 - (t + 1))
                        case measure => omega
                        case rel =>
                          have HE : bits .or .u32 (bits .or .u32 (bits .or .u32 ((y0 : Int) * 16777216) ((y1 : Int) * 65536)) ((y2 : Int) * 256)) (y3 : Int) = ((wordN B j : Nat) : Int) := by
                            rw [HWN.out]
                            exact word_bits x0 x1 x2 x3
                          have HS2 : (wc.setCell ⟨wb, t, none⟩ (.int .u32 ((wordN B j : Nat) : Int))).heap[wb]? = some (.cells (toC .u32 (sched B (64 * q) (t + 1))) 31 (0, 0)) := by
                            rw [SE.out, set_block HS.out, toC_set]
                          rw [HE]
                          exact ⟨t + 1, by omega, Nat.le_refl _, by go_num, HS2, (below_put HB.out (by have := HWB.out; omega) _).drew⟩
                  · rw [if_neg ht16] at SE
                    have e15 : ((t : Int) - 15).toNat = t - 15 := by omega
                    have e2 : ((t : Int) - 2).toNat = t - 2 := by omega
                    have cx := toC_cell HS.out (i := t - 15) (by have := HSL.out; omega)
                    have cy := toC_cell HS.out (i := t - 2) (by have := HSL.out; omega)
                    have gx : S[t - 15]'(by have := HSL.out; omega) = S.getD (t - 15) 0 := by rw [List.getD_eq_getElem?_getD, List.getElem?_eq_getElem]; rfl
                    have gy : S[t - 2]'(by have := HSL.out; omega) = S.getD (t - 2) 0 := by rw [List.getD_eq_getElem?_getD, List.getElem?_eq_getElem]; rfl
                    rw [gx] at cx
                    rw [gy] at cy
                    have bx := HSO.out (t - 15)
                    have by_ := HSO.out (t - 2)
                    have HWX : Hid (wNext S t = add32 (add32 (add32 (S.getD (t - 16) 0) (small0 (S.getD (t - 15) 0))) (S.getD (t - 7) 0)) (small1 (S.getD (t - 2) 0))) := rfl
                    generalize S.getD (t - 15) 0 = x at *
                    generalize S.getD (t - 2) 0 = y at *
                    clear gx gy hbel
                    go_upto_region 21 with fail
                    go_cut [12] from 100 to 105 (fun a wx => a = .int .u32 (x : Nat) ∧ wx = wr)
                    case first =>
                      go_wp2_with fail
                      go_meet
                      exact ⟨rfl, rfl⟩
                    case rest =>
                      obtain ⟨rfl, rfl⟩ := hcut
                      go_upto_region 22 with fail
                      go_cut [13] from 105 to 110 (fun a wx => a = .int .u32 (y : Nat) ∧ wx = wc)
                      case first =>
                        go_wp2_with fail
                        go_meet
                        exact ⟨rfl, rfl⟩
                      case rest =>
                        obtain ⟨rfl, rfl⟩ := hcut
                        have e16 : ((t : Int) - 16).toNat = t - 16 := by omega
                        have e7 : ((t : Int) - 7).toNat = t - 7 := by omega
                        have c16 := toC_cell HS.out (i := t - 16) (by have := HSL.out; omega)
                        have c7 := toC_cell HS.out (i := t - 7) (by have := HSL.out; omega)
                        have g16 : S[t - 16]'(by have := HSL.out; omega) = S.getD (t - 16) 0 := by rw [List.getD_eq_getElem?_getD, List.getElem?_eq_getElem]; rfl
                        have g7 : S[t - 7]'(by have := HSL.out; omega) = S.getD (t - 7) 0 := by rw [List.getD_eq_getElem?_getD, List.getElem?_eq_getElem]; rfl
                        rw [g16] at c16
                        rw [g7] at c7
                        have b16 := HSO.out (t - 16)
                        have b7 := HSO.out (t - 7)
                        generalize S.getD (t - 16) 0 = z at *
                        generalize S.getD (t - 7) 0 = u at *
                        have T7 : Hid (∀ w', Calls Tryd.prog 24 #[.int .u32 (x : Nat), .int .i64 7] w' fun e w'' => e = .returned (.int .u32 (turnN x 7 : Nat)) ∧ Below w'.heap.size w' w'') := fun w' => turn_any x 7 w' bx (by decide) (by decide)
                        have T18 : Hid (∀ w', Calls Tryd.prog 24 #[.int .u32 (x : Nat), .int .i64 18] w' fun e w'' => e = .returned (.int .u32 (turnN x 18 : Nat)) ∧ Below w'.heap.size w' w'') := fun w' => turn_any x 18 w' bx (by decide) (by decide)
                        have T17 : Hid (∀ w', Calls Tryd.prog 24 #[.int .u32 (y : Nat), .int .i64 17] w' fun e w'' => e = .returned (.int .u32 (turnN y 17 : Nat)) ∧ Below w'.heap.size w' w'') := fun w' => turn_any y 17 w' by_ (by decide) (by decide)
                        have T19 : Hid (∀ w', Calls Tryd.prog 24 #[.int .u32 (y : Nat), .int .i64 19] w' fun e w'' => e = .returned (.int .u32 (turnN y 19 : Nat)) ∧ Below w'.heap.size w' w'') := fun w' => turn_any y 19 w' by_ (by decide) (by decide)
                        obtain ⟨wo, hwo⟩ : ∃ wo, wo = wc := ⟨_, rfl⟩
                        rw [← hwo] at HS HB c16 c7 cw fw ⊢
                        have HLT : Hid (wb < wo.heap.size) := (Array.getElem?_eq_some_iff.1 HS.out).1
                        have BY : Hid (∀ w', Below wo.heap.size wo w' → w'.cell? ⟨wb, t - 16, none⟩ = some (.int .u32 (z : Nat)) ∧ w'.cell? ⟨wb, t - 7, none⟩ = some (.int .u32 (u : Nat))) := fun w' hb => ⟨vcell hb HLT.out c16, vcell hb HLT.out c7⟩
                        have BP : Hid (∀ (w' : World) (v : Value), Below wo.heap.size wo w' → (w'.setCell ⟨wb, t, none⟩ v).cell? ⟨wb, t - 16, none⟩ = some (.int .u32 (z : Nat)) ∧ (w'.setCell ⟨wb, t, none⟩ v).cell? ⟨wb, t - 7, none⟩ = some (.int .u32 (u : Nat))) := fun w' v hb => by
                          refine ⟨?_, ?_⟩
                          · rw [cell_put_ne (by omega)]; exact vcell hb HLT.out c16
                          · rw [cell_put_ne (by omega)]; exact vcell hb HLT.out c7
                        have BT : Hid (∀ w', Below wo.heap.size wo w' → w'.cell? ⟨wb, t, none⟩ = some (.int .u32 (S[t] : Nat)) ∧ w'.frozen? ⟨wb, t, none⟩ = false) := fun w' hb => by
                          have hr := (hb.block _ HLT.out).trans HS.out
                          exact ⟨toC_cell hr hsl, free_at hr⟩
                        have KV : Hid (Below wo.heap.size wo wo) := Below.refl _ _
                        have n1 : (0 : Int) ≤ (t : Int) - 16 := by omega
                        have n2 : (t : Int) - 16 < 64 := by omega
                        have n3 : (0 : Int) ≤ (t : Int) - 7 := by omega
                        have n4 : (t : Int) - 7 < 64 := by omega
                        have n5 : IntKind.i64.wrap ((t : Int) - 16) = (t : Int) - 16 := IntWalk.i64_in _ (by omega)
                        have n6 : IntKind.i64.wrap ((t : Int) - 7) = (t : Int) - 7 := IntWalk.i64_in _ (by omega)
                        have n7 : (0 : Int) ≤ (t : Int) := by omega
                        have n8 : (7 : Int) ≤ (t : Int) := by omega
                        have n9 : 7 ≤ t := by omega
                        clear hwo g16 g7 cx cy e15 e2
                        as_aux_lemma =>
                          go_upto_region 23 with fail
                          go_region_held3 (fun w' => w'.cell? ⟨wb, t - 16, none⟩ = some (.int .u32 (z : Nat)) ∧ w'.cell? ⟨wb, t - 7, none⟩ = some (.int .u32 (u : Nat)))
                            (first | ((with_reducible refine BY.out _ ?_); focus ((repeat first | with_reducible assumption | with_reducible exact KV.out | with_reducible apply Below.drew | with_reducible apply below_drews); done)) | ((with_reducible refine BP.out _ _ ?_); focus ((repeat first | with_reducible assumption | with_reducible exact KV.out | with_reducible apply Below.drew | with_reducible apply below_drews); done)))
                            (first
                              | (go_at_call 24; (with_reducible refine (T7.out _).mono ?_); rintro e wra ⟨rfl, bra⟩; have kra := fun h => below_on (B := wo.heap.size) (w := wo) h bra (Nat.le_refl _); replace kra := kra (by (repeat first | with_reducible assumption | with_reducible exact KV.out | with_reducible apply Below.drew | with_reducible apply below_drews)); obtain ⟨ct, ft⟩ := BT.out wra kra; clear bra)
                              | (go_at_call 24; (with_reducible refine (T18.out _).mono ?_); rintro e wrb ⟨rfl, brb⟩; have krb := fun h => below_on (B := wo.heap.size) (w := wo) h brb (Nat.le_refl _); replace krb := krb (by (repeat first | with_reducible assumption | with_reducible exact KV.out | with_reducible apply Below.drew | with_reducible apply below_drews)); obtain ⟨ct, ft⟩ := BT.out wrb krb; clear brb)
                              | (go_at_call 24; (with_reducible refine (T17.out _).mono ?_); rintro e wrc ⟨rfl, brc⟩; have krc := fun h => below_on (B := wo.heap.size) (w := wo) h brc (Nat.le_refl _); replace krc := krc (by (repeat first | with_reducible assumption | with_reducible exact KV.out | with_reducible apply Below.drew | with_reducible apply below_drews)); obtain ⟨ct, ft⟩ := BT.out wrc krc; clear brc)
                              | (go_at_call 24; (with_reducible refine (T19.out _).mono ?_); rintro e wrd ⟨rfl, brd⟩; have krd := fun h => below_on (B := wo.heap.size) (w := wo) h brd (Nat.le_refl _); replace krd := krd (by (repeat first | with_reducible assumption | with_reducible exact KV.out | with_reducible apply Below.drew | with_reducible apply below_drews)); obtain ⟨ct, ft⟩ := BT.out wrd krd; clear brd))
                          go_wp2_with fail
                          go_roundg (64 - (t + 1))
                          case measure => omega
                          case rel =>
                            have EN := next_bits z u bx by_
                            rw [← HWX.out] at EN
                            have HSV : ∀ (w' : World) (v : Int), Below wo.heap.size wo w' → v = ((wNext S t : Nat) : Int) → (w'.setCell ⟨wb, t, none⟩ (.int .u32 v)).heap[wb]? = some (.cells (toC .u32 (sched B (64 * q) (t + 1))) 31 (0, 0)) := fun w' v hb hv => by
                              rw [hv, SE.out, ← toC_set]
                              exact set_block ((hb.block _ HLT.out).trans HS.out)
                            exact ⟨t + 1, by omega, Nat.le_refl _, by go_num, Lib.hid (HSV _ _ (by assumption) EN), below_put (below_on HB.out (by assumption) (Nat.le_refl _)) (by have := HWB.out; omega) _⟩
                · obtain rfl : t = 64 := by omega
                  have iw : ¬ (((64 : Nat) : Int) < 64) := by omega
                  obtain ⟨S, hS⟩ : ∃ S, S = sched B (64 * q) 64 := ⟨_, rfl⟩
                  have HSO : Hid (B32 S) := by rw [hS]; exact sched_ok HB8.out _ _
                  have HSL : Hid (S.length = 64) := by rw [hS]; exact sched_len _ _ _
                  rw [← hS] at HS
                  have HSE := Lib.hid hS
                  obtain ⟨H, hH⟩ : ∃ H, H = blocks B q := ⟨_, rfl⟩
                  rw [← hH] at HR
                  have HHO : Hid (B32 H) := by rw [hH]; exact blocks_ok B q
                  have HBE : Hid (blocks B (q + 1) = List.zipWith add32 H (rounds S H 64)) := by
                    show _ = _
                    rw [hS, hH]
                    rfl
                  have HH8 : Hid (H.length = 8) := HR.out.1
                  obtain ⟨wv, hwv⟩ : ∃ wv, wv = wr := ⟨_, rfl⟩
                  rw [← hwv] at HS HB ⊢
                  have HRV : Hid (Row8 hb wv H) := HR.out.below HB.out
                  have A1 : Hid (Rk.OwnK 31 1 wv.heap.size (wv.alloc (.cells #[] 31)) (.slice (some ⟨wv.heap.size, 0, none⟩) 0 0) []) := own_empty (Nat.le_refl _) (heap_alloc_new _ _)
                  have A2 : Hid (Rk.RowK 1 (wv.alloc (.cells #[] 31)) (.slice (some ⟨hb, 0, none⟩) 8 hc) (H.map fun x => [.int .u32 (x : Nat)])) := (HRV.out.below (below_al (Below.refl _ _) _)).rowk hl1 (by unfold maxLen; omega)
                  have A3 : Hid (∀ y ∈ H.map fun x => [Value.int .u32 (x : Nat)], ∀ q ∈ y, q.oneCell' = true) := fun y hy q hq => by
                    obtain ⟨x, _, rfl⟩ := List.mem_map.1 hy
                    simp only [List.mem_singleton] at hq
                    subst hq
                    rfl
                  have A4 : Hid (([] : List (List Value)).length + (H.map fun x => [Value.int .u32 (x : Nat)]).length ≤ 100000) := by show _ ≤ _; rw [List.length_map, HH8.out]; decide
                  have A5 : Hid (wv.heap.size ≤ (wv.alloc (.cells #[] 31)).heap.size) := by show _ ≤ _; simp
                  clear hbel hwv hS hH HS0 HR
                  go_wp2_with (at_builtin; refine Rk.wpList_append_rowk rfl _ _ 48 31 1 4 _ Tryd.underlying48 infoU32 rfl (by decide) (by decide) rfl wv.heap.size _ _ [] _ rfl rfl A1.out A2.out A3.out A4.out A5.out ?_)
                  intro v6 w9 h5 g5 k5
                  have BV : Hid (Below wv.heap.size wv w9) := A1.out.belowOf (below_al (Below.refl _ _) _) (Nat.le_refl _) A5.out g5
                  obtain ⟨vb0, vc0, rfl, vbase, vl0, vm0, RV0⟩ := Row8.of (e := 31) (H := H) h5 HH8.out
                  have HRV0 := Lib.hid RV0
                  have HVB := Lib.hid vbase
                  unfold maxLen at vm0
                  have vm1 : vc0 ≤ 9223372036854775807 := by omega
                  clear h5 g5 k5 A1 A2 A3 A4 A5 RV0 vbase
                  obtain ⟨wx, hwx⟩ : ∃ wx, wx = w9 := ⟨_, rfl⟩
                  rw [← hwx] at BV HRV0 ⊢
                  clear hwx
                  have HKX : Hid (∀ w', Below wx.heap.size wx w' → ∀ t, t < 64 → w'.cell? ⟨kb, t, none⟩ = some (.int .u32 (K0.getD t 0 : Nat)) ∧ w'.cell? ⟨wb, t, none⟩ = some (.int .u32 (S.getD t 0 : Nat))) := fun w' hw t ht => by
                    have b1 := below_on BV.out hw
                    have hs : wb < wv.heap.size := (Array.getElem?_eq_some_iff.1 HS.out).1
                    refine ⟨HKC.out w' (grown_below HG.out (below_on HB.out b1)) t ht, ?_⟩
                    have hts : t < S.length := by rw [HSL.out]; exact ht
                    have := vcell b1 hs (toC_cell HS.out hts)
                    rw [this, List.getD_eq_getElem?_getD, List.getElem?_eq_getElem hts]
                    rfl
                  go_wp2_with fail
                  go_loopg [14, 15] 64 (fun g v_ t_ wr => ∃ (t vb vc : Nat), t ≤ 64 ∧ 64 - t ≤ g ∧ t_ = .int .i64 t ∧ v_ = .slice (some ⟨vb, 0, none⟩) 8 vc ∧ (8 ≤ vc ∧ vc ≤ 9223372036854775807) ∧ Hid (Row8 vb wr (rounds S H t)) ∧ wv.heap.size ≤ vb ∧ Below wx.heap.size wx wr)
                  case atStart => exact ⟨0, vb0, vc0, by omega, by omega, rfl, rfl, ⟨vl0, vm1⟩, HRV0, HVB.out, Below.refl _ _⟩
                  case round =>
                    obtain ⟨t, vb, vc, ht, hg2, rfl, rfl, ⟨vl, vm⟩, HV, hvb, hbel⟩ := hrel
                    have HBX := Lib.hid hbel
                    have HVBB := Lib.hid hvb
                    have HVO : Hid (B32 (rounds S H t)) := rounds_ok S HHO.out t
                    have HV1 : Hid (rounds S H (t + 1) = stepV (rounds S H t) (oneN (rounds S H t) (K0.getD t 0) (S.getD t 0)) (twoN (rounds S H t))) := rfl
                    by_cases htt : t < 64
                    · -- @4
                      have iw : ((t : Nat) : Int) < 64 := by omega
                      have n7 : (0 : Int) ≤ (t : Int) := by omega
                      obtain ⟨kt, hkt⟩ : ∃ kt, kt = K0.getD t 0 := ⟨_, rfl⟩
                      obtain ⟨st, hst⟩ : ∃ st, st = S.getD t 0 := ⟨_, rfl⟩
                      obtain ⟨V, hV⟩ : ∃ V, V = rounds S H t := ⟨_, rfl⟩
                      rw [← hkt, ← hst, ← hV] at HV1
                      rw [← hV] at HV HVO
                      obtain ⟨wo, hwo⟩ : ∃ wo, wo = wr := ⟨_, rfl⟩
                      rw [← hwo] at HV HBX ⊢
                      have HKT : Hid (∀ w', Below wo.heap.size wo w' → w'.cell? ⟨kb, t, none⟩ = some (.int .u32 (kt : Nat)) ∧ w'.cell? ⟨wb, t, none⟩ = some (.int .u32 (st : Nat))) := fun w' hw => by
                        rw [hkt, hst]
                        exact HKX.out w' (below_on HBX.out hw) t htt
                      have HV8 : Hid (∀ w', Below wo.heap.size wo w' → w'.cell? ⟨vb, 0, none⟩ = some (.int .u32 (V.getD 0 0 : Nat)) ∧ w'.cell? ⟨vb, 1, none⟩ = some (.int .u32 (V.getD 1 0 : Nat)) ∧ w'.cell? ⟨vb, 2, none⟩ = some (.int .u32 (V.getD 2 0 : Nat)) ∧ w'.cell? ⟨vb, 3, none⟩ = some (.int .u32 (V.getD 3 0 : Nat)) ∧ w'.cell? ⟨vb, 4, none⟩ = some (.int .u32 (V.getD 4 0 : Nat)) ∧ w'.cell? ⟨vb, 5, none⟩ = some (.int .u32 (V.getD 5 0 : Nat)) ∧ w'.cell? ⟨vb, 6, none⟩ = some (.int .u32 (V.getD 6 0 : Nat)) ∧ w'.cell? ⟨vb, 7, none⟩ = some (.int .u32 (V.getD 7 0 : Nat))) := fun w' hw => by
                        have h := HV.out.below hw
                        exact ⟨h.cell (by decide), h.cell (by decide), h.cell (by decide), h.cell (by decide), h.cell (by decide), h.cell (by decide), h.cell (by decide), h.cell (by decide)⟩
                      have u0 := HVO.out 0
                      have u1 := HVO.out 1
                      have u2 := HVO.out 2
                      have u3 := HVO.out 3
                      have u4 := HVO.out 4
                      have u5 := HVO.out 5
                      have u6 := HVO.out 6
                      have u7 := HVO.out 7
                      have HONE : Hid (oneN V kt st = add32 (add32 (add32 (add32 (V.getD 7 0) (big1 (V.getD 4 0))) ((V.getD 4 0 &&& V.getD 5 0) ||| (not32 (V.getD 4 0) &&& V.getD 6 0))) kt) st) := rfl
                      have HTWO : Hid (twoN V = add32 (big0 (V.getD 0 0)) (((V.getD 0 0 &&& V.getD 1 0) ||| (V.getD 0 0 &&& V.getD 2 0)) ||| (V.getD 1 0 &&& V.getD 2 0))) := rfl
                      have HSTV : Hid (∀ one two, stepV V one two = [add32 one two, V.getD 0 0, V.getD 1 0, V.getD 2 0, add32 (V.getD 3 0) one, V.getD 4 0, V.getD 5 0, V.getD 6 0]) := fun _ _ => rfl
                      generalize V.getD 0 0 = v0 at *
                      generalize V.getD 1 0 = v1 at *
                      generalize V.getD 2 0 = v2 at *
                      generalize V.getD 3 0 = v3 at *
                      generalize V.getD 4 0 = v4 at *
                      generalize V.getD 5 0 = v5 at *
                      generalize V.getD 6 0 = v6 at *
                      generalize V.getD 7 0 = v7 at *
                      obtain ⟨one, hone⟩ : ∃ one, one = oneN V kt st := ⟨_, rfl⟩
                      obtain ⟨two, htwo⟩ : ∃ two, two = twoN V := ⟨_, rfl⟩
                      rw [← hone] at HONE HV1
                      rw [← htwo] at HTWO HV1
                      rw [HSTV.out] at HV1
                      obtain ⟨c0, c1, c2, c3, c4, c5, c6, c7⟩ := HV8.out wo (Below.refl _ _)
                      obtain ⟨ck, cs⟩ := HKT.out wo (Below.refl _ _)
                      have KV : Hid (Below wo.heap.size wo wo) := Below.refl _ _
                      have T6 : Hid (∀ w', Calls Tryd.prog 24 #[.int .u32 (v4 : Nat), .int .i64 6] w' fun e w'' => e = .returned (.int .u32 (turnN v4 6 : Nat)) ∧ ∃ m, w'' = w'.drewN m) := fun w' => turnq_any v4 6 w' u4 (by decide) (by decide)
                      have T11 : Hid (∀ w', Calls Tryd.prog 24 #[.int .u32 (v4 : Nat), .int .i64 11] w' fun e w'' => e = .returned (.int .u32 (turnN v4 11 : Nat)) ∧ ∃ m, w'' = w'.drewN m) := fun w' => turnq_any v4 11 w' u4 (by decide) (by decide)
                      have T25 : Hid (∀ w', Calls Tryd.prog 24 #[.int .u32 (v4 : Nat), .int .i64 25] w' fun e w'' => e = .returned (.int .u32 (turnN v4 25 : Nat)) ∧ ∃ m, w'' = w'.drewN m) := fun w' => turnq_any v4 25 w' u4 (by decide) (by decide)
                      have T2 : Hid (∀ w', Calls Tryd.prog 24 #[.int .u32 (v0 : Nat), .int .i64 2] w' fun e w'' => e = .returned (.int .u32 (turnN v0 2 : Nat)) ∧ ∃ m, w'' = w'.drewN m) := fun w' => turnq_any v0 2 w' u0 (by decide) (by decide)
                      have T13 : Hid (∀ w', Calls Tryd.prog 24 #[.int .u32 (v0 : Nat), .int .i64 13] w' fun e w'' => e = .returned (.int .u32 (turnN v0 13 : Nat)) ∧ ∃ m, w'' = w'.drewN m) := fun w' => turnq_any v0 13 w' u0 (by decide) (by decide)
                      have T22 : Hid (∀ w', Calls Tryd.prog 24 #[.int .u32 (v0 : Nat), .int .i64 22] w' fun e w'' => e = .returned (.int .u32 (turnN v0 22 : Nat)) ∧ ∃ m, w'' = w'.drewN m) := fun w' => turnq_any v0 22 w' u0 (by decide) (by decide)
                      have BY30 : Hid (∀ w', Below wo.heap.size wo w' → w'.cell? ⟨vb, 7, none⟩ = some (.int .u32 (v7 : Nat)) ∧ w'.cell? ⟨vb, 5, none⟩ = some (.int .u32 (v5 : Nat)) ∧ w'.cell? ⟨vb, 6, none⟩ = some (.int .u32 (v6 : Nat)) ∧ w'.cell? ⟨kb, t, none⟩ = some (.int .u32 (kt : Nat)) ∧ w'.cell? ⟨wb, t, none⟩ = some (.int .u32 (st : Nat))) := fun w' hw => by
                        obtain ⟨c0, c1, c2, c3, c4, c5, c6, c7⟩ := HV8.out w' hw
                        obtain ⟨ck, cs⟩ := HKT.out w' hw
                        exact ⟨c7, c5, c6, ck, cs⟩
                      clear hkt hst hV hwo hone htwo hbel hvb
                      go_upto_region 30 with fail
                      go_cut [18] from 155 to 190 (fun x wy => x = .int .u32 (one : Nat) ∧ Hid (Below wo.heap.size wo wy))
                      case first =>
                        as_aux_lemma =>
                          go_quiet ((first | (go_at_call 24; with_reducible exact Calls.quiet_of (T6.out _)) | (go_at_call 24; with_reducible exact Calls.quiet_of (T11.out _)) | (go_at_call 24; with_reducible exact Calls.quiet_of (T25.out _))))
                          go_wp2_with fail
                          go_meet
                          exact ⟨by rw [one_bitsq kt st u4 u5 u6, ← HONE.out], Lib.hid (q_drews KV.out _)⟩
                      case rest =>
                        obtain ⟨rfl, K30⟩ := hcut
                        obtain ⟨wp, hwp⟩ : ∃ wp, wp = wc := ⟨_, rfl⟩
                        rw [← hwp] at K30 ⊢
                        obtain ⟨d0, d1, d2, d3, d4, d5, d6, d7⟩ := HV8.out wp K30.out
                        clear c0 c1 c2 c3 c4 c5 c6 c7 ck cs hwp T6 T11 T25 BY30 HKT
                        have KW : Hid (Below wp.heap.size wp wp) := Below.refl _ _
                        have BY31 : Hid (∀ w', Below wp.heap.size wp w' → w'.cell? ⟨vb, 1, none⟩ = some (.int .u32 (v1 : Nat)) ∧ w'.cell? ⟨vb, 2, none⟩ = some (.int .u32 (v2 : Nat))) := fun w' hw => by
                          obtain ⟨c0, c1, c2, c3, c4, c5, c6, c7⟩ := HV8.out w' (below_on K30.out hw)
                          exact ⟨c1, c2⟩
                        go_upto_region 31 with fail
                        go_cut [19] from 190 to 218 (fun x wy => x = .int .u32 (two : Nat) ∧ Hid (Below wp.heap.size wp wy))
                        case first =>
                          as_aux_lemma =>
                            go_quiet ((first | (go_at_call 24; with_reducible exact Calls.quiet_of (T2.out _)) | (go_at_call 24; with_reducible exact Calls.quiet_of (T13.out _)) | (go_at_call 24; with_reducible exact Calls.quiet_of (T22.out _))))
                            go_wp2_with fail
                            go_meet
                            exact ⟨by rw [two_bitsq u0 u1 u2, ← HTWO.out], Lib.hid (q_drews KW.out _)⟩
                        case rest =>
                          obtain ⟨rfl, K31⟩ := hcut
                          have K31o := Lib.hid (below_on K30.out K31.out)
                          obtain ⟨wp2, hwp2⟩ : ∃ wp2, wp2 = wc := ⟨_, rfl⟩
                          rw [← hwp2] at K31o ⊢
                          clear d0 d1 d2 d3 d4 d5 d6 d7 hwp2 T2 T13 T22 BY31 KW K31 K30
                          have KW : Hid (Below wp2.heap.size wp2 wp2) := Below.refl _ _
                          have BY32 : Hid (∀ w', Below wp2.heap.size wp2 w' → w'.cell? ⟨vb, 0, none⟩ = some (.int .u32 (v0 : Nat)) ∧ w'.cell? ⟨vb, 1, none⟩ = some (.int .u32 (v1 : Nat)) ∧ w'.cell? ⟨vb, 2, none⟩ = some (.int .u32 (v2 : Nat)) ∧ w'.cell? ⟨vb, 3, none⟩ = some (.int .u32 (v3 : Nat)) ∧ w'.cell? ⟨vb, 4, none⟩ = some (.int .u32 (v4 : Nat)) ∧ w'.cell? ⟨vb, 5, none⟩ = some (.int .u32 (v5 : Nat)) ∧ w'.cell? ⟨vb, 6, none⟩ = some (.int .u32 (v6 : Nat))) := fun w' hw => by
                            obtain ⟨c0, c1, c2, c3, c4, c5, c6, c7⟩ := HV8.out w' (below_on K31o.out hw)
                            exact ⟨c0, c1, c2, c3, c4, c5, c6⟩
                          obtain ⟨d0, d1, d2, d3, d4, d5, d6⟩ := BY32.out wp2 KW.out
                          have HVW : Hid (wv.heap.size ≤ wp2.heap.size) := by
                            have h1 := K31o.out.size
                            have h2 := HBX.out.size
                            have h3 := BV.out.size
                            show _ ≤ _
                            omega
                          -- @32
                          go_upto_region 32 with fail
                          go_region_held3 (fun w' => w'.cell? ⟨vb, 0, none⟩ = some (.int .u32 (v0 : Nat)) ∧ w'.cell? ⟨vb, 1, none⟩ = some (.int .u32 (v1 : Nat)) ∧ w'.cell? ⟨vb, 2, none⟩ = some (.int .u32 (v2 : Nat)) ∧ w'.cell? ⟨vb, 3, none⟩ = some (.int .u32 (v3 : Nat)) ∧ w'.cell? ⟨vb, 4, none⟩ = some (.int .u32 (v4 : Nat)) ∧ w'.cell? ⟨vb, 5, none⟩ = some (.int .u32 (v5 : Nat)) ∧ w'.cell? ⟨vb, 6, none⟩ = some (.int .u32 (v6 : Nat)))
                            (((with_reducible refine BY32.out _ ?_); focus ((repeat first | with_reducible assumption | with_reducible exact KW.out | with_reducible apply Below.drew | with_reducible apply below_drews | with_reducible apply below_al); done)))
                            (fail)
                          go_wp2_with fail
                          go_roundg (64 - (t + 1))
                          case measure => omega
                          case rel =>
                            rw [madd32, madd32]
                            exact ⟨t + 1, wp2.heap.size, 8, by omega, Nat.le_refl _, by go_num, rfl, ⟨by omega, by omega⟩, by rw [HV1.out]; exact (Row8.new wp2 _ _ _ _ _ _ _ _ _).drew, HVW.out, below_on HBX.out (below_on K31o.out ((below_al (Below.refl _ _) _).drew))⟩
                    · obtain rfl : t = 64 := by omega
                      have iw : ¬ (((64 : Nat) : Int) < 64) := by omega
                      obtain ⟨V, hV⟩ : ∃ V, V = rounds S H 64 := ⟨_, rfl⟩
                      rw [← hV] at HV HVO HBE
                      have HVL : Hid (V.length = 8) := HV.out.1
                      obtain ⟨wy, hwy⟩ : ∃ wy, wy = wr := ⟨_, rfl⟩
                      rw [← hwy] at HV HBX ⊢
                      have HRY : Hid (Row8 hb wy (upd8 H V 0)) := (HRV.out.below BV.out).below HBX.out
                      have HGY : Hid (wz.grownBy wy (some hb)) := grown_below HG.out (below_on HB.out (below_on BV.out HBX.out))
                      have HNE : Hid (hb < vb) := by
                        have := HRV.out.lt
                        have := HVBB.out
                        show _ < _
                        omega
                      have HVY : Hid (∀ w', wy.grownBy w' (some hb) → ∀ i, i < 8 → w'.cell? ⟨vb, i, none⟩ = some (.int .u32 (V.getD i 0 : Nat))) := fun w' hw i hi => grown_cell hw HV.out.lt (by have := HNE.out; omega) (HV.out.cell hi)
                      clear hV hwy hbel hvb HV1 HKX HRV0 HVB
                      go_wp2_with fail
                      go_loopg [20] 8 (fun g i_ wr => ∃ i : Nat, i ≤ 8 ∧ 8 - i ≤ g ∧ i_ = .int .i64 i ∧ Hid (Row8 hb wr (upd8 H V i)) ∧ wy.grownBy wr (some hb))
                      case atStart => exact ⟨0, by omega, by omega, rfl, HRY, grown_refl _ _⟩
                      case round =>
                        obtain ⟨i, hi, hg3, rfl, HRI, hgr⟩ := hrel
                        have HGI := Lib.hid hgr
                        by_cases hi8 : i < 8
                        · have iw : ((i : Nat) : Int) < 8 := by omega
                          have iw2 : ((i : Nat) : Int) < (8 : Int) := by omega
                          have n0 : (0 : Int) ≤ (i : Int) := by omega
                          have ch := HRI.out.cell hi8
                          have cf := HRI.out.free i
                          have cv := HVY.out _ hgr i hi8
                          have HU : Hid (upd8 H V (i + 1) = (upd8 H V i).set i (add32 ((upd8 H V i).getD i 0) (V.getD i 0))) := rfl
                          have HRN := Lib.hid (HRI.out.set hi8 (add32 ((upd8 H V i).getD i 0) (V.getD i 0)))
                          rw [← HU.out] at HRN
                          generalize (upd8 H V i).getD i 0 = x at *
                          generalize V.getD i 0 = y at *
                          clear hgr
                          go_upto_region 36 with fail
                          as_aux_lemma =>
                            go_region
                            go_wp2_with fail
                            go_roundg (8 - (i + 1))
                            case measure => omega
                            case rel =>
                              rw [madd32]
                              exact ⟨i + 1, by omega, Nat.le_refl _, by go_num, HRN, grown_below (grown_put HGI.out) ((Below.refl _ _).drew)⟩
                        · obtain rfl : i = 8 := by omega
                          have iw : ¬ (((8 : Nat) : Int) < 8) := by omega
                          have E8 : Hid (upd8 H V 8 = blocks B (q + 1)) := by show _ = _; rw [HBE.out]; exact upd8_all HH8.out HVL.out
                          have HGF : Hid (wz.grownBy wr (some hb)) := grown_trans HGY.out hgr
                          rw [E8.out] at HRI
                          have HQ : ((64 * q : Nat) : Int) + 64 = ((64 * (q + 1) : Nat) : Int) := by omega
                          have HQ2 := Lib.hid HQ
                          clear hgr HQ HVY HV HRY E8
                          go_wp2_with fail
                          go_roundg (nb - (q + 1))
                          case measure => omega
                          case rel => exact ⟨q + 1, by omega, Nat.le_refl _, by rw [← HQ2.out]; first | rfl | go_num, HRI, HGF.out⟩
            · obtain rfl : nb = q := by omega
              have i1 : ¬ (((64 * nb : Nat) : Int) < (N : Int)) := by omega
              obtain ⟨H, hH⟩ : ∃ H, H = blocks B nb := ⟨_, rfl⟩
              have HOUT : Hid (sumL (bytesN s) = H.flatMap bytes4) := by
                show _ = _
                unfold sumL
                rw [HPAD.out, HBL.out, hnb, hH]
                congr 2
                omega
              have HHO : Hid (B32 H) := by rw [hH]; exact blocks_ok B nb
              have HH8 : Hid (H.length = 8) := by rw [hH]; exact blocks_len B nb
              rw [← hH] at HR
              have HBE : Hid (Below w.heap.size w wr) := grown_to HWZ.out hgr HHB.out HSIZE.out
              have HSZ : Hid (w.heap.size ≤ w.heap.size) := Nat.le_refl _
              obtain ⟨wy, hwy⟩ : ∃ wy, wy = wr := ⟨_, rfl⟩
              rw [← hwy] at HR HBE ⊢
              clear hgr hwy hH HKC HBC HB8 HG
              go_wp2_with fail
              go_loopg [21, 22] 8 (fun g s_ i_ wr => ∃ (i : Nat) (t : ByteArray), i ≤ 8 ∧ 8 - i ≤ g ∧ i_ = .int .i64 i ∧ s_ = .string t ∧ Hid (bytesN t = (H.take i).flatMap bytes4) ∧ Below wy.heap.size wy wr)
              case atStart => exact ⟨0, _, by omega, by omega, rfl, rfl, rfl, Below.refl _ _⟩
              case round =>
                obtain ⟨i, t, hi, hg3, rfl, rfl, HT, hbel⟩ := hrel
                have HBI := Lib.hid hbel
                by_cases hi8 : i < 8
                · have iw : ((i : Nat) : Int) < 8 := by omega
                  have n0 : (0 : Int) ≤ (i : Int) := by omega
                  have ch := (HR.out.below hbel).cell hi8
                  have bx := HHO.out i
                  have hts : t.size = 4 * i := by
                    have h := congrArg List.length HT.out
                    rw [bytesN_len, flat4_len, List.length_take, HH8.out] at h
                    omega
                  have HT2 : Hid (∀ t4 : ByteArray, bytesN t4 = bytes4 (H.getD i 0) → bytesN (t ++ t4) = (H.take (i + 1)).flatMap bytes4) := fun t4 h4 => by
                    rw [bytesN_app, HT.out, h4, flat4_take (by rw [HH8.out]; exact hi8)]
                  generalize H.getD i 0 = x at *
                  have CV := conv4 wr x bx
                  obtain ⟨t4, ht4⟩ : ∃ t4 : ByteArray, t4 = ⟨(four x).toArray⟩ := ⟨_, rfl⟩
                  have AD2 : ∀ w, (Op.stringOp .add t t4).run Tryd.prog w = .ok (.string (t ++ t4)) w := fun w => by
                    have h4 : t4.size = 4 := by rw [ht4]; rfl
                    exact run_string_add_sum w _ _ (by rw [hts, h4]; omega)
                  have HT3 := Lib.hid (HT2.out t4 (by rw [ht4]; exact four_nat x))
                  rw [← ht4] at CV
                  clear hbel ht4 HT2
                  as_aux_lemma =>
                    go_upto_region 41 with fail
                    go_region
                    go_wp2_with fail
                    go_roundg (8 - (i + 1))
                    case measure => omega
                    case rel => exact ⟨i + 1, t ++ t4, by omega, Nat.le_refl _, by go_num, rfl, HT3, by have h := HBI.out; (repeat first | with_reducible exact h | with_reducible apply Below.drew | with_reducible apply below_drews | with_reducible apply below_al)⟩
                · obtain rfl : i = 8 := by omega
                  have iw : ¬ (((8 : Nat) : Int) < 8) := by omega
                  have FN : Hid (bytesN t = sumL (bytesN s)) := by
                    show _ = _
                    rw [HT.out, HOUT.out, List.take_of_length_le (by rw [HH8.out]; decide)]
                  have HBF := Lib.hid (below_on HBE.out hbel HSZ.out)
                  clear hbel HT
                  go_wp2_with fail
                  go_ret
                  exact ⟨t, rfl, FN.out, HBF.out⟩
theorem sum_ok : SumOk := fun s w h => rsum_any s w h
end Go.Proofs.YtknefflbkaaooaaDoor.Slt
