/- Plate: PlateFirm's walk. -/
import Derived.Test.YtegnpkolmnmeiaaY16t
set_option linter.unusedVariables false
set_option linter.unusedSimpArgs false
set_option maxRecDepth 100000
namespace Go.Proofs.Ytegnpkolmnmeiaa.Plt
open Go.RowKit Go.Lib Go.Proofs.Ytegnpkolmnmeiaa.Bx
set_option maxHeartbeats 16000000 in
theorem firm_walk {w : World} (v : Value) (A : List Ac) (hA : Rk.Rows 4 actR w v A) : Calls Try.prog 4 #[v] w fun e w' => e = .returned (.bool true) ∧ Below w.heap.size w w' := by
  have CA := Lib.hid (awake_any w)
  obtain ⟨va, vc, rfl⟩ := Rk.Rows.is_slice hA
  obtain ⟨_, hvc, hvm⟩ := Rk.Rows.len hA
  obtain ⟨m, hm⟩ : ∃ m, m = A.length := ⟨_, rfl⟩
  have HM := Lib.hid hm
  rw [← hm] at hA hvc ⊢
  have HA0 := Lib.hid hA
  unfold maxLen at hvm
  clear hm hA
  go_enter Try.func4, Try.ntmps4
  go_wp2_with fail
  refine CA.out.mono ?_
  rintro e w1 ⟨rfl, b1⟩
  have B1 := Lib.hid b1
  have CN := Lib.hid (newX 9 w1 (by omega) (by omega))
  clear b1 CA
  go_wp2_with fail
  refine CN.out.mono ?_
  rintro e w2 ⟨B, F, rfl, d2, b2⟩
  have D2 := Lib.hid d2
  have B2 := Lib.hid (below_on B1.out b2)
  clear d2 b2 CN
  go_upto_region 7 with fail
  obtain ⟨W3, hW3⟩ : ∃ W3, W3 = ((w2.alloc (.cells #[.string ⟨#[]⟩, .string ⟨#[]⟩, .string ⟨#[]⟩, .string ⟨#[]⟩, .string ⟨#[]⟩, .string ⟨#[]⟩, .string ⟨#[]⟩, .string ⟨#[]⟩, .string ⟨#[]⟩] 46)).alloc (.cells #[.string ⟨#[]⟩, .string ⟨#[]⟩, .string ⟨#[]⟩, .string ⟨#[]⟩, .string ⟨#[]⟩, .string ⟨#[]⟩, .string ⟨#[]⟩, .string ⟨#[]⟩, .string ⟨#[]⟩] 46)).alloc (.cells #[.map none, .map none, .map none, .map none, .map none, .map none, .map none, .map none, .map none] 48) := ⟨_, rfl⟩
  rw [← hW3]
  obtain ⟨a0, ha0⟩ : ∃ a0, a0 = w2.heap.size := ⟨_, rfl⟩
  obtain ⟨L3, S3, B3⟩ := loc_start w2
  rw [← hW3, ← ha0] at L3 S3
  rw [← hW3] at B3
  have D3 := Lib.hid (D2.out.below B3)
  have BB : Hid (w.heap.size ≤ w1.heap.size) := B1.out.size
  have HF : Hid (∀ g, F g → g < a0) := fun g hg => by rw [ha0]; exact (D2.out.lt g hg).2
  have HB3 := Lib.hid (below_on B2.out B3)
  have HA : Hid (w.heap.size ≤ a0) := by rw [ha0]; exact B2.out.size
  rw [← ha0]
  have HL3 := Lib.hid L3
  have HS3 := Lib.hid S3
  clear hW3 ha0 L3 S3 B3 D2 B2 B1
  rw [show a0 + 1 + 1 = a0 + 2 from rfl]
  have hmk : ∀ w : World, (Instr.makeMap 47 none).run Try.prog w = .ok (.map (some w.heap.size)) (w.alloc (.map #[] 0)) := fun w => rfl
  go_loopg [8, 27] 9 (fun g _ i_ wr => ∃ t : Nat, t ≤ 9 ∧ 9 - t ≤ g ∧ i_ = .int .i64 t ∧ Hid (Loc a0 t 1 wr (begS t) (begS t) (fun _ => [blank])) ∧ Hid (wr.heap.size = a0 + 3 + t) ∧ Hid (Disk w1.heap.size wr B F (newD 9)) ∧ Hid (Below w.heap.size w wr))
  case atStart => exact ⟨0, by omega, by omega, rfl, HL3.out, HS3.out, D3.out, HB3.out⟩
  case round =>
    obtain ⟨t, ht, hg, rfl, HL, HS, HD, HB⟩ := hrel
    by_cases hlt : t < 9
    · have iw : (t : Int) < 9 := by omega
      have n0 : (0 : Int) ≤ (t : Nat) := by omega
      have CG := getX (t : Nat) HD.out
      rw [newD_get hlt] at CG
      have HCG := Lib.hid CG
      obtain ⟨w', hr, c5, f5, c6, f6, c7, f7, HX⟩ := loc_round HL.out HS.out hlt
      rw [← HS.out] at hr HX
      have HB5 : Hid (Below w.heap.size w (((w'.setCell ⟨a0, t, none⟩ (.string blank)).setCell ⟨a0 + 1, t, none⟩ (.string blank)).setCell ⟨a0 + 2, t, none⟩ (.map (some wr.heap.size)))) := HB.out.trans (HX.out.2.1.mono HA.out)
      have HD5 : Hid (Disk w1.heap.size (((w'.setCell ⟨a0, t, none⟩ (.string blank)).setCell ⟨a0 + 1, t, none⟩ (.string blank)).setCell ⟨a0 + 2, t, none⟩ (.map (some wr.heap.size))) B F (newD 9)) :=
        HD.out.chg (F' := fun g => a0 ≤ g) ⟨HX.out.2.1.os, HX.out.2.1.tape, HX.out.2.1.output, HX.out.2.1.size, fun k _ hk => HX.out.2.1.block k (by omega)⟩ (fun g hg => by have := HF.out g hg; omega)
      have HL5 := Lib.hid HX.out.1
      have HS5 := Lib.hid HX.out.2.2
      clear CG HX
      generalize blank = bl at *
      go_wp2_with fail
      refine HCG.out.mono ?_
      rintro e w5 ⟨rfl, rfl⟩
      go_wp2_with fail
      go_roundg (9 - (t + 1))
      case measure => omega
      case rel => exact ⟨t + 1, by omega, Nat.le_refl _, by go_num, HL5.out, HS5.out, HD5.out, HB5.out⟩
    · obtain rfl : t = 9 := by omega
      have iw : ¬ ((9 : Nat) : Int) < 9 := by omega
      have HFR : Hid (FR w w1 a0 B 0 wr) := ⟨_, _, _, _, F, HD.out, fun g hg => .inl (HF.out g hg), HL.out, inv_start, HB.out⟩
      clear HL HS HD HB HF D3 HB3 HL3 HS3 hmk
      go_upto_block 2 with fail
      go_cut [] (fun wx => ∃ t : Nat, Hid (t ≤ 80) ∧ Hid (FR w w1 a0 B t wx))
      case first =>
        go_wp2_with fail
        go_loopg [11, 50] m (fun g _ i_ wr => ∃ t : Nat, t ≤ m ∧ m - t ≤ g ∧ i_ = .int .i64 t ∧ t ≤ 80 ∧ Hid (FR w w1 a0 B t wr))
        case atStart => exact ⟨0, by omega, by omega, rfl, by omega, HFR.out⟩
        case round =>
          obtain ⟨t, ht, hg, rfl, h80, HR⟩ := hrel
          by_cases hlt : t < m
          · have iw : (t : Int) < (m : Nat) := by omega
            have n0 : (0 : Int) ≤ (t : Nat) := by omega
            obtain ⟨b, off, x, rfl, hb, hx4, ⟨pv, rfl, hp, hq, ha, hs, hz⟩, hc⟩ := Rk.Rows.get HA0.out (j := t) (by rw [← HM.out]; exact hlt)
            obtain ⟨f, l, H, D, F, hD, hF, hL, hI, hB⟩ := HR.out
            have c0 := vcell hB hb (hc 0 _ rfl)
            have c1 := vcell hB hb (hc 1 _ rfl)
            have c2 := vcell hB hb (hc 2 _ rfl)
            have c3 := vcell hB hb (hc 3 _ rfl)
            rw [Nat.add_zero] at c0
            generalize A[t]'(by rw [← HM.out]; exact hlt) = y at *
            obtain ⟨q, a, s, pk⟩ := y
            simp only at c0 c1 c2 c3 hp hq ha hs hz
            obtain ⟨pa, pc, rfl, _, _⟩ := row_z hp
            obtain ⟨pn, hpn⟩ : ∃ pn, pn = pk.length := ⟨_, rfl⟩
            rw [← hpn] at c3 hp
            obtain ⟨q1, q2⟩ := hq
            obtain ⟨a1, a2⟩ := ha
            by_cases h8 : t = 80
            · have i8 : ((t : Int) == 80) = true := by rw [h8]; rfl
              have H8 := Lib.hid h8
              clear hc hx4 h8 hpn
              go_wp2_with fail
              go_meet
              exact ⟨t, h80, f, l, H, D, F, hD.below (below_al (Below.refl _ _) _), hF, hL.kept (fun g h1 h2 => Below.heap_alloc _ _ _ (by have := hL.lt; omega)), hI, hB.alloc hB.size _⟩
            · have i8 : ((t : Int) == 80) = false := by simp; omega
              have ht80 : t + 1 ≤ 80 := by omega
              obtain ⟨W4, hW4⟩ : ∃ W4, W4 = wr.alloc (.cells #[.int .i64 q, .int .i64 a, .string s, .slice pa pn pc] 37) := ⟨_, rfl⟩
              obtain ⟨bx, rx, lx⟩ := box1 wr #[.int .i64 q, .int .i64 a, .string s, .slice pa pn pc] 37
              rw [← hW4] at bx rx lx
              have HW4 := Lib.hid hW4
              have HD := Lib.hid (hD.below bx)
              have HL := Lib.hid (hL.kept (w' := W4) (fun g h1 h2 => bx.block g (by have := hL.lt; omega)))
              have HB := Lib.hid (below_on hB bx)
              have HP := Lib.hid (hp.below HB.out (Nat.le_refl _))
              obtain ⟨X, hX⟩ : ∃ X, X = wr.heap.size := ⟨_, rfl⟩
              have HX1 : Hid (∀ g, F g → g < X) := fun g hg => by rw [hX]; exact (hD.lt g hg).2
              have HX2 : Hid (a0 + 12 ≤ X ∧ X < W4.heap.size) := ⟨by rw [hX]; exact hL.lt, by omega⟩
              have HRX : Hid (W4.heap[X]? = some (.cells #[.int .i64 q, .int .i64 a, .string s, .slice pa pn pc] 37 (0, 0))) := by rw [hX]; exact rx
              have HXE := Lib.hid hX
              obtain ⟨x0, x1, x2, x3⟩ := four_cells HRX.out
              have HF := Lib.hid hF
              have HI := Lib.hid hI
              have HPB : Hid (pk ≠ [] → ∀ b, (Value.slice pa pn pc).ownBlock = some b → ¬ F b) := fun hne b e hFb => by
                have h1 := (hD.lt b hFb).1
                obtain ⟨_, a', c', e', _, _, h3⟩ := hp
                injection e' with e1 e2 e3
                subst e1
                rcases h3 with h3 | ⟨b', off', rfl, hlt', _⟩
                · have := cellsZ_len pk
                  rw [h3] at this
                  exact hne (List.eq_nil_of_length_eq_zero (by simpa using this.symm))
                · have e9 : b' = b := by simpa [Value.ownBlock] using e
                  have := BB.out
                  omega
              have HZ := Lib.hid hz
              have HPN := Lib.hid hpn
              have HAB : Hid (w.heap.size ≤ W4.heap.size) := HB.out.size
              have HT : Hid (t ≤ 80) := h80
              have HS := Lib.hid hs
              clear hc hx4 h8 hpn hD hF hL hI hB bx rx lx hp hX hz hs hlt hW4
              by_cases g0 : q = 0
              · subst g0
                have CL := Lib.hid (layX a s HS.out HD.out (HI.out.short (by have := HT.out; omega)))
                cases hlb : layB D a s with
                | false =>
                  rw [hlb] at CL
                  have HI5 := Lib.hid (inv_lay_no a s HI.out hlb)
                  go_upto_region 18 with fail
                  rw [← HW4.out, ← HXE.out]
                  go_wp2_with fail
                  refine CL.out.mono ?_
                  rintro e w5 ⟨rfl, F5, d5, k5, n5⟩
                  obtain ⟨l5, f5, b5⟩ := fr_did HD.out HF.out HL.out HB.out BB.out HAB.out k5 n5
                  have HR5 : Hid (FR w w1 a0 B (t + 1) w5) := ⟨_, _, _, _, _, d5, f5, l5.mono (by omega), HI5.out, b5⟩
                  clear d5 k5 n5 l5 f5 b5 CL
                  go_wp2_with fail
                  go_roundg (m - (t + 1))
                  case measure => omega
                  case rel => exact ⟨t + 1, by omega, Nat.le_refl _, by go_num, ht80, HR5.out⟩
                | true =>
                  obtain ⟨k, rfl, hk, hs128, hg, hgs, hI5⟩ := inv_lay_yes a s HI.out hlb
                  rw [hlb] at CL
                  have HI5 := Lib.hid hI5
                  have HFS := Lib.hid (slice_full hs128)
                  have HFZ := Lib.hid (full_size hs128)
                  have HG1 := Lib.hid hg
                  have HG2 := Lib.hid hgs
                  have kw : (0 : Int) ≤ (k : Nat) := by omega
                  have kw2 : (k : Int) < 9 := by omega
                  have HK := Lib.hid hk
                  clear hI5 hg hgs hs128 hlb hk
                  go_upto_region 18 with fail
                  rw [← HW4.out, ← HXE.out]
                  go_wp2_with fail
                  refine CL.out.mono ?_
                  rintro e w5 ⟨rfl, F5, d5, k5, n5⟩
                  obtain ⟨l5, f5, b5⟩ := fr_did HD.out HF.out HL.out HB.out BB.out HAB.out k5 n5
                  have r5 : w5.heap[X]? = _ := (k5.block X HX2.out.2 (fun h => by have := HX1.out X h; omega)).trans HRX.out
                  obtain ⟨y0, y1, y2, y3⟩ := four_cells r5
                  have CG := Lib.hid (getX (k : Nat) d5)
                  rw [HG1.out, HG2.out] at CG
                  obtain ⟨c6, z6, c7, w7, hr, HX7⟩ := lay_round l5 HK.out HFZ.out (by have := HT.out; omega)
                  have y1' : (w5.setCell ⟨a0 + 1, k, none⟩ (.string (fullB s))).cell? ⟨X, 1, none⟩ = some (.int .i64 (k : Nat)) := by
                    rw [World.cell?_of_block (w := w5) (Below.heap_setCell _ _ _ _ (by show X ≠ a0 + 1; have := HX2.out; omega))]
                    exact y1
                  have y2' : w7.cell? ⟨X, 2, none⟩ = some (.string s) := by
                    rw [World.cell?_of_block (w := w5) (HX7.out.2.block X (Nat.lt_of_lt_of_le HX2.out.2 k5.size) (fun h => by have := HX2.out; have := h.2; omega))]
                    exact y2
                  have HR7 : Hid (FR w w1 a0 B (t + 1) w7) := ⟨_, _, _, _, _, disk_own d5 f5 HX7.out.2, f5, HX7.out.1, HI5.out, below_own b5 HA.out (Nat.le_trans HAB.out k5.size) HX7.out.2⟩
                  have sl := HFS.out
                  have sz := HFZ.out
                  have ss := str_self s
                  clear d5 k5 n5 l5 f5 b5 CL HI5 HX7 r5 y0 y3
                  generalize fullB s = r at *
                  go_wp2_with fail
                  refine CG.out.mono ?_
                  rintro e w6 ⟨rfl, rfl⟩
                  go_upto_region 22 with fail
                  go_quiet (fail)
                  have HR8 : Hid (FR w w1 a0 B (t + 1) (w7.drewN nq)) := by
                    obtain ⟨g1, g2, g3, g4, g5, h1, h2, h3, h4, h5⟩ := HR7.out
                    have hb : Below w7.heap.size w7 (w7.drewN nq) := ⟨rfl, rfl, rfl, Nat.le_refl _, fun _ _ => rfl⟩
                    exact ⟨g1, g2, g3, g4, g5, h1.below hb, h2, h3.kept (fun g _ _ => rfl), h4, below_on h5 hb⟩
                  go_wp2_with fail
                  go_roundg (m - (t + 1))
                  case measure => omega
                  case rel => exact ⟨t + 1, by omega, Nat.le_refl _, by go_num, ht80, HR8.out⟩
              · by_cases g1 : q = 1
                · subst g1
                  have CB := Lib.hid (barX HD.out)
                  cases hlb : barB D with
                  | false =>
                    rw [hlb] at CB
                    have HI5 := Lib.hid (inv_bar_no HI.out hlb)
                    go_upto_region 25 with fail
                    rw [← HW4.out, ← HXE.out]
                    go_wp2_with fail
                    refine CB.out.mono ?_
                    rintro e w5 ⟨rfl, F5, d5, k5, n5⟩
                    obtain ⟨l5, f5, b5⟩ := fr_did HD.out HF.out HL.out HB.out BB.out HAB.out k5 n5
                    have HR5 : Hid (FR w w1 a0 B (t + 1) w5) := ⟨_, _, _, _, _, d5, f5, l5.mono (by omega), HI5.out, b5⟩
                    clear d5 k5 n5 l5 f5 b5 CB
                    go_wp2_with fail
                    go_roundg (m - (t + 1))
                    case measure => omega
                    case rel => exact ⟨t + 1, by omega, Nat.le_refl _, by go_num, ht80, HR5.out⟩
                  | true =>
                    rw [hlb] at CB
                    have HI5 := Lib.hid (inv_bar_yes HI.out hlb)
                    go_upto_region 25 with fail
                    rw [← HW4.out, ← HXE.out]
                    go_wp2_with fail
                    refine CB.out.mono ?_
                    rintro e w5 ⟨rfl, F5, d5, k5, n5⟩
                    obtain ⟨l5, f5, b5⟩ := fr_did HD.out HF.out HL.out HB.out BB.out HAB.out k5 n5
                    have u0 : w5.cell? ⟨a0 + 1, 0, none⟩ = some (.string (l 0)) ∧ w5.cell? ⟨a0, 0, none⟩ = some (.string (f 0)) ∧ w5.frozen? ⟨a0, 0, none⟩ = false := ⟨(l5.s6.cell (by omega)).1, (l5.s5.cell (by omega)).1, (l5.s5.cell (by omega)).2⟩
                    have u1 : w5.cell? ⟨a0 + 1, 1, none⟩ = some (.string (l 1)) ∧ w5.cell? ⟨a0, 1, none⟩ = some (.string (f 1)) ∧ w5.frozen? ⟨a0, 1, none⟩ = false := ⟨(l5.s6.cell (by omega)).1, (l5.s5.cell (by omega)).1, (l5.s5.cell (by omega)).2⟩
                    have u2 : w5.cell? ⟨a0 + 1, 2, none⟩ = some (.string (l 2)) ∧ w5.cell? ⟨a0, 2, none⟩ = some (.string (f 2)) ∧ w5.frozen? ⟨a0, 2, none⟩ = false := ⟨(l5.s6.cell (by omega)).1, (l5.s5.cell (by omega)).1, (l5.s5.cell (by omega)).2⟩
                    have u3 : w5.cell? ⟨a0 + 1, 3, none⟩ = some (.string (l 3)) ∧ w5.cell? ⟨a0, 3, none⟩ = some (.string (f 3)) ∧ w5.frozen? ⟨a0, 3, none⟩ = false := ⟨(l5.s6.cell (by omega)).1, (l5.s5.cell (by omega)).1, (l5.s5.cell (by omega)).2⟩
                    have u4 : w5.cell? ⟨a0 + 1, 4, none⟩ = some (.string (l 4)) ∧ w5.cell? ⟨a0, 4, none⟩ = some (.string (f 4)) ∧ w5.frozen? ⟨a0, 4, none⟩ = false := ⟨(l5.s6.cell (by omega)).1, (l5.s5.cell (by omega)).1, (l5.s5.cell (by omega)).2⟩
                    have u5 : w5.cell? ⟨a0 + 1, 5, none⟩ = some (.string (l 5)) ∧ w5.cell? ⟨a0, 5, none⟩ = some (.string (f 5)) ∧ w5.frozen? ⟨a0, 5, none⟩ = false := ⟨(l5.s6.cell (by omega)).1, (l5.s5.cell (by omega)).1, (l5.s5.cell (by omega)).2⟩
                    have u6 : w5.cell? ⟨a0 + 1, 6, none⟩ = some (.string (l 6)) ∧ w5.cell? ⟨a0, 6, none⟩ = some (.string (f 6)) ∧ w5.frozen? ⟨a0, 6, none⟩ = false := ⟨(l5.s6.cell (by omega)).1, (l5.s5.cell (by omega)).1, (l5.s5.cell (by omega)).2⟩
                    have u7 : w5.cell? ⟨a0 + 1, 7, none⟩ = some (.string (l 7)) ∧ w5.cell? ⟨a0, 7, none⟩ = some (.string (f 7)) ∧ w5.frozen? ⟨a0, 7, none⟩ = false := ⟨(l5.s6.cell (by omega)).1, (l5.s5.cell (by omega)).1, (l5.s5.cell (by omega)).2⟩
                    have u8 : w5.cell? ⟨a0 + 1, 8, none⟩ = some (.string (l 8)) ∧ w5.cell? ⟨a0, 8, none⟩ = some (.string (f 8)) ∧ w5.frozen? ⟨a0, 8, none⟩ = false := ⟨(l5.s6.cell (by omega)).1, (l5.s5.cell (by omega)).1, (l5.s5.cell (by omega)).2⟩
                    obtain ⟨u00, u01, u02⟩ := u0
                    obtain ⟨u10, u11, u12⟩ := u1
                    obtain ⟨u20, u21, u22⟩ := u2
                    obtain ⟨u30, u31, u32⟩ := u3
                    obtain ⟨u40, u41, u42⟩ := u4
                    obtain ⟨u50, u51, u52⟩ := u5
                    obtain ⟨u60, u61, u62⟩ := u6
                    obtain ⟨u70, u71, u72⟩ := u7
                    obtain ⟨u80, u81, u82⟩ := u8
                    obtain ⟨q5, q6⟩ := bar_round l5
                    have HR5 : Hid (FR w w1 a0 B (t + 1) (put9 w5 a0 l)) := ⟨_, _, _, _, _, disk_own d5 f5 q6, f5, q5.mono (by omega), HI5.out, below_own b5 HA.out (Nat.le_trans HAB.out k5.size) q6⟩
                    clear d5 k5 n5 l5 f5 b5 CB q5 q6
                    go_wp2_with fail
                    go_roundg (m - (t + 1))
                    case measure => omega
                    case rel => exact ⟨t + 1, by omega, Nat.le_refl _, by go_num, ht80, HR5.out⟩
                · by_cases g2 : q = 2
                  · subst g2
                    have CL := Lib.hid (limX a a2 HD.out)
                    have HI5 : Hid (Inv (limD D a) f l H (t + 1)) := Inv.same (D' := limD D a) (c' := t + 1) HI.out rfl (fun _ _ => rfl) (by omega)
                    go_upto_region 28 with fail
                    rw [← HW4.out, ← HXE.out]
                    go_wp2_with fail
                    refine CL.out.mono ?_
                    rintro e w5 ⟨rfl, F5, d5, k5, n5⟩
                    obtain ⟨l5, f5, b5⟩ := fr_did HD.out HF.out HL.out HB.out BB.out HAB.out k5 n5
                    have HR5 : Hid (FR w w1 a0 B (t + 1) w5) := ⟨_, _, _, _, _, d5, f5, l5.mono (by omega), HI5.out, b5⟩
                    clear d5 k5 n5 l5 f5 b5 CL
                    go_wp2_with fail
                    go_roundg (m - (t + 1))
                    case measure => omega
                    case rel => exact ⟨t + 1, by omega, Nat.le_refl _, by go_num, ht80, HR5.out⟩
                  · by_cases g3 : q = 3
                    · subst g3
                      have CF := Lib.hid (fallX pk HP.out HZ.out HPB.out HD.out (HI.out.short (by have := HT.out; omega)))
                      obtain ⟨i5, i6⟩ := inv_fall HI.out pk
                      have HI5 := Lib.hid i6
                      have HI6 := Lib.hid i5
                      obtain ⟨g, hgg⟩ : ∃ g : Nat → ByteArray, g = fun k => getS (fallD D pk) (k : Nat) := ⟨_, rfl⟩
                      have HGE := Lib.hid hgg
                      clear i5 i6 hgg
                      go_upto_region 30 with fail
                      rw [← HW4.out, ← HXE.out]
                      go_wp2_with fail
                      refine CF.out.mono ?_
                      rintro e w5 ⟨rfl, F5, d5, k5, n5⟩
                      obtain ⟨l5, f5, b5⟩ := fr_did HD.out HF.out HL.out HB.out BB.out HAB.out k5 n5
                      have D5 := Lib.hid d5
                      have L5 := Lib.hid l5
                      have F5' := Lib.hid f5
                      have B5 := Lib.hid b5
                      have HA5 : Hid (w.heap.size ≤ w5.heap.size) := b5.size
                      clear d5 k5 n5 l5 f5 b5 CF HR HW4 HXE c0 c1 c2 c3 HX1 HX2 HRX HPB x0 x1 x2 x3 HD HF HL HB HP HAB HZ
                      go_wp2_with fail
                      go_loopg [15, 16, 17, 113] 9 (fun gg _ _ _ i_ wr => ∃ k : Nat, k ≤ 9 ∧ 9 - k ≤ gg ∧ i_ = .int .i64 k ∧ Hid (Disk w1.heap.size wr B F5 (fallD D pk)) ∧ Hid (Loc a0 9 (t + 1) wr (mixS k g f) (mixS k g l) H) ∧ Hid (Below w.heap.size w wr) ∧ Hid (w.heap.size ≤ wr.heap.size))
                      case atStart => exact ⟨0, by omega, by omega, rfl, D5.out, L5.out.congr (fun i _ => if_neg (by omega)) (fun i _ => if_neg (by omega)), B5.out, HA5.out⟩
                      case round =>
                        obtain ⟨k, hk9, hgk, rfl, HDk, HLk, HBk, HAk⟩ := hrel
                        by_cases hkl : k < 9
                        · have kw : (k : Int) < 9 := by omega
                          have k0 : (0 : Int) ≤ (k : Nat) := by omega
                          obtain ⟨v1, v2⟩ := HI6.out k hkl
                          have CG := Lib.hid (getX (k : Nat) HDk.out)
                          have hgk : getS (fallD D pk) (k : Nat) = g k := by rw [HGE.out]
                          rw [v1, hgk] at CG
                          rw [hgk] at v2
                          have hz8 := HI5.out.sz k hkl _ v2
                          obtain ⟨m1, m2⟩ := held_look HLk.out hkl v2 hz8
                          obtain ⟨p5, p6⟩ := HLk.out.s5.cell hkl
                          obtain ⟨p7, p8⟩ := HLk.out.s6.cell hkl
                          obtain ⟨r5, r6⟩ := fall_round HLk.out hkl (g k)
                          have HL9 := Lib.hid (r5.congr (fun i _ => mix_step g f i) (fun i _ => mix_step g l i))
                          have HD9 := Lib.hid (disk_own HDk.out F5'.out r6)
                          have HB9 := Lib.hid (below_own HBk.out HA.out HAk.out r6)
                          have HA9 : Hid (w.heap.size ≤ ((wr.setCell ⟨a0, k, none⟩ (.string (g k))).setCell ⟨a0 + 1, k, none⟩ (.string (g k))).heap.size) := Nat.le_trans HAk.out r6.size
                          unfold strV at p5 p7
                          clear v1 v2 hgk hz8 r5 r6
                          generalize g k = y at *
                          go_wp2_with fail
                          refine CG.out.mono ?_
                          rintro e w6 ⟨rfl, rfl⟩
                          go_wp2_with fail
                          go_roundg (9 - (k + 1))
                          case measure => omega
                          case rel => exact ⟨k + 1, by omega, Nat.le_refl _, by go_num, HD9.out, HL9.out, HB9.out, HA9.out⟩
                        · obtain rfl : k = 9 := by omega
                          have kw : ¬ ((9 : Nat) : Int) < 9 := by omega
                          have HR5 : Hid (FR w w1 a0 B (t + 1) wr) := by
                            refine ⟨mixS 9 g f, mixS 9 g l, H, fallD D pk, F5, HDk.out, F5'.out, HLk.out.mono (by omega), ?_, HBk.out⟩
                            have := HI5.out
                            rw [HGE.out]
                            exact this
                          go_wp2_with fail
                          go_roundg (m - (t + 1))
                          case measure => omega
                          case rel => exact ⟨t + 1, by omega, Nat.le_refl _, by go_num, ht80, HR5.out⟩
                    · have HR5 : Hid (FR w w1 a0 B (t + 1) (wr.alloc (.cells #[.int .i64 q, .int .i64 a, .string s, .slice pa pn pc] 37))) := by
                        rw [← HW4.out]
                        exact ⟨_, _, _, _, _, HD.out, HF.out, HL.out.mono (by omega), HI.out.same rfl (fun _ _ => rfl) (by omega), HB.out⟩
                      go_wp2_with fail
                      go_roundg (m - (t + 1))
                      case measure => omega
                      case rel => exact ⟨t + 1, by omega, Nat.le_refl _, by go_num, ht80, HR5.out⟩
          · obtain rfl : t = m := by omega
            have iw : ¬ ((t : Int) < (t : Nat)) := by omega
            go_wp2_with fail
            go_meet
            exact ⟨t, h80, HR.out⟩
      case rest =>
        obtain ⟨wo, hwo⟩ : ∃ wo : World, wo = wc := ⟨_, rfl⟩
        subst hwo
        obtain ⟨t, HT, HR⟩ := hcut
        obtain ⟨f, l, H, D, F, hD, hF, hL, hI, hB⟩ := HR.out
        have CF := Lib.hid (fallX (pv := .slice none 0 0) [] (Rk.RowK.nil_ _ _) (fun x hx => by simp at hx) (fun h => absurd rfl h) hD (hI.short (by have := HT.out; omega)))
        have HD := Lib.hid hD
        have HF := Lib.hid hF
        have HL := Lib.hid hL
        have HI := Lib.hid hI
        have HB := Lib.hid hB
        have HAB : Hid (w.heap.size ≤ wo.heap.size) := hB.size
        clear hD hF hL hI hB HR HFR
        go_wp2_with fail
        refine CF.out.mono ?_
        rintro e w5 ⟨rfl, F5, d5, k5, n5⟩
        obtain ⟨l5, f5, b5⟩ := fr_did HD.out HF.out HL.out HB.out BB.out HAB.out k5 n5
        have D5 := Lib.hid d5
        have L5 := Lib.hid l5
        have B5 := Lib.hid b5
        clear d5 k5 n5 l5 f5 b5 CF HD HF HL HB HAB
        go_wp2_with fail
        go_loopg [18, 19, 20, 142] 9 (fun gg _ _ _ i_ wr => wr = w5 ∧ ∃ k : Nat, k ≤ 9 ∧ 9 - k ≤ gg ∧ i_ = .int .i64 k)
        case atStart => exact ⟨rfl, 0, by omega, by omega, rfl⟩
        case round =>
          obtain ⟨rfl, k, hk9, hgk, rfl⟩ := hrel
          by_cases hkl : k < 9
          · have kw : (k : Int) < 9 := by omega
            have k0 : (0 : Int) ≤ (k : Nat) := by omega
            obtain ⟨v1, v2⟩ := inv_end HI.out k hkl
            have CG := Lib.hid (getX (k : Nat) D5.out)
            rw [v1, v2] at CG
            obtain ⟨p5, p6⟩ := L5.out.s5.cell hkl
            unfold strV at p5
            have ss := str_self (f k)
            clear v1 v2
            generalize f k = y at *
            go_wp2_with fail
            refine CG.out.mono ?_
            rintro e w6 ⟨rfl, rfl⟩
            go_wp2_with fail
            go_roundg (9 - (k + 1))
            case measure => omega
            case rel => exact ⟨rfl, k + 1, by omega, Nat.le_refl _, by go_num⟩
          · obtain rfl : k = 9 := by omega
            have kw : ¬ ((9 : Nat) : Int) < 9 := by omega
            go_wp2_with fail
            go_ret
            exact ⟨rfl, B5.out⟩
end Go.Proofs.Ytegnpkolmnmeiaa.Plt
