/- Desk: the walk of DeskDone, given the program's calls. -/
import Derived.Test.YtkbjbmhplocdnaaDj
set_option linter.unusedVariables false
set_option linter.unusedSimpArgs false
set_option maxRecDepth 100000
namespace Go.Proofs.Ytkbjbmhplocdnaa.Dsk
open Go.RowKit Go.Lib Go.Proofs.Ytkbjbmhplocdnaa.Bx

def sX : Se := ⟨⟨#[97]⟩, 0, 5, 1, ⟨#[120]⟩⟩
theorem done1 : doneE [sB] ⟨#[97]⟩ 1 5 ⟨#[120]⟩ = [sX] := by
  unfold doneE
  rw [show plO [sB] ⟨#[97]⟩ = some 0 from pl1 sB]
  rfl
theorem done_call (DK : DoneOk) (w' : World) (b : Nat) (hb : w'.heap[b]? = some (.cells (cellsS sB).toArray 28 (0, 0))) : Calls Try.prog 15 #[.slice (some ⟨b, 0, none⟩) 1 1, .string ⟨#[97]⟩, .int .i64 1, .int .i64 5, .string ⟨#[120]⟩] w' fun e w'' => ∃ c off cap, e = .returned (.slice (some ⟨c, off, none⟩) 1 cap) ∧ 1 ≤ cap ∧ cap ≤ 9223372036854775807 ∧ w''.cell? ⟨c, off + 4, none⟩ = some (.string ⟨#[120]⟩) ∧ Below w'.heap.size w' w'' := by
  have h := DK (.slice (some ⟨b, 0, none⟩) 1 1) [sB] ⟨#[97]⟩ 1 5 9 ⟨#[120]⟩ w' (seats1 ⟨good_lit.1, good_lit.1, good_lit.1⟩ hb) (right1 (by decide) (by omega) (by omega)) good_lit.2.2.2
  rw [done1] at h
  refine h.mono ?_
  rintro e w'' ⟨v', rfl, hs, hb⟩
  obtain ⟨c, off, cap, rfl, k1, k2, _, c4⟩ := one_seat hs
  unfold maxLen at k2
  exact ⟨c, off, cap, rfl, k1, by omega, c4, hb⟩
theorem done_walk (DK : DoneOk) (CK : CloseOk) {w : World} (v : Value) (A : List Se) (tok : ByteArray) (u q now ttl most : Int) (ans : ByteArray) (hA : Seats w v A) (hu : i64 u) (hq : i64 q) (hnw : i64 now) (htt : i64 ttl) (hmo : i64 most) : Calls Try.prog 5 #[.agg #[v, .string tok, .int .i64 u, .int .i64 q, .int .i64 now, .int .i64 ttl, .int .i64 most, .string ans]] w fun e w' => e = .returned (.bool true) ∧ Below w.heap.size w w' := by
  have C0 := Lib.hid (done_call DK)
  have HS : Hid (∀ w', Below w.heap.size w w' → Seats w' v A) := fun w' hb => hA.below hb
  have CL : Hid (∀ w', Below w.heap.size w w' → Calls Try.prog 8 #[.agg #[v, .string tok, .int .i64 u, .int .i64 q, .int .i64 now, .int .i64 ttl, .int .i64 most, .string ans]] w' fun e w'' => e = .returned (.bool (rightC A now ttl)) ∧ Below w'.heap.size w' w'') := fun w' hb => lright_any tok u q now ttl most ans w' (hA.below hb)
  have CD : Hid (∀ w', Below w.heap.size w w' → rightC A now ttl = true → Calls Try.prog 15 #[v, .string tok, .int .i64 q, .int .i64 now, .string ans] w' fun e w'' => ∃ v', e = .returned v' ∧ Seats w'' v' (doneE A tok q now ans) ∧ Below w'.heap.size w' w'') := fun w' hb hr => DK v A tok q now ttl ans w' (hA.below hb) hr hq
  have CC : Hid (∀ w', Below w.heap.size w w' → rightC A now ttl = true → Calls Try.prog 16 #[v, .string tok] w' fun e w'' => ∃ v', e = .returned v' ∧ Seats w'' v' (closeE A tok) ∧ Below w'.heap.size w' w'') := fun w' hb hr => CK v A tok now ttl w' (hA.below hb) hr
  have CD2 : Hid (∀ x w', Seats w' x A → rightC A now ttl = true → Calls Try.prog 17 #[x, .string tok, .int .i64 q, .int .i64 now, .string ans] w' fun e w'' => ∃ v', e = .returned v' ∧ Seats w'' v' (doneE A tok q now ans) ∧ Below w'.heap.size w' w'') := fun x w' hx hr => by
    obtain ⟨a, cap, rfl, hn, hm⟩ := hx.is_slice
    obtain ⟨h1, h2, _, h4, _⟩ := right_of hr
    refine (rDone_any tok q now ans w' hx h2 hq hnw).mono ?_
    rintro e w'' ⟨v', rfl, ho, hb⟩
    exact ⟨v', rfl, ho.seats, hb⟩
  have CC2 : Hid (∀ x w', Seats w' x A → rightC A now ttl = true → Calls Try.prog 18 #[x, .string tok] w' fun e w'' => ∃ v', e = .returned v' ∧ Seats w'' v' (closeE A tok) ∧ Below w'.heap.size w' w'') := fun x w' hx hr => by
    obtain ⟨a, cap, rfl, hn, hm⟩ := hx.is_slice
    obtain ⟨h1, h2, _, h4, _⟩ := right_of hr
    refine (rClose_any tok w' hx.cells h2 hn hm).mono ?_
    rintro e w'' ⟨v', rfl, ho, hb⟩
    exact ⟨v', rfl, ho.seats, hb⟩
  have H60 : Hid (rightC A now ttl = true → A.length ≤ 60) := fun hr => (right_of hr).2.1
  have HSD : Hid (sameB (doneE A tok q now ans) (doneE A tok q now ans) = true) := same_iff.2 rfl
  have HSC : Hid (sameB (closeE A tok) (closeE A tok) = true) := same_iff.2 rfl
  have HSA : Hid (sameB A A = true) := same_iff.2 rfl
  have HGA : Hid (∀ y ∈ A, good y) := hA.2
  obtain ⟨D, hD⟩ : ∃ D, D = doneE A tok q now ans := ⟨_, rfl⟩
  obtain ⟨E, hE⟩ : ∃ E, E = closeE A tok := ⟨_, rfl⟩
  rw [← hD] at CD CD2 HSD
  rw [← hE] at CC CC2 HSC
  obtain ⟨va, vc, rfl, hvn, hvm⟩ := hA.is_slice
  unfold maxLen at hvm
  obtain ⟨n, hnn⟩ : ∃ n, n = A.length := ⟨_, rfl⟩
  have HNL := Lib.hid hnn
  rw [← hnn] at HS CL CD CC hvn H60 ⊢
  clear hA hu hq hnw htt hmo hD hE hnn
  go_enter Try.func5, Try.ntmps5
  go_upto_region 1 with fail
  obtain ⟨W1, hW1⟩ : ∃ W1, W1 = w.alloc (.cells (boxC (.slice va n vc) tok u q now ttl most ans) 24) := ⟨_, rfl⟩
  unfold boxC at hW1
  obtain ⟨CBk, hCB⟩ : ∃ CBk, CBk = w.heap.size := ⟨_, rfl⟩
  rw [← hW1, ← hCB]
  have BW : Hid (Below w.heap.size w W1) := by rw [hW1]; exact below_al (Below.refl _ _) _
  have PW : Hid (W1.heap[CBk]? = some (.cells (boxC (.slice va n vc) tok u q now ttl most ans) 24 (0, 0))) := by show _ = _; rw [hW1, hCB]; exact heap_alloc_new _ _
  have HCC : Hid (∀ w', Below W1.heap.size W1 w' → w'.heap[CBk]? = some (.cells (boxC (.slice va n vc) tok u q now ttl most ans) 24 (0, 0))) := fun w' hb => (hb.block _ (Array.getElem?_eq_some_iff.1 PW.out).1).trans PW.out
  have HBL : Hid (Below W1.heap.size W1 (W1.alloc (.cells #[.string ⟨#[97]⟩, .int .i64 0, .int .i64 0, .int .i64 0, .string ⟨#[]⟩] 28))) := below_al (Below.refl _ _) _
  have C01 := Lib.hid (C0.out (W1.alloc (.cells #[.string ⟨#[97]⟩, .int .i64 0, .int .i64 0, .int .i64 0, .string ⟨#[]⟩] 28)) W1.heap.size (heap_alloc_new W1 _))
  clear hW1 hCB PW C0
  go_wp2_with fail
  refine C01.out.mono ?_
  rintro e w2 ⟨c, off, cap, rfl, k1, k2, c4, b2⟩
  have B2 := Lib.hid (below_on HBL.out b2)
  clear b2 C01 HBL
  go_upto_region 4 with fail
  clear c4
  obtain ⟨d0, d1, d2, d3, d4, d5, d6, d7⟩ := box_cells (HCC.out w2 B2.out)
  have CL2 := Lib.hid (CL.out w2 (below_on BW.out B2.out))
  clear CL
  go_wp2_with fail
  refine CL2.out.mono ?_
  rintro e w3 ⟨rfl, b3⟩
  have B3 := Lib.hid (below_on B2.out b3)
  clear b3 CL2 d0 d1 d2 d3 d4 d5 d6 d7
  cases hr : rightC A now ttl with
  | false =>
    clear CD CD2 CC CC2 hr
    have HBF := Lib.hid (below_on BW.out B3.out)
    go_wp2_with fail
    go_ret
    exact ⟨rfl, HBF.out⟩
  | true =>
    have h60 := H60.out hr
    have HRT := Lib.hid hr
    obtain ⟨W3, hW3⟩ : ∃ W3, W3 = w3 := ⟨_, rfl⟩
    rw [← hW3] at B3 ⊢
    obtain ⟨d0, d1, d2, d3, d4, d5, d6, d7⟩ := box_cells (HCC.out W3 B3.out)
    have BX : Hid (Below W1.heap.size W1 (W3.alloc (.cells #[] 28))) := below_al B3.out _
    obtain ⟨f0, _⟩ := box_cells (HCC.out (W3.alloc (.cells #[] 28)) BX.out)
    have A1 : Hid (Rk.OwnK 28 5 W3.heap.size (W3.alloc (.cells #[] 28)) (.slice (some ⟨W3.heap.size, 0, none⟩) 0 0) []) := own_empty5 (Nat.le_refl _) (heap_alloc_new _ _)
    have A2 : Hid (Rk.RowK 5 (W3.alloc (.cells #[] 28)) (.slice va n vc) (A.map cellsS)) := (HS.out _ (below_on BW.out BX.out)).1
    have A3 : Hid (∀ y ∈ A.map cellsS, ∀ q ∈ y, q.oneCell' = true) := fun y hy q hq => by
      obtain ⟨z, _, rfl⟩ := List.mem_map.1 hy
      exact cellsS_one z q hq
    have A4 : Hid (([] : List (List Value)).length + (A.map cellsS).length ≤ 100000) := by show _ ≤ _; rw [List.length_map, ← HNL.out]; show 0 + n ≤ _; omega
    have A5 : Hid (W3.heap.size ≤ (W3.alloc (.cells #[] 28)).heap.size) := by show _ ≤ _; simp
    have KA : Hid (Below W3.heap.size W3 (W3.alloc (.cells #[] 28))) := below_al (Below.refl _ _) _
    clear hr hW3
    go_wp2_with (at_builtin; refine Rk.wpList_append_rowk rfl _ _ 22 28 5 56 _ Try.underlying22 infoSe rfl (by decide) (by decide) rfl W3.heap.size _ _ [] (A.map cellsS) rfl rfl A1.out A2.out A3.out A4.out A5.out ?_)
    intro x4 w4 h5 g5 k5
    have K9 : Hid (Seats w4 x4 A) := OSe.seats (base := W3.heap.size) ⟨h5, HGA.out⟩
    have B4 := Lib.hid (below_on B3.out (A1.out.belowOf KA.out (Nat.le_refl _) A5.out g5))
    clear h5 g5 k5 A1 A2 A3 A4 A5 KA BX f0 d0 d1 d2 d3 d4 d5 d6 d7
    obtain ⟨d0, d1, d2, d3, d4, d5, d6, d7⟩ := box_cells (HCC.out w4 B4.out)
    have K1 := Lib.hid (CD.out w4 (below_on BW.out B4.out) HRT.out)
    clear CD
    go_wp2_with fail
    refine K1.out.mono ?_
    rintro e w5 ⟨x5, rfl, hs5, b5⟩
    have B5 := Lib.hid (below_on B4.out b5)
    have S5 := Lib.hid hs5
    have S4 : Hid (Seats w5 x4 A) := K9.out.below b5
    clear b5 hs5 K1 K9 d0 d1 d2 d3 d4 d5 d6 d7
    obtain ⟨d0, d1, d2, d3, d4, d5, d6, d7⟩ := box_cells (HCC.out w5 B5.out)
    have K2 := Lib.hid (CC.out w5 (below_on BW.out B5.out) HRT.out)
    clear CC
    go_wp2_with fail
    refine K2.out.mono ?_
    rintro e w6 ⟨x6, rfl, hs6, b6⟩
    have B6 := Lib.hid (below_on B5.out b6)
    have S6 := Lib.hid hs6
    replace S5 := Lib.hid (S5.out.below b6)
    replace S4 := Lib.hid (S4.out.below b6)
    clear b6 hs6 K2 d0 d1 d2 d3 d4 d5 d6 d7
    obtain ⟨d0, d1, d2, d3, d4, d5, d6, d7⟩ := box_cells (HCC.out w6 B6.out)
    have K3 := Lib.hid (CD2.out x4 w6 S4.out HRT.out)
    clear CD2
    go_wp2_with fail
    refine K3.out.mono ?_
    rintro e w7 ⟨x7, rfl, hs7, b7⟩
    have B7 := Lib.hid (below_on B6.out b7)
    replace S6 := Lib.hid (S6.out.below b7)
    replace S4 := Lib.hid (S4.out.below b7)
    have K4 := Lib.hid (same_any w7 (S5.out.below b7) hs7)
    rw [HSD.out] at K4
    clear b7 hs7 K3 S5 d0 d1 d2 d3 d4 d5 d6 d7
    go_wp2_with fail
    refine K4.out.mono ?_
    rintro e w8 ⟨rfl, b8⟩
    have B8 := Lib.hid (below_on B7.out b8)
    replace S6 := Lib.hid (S6.out.below b8)
    replace S4 := Lib.hid (S4.out.below b8)
    clear b8 K4
    obtain ⟨d0, d1, d2, d3, d4, d5, d6, d7⟩ := box_cells (HCC.out w8 B8.out)
    have K5 := Lib.hid (CC2.out x4 w8 S4.out HRT.out)
    clear CC2
    go_wp2_with fail
    refine K5.out.mono ?_
    rintro e w9 ⟨x9, rfl, hs9, b9⟩
    have B9 := Lib.hid (below_on B8.out b9)
    replace S4 := Lib.hid (S4.out.below b9)
    have K6 := Lib.hid (same_any w9 (S6.out.below b9) hs9)
    rw [HSC.out] at K6
    clear b9 hs9 K5 S6 d0 d1 d2 d3 d4 d5 d6 d7
    go_wp2_with fail
    refine K6.out.mono ?_
    rintro e w10 ⟨rfl, b10⟩
    have B10 := Lib.hid (below_on B9.out b10)
    replace S4 := Lib.hid (S4.out.below b10)
    clear b10 K6
    obtain ⟨d0, d1, d2, d3, d4, d5, d6, d7⟩ := box_cells (HCC.out w10 B10.out)
    have K7 := Lib.hid (same_any w10 (HS.out w10 (below_on BW.out B10.out)) S4.out)
    rw [HSA.out] at K7
    go_wp2_with fail
    refine K7.out.mono ?_
    rintro e w11 ⟨rfl, b11⟩
    have HBF := Lib.hid (below_on BW.out (below_on B10.out b11))
    clear b11 K7 d0 d1 d2 d3 d4 d5 d6 d7
    go_wp2_with fail
    go_ret
    exact ⟨by first | rfl | (simp; done), HBF.out⟩
end Go.Proofs.Ytkbjbmhplocdnaa.Dsk
