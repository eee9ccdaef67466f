/- Desk: the walks of DeskOpens, DeskTells, given the program's calls. -/
import Derived.Test.YtkbjbmhplocdnaaDh
set_option linter.unusedVariables false
set_option linter.unusedSimpArgs false
set_option maxRecDepth 100000
namespace Go.Proofs.Ytkbjbmhplocdnaa.Dsk
open Go.RowKit Go.Lib Go.Proofs.Ytkbjbmhplocdnaa.Bx

theorem open1 : openE [] ⟨#[97]⟩ 3 5 9 1 = ([⟨⟨#[97]⟩, 3, 5, 0, ByteArray.mk #[]⟩], 0) := by
  unfold openE
  rw [if_neg (by intro h; rcases h with h | h; exact absurd h (by decide); cases h), if_neg (by decide)]
  rfl
def boxC (lv : Value) (tok : ByteArray) (u q now ttl most : Int) (ans : ByteArray) : Array Value := #[lv, .string tok, .int .i64 u, .int .i64 q, .int .i64 now, .int .i64 ttl, .int .i64 most, .string ans]
theorem box_cells {w : World} {CB : Nat} {lv : Value} {tok : ByteArray} {u q now ttl most : Int} {ans : ByteArray} (h : w.heap[CB]? = some (.cells (boxC lv tok u q now ttl most ans) 24 (0, 0))) :
    w.cell? ⟨CB, 0, none⟩ = some lv ∧ w.cell? ⟨CB, 1, none⟩ = some (.string tok) ∧ w.cell? ⟨CB, 2, none⟩ = some (.int .i64 u) ∧ w.cell? ⟨CB, 3, none⟩ = some (.int .i64 q) ∧ w.cell? ⟨CB, 4, none⟩ = some (.int .i64 now) ∧ w.cell? ⟨CB, 5, none⟩ = some (.int .i64 ttl) ∧ w.cell? ⟨CB, 6, none⟩ = some (.int .i64 most) ∧ w.cell? ⟨CB, 7, none⟩ = some (.string ans) := by
  refine ⟨?_, ?_, ?_, ?_, ?_, ?_, ?_, ?_⟩ <;> (rw [cell_of_row _ _ _ _ _ _ h]; rfl)
theorem opens_walk (OK : OpenOk) {w : World} (v : Value) (A : List Se) (tok : ByteArray) (u q now ttl most : Int) (ans : ByteArray) (hA : Seats w v A) (hu : i64 u) (hq : i64 q) (hnw : i64 now) (htt : i64 ttl) (hmo : i64 most) : Calls Try.prog 3 #[.agg #[v, .string tok, .int .i64 u, .int .i64 q, .int .i64 now, .int .i64 ttl, .int .i64 most, .string ans]] w fun e w' => e = .returned (.bool true) ∧ Below w.heap.size w w' := by
  have HS : Hid (∀ w', Below w.heap.size w w' → Seats w' v A) := fun w' hb => hA.below hb
  have C0 : Hid (∀ w', Calls Try.prog 7 #[.slice none 0 0, .string ⟨#[97]⟩, .int .i64 3, .int .i64 5, .int .i64 9, .int .i64 1] w' fun e w'' => ∃ v', e = .returned (.tuple #[v', .int .i64 0]) ∧ Seats w'' v' [⟨⟨#[97]⟩, 3, 5, 0, ByteArray.mk #[]⟩] ∧ Below w'.heap.size w' w'') := fun w' => by
    have h := OK (.slice none 0 0) [] ⟨#[97]⟩ 3 5 9 1 w' (Seats.nil_ _) (by decide) (by unfold i64; omega) (by unfold i64; omega)
    rw [open1] at h
    exact h
  have CL : Hid (∀ w', Below w.heap.size w w' → Calls Try.prog 8 #[.agg #[v, .string tok, .int .i64 u, .int .i64 q, .int .i64 now, .int .i64 ttl, .int .i64 most, .string ans]] w' fun e w'' => e = .returned (.bool (rightC A now ttl)) ∧ Below w'.heap.size w' w'') := fun w' hb => lright_any tok u q now ttl most ans w' (hA.below hb)
  have CO : Hid (∀ w', Below w.heap.size w w' → rightC A now ttl = true → Calls Try.prog 7 #[v, .string tok, .int .i64 u, .int .i64 now, .int .i64 ttl, .int .i64 most] w' fun e w'' => ∃ v', e = .returned (.tuple #[v', .int .i64 (openE A tok u now ttl most).2]) ∧ Seats w'' v' (openE A tok u now ttl most).1 ∧ Below w'.heap.size w' w'') := fun w' hb hr => OK v A tok u now ttl most w' (hA.below hb) hr hu hmo
  have CR : Hid (∀ w', Below w.heap.size w w' → rightC A now ttl = true → Calls Try.prog 9 #[v, .string tok, .int .i64 u, .int .i64 now, .int .i64 ttl, .int .i64 most] w' fun e w'' => ∃ v', e = .returned (.tuple #[v', .int .i64 (openE A tok u now ttl most).2]) ∧ Seats w'' v' (openE A tok u now ttl most).1 ∧ Below w'.heap.size w' w'') := fun w' hb hr => by
    obtain ⟨a, cap, rfl, _, _⟩ := hA.is_slice
    obtain ⟨h1, h2, _, h4, _⟩ := right_of hr
    exact rOpen_any tok u now ttl most w' (hA.below hb) h2 h1 hu h4
  obtain ⟨R, hR⟩ : ∃ R, R = openE A tok u now ttl most := ⟨_, rfl⟩
  rw [← hR] at CO CR
  obtain ⟨RL, RS⟩ := R
  simp only at CO CR
  clear hA hu hq hnw htt hmo hR
  go_enter Try.func3, Try.ntmps3
  go_upto_region 1 with fail
  obtain ⟨W1, hW1⟩ : ∃ W1, W1 = w.alloc (.cells (boxC v tok u q now ttl most ans) 24) := ⟨_, rfl⟩
  unfold boxC at hW1
  obtain ⟨CB, hCB⟩ : ∃ CB, CB = w.heap.size := ⟨_, rfl⟩
  rw [← hW1, ← hCB]
  have BW : Hid (Below w.heap.size w W1) := by rw [hW1]; exact below_al (Below.refl _ _) _
  have PW : Hid (W1.heap[CB]? = some (.cells (boxC v tok u q now ttl most ans) 24 (0, 0))) := by show _ = _; rw [hW1, hCB]; exact heap_alloc_new _ _
  have HCC : Hid (∀ w', Below W1.heap.size W1 w' → w'.heap[CB]? = some (.cells (boxC v tok u q now ttl most ans) 24 (0, 0))) := fun w' hb => (hb.block _ (Array.getElem?_eq_some_iff.1 PW.out).1).trans PW.out
  clear hW1 hCB PW
  go_wp2_with fail
  refine (C0.out _).mono ?_
  rintro e w2 ⟨v2, rfl, hs2, b2⟩
  obtain ⟨b, off, cap, rfl, k1, k2, c1, _⟩ := one_seat hs2
  unfold maxLen at k2
  simp only at c1
  have B2 := Lib.hid b2
  obtain ⟨d0, d1, d2, d3, d4, d5, d6, d7⟩ := box_cells (HCC.out w2 b2)
  have CL2 := Lib.hid (CL.out w2 (below_on BW.out b2))
  clear b2 hs2 C0 CL
  go_upto_region 4 with fail
  clear c1
  go_wp2_with fail
  refine CL2.out.mono ?_
  rintro e w3 ⟨rfl, b3⟩
  have B3 := Lib.hid (below_on B2.out b3)
  clear b3 CL2 d0 d1 d2 d3 d4 d5 d6 d7
  cases hr : rightC A now ttl with
  | false =>
    clear CO CR hr HS
    have HBF := Lib.hid (below_on BW.out B3.out)
    go_wp2_with fail
    go_ret
    exact ⟨rfl, HBF.out⟩
  | true =>
    obtain ⟨d0, d1, d2, d3, d4, d5, d6, d7⟩ := box_cells (HCC.out w3 B3.out)
    have CO3 := Lib.hid (CO.out w3 (below_on BW.out B3.out) hr)
    have HRT := Lib.hid hr
    clear hr CO
    go_wp2_with fail
    refine CO3.out.mono ?_
    rintro e w4 ⟨v4, rfl, hs4, b4⟩
    have B4 := Lib.hid (below_on B3.out b4)
    have HS4 := Lib.hid hs4
    clear b4 hs4 CO3 d0 d1 d2 d3 d4 d5 d6 d7
    obtain ⟨d0, d1, d2, d3, d4, d5, d6, d7⟩ := box_cells (HCC.out w4 B4.out)
    have CR4 := Lib.hid (CR.out w4 (below_on BW.out B4.out) HRT.out)
    clear CR
    go_wp2_with fail
    refine CR4.out.mono ?_
    rintro e w5 ⟨v5, rfl, hs5, b5⟩
    have B5 := Lib.hid (below_on B4.out b5)
    have CS := Lib.hid (same_any w5 (HS4.out.below b5) hs5)
    have HSM : Hid (sameB RL RL = true) := same_iff.2 rfl
    rw [HSM.out] at CS
    clear b5 hs5 CR4 d0 d1 d2 d3 d4 d5 d6 d7
    go_wp2_with fail
    refine CS.out.mono ?_
    rintro e w6 ⟨rfl, b6⟩
    have HBF := Lib.hid (below_on BW.out (below_on B5.out b6))
    clear b6 CS
    go_wp2_with fail
    go_ret
    exact ⟨by first | rfl | (simp; done), HBF.out⟩
end Go.Proofs.Ytkbjbmhplocdnaa.Dsk
