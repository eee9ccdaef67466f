/- Desk: the walk of DeskTells, given the program's calls. -/
import Derived.Test.YtkbjbmhplocdnaaDi
set_option linter.unusedVariables false
set_option linter.unusedSimpArgs false
set_option maxRecDepth 100000
namespace Go.Proofs.Ytkbjbmhplocdnaa.Dsk
open Go.RowKit Go.Lib Go.Proofs.Ytkbjbmhplocdnaa.Bx

def sA : Se := ⟨⟨#[97]⟩, 3, 5, 0, ByteArray.mk #[]⟩
def sB : Se := ⟨⟨#[97]⟩, 0, 0, 0, ByteArray.mk #[]⟩
theorem pl1 (y : Se) : plO [y] y.t = some 0 := pl_some (A := [y]) (i := 0) (Nat.zero_lt_one) rfl (fun j hj => absurd hj (by omega))
theorem who1 : whoE [sA] ⟨#[97]⟩ 9 4 = (3, true) := by
  unfold whoE liveO
  rw [show plO [sA] ⟨#[97]⟩ = some 0 from pl1 sA]
  rfl
theorem once1 (y : Se) : onceB [y] = true := by
  unfold onceB
  rw [List.all_eq_true]
  intro i hi
  have : i = 0 := by simpa using hi
  subst this
  exact decide_eq_true (pl_int (pl1 y))
theorem in1 {y : Se} (h : 0 ≤ y.d ∧ y.d ≤ 1099511627776) : inB [y] = true := in_iff.2 fun i hi => by
  have : i = 0 := by simpa using hi
  subst this
  exact h
theorem right1 {y : Se} {now ttl : Int} (h : 0 ≤ y.d ∧ y.d ≤ 1099511627776) (hn : 0 ≤ now ∧ now ≤ 1099511627776) (ht : 0 ≤ ttl ∧ ttl ≤ 1099511627776) : rightC [y] now ttl = true := by
  unfold rightC
  rw [in1 h, once1, decide_eq_true hn.1, decide_eq_true hn.2, decide_eq_true ht.1, decide_eq_true ht.2]
  rfl
theorem seats1 {w : World} {b : Nat} {y : Se} (hg : good y) (h : w.heap[b]? = some (.cells (cellsS y).toArray 28 (0, 0))) : Seats w (.slice (some ⟨b, 0, none⟩) 1 1) [y] := ⟨row_seat h, fun z hz => by
  rw [List.mem_singleton] at hz
  subst hz
  exact hg⟩
theorem good_lit : i64 0 ∧ i64 3 ∧ i64 5 ∧ i64 1 := by unfold i64; omega
theorem tells_walk (WK : WhoOk) (BK : BeginOk) {w : World} (v : Value) (A : List Se) (tok : ByteArray) (u q now ttl most : Int) (ans : ByteArray) (hA : Seats w v A) (hu : i64 u) (hq : i64 q) (hnw : i64 now) (htt : i64 ttl) (hmo : i64 most) : Calls Try.prog 4 #[.agg #[v, .string tok, .int .i64 u, .int .i64 q, .int .i64 now, .int .i64 ttl, .int .i64 most, .string ans]] w fun e w' => e = .returned (.bool true) ∧ Below w.heap.size w w' := by
  have C0 : Hid (∀ w' b, w'.heap[b]? = some (.cells (cellsS sA).toArray 28 (0, 0)) → Calls Try.prog 11 #[.slice (some ⟨b, 0, none⟩) 1 1, .string ⟨#[97]⟩, .int .i64 9, .int .i64 4] w' fun e w'' => e = .returned (.tuple #[.int .i64 3, .bool true]) ∧ Below w'.heap.size w' w'') := fun w' b hb => by
    have h := WK (.slice (some ⟨b, 0, none⟩) 1 1) [sA] ⟨#[97]⟩ 9 4 w' (seats1 ⟨good_lit.2.1, good_lit.2.2.1, good_lit.1⟩ hb) (right1 (by decide) (by omega) (by omega))
    rw [who1] at h
    exact h
  have CL : Hid (∀ w', Below w.heap.size w w' → Calls Try.prog 8 #[.agg #[v, .string tok, .int .i64 u, .int .i64 q, .int .i64 now, .int .i64 ttl, .int .i64 most, .string ans]] w' fun e w'' => e = .returned (.bool (rightC A now ttl)) ∧ Below w'.heap.size w' w'') := fun w' hb => lright_any tok u q now ttl most ans w' (hA.below hb)
  have CW : Hid (∀ w', Below w.heap.size w w' → rightC A now ttl = true → Calls Try.prog 11 #[v, .string tok, .int .i64 now, .int .i64 ttl] w' fun e w'' => e = .returned (.tuple #[.int .i64 (whoE A tok now ttl).1, .bool (whoE A tok now ttl).2]) ∧ Below w'.heap.size w' w'') := fun w' hb hr => WK v A tok now ttl w' (hA.below hb) hr
  have CB : Hid (∀ w', Below w.heap.size w w' → rightC A now ttl = true → Calls Try.prog 13 #[v, .string tok, .int .i64 q, .int .i64 now, .int .i64 ttl] w' fun e w'' => e = .returned (.tuple #[.string (beginE A tok q now ttl).1, .int .i64 (beginE A tok q now ttl).2]) ∧ Below w'.heap.size w' w'') := fun w' hb hr => BK v A tok q now ttl w' (hA.below hb) hr hq
  have CW2 : Hid (∀ w', Below w.heap.size w w' → rightC A now ttl = true → Calls Try.prog 12 #[v, .string tok, .int .i64 now, .int .i64 ttl] w' fun e w'' => e = .returned (.tuple #[.int .i64 (whoE A tok now ttl).1, .bool (whoE A tok now ttl).2]) ∧ Below w'.heap.size w' w'') := fun w' hb hr => by
    obtain ⟨a, cap, rfl, hn, hm⟩ := hA.is_slice
    obtain ⟨h1, h2, _, h4, _⟩ := right_of hr
    exact rWho_any tok now ttl w' (hA.cells.below hb) hn hm h1 h4
  have CB2 : Hid (∀ w', Below w.heap.size w w' → rightC A now ttl = true → Calls Try.prog 14 #[v, .string tok, .int .i64 q, .int .i64 now, .int .i64 ttl] w' fun e w'' => e = .returned (.tuple #[.string (beginE A tok q now ttl).1, .int .i64 (beginE A tok q now ttl).2]) ∧ Below w'.heap.size w' w'') := fun w' hb hr => by
    obtain ⟨a, cap, rfl, hn, hm⟩ := hA.is_slice
    obtain ⟨h1, h2, _, h4, _⟩ := right_of hr
    exact rBegin_any tok q now ttl w' (hA.cells.below hb) hn hm h1 h4
  generalize (whoE A tok now ttl).1 = r1 at *
  generalize (whoE A tok now ttl).2 = r2 at *
  generalize (beginE A tok q now ttl).1 = r3 at *
  generalize (beginE A tok q now ttl).2 = r4 at *
  have SE : (r3.toList == r3.toList) = true := by simp
  clear hA hu hq hnw htt hmo
  go_enter Try.func4, Try.ntmps4
  go_upto_region 1 with fail
  obtain ⟨W1, hW1⟩ : ∃ W1, W1 = w.alloc (.cells (boxC v tok u q now ttl most ans) 24) := ⟨_, rfl⟩
  unfold boxC at hW1
  obtain ⟨CBk, hCB⟩ : ∃ CBk, CBk = w.heap.size := ⟨_, rfl⟩
  rw [← hW1, ← hCB]
  have BW : Hid (Below w.heap.size w W1) := by rw [hW1]; exact below_al (Below.refl _ _) _
  have PW : Hid (W1.heap[CBk]? = some (.cells (boxC v tok u q now ttl most ans) 24 (0, 0))) := by show _ = _; rw [hW1, hCB]; exact heap_alloc_new _ _
  have HCC : Hid (∀ w', Below W1.heap.size W1 w' → w'.heap[CBk]? = some (.cells (boxC v tok u q now ttl most ans) 24 (0, 0))) := fun w' hb => (hb.block _ (Array.getElem?_eq_some_iff.1 PW.out).1).trans PW.out
  have HBL : Hid (Below W1.heap.size W1 (W1.alloc (.cells #[.string ⟨#[97]⟩, .int .i64 3, .int .i64 5, .int .i64 0, .string ⟨#[]⟩] 28))) := below_al (Below.refl _ _) _
  have C01 := Lib.hid (C0.out (W1.alloc (.cells #[.string ⟨#[97]⟩, .int .i64 3, .int .i64 5, .int .i64 0, .string ⟨#[]⟩] 28)) W1.heap.size (heap_alloc_new W1 _))
  clear hW1 hCB PW C0
  go_wp2_with fail
  refine C01.out.mono ?_
  rintro e w2 ⟨rfl, b2⟩
  have B2 := Lib.hid (below_on HBL.out b2)
  clear b2 C01 HBL
  obtain ⟨d0, d1, d2, d3, d4, d5, d6, d7⟩ := box_cells (HCC.out w2 B2.out)
  have CL2 := Lib.hid (CL.out w2 (below_on BW.out B2.out))
  clear CL
  go_wp2_with fail
  refine CL2.out.mono ?_
  rintro e w3 ⟨rfl, b3⟩
  have B3 := Lib.hid (below_on B2.out b3)
  clear b3 CL2 d0 d1 d2 d3 d4 d5 d6 d7
  cases hr : rightC A now ttl with
  | false =>
    clear CW CW2 CB CB2 hr
    have HBF := Lib.hid (below_on BW.out B3.out)
    go_wp2_with fail
    go_ret
    exact ⟨rfl, HBF.out⟩
  | true =>
    obtain ⟨d0, d1, d2, d3, d4, d5, d6, d7⟩ := box_cells (HCC.out w3 B3.out)
    have K1 := Lib.hid (CW.out w3 (below_on BW.out B3.out) hr)
    have HRT := Lib.hid hr
    clear hr CW
    go_wp2_with fail
    refine K1.out.mono ?_
    rintro e w4 ⟨rfl, b4⟩
    have B4 := Lib.hid (below_on B3.out b4)
    clear b4 K1 d0 d1 d2 d3 d4 d5 d6 d7
    obtain ⟨d0, d1, d2, d3, d4, d5, d6, d7⟩ := box_cells (HCC.out w4 B4.out)
    have K2 := Lib.hid (CW2.out w4 (below_on BW.out B4.out) HRT.out)
    clear CW2
    go_wp2_with fail
    refine K2.out.mono ?_
    rintro e w5 ⟨rfl, b5⟩
    have B5 := Lib.hid (below_on B4.out b5)
    clear b5 K2 d0 d1 d2 d3 d4 d5 d6 d7
    obtain ⟨d0, d1, d2, d3, d4, d5, d6, d7⟩ := box_cells (HCC.out w5 B5.out)
    have K3 := Lib.hid (CB.out w5 (below_on BW.out B5.out) HRT.out)
    clear CB
    go_wp2_with fail
    refine K3.out.mono ?_
    rintro e w6 ⟨rfl, b6⟩
    have B6 := Lib.hid (below_on B5.out b6)
    clear b6 K3 d0 d1 d2 d3 d4 d5 d6 d7
    obtain ⟨d0, d1, d2, d3, d4, d5, d6, d7⟩ := box_cells (HCC.out w6 B6.out)
    have K4 := Lib.hid (CB2.out w6 (below_on BW.out B6.out) HRT.out)
    clear CB2
    go_wp2_with fail
    refine K4.out.mono ?_
    rintro e w7 ⟨rfl, b7⟩
    have HBF := Lib.hid (below_on BW.out (below_on B6.out b7))
    clear b7 K4 d0 d1 d2 d3 d4 d5 d6 d7
    go_wp2_with fail
    go_ret
    exact ⟨by first | rfl | (simp; done), HBF.out⟩
end Go.Proofs.Ytkbjbmhplocdnaa.Dsk
