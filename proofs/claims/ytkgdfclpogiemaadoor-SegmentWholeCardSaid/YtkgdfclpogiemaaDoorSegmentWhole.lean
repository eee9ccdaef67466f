/- For every plain segment and everything that is asked: SegmentWhole answers true, and its arguments read behind the call as before. No condition. THE TIED CARD: unicode/utf8's two tables start as the program's text lays them. -/
import Derived.Test.YtkgdfclpogiemaaDoorRows
import Derived.Test.YtkgdfclpogiemaaDoorTie
import Derived.Test.YtkgdfclpogiemaaDoorCards
import Derived.Test.YtkgdfclpogiemaaDoorLift
import Derived.ProofKit
import Derived.Lib.LaidU8T
import Derived.PinnedBridge
import Derived.Lay
import Derived.LaidOnce
import Derived.SevenTiedAt
import Derived.Test.YtkgdfclpogiemaaDoorW
import Derived.Test.YtkgdfclpogiemaaDoorVb
import Derived.Test.YtkgdfclpogiemaaDoorParts
import Derived.Deep.RegionHeld3
import Derived.Deep.DeepCutAuto
import Derived.Deep.CutBlock
import Derived.Laws.Concat
set_option linter.unusedVariables false
namespace Go.Proofs.YtkgdfclpogiemaaDoor.segmentWhole
open Go.ChangeShapes Go.WideShapes Go.ChangeAt Go.RowKit Go.Lib Go.Shelf Go.Proofs.YtkgdfclpogiemaaDoor.Lift Go.Proofs.YtkgdfclpogiemaaDoor.Rt Go.Proofs.YtkgdfclpogiemaaDoor.Rig Go.Proofs.YtkgdfclpogiemaaDoor.Seg
open Go.ChangeMaps (open_string shut_string)

theorem own : ownKnob Tryd.prog.godebug = none := by kernel_rfl
theorem laidOut : laidOutB Tryd.prog = true := by kernel_rfl

theorem e1 : Let.cut [97, 98, 99] 0 (1 : Nat) = [97] := by decide +kernel
theorem e2 : Let.cut [97, 98, 99] (1 : Nat) (2 : Nat) = [98] := by decide +kernel
theorem e3 : Let.cut [97, 98, 99] (2 : Nat) (Let.cnt [97, 98, 99] : Nat) = [99] := by decide +kernel
theorem e4 : placeI (Let.cnt [97, 98, 99]) 1 = (1 : Nat) := by decide +kernel
theorem e5 : strTo (Let.cnt [97, 98, 99]) 1 1 = (2 : Nat) := by decide +kernel
theorem e6 : (2 : Nat) ≤ Let.cnt [97, 98, 99] := by decide +kernel
theorem whole3 (L : Bytes) {p e : Nat} (h1 : p ≤ e) (h2 : e ≤ Let.cnt L) : Let.cut L 0 p ++ Let.cut L p e ++ Let.cut L e (Let.cnt L) = L := by
  rw [Lift.cut_meet _ (by omega) (by omega)]
  have : Let.cut L e (Let.cnt L) = Let.cut L e (L.length : Int) := by
    unfold Let.cut
    rw [Int.toNat_natCast, Int.toNat_natCast, Int.toNat_natCast, Let.byt_cnt, Let.byt_all (Let.cnt_len L)]
  rw [this]
  exact Lift.cut_whole L e _ rfl
set_option maxRecDepth 100000 in
set_option maxHeartbeats 24000000 in
theorem walk (w : World) (hT : Tabs w) {v : Value} {i l : Int} {L : Bytes} {S : List Sp} {T : List St} (h : Arg w v i l L S T) (d : Deed) (hd : d.good) :
    Calls Tryd.prog 5 #[v, d.val] w fun e w' => e = .returned (.bool true) ∧ Below w.heap.size w w' := by
  obtain ⟨da, dn, dm, dq, dt⟩ := d
  obtain ⟨ga, gn, gm, gq, gt⟩ := hd
  show Calls Tryd.prog 5 #[v, .agg #[.int .i64 da, .int .i64 dn, .int .i64 dm, .int .i64 dq, .string (Let.mk dt)]] w _
  simp only at ga gn gm gq gt
  have C1 : Hid (∀ w', Below w.heap.size w w' → Calls Tryd.prog 10 #[.string (ByteArray.mk #[97, 98, 99])] w' (GiveSg w' 1 2 [97, 98, 99] [] [])) := fun w' hb => text_any [97, 98, 99] w' (by decide) (by decide +kernel) (hT.below hb)
  have C2 : Hid (∀ w' x, Sg w' x 1 2 [97, 98, 99] [] [] → Calls Tryd.prog 11 #[x, .int .i64 1, .int .i64 1, .int .i64 5, .int .i64 6, .int .i64 3] w' (GivePart w' 1 2 5 3 6 [97] [98] [99] [] [] [] [])) := fun w' x hx => by
    have := spart_any 1 2 1 1 5 6 3 w' hx trivial ⟨List.Pairwise.nil, by simp⟩ e4 e5 (by omega) e6 (by omega) (by omega) (by omega) (by omega) (by decide) (by simp)
    rwa [e1, e2, e3] at this
  have CR : Hid (∀ w' x (i l : Int) (L : Bytes) (S : List Sp) (T : List St), Sg w' x i l L S T → Calls Tryd.prog 12 #[x] w' fun e w'' => ∃ q, e = .returned (.pointer q) ∧ IsRope w'' L (.pointer q) ∧ Below w'.heap.size w' w'') := fun w' x i l L S T hx => rope_any w' hx
  have CT : Hid (∀ w' u L, L.length ≤ 100000 → IsRope w' L u → Calls Tryd.prog 13 #[u] w' fun e w'' => e = .returned (.string (Let.mk L)) ∧ Below w'.heap.size w' w'') := fun w' u L hl hu => Con.text_is w' hu (by omega)
  have CI : Hid (∀ w' x (i l : Int) (L : Bytes) (S : List Sp) (T : List St), Sg w' x i l L S T → Calls Tryd.prog 15 #[x] w' fun e w'' => e = .returned (.int .i64 i) ∧ Below w'.heap.size w' w'') := fun w' x i l L S T hx => id_any w' hx
  have CB : Hid (∀ w' x (i l : Int) (L : Bytes) (S : List Sp) (T : List St), Sg w' x i l L S T → Calls Tryd.prog 14 #[x] w' fun e w'' => e = .returned (.int .i64 l) ∧ Below w'.heap.size w' w'') := fun w' x i l L S T hx => label_any w' hx
  have CN : Hid (loadB L S T dt = false → ∀ w', Below w.heap.size w w' → Calls Tryd.prog 16 #[v, .agg #[.int .i64 da, .int .i64 dn, .int .i64 dm, .int .i64 dq, .string (Let.mk dt)]] w' fun e w'' => e = .returned (.tuple #[.agg #[.int .i64 0, .int .i64 0, .pointer none, .slice none 0 0, .slice none 0 0], .bool false]) ∧ Below w'.heap.size w' w'') := fun hB w' hb => loaded_no w' da dn dm dq dt (h.pl.below hb (Nat.le_refl _)) hB (hT.below hb) gt
  have CY : Hid (loadB L S T dt = true → ∀ w', Below w.heap.size w w' → Calls Tryd.prog 16 #[v, .agg #[.int .i64 da, .int .i64 dn, .int .i64 dm, .int .i64 dq, .string (Let.mk dt)]] w' (GiveIns w' true i l L S T)) := fun hB w' hb => loaded_yes w' da dn dm dq dt (h.pl.below hb (Nat.le_refl _)) hB (hT.below hb) gt
  have HPL : Hid (∀ w', Below w.heap.size w w' → Pl w' v i l L S T) := fun w' hb => h.pl.below hb (Nat.le_refl _)
  obtain ⟨sa, sc, ta, tc, rfl, _, _⟩ := h.pl.open_
  obtain ⟨ls, hls⟩ : ∃ ls, ls = S.length := ⟨_, rfl⟩
  obtain ⟨lt, hlt⟩ : ∃ lt, lt = T.length := ⟨_, rfl⟩
  simp only [← hls, ← hlt] at CN CY HPL ⊢
  have GA := Lib.hid ga
  have GN := Lib.hid gn
  obtain ⟨ga1, ga2⟩ := ga
  obtain ⟨gn1, gn2⟩ := gn
  have BB : Hid (Below w.heap.size w w) := Below.refl _ _
  obtain ⟨W1, hW1⟩ : ∃ W1, W1 = w.alloc (.cells #[.int .i64 i, .int .i64 l, .string (Let.mk L), .slice sa ls sc, .slice ta lt tc] 25) := ⟨_, rfl⟩
  obtain ⟨hb1, hr1, hl1⟩ := box_at hW1 (rfl : w.heap.size = w.heap.size)
  replace BB : Hid (Below w.heap.size w W1) := below_more BB.out hb1
  have RW : Hid (W1.heap[w.heap.size]? = some (.cells #[.int .i64 i, .int .i64 l, .string (Let.mk L), .slice sa ls sc, .slice ta lt tc] 25 (0, 0))) := hr1
  have HW1 := Lib.hid hW1
  clear hW1 hb1 hr1
  obtain ⟨W2, hW2⟩ : ∃ W2, W2 = W1.alloc (.cells #[.int .i64 da, .int .i64 dn, .int .i64 dm, .int .i64 dq, .string (Let.mk dt)] 27) := ⟨_, rfl⟩
  obtain ⟨hb2, hr2, hl2⟩ := box_at hW2 (hl1 : W1.heap.size = w.heap.size + 1)
  replace RW : Hid (W2.heap[w.heap.size]? = some (.cells #[.int .i64 i, .int .i64 l, .string (Let.mk L), .slice sa ls sc, .slice ta lt tc] 25 (0, 0))) := (hb2.block _ (row_lt RW.out)).trans RW.out
  replace BB : Hid (Below w.heap.size w W2) := below_more BB.out hb2
  have RD : Hid (W2.heap[w.heap.size + 1]? = some (.cells #[.int .i64 da, .int .i64 dn, .int .i64 dm, .int .i64 dq, .string (Let.mk dt)] 27 (0, 0))) := hr2
  have HW2 := Lib.hid hW2
  clear hW2 hb2 hr2
  clear h hT hls hlt gm gq gt
  go_enter Tryd.func5, Tryd.ntmps5
  go_upto_region 1 with fail
  rw [← HW1.out, ← HW2.out]
  clear HW1 HW2
  clear hl1 hl2
  go_wp2_with fail
  refine (C1.out _ BB.out).mono ?_
  rintro e w1 ⟨v1, rfl, o1, b1⟩
  replace RW : Hid (w1.heap[w.heap.size]? = some (.cells #[.int .i64 i, .int .i64 l, .string (Let.mk L), .slice sa ls sc, .slice ta lt tc] 25 (0, 0))) := (b1.block _ (row_lt RW.out)).trans RW.out
  replace RD : Hid (w1.heap[w.heap.size + 1]? = some (.cells #[.int .i64 da, .int .i64 dn, .int .i64 dm, .int .i64 dq, .string (Let.mk dt)] 27 (0, 0))) := (b1.block _ (row_lt RD.out)).trans RD.out
  replace BB : Hid (Below w.heap.size w w1) := below_more BB.out b1
  go_wp2_with fail
  refine (C2.out _ _ o1).mono ?_
  rintro e w2 ⟨u1, u2, u3, rfl, o1, o2, o3, b2⟩
  replace RW : Hid (w2.heap[w.heap.size]? = some (.cells #[.int .i64 i, .int .i64 l, .string (Let.mk L), .slice sa ls sc, .slice ta lt tc] 25 (0, 0))) := (b2.block _ (row_lt RW.out)).trans RW.out
  replace RD : Hid (w2.heap[w.heap.size + 1]? = some (.cells #[.int .i64 da, .int .i64 dn, .int .i64 dm, .int .i64 dq, .string (Let.mk dt)] 27 (0, 0))) := (b2.block _ (row_lt RD.out)).trans RD.out
  replace BB : Hid (Below w.heap.size w w2) := below_more BB.out b2
  clear C1 C2
  obtain ⟨q1, a1, d1, b1, f1, rfl, _, _, _⟩ := o1.open_
  obtain ⟨q2, a2, d2, b2, f2, rfl, _, _, _⟩ := o2.open_
  obtain ⟨q3, a3, d3, b3, f3, rfl, _, _, _⟩ := o3.open_
  simp only [List.length_nil] at o1 o2 o3 ⊢
  have O1 : Hid (Sg w2 (.agg #[.int .i64 1, .int .i64 2, .pointer q1, .slice a1 0 d1, .slice b1 0 f1]) 1 2 [97] [] []) := o1
  have O2 : Hid (Sg w2 (.agg #[.int .i64 5, .int .i64 3, .pointer q2, .slice a2 0 d2, .slice b2 0 f2]) 5 3 [98] [] []) := o2
  have O3 : Hid (Sg w2 (.agg #[.int .i64 6, .int .i64 2, .pointer q3, .slice a3 0 d3, .slice b3 0 f3]) 6 2 [99] [] []) := o3
  clear o1 o2 o3
  obtain ⟨W3, hW3⟩ : ∃ W3, W3 = w2.alloc (.cells #[.int .i64 1, .int .i64 2, .pointer q1, .slice a1 0 d1, .slice b1 0 f1] 33) := ⟨_, rfl⟩
  obtain ⟨hb3, hr3, hl3⟩ := box_at hW3 (rfl : w2.heap.size = w2.heap.size)
  replace RW : Hid (W3.heap[w.heap.size]? = some (.cells #[.int .i64 i, .int .i64 l, .string (Let.mk L), .slice sa ls sc, .slice ta lt tc] 25 (0, 0))) := (hb3.block _ (row_lt RW.out)).trans RW.out
  replace RD : Hid (W3.heap[w.heap.size + 1]? = some (.cells #[.int .i64 da, .int .i64 dn, .int .i64 dm, .int .i64 dq, .string (Let.mk dt)] 27 (0, 0))) := (hb3.block _ (row_lt RD.out)).trans RD.out
  replace BB : Hid (Below w.heap.size w W3) := below_more BB.out hb3
  replace O1 : Hid (Sg W3 (.agg #[.int .i64 1, .int .i64 2, .pointer q1, .slice a1 0 d1, .slice b1 0 f1]) 1 2 [97] [] []) := O1.out.below hb3 (Nat.le_refl _)
  replace O2 : Hid (Sg W3 (.agg #[.int .i64 5, .int .i64 3, .pointer q2, .slice a2 0 d2, .slice b2 0 f2]) 5 3 [98] [] []) := O2.out.below hb3 (Nat.le_refl _)
  replace O3 : Hid (Sg W3 (.agg #[.int .i64 6, .int .i64 2, .pointer q3, .slice a3 0 d3, .slice b3 0 f3]) 6 2 [99] [] []) := O3.out.below hb3 (Nat.le_refl _)
  have RA1 : Hid (W3.heap[w2.heap.size]? = some (.cells #[.int .i64 1, .int .i64 2, .pointer q1, .slice a1 0 d1, .slice b1 0 f1] 33 (0, 0))) := hr3
  have HW3 := Lib.hid hW3
  clear hW3 hb3 hr3
  obtain ⟨W4, hW4⟩ : ∃ W4, W4 = W3.alloc (.cells #[.int .i64 5, .int .i64 3, .pointer q2, .slice a2 0 d2, .slice b2 0 f2] 33) := ⟨_, rfl⟩
  obtain ⟨hb4, hr4, hl4⟩ := box_at hW4 (hl3 : W3.heap.size = w2.heap.size + 1)
  replace RW : Hid (W4.heap[w.heap.size]? = some (.cells #[.int .i64 i, .int .i64 l, .string (Let.mk L), .slice sa ls sc, .slice ta lt tc] 25 (0, 0))) := (hb4.block _ (row_lt RW.out)).trans RW.out
  replace RD : Hid (W4.heap[w.heap.size + 1]? = some (.cells #[.int .i64 da, .int .i64 dn, .int .i64 dm, .int .i64 dq, .string (Let.mk dt)] 27 (0, 0))) := (hb4.block _ (row_lt RD.out)).trans RD.out
  replace RA1 : Hid (W4.heap[w2.heap.size]? = some (.cells #[.int .i64 1, .int .i64 2, .pointer q1, .slice a1 0 d1, .slice b1 0 f1] 33 (0, 0))) := (hb4.block _ (row_lt RA1.out)).trans RA1.out
  replace BB : Hid (Below w.heap.size w W4) := below_more BB.out hb4
  replace O1 : Hid (Sg W4 (.agg #[.int .i64 1, .int .i64 2, .pointer q1, .slice a1 0 d1, .slice b1 0 f1]) 1 2 [97] [] []) := O1.out.below hb4 (Nat.le_refl _)
  replace O2 : Hid (Sg W4 (.agg #[.int .i64 5, .int .i64 3, .pointer q2, .slice a2 0 d2, .slice b2 0 f2]) 5 3 [98] [] []) := O2.out.below hb4 (Nat.le_refl _)
  replace O3 : Hid (Sg W4 (.agg #[.int .i64 6, .int .i64 2, .pointer q3, .slice a3 0 d3, .slice b3 0 f3]) 6 2 [99] [] []) := O3.out.below hb4 (Nat.le_refl _)
  have RA2 : Hid (W4.heap[w2.heap.size + 1]? = some (.cells #[.int .i64 5, .int .i64 3, .pointer q2, .slice a2 0 d2, .slice b2 0 f2] 33 (0, 0))) := hr4
  have HW4 := Lib.hid hW4
  clear hW4 hb4 hr4
  obtain ⟨W5, hW5⟩ : ∃ W5, W5 = W4.alloc (.cells #[.int .i64 6, .int .i64 2, .pointer q3, .slice a3 0 d3, .slice b3 0 f3] 33) := ⟨_, rfl⟩
  obtain ⟨hb5, hr5, hl5⟩ := box_at hW5 (hl4 : W4.heap.size = w2.heap.size + 1 + 1)
  replace RW : Hid (W5.heap[w.heap.size]? = some (.cells #[.int .i64 i, .int .i64 l, .string (Let.mk L), .slice sa ls sc, .slice ta lt tc] 25 (0, 0))) := (hb5.block _ (row_lt RW.out)).trans RW.out
  replace RD : Hid (W5.heap[w.heap.size + 1]? = some (.cells #[.int .i64 da, .int .i64 dn, .int .i64 dm, .int .i64 dq, .string (Let.mk dt)] 27 (0, 0))) := (hb5.block _ (row_lt RD.out)).trans RD.out
  replace RA1 : Hid (W5.heap[w2.heap.size]? = some (.cells #[.int .i64 1, .int .i64 2, .pointer q1, .slice a1 0 d1, .slice b1 0 f1] 33 (0, 0))) := (hb5.block _ (row_lt RA1.out)).trans RA1.out
  replace RA2 : Hid (W5.heap[w2.heap.size + 1]? = some (.cells #[.int .i64 5, .int .i64 3, .pointer q2, .slice a2 0 d2, .slice b2 0 f2] 33 (0, 0))) := (hb5.block _ (row_lt RA2.out)).trans RA2.out
  replace BB : Hid (Below w.heap.size w W5) := below_more BB.out hb5
  replace O1 : Hid (Sg W5 (.agg #[.int .i64 1, .int .i64 2, .pointer q1, .slice a1 0 d1, .slice b1 0 f1]) 1 2 [97] [] []) := O1.out.below hb5 (Nat.le_refl _)
  replace O2 : Hid (Sg W5 (.agg #[.int .i64 5, .int .i64 3, .pointer q2, .slice a2 0 d2, .slice b2 0 f2]) 5 3 [98] [] []) := O2.out.below hb5 (Nat.le_refl _)
  replace O3 : Hid (Sg W5 (.agg #[.int .i64 6, .int .i64 2, .pointer q3, .slice a3 0 d3, .slice b3 0 f3]) 6 2 [99] [] []) := O3.out.below hb5 (Nat.le_refl _)
  have RA3 : Hid (W5.heap[w2.heap.size + 1 + 1]? = some (.cells #[.int .i64 6, .int .i64 2, .pointer q3, .slice a3 0 d3, .slice b3 0 f3] 33 (0, 0))) := hr5
  have HW5 := Lib.hid hW5
  clear hW5 hb5 hr5
  go_upto_region 2 with fail
  rw [← HW3.out, ← HW4.out, ← HW5.out]
  clear HW3 HW4 HW5
  clear hl3 hl4 hl5
  have BX : Hid (∀ w', Below W5.heap.size W5 w' → Below W5.heap.size W5 w' ∧ (w'.cell? ⟨w2.heap.size, 0, none⟩ = some (.int .i64 1) ∧ w'.cell? ⟨w2.heap.size, 1, none⟩ = some (.int .i64 2) ∧ w'.cell? ⟨w2.heap.size, 2, none⟩ = some (.pointer q1) ∧ w'.cell? ⟨w2.heap.size, 3, none⟩ = some (.slice a1 0 d1) ∧ w'.cell? ⟨w2.heap.size, 4, none⟩ = some (.slice b1 0 f1)) ∧ (w'.cell? ⟨w2.heap.size + 1, 0, none⟩ = some (.int .i64 5) ∧ w'.cell? ⟨w2.heap.size + 1, 1, none⟩ = some (.int .i64 3) ∧ w'.cell? ⟨w2.heap.size + 1, 2, none⟩ = some (.pointer q2) ∧ w'.cell? ⟨w2.heap.size + 1, 3, none⟩ = some (.slice a2 0 d2) ∧ w'.cell? ⟨w2.heap.size + 1, 4, none⟩ = some (.slice b2 0 f2)) ∧ (w'.cell? ⟨w2.heap.size + 1 + 1, 0, none⟩ = some (.int .i64 6) ∧ w'.cell? ⟨w2.heap.size + 1 + 1, 1, none⟩ = some (.int .i64 2) ∧ w'.cell? ⟨w2.heap.size + 1 + 1, 2, none⟩ = some (.pointer q3) ∧ w'.cell? ⟨w2.heap.size + 1 + 1, 3, none⟩ = some (.slice a3 0 d3) ∧ w'.cell? ⟨w2.heap.size + 1 + 1, 4, none⟩ = some (.slice b3 0 f3))) := fun w' hb => ⟨hb, five_cells ((hb.block _ (row_lt RA1.out)).trans RA1.out), five_cells ((hb.block _ (row_lt RA2.out)).trans RA2.out), five_cells ((hb.block _ (row_lt RA3.out)).trans RA3.out)⟩
  have KR := Lib.hid (Below.refl W5.heap.size W5)
  have GG : Hid (∀ w', Below W5.heap.size W5 w' → Sg w' (.agg #[.int .i64 1, .int .i64 2, .pointer q1, .slice a1 0 d1, .slice b1 0 f1]) 1 2 [97] [] [] ∧ Sg w' (.agg #[.int .i64 5, .int .i64 3, .pointer q2, .slice a2 0 d2, .slice b2 0 f2]) 5 3 [98] [] [] ∧ Sg w' (.agg #[.int .i64 6, .int .i64 2, .pointer q3, .slice a3 0 d3, .slice b3 0 f3]) 6 2 [99] [] []) := fun w' hb => ⟨O1.out.below hb (Nat.le_refl _), O2.out.below hb (Nat.le_refl _), O3.out.below hb (Nat.le_refl _)⟩
  have r1 : ∀ w, (Op.stringOp .add (Let.mk [97]) (Let.mk [98])).run Tryd.prog w = .ok (.string (Let.mk [97, 98])) w := fun w => run_string_add_sum w _ _ (by decide)
  have r2 : ∀ w, (Op.stringOp .add (Let.mk [97, 98]) (Let.mk [99])).run Tryd.prog w = .ok (.string (ByteArray.mk #[97, 98, 99])) w := fun w => run_string_add_sum w _ _ (by decide)
  go_cut [31] from 20 to 32 (fun x wx => x = .bool false ∧ Hid (Below W5.heap.size W5 wx))
  case first =>
    obtain ⟨_, ⟨c0, c1, c2, c3, c4⟩, ⟨d0, d1x, d2x, d3x, d4⟩, e0, e1, e2, e3, e4⟩ := BX.out W5 KR.out
    go_region_held3 (fun w' => Below W5.heap.size W5 w' ∧ (w'.cell? ⟨w2.heap.size, 0, none⟩ = some (.int .i64 1) ∧ w'.cell? ⟨w2.heap.size, 1, none⟩ = some (.int .i64 2) ∧ w'.cell? ⟨w2.heap.size, 2, none⟩ = some (.pointer q1) ∧ w'.cell? ⟨w2.heap.size, 3, none⟩ = some (.slice a1 0 d1) ∧ w'.cell? ⟨w2.heap.size, 4, none⟩ = some (.slice b1 0 f1)) ∧ (w'.cell? ⟨w2.heap.size + 1, 0, none⟩ = some (.int .i64 5) ∧ w'.cell? ⟨w2.heap.size + 1, 1, none⟩ = some (.int .i64 3) ∧ w'.cell? ⟨w2.heap.size + 1, 2, none⟩ = some (.pointer q2) ∧ w'.cell? ⟨w2.heap.size + 1, 3, none⟩ = some (.slice a2 0 d2) ∧ w'.cell? ⟨w2.heap.size + 1, 4, none⟩ = some (.slice b2 0 f2)) ∧ (w'.cell? ⟨w2.heap.size + 1 + 1, 0, none⟩ = some (.int .i64 6) ∧ w'.cell? ⟨w2.heap.size + 1 + 1, 1, none⟩ = some (.int .i64 2) ∧ w'.cell? ⟨w2.heap.size + 1 + 1, 2, none⟩ = some (.pointer q3) ∧ w'.cell? ⟨w2.heap.size + 1 + 1, 3, none⟩ = some (.slice a3 0 d3) ∧ w'.cell? ⟨w2.heap.size + 1 + 1, 4, none⟩ = some (.slice b3 0 f3)))
      ((refine BX.out _ ?_; focus ((repeat first | with_reducible assumption | with_reducible exact KR.out | with_reducible apply Below.drew | with_reducible apply below_drews | (with_reducible refine Below.alloc ?_ ?_ _; focus (first | with_reducible assumption | with_reducible exact KR.out | exact Nat.le_refl _)) | exact Nat.le_refl _ | (with_reducible refine below_put ?_ (by first | assumption | omega) _)); done)))
      (first
        | (go_at_call 12; (with_reducible refine (CR.out _ (.agg #[.int .i64 1, .int .i64 2, .pointer q1, .slice a1 0 d1, .slice b1 0 f1]) _ _ _ _ _ (GG.out _ ?_).1).mono ?_); (focus ((repeat first | with_reducible assumption | with_reducible exact KR.out | with_reducible apply Below.drew | with_reducible apply below_drews | (with_reducible refine Below.alloc ?_ ?_ _; focus (first | with_reducible assumption | with_reducible exact KR.out | exact Nat.le_refl _)) | exact Nat.le_refl _ | (with_reducible refine below_put ?_ (by first | assumption | omega) _)); done)); rintro e wx1 ⟨p1, rfl, or1, cc1⟩; have jj1 := fun h => below_more (B := W5.heap.size) (w := W5) h cc1; replace jj1 := jj1 (by (repeat first | with_reducible assumption | with_reducible exact KR.out | with_reducible apply Below.drew | with_reducible apply below_drews | (with_reducible refine Below.alloc ?_ ?_ _; focus (first | with_reducible assumption | with_reducible exact KR.out | exact Nat.le_refl _)) | exact Nat.le_refl _ | (with_reducible refine below_put ?_ (by first | assumption | omega) _))))
        | (go_at_call 12; (with_reducible refine (CR.out _ (.agg #[.int .i64 5, .int .i64 3, .pointer q2, .slice a2 0 d2, .slice b2 0 f2]) _ _ _ _ _ (GG.out _ ?_).2.1).mono ?_); (focus ((repeat first | with_reducible assumption | with_reducible exact KR.out | with_reducible apply Below.drew | with_reducible apply below_drews | (with_reducible refine Below.alloc ?_ ?_ _; focus (first | with_reducible assumption | with_reducible exact KR.out | exact Nat.le_refl _)) | exact Nat.le_refl _ | (with_reducible refine below_put ?_ (by first | assumption | omega) _)); done)); rintro e wx2 ⟨p2, rfl, or2, cc2⟩; have jj2 := fun h => below_more (B := W5.heap.size) (w := W5) h cc2; replace jj2 := jj2 (by (repeat first | with_reducible assumption | with_reducible exact KR.out | with_reducible apply Below.drew | with_reducible apply below_drews | (with_reducible refine Below.alloc ?_ ?_ _; focus (first | with_reducible assumption | with_reducible exact KR.out | exact Nat.le_refl _)) | exact Nat.le_refl _ | (with_reducible refine below_put ?_ (by first | assumption | omega) _))))
        | (go_at_call 12; (with_reducible refine (CR.out _ (.agg #[.int .i64 6, .int .i64 2, .pointer q3, .slice a3 0 d3, .slice b3 0 f3]) _ _ _ _ _ (GG.out _ ?_).2.2).mono ?_); (focus ((repeat first | with_reducible assumption | with_reducible exact KR.out | with_reducible apply Below.drew | with_reducible apply below_drews | (with_reducible refine Below.alloc ?_ ?_ _; focus (first | with_reducible assumption | with_reducible exact KR.out | exact Nat.le_refl _)) | exact Nat.le_refl _ | (with_reducible refine below_put ?_ (by first | assumption | omega) _)); done)); rintro e wx3 ⟨p3, rfl, or3, cc3⟩; have jj3 := fun h => below_more (B := W5.heap.size) (w := W5) h cc3; replace jj3 := jj3 (by (repeat first | with_reducible assumption | with_reducible exact KR.out | with_reducible apply Below.drew | with_reducible apply below_drews | (with_reducible refine Below.alloc ?_ ?_ _; focus (first | with_reducible assumption | with_reducible exact KR.out | exact Nat.le_refl _)) | exact Nat.le_refl _ | (with_reducible refine below_put ?_ (by first | assumption | omega) _))))
        | (go_at_call 13; (with_reducible refine (CT.out _ (.pointer p1) [97] (by decide) or1).mono ?_); rintro e wx4 ⟨rfl, cc4⟩; have jj4 := fun h => below_more (B := W5.heap.size) (w := W5) h cc4; replace jj4 := jj4 (by (repeat first | with_reducible assumption | with_reducible exact KR.out | with_reducible apply Below.drew | with_reducible apply below_drews | (with_reducible refine Below.alloc ?_ ?_ _; focus (first | with_reducible assumption | with_reducible exact KR.out | exact Nat.le_refl _)) | exact Nat.le_refl _ | (with_reducible refine below_put ?_ (by first | assumption | omega) _))))
        | (go_at_call 13; (with_reducible refine (CT.out _ (.pointer p2) [98] (by decide) or2).mono ?_); rintro e wx5 ⟨rfl, cc5⟩; have jj5 := fun h => below_more (B := W5.heap.size) (w := W5) h cc5; replace jj5 := jj5 (by (repeat first | with_reducible assumption | with_reducible exact KR.out | with_reducible apply Below.drew | with_reducible apply below_drews | (with_reducible refine Below.alloc ?_ ?_ _; focus (first | with_reducible assumption | with_reducible exact KR.out | exact Nat.le_refl _)) | exact Nat.le_refl _ | (with_reducible refine below_put ?_ (by first | assumption | omega) _))))
        | (go_at_call 13; (with_reducible refine (CT.out _ (.pointer p3) [99] (by decide) or3).mono ?_); rintro e wx6 ⟨rfl, cc6⟩; have jj6 := fun h => below_more (B := W5.heap.size) (w := W5) h cc6; replace jj6 := jj6 (by (repeat first | with_reducible assumption | with_reducible exact KR.out | with_reducible apply Below.drew | with_reducible apply below_drews | (with_reducible refine Below.alloc ?_ ?_ _; focus (first | with_reducible assumption | with_reducible exact KR.out | exact Nat.le_refl _)) | exact Nat.le_refl _ | (with_reducible refine below_put ?_ (by first | assumption | omega) _)))))
    all_goals go_wp2_with fail
    all_goals go_meet
    all_goals exact ⟨by simp, by show Below _ _ _; (repeat first | with_reducible assumption | with_reducible exact KR.out | with_reducible apply Below.drew | with_reducible apply below_drews | (with_reducible refine Below.alloc ?_ ?_ _; focus (first | with_reducible assumption | with_reducible exact KR.out | exact Nat.le_refl _)) | exact Nat.le_refl _ | (with_reducible refine below_put ?_ (by first | assumption | omega) _))⟩
  case rest =>
    obtain ⟨wp, hwp⟩ : ∃ wp : World, wp = wc := ⟨_, rfl⟩
    subst hwp
    obtain ⟨rfl, HF⟩ := hcut
    have hbF := HF.out
    clear HF BX KR GG r1 r2
    replace RW : Hid (wp.heap[w.heap.size]? = some (.cells #[.int .i64 i, .int .i64 l, .string (Let.mk L), .slice sa ls sc, .slice ta lt tc] 25 (0, 0))) := (hbF.block _ (row_lt RW.out)).trans RW.out
    replace RD : Hid (wp.heap[w.heap.size + 1]? = some (.cells #[.int .i64 da, .int .i64 dn, .int .i64 dm, .int .i64 dq, .string (Let.mk dt)] 27 (0, 0))) := (hbF.block _ (row_lt RD.out)).trans RD.out
    replace RA1 : Hid (wp.heap[w2.heap.size]? = some (.cells #[.int .i64 1, .int .i64 2, .pointer q1, .slice a1 0 d1, .slice b1 0 f1] 33 (0, 0))) := (hbF.block _ (row_lt RA1.out)).trans RA1.out
    replace RA2 : Hid (wp.heap[w2.heap.size + 1]? = some (.cells #[.int .i64 5, .int .i64 3, .pointer q2, .slice a2 0 d2, .slice b2 0 f2] 33 (0, 0))) := (hbF.block _ (row_lt RA2.out)).trans RA2.out
    replace RA3 : Hid (wp.heap[w2.heap.size + 1 + 1]? = some (.cells #[.int .i64 6, .int .i64 2, .pointer q3, .slice a3 0 d3, .slice b3 0 f3] 33 (0, 0))) := (hbF.block _ (row_lt RA3.out)).trans RA3.out
    replace BB : Hid (Below w.heap.size w wp) := below_more BB.out hbF
    replace O1 : Hid (Sg wp (.agg #[.int .i64 1, .int .i64 2, .pointer q1, .slice a1 0 d1, .slice b1 0 f1]) 1 2 [97] [] []) := O1.out.below hbF (Nat.le_refl _)
    replace O2 : Hid (Sg wp (.agg #[.int .i64 5, .int .i64 3, .pointer q2, .slice a2 0 d2, .slice b2 0 f2]) 5 3 [98] [] []) := O2.out.below hbF (Nat.le_refl _)
    replace O3 : Hid (Sg wp (.agg #[.int .i64 6, .int .i64 2, .pointer q3, .slice a3 0 d3, .slice b3 0 f3]) 6 2 [99] [] []) := O3.out.below hbF (Nat.le_refl _)
    clear hbF
    clear RA1 RA2 RA3 O1 O2 O3
    obtain ⟨rwc0, rwc1, rwc2, rwc3, rwc4⟩ := five_cells RW.out
    obtain ⟨rdc0, rdc1, rdc2, rdc3, rdc4⟩ := five_cells RD.out
    cases hB : loadB L S T dt with
    | false =>
      have CN2 := Lib.hid (CN.out hB _ BB.out)
      clear CN CY hB
      go_wp2_with fail
      refine CN2.out.mono ?_
      rintro e w8 ⟨rfl, b8⟩
      have FIN := Lib.hid ((below_more BB.out b8).alloc (by have := (below_more BB.out b8).size; omega) (.cells #[.int .i64 0, .int .i64 0, .pointer none, .slice none 0 0, .slice none 0 0] 33))
      clear b8
      go_wp2_with fail
      go_ret
      exact ⟨rfl, FIN.out⟩
    | true =>
      have hB2 := hB
      unfold loadB right5 at hB2
      rw [Bool.and_eq_true, Bool.and_eq_true, Bool.and_eq_true, Bool.and_eq_true] at hB2
      obtain ⟨hs, ⟨hrL, hmm⟩, hq, hrt⟩ := hB2
      obtain ⟨m1, m2, m3⟩ : L.length ≤ 1500 ∧ S.length ≤ 300 ∧ T.length ≤ 300 := of_decide_eq_true hs
      obtain ⟨hRS, hRT⟩ := mright_of hmm
      obtain ⟨p, e, hp, he, hpe, hec⟩ := str_nat (Let.cnt L) da dn
      have hcl := Let.cnt_len L
      have P0 : Hid (∀ s ∈ T, 0 < s.m) := RT_pos hRT
      have P1 : Hid (∀ s ∈ sA p T, 0 < s.m) := RT_pos (sA_right (p := (p : Int)) hRT)
      have P3 : Hid (∀ s ∈ sB (e - p : Int) (sB p T), 0 < s.m) := RT_pos (sB_right (p := (e - p : Int)) (sB_right (p := (p : Int)) hRT))
      have HPT : Hid (∀ w' x (md ls lb : Int), Sg w' x i l L S T → Calls Tryd.prog 11 #[x, .int .i64 da, .int .i64 dn, .int .i64 md, .int .i64 ls, .int .i64 lb] w' (GivePart w' i l md lb ls (Let.cut L 0 p) (Let.cut L p e) (Let.cut L e (Let.cnt L)) (pA p S) (sA p T) (pB (e - p : Int) (pB p S)) (sB (e - p : Int) (sB p T)))) := fun w' x md ls lb hx => spart_any p e da dn md ls lb w' hx hRS hRT hp he hpe hec GA.out.1 GA.out.2 GN.out.1 GN.out.2 (by omega) (by omega)
      have CY2 := Lib.hid (CY.out hB _ BB.out)
      have HPP : Hid (∀ w' x, Sg w' x 1 3 (Let.cut L p e) [] [] → Calls Tryd.prog 29 #[x] w' (GivePl w' 1 3 (Let.cut L p e) [] [])) := fun w' x hx => plain_any w' hx (by simp) (by have := Con.cut_len L p e; omega) (by decide) (by decide)
      have hwh := whole3 L hpe hec
      have q1 := Con.cut_len L 0 p
      have q2 := Con.cut_len L p e
      have q3 := Con.cut_len L e (Let.cnt L)
      have R1 : Hid (∀ w, (Op.stringOp .add (Let.mk (Let.cut L 0 p)) (Let.mk (Let.cut L p e))).run Tryd.prog w = .ok (.string (Let.mk (Let.cut L 0 p ++ Let.cut L p e))) w) := fun w => by rw [run_string_add_sum w _ _ (by rw [Let.mk_size, Let.mk_size]; omega), Let.mk_append, Let.mk_data, Let.mk_data]
      have R2 : Hid (∀ w, (Op.stringOp .add (Let.mk (Let.cut L 0 p ++ Let.cut L p e)) (Let.mk (Let.cut L e (Let.cnt L)))).run Tryd.prog w = .ok (.string (Let.mk L)) w) := fun w => by rw [run_string_add_sum w _ _ (by rw [Let.mk_size, Let.mk_size, List.length_append]; omega), Let.mk_append, Let.mk_data, Let.mk_data, hwh]
      have N1 : Hid ((Let.cut L 0 p).length ≤ 100000 ∧ (Let.cut L p e).length ≤ 100000 ∧ (Let.cut L e (Let.cnt L)).length ≤ 100000) := ⟨by omega, by omega, by omega⟩
      generalize Let.cut L 0 p ++ Let.cut L p e = LX at *
      clear q1 q2 q3 hwh P0 P1 P3
      clear hs hrL hmm hq hrt hRS hRT hp he hpe hec hcl m1 m2 m3 CN CY hB GA GN
      generalize pB (e - p : Int) (pB p S) = S3 at *
      generalize sB (e - p : Int) (sB p T) = T3 at *
      generalize pA p S = S1 at *
      generalize sA p T = T1 at *
      generalize Let.cut L 0 p = L1 at *
      generalize Let.cut L p e = L2 at *
      generalize Let.cut L e (Let.cnt L) = L3 at *
      go_wp2_with fail
      refine CY2.out.mono ?_
      rintro e w8 ⟨v8, rfl, o8, b8⟩
      clear rwc0 rwc1 rwc2 rwc3 rwc4 rdc0 rdc1 rdc2 rdc3 rdc4
      replace RW : Hid (w8.heap[w.heap.size]? = some (.cells #[.int .i64 i, .int .i64 l, .string (Let.mk L), .slice sa ls sc, .slice ta lt tc] 25 (0, 0))) := (b8.block _ (row_lt RW.out)).trans RW.out
      replace RD : Hid (w8.heap[w.heap.size + 1]? = some (.cells #[.int .i64 da, .int .i64 dn, .int .i64 dm, .int .i64 dq, .string (Let.mk dt)] 27 (0, 0))) := (b8.block _ (row_lt RD.out)).trans RD.out
      replace BB : Hid (Below w.heap.size w w8) := below_more BB.out b8
      obtain ⟨q8, a8, d8, a9, d9, rfl, _, _, _⟩ := o8.open_
      obtain ⟨n8, hn8⟩ : ∃ n, n = S.length := ⟨_, rfl⟩
      obtain ⟨n9, hn9⟩ : ∃ n, n = T.length := ⟨_, rfl⟩
      rw [← hn8, ← hn9] at o8 ⊢
      clear hn8 hn9
      have O8 : Hid (Sg w8 (.agg #[.int .i64 i, .int .i64 l, .pointer q8, .slice a8 n8 d8, .slice a9 n9 d9]) i l L S T) := o8
      clear o8 b8 CY2
      have PW : Hid (Pl w8 (.agg #[.int .i64 i, .int .i64 l, .string (Let.mk L), .slice sa ls sc, .slice ta lt tc]) i l L S T) := HPL.out _ BB.out
      clear HPL
      obtain ⟨W6, hW6⟩ : ∃ W6, W6 = w8.alloc (.cells #[.int .i64 i, .int .i64 l, .pointer q8, .slice a8 n8 d8, .slice a9 n9 d9] 33) := ⟨_, rfl⟩
      obtain ⟨hb6, hr6, hl6⟩ := box_at hW6 (rfl : w8.heap.size = w8.heap.size)
      replace RW : Hid (W6.heap[w.heap.size]? = some (.cells #[.int .i64 i, .int .i64 l, .string (Let.mk L), .slice sa ls sc, .slice ta lt tc] 25 (0, 0))) := (hb6.block _ (row_lt RW.out)).trans RW.out
      replace RD : Hid (W6.heap[w.heap.size + 1]? = some (.cells #[.int .i64 da, .int .i64 dn, .int .i64 dm, .int .i64 dq, .string (Let.mk dt)] 27 (0, 0))) := (hb6.block _ (row_lt RD.out)).trans RD.out
      replace BB : Hid (Below w.heap.size w W6) := below_more BB.out hb6
      replace O8 : Hid (Sg W6 (.agg #[.int .i64 i, .int .i64 l, .pointer q8, .slice a8 n8 d8, .slice a9 n9 d9]) i l L S T) := O8.out.below hb6 (Nat.le_refl _)
      replace PW : Hid (Pl W6 (.agg #[.int .i64 i, .int .i64 l, .string (Let.mk L), .slice sa ls sc, .slice ta lt tc]) i l L S T) := PW.out.below hb6 (Nat.le_refl _)
      have R8 : Hid (W6.heap[w8.heap.size]? = some (.cells #[.int .i64 i, .int .i64 l, .pointer q8, .slice a8 n8 d8, .slice a9 n9 d9] 33 (0, 0))) := hr6
      have HW6 := Lib.hid hW6
      clear hW6 hb6 hr6
      go_upto_region 7 with fail
      rw [← HW6.out]
      clear HW6
      clear hl6
      obtain ⟨r8c0, r8c1, r8c2, r8c3, r8c4⟩ := five_cells R8.out
      obtain ⟨rdc0, rdc1, rdc2, rdc3, rdc4⟩ := five_cells RD.out
      go_wp2_with fail
      refine (HPT.out _ _ _ _ _ O8.out).mono ?_
      rintro e w9 ⟨u1, u2, u3, rfl, o1, o2, o3, b9⟩
      clear r8c0 r8c1 r8c2 r8c3 r8c4 rdc0 rdc1 rdc2 rdc3 rdc4
      replace RW : Hid (w9.heap[w.heap.size]? = some (.cells #[.int .i64 i, .int .i64 l, .string (Let.mk L), .slice sa ls sc, .slice ta lt tc] 25 (0, 0))) := (b9.block _ (row_lt RW.out)).trans RW.out
      replace RD : Hid (w9.heap[w.heap.size + 1]? = some (.cells #[.int .i64 da, .int .i64 dn, .int .i64 dm, .int .i64 dq, .string (Let.mk dt)] 27 (0, 0))) := (b9.block _ (row_lt RD.out)).trans RD.out
      replace R8 : Hid (w9.heap[w8.heap.size]? = some (.cells #[.int .i64 i, .int .i64 l, .pointer q8, .slice a8 n8 d8, .slice a9 n9 d9] 33 (0, 0))) := (b9.block _ (row_lt R8.out)).trans R8.out
      replace BB : Hid (Below w.heap.size w w9) := below_more BB.out b9
      replace O8 : Hid (Sg w9 (.agg #[.int .i64 i, .int .i64 l, .pointer q8, .slice a8 n8 d8, .slice a9 n9 d9]) i l L S T) := O8.out.below b9 (Nat.le_refl _)
      replace PW : Hid (Pl w9 (.agg #[.int .i64 i, .int .i64 l, .string (Let.mk L), .slice sa ls sc, .slice ta lt tc]) i l L S T) := PW.out.below b9 (Nat.le_refl _)
      clear HPT b9
      obtain ⟨k1, aa1, dd1, bb1, ff1, rfl, _, _, _⟩ := o1.open_
      obtain ⟨k2, aa2, dd2, bb2, ff2, rfl, _, _, _⟩ := o2.open_
      obtain ⟨k3, aa3, dd3, bb3, ff3, rfl, _, _, _⟩ := o3.open_
      simp only [List.length_nil] at o2 ⊢
      obtain ⟨na, hna⟩ : ∃ n, n = S1.length := ⟨_, rfl⟩
      obtain ⟨nb, hnb⟩ : ∃ n, n = T1.length := ⟨_, rfl⟩
      obtain ⟨nc, hnc⟩ : ∃ n, n = S3.length := ⟨_, rfl⟩
      obtain ⟨nd, hnd⟩ : ∃ n, n = T3.length := ⟨_, rfl⟩
      rw [← hna, ← hnb] at o1
      rw [← hnc, ← hnd] at o3
      rw [← hna, ← hnb, ← hnc, ← hnd]
      clear hna hnb hnc hnd
      have U1 : Hid (Sg w9 (.agg #[.int .i64 i, .int .i64 l, .pointer k1, .slice aa1 na dd1, .slice bb1 nb ff1]) i l L1 S1 T1) := o1
      have U2 : Hid (Sg w9 (.agg #[.int .i64 1, .int .i64 3, .pointer k2, .slice aa2 0 dd2, .slice bb2 0 ff2]) 1 3 L2 [] []) := o2
      have U3 : Hid (Sg w9 (.agg #[.int .i64 2, .int .i64 l, .pointer k3, .slice aa3 nc dd3, .slice bb3 nd ff3]) 2 l L3 S3 T3) := o3
      clear o1 o2 o3
      obtain ⟨W7, hW7⟩ : ∃ W7, W7 = w9.alloc (.cells #[.int .i64 i, .int .i64 l, .pointer k1, .slice aa1 na dd1, .slice bb1 nb ff1] 33) := ⟨_, rfl⟩
      obtain ⟨hb7, hr7, hl7⟩ := box_at hW7 (rfl : w9.heap.size = w9.heap.size)
      replace RW : Hid (W7.heap[w.heap.size]? = some (.cells #[.int .i64 i, .int .i64 l, .string (Let.mk L), .slice sa ls sc, .slice ta lt tc] 25 (0, 0))) := (hb7.block _ (row_lt RW.out)).trans RW.out
      replace RD : Hid (W7.heap[w.heap.size + 1]? = some (.cells #[.int .i64 da, .int .i64 dn, .int .i64 dm, .int .i64 dq, .string (Let.mk dt)] 27 (0, 0))) := (hb7.block _ (row_lt RD.out)).trans RD.out
      replace R8 : Hid (W7.heap[w8.heap.size]? = some (.cells #[.int .i64 i, .int .i64 l, .pointer q8, .slice a8 n8 d8, .slice a9 n9 d9] 33 (0, 0))) := (hb7.block _ (row_lt R8.out)).trans R8.out
      replace BB : Hid (Below w.heap.size w W7) := below_more BB.out hb7
      replace O8 : Hid (Sg W7 (.agg #[.int .i64 i, .int .i64 l, .pointer q8, .slice a8 n8 d8, .slice a9 n9 d9]) i l L S T) := O8.out.below hb7 (Nat.le_refl _)
      replace PW : Hid (Pl W7 (.agg #[.int .i64 i, .int .i64 l, .string (Let.mk L), .slice sa ls sc, .slice ta lt tc]) i l L S T) := PW.out.below hb7 (Nat.le_refl _)
      replace U1 : Hid (Sg W7 (.agg #[.int .i64 i, .int .i64 l, .pointer k1, .slice aa1 na dd1, .slice bb1 nb ff1]) i l L1 S1 T1) := U1.out.below hb7 (Nat.le_refl _)
      replace U2 : Hid (Sg W7 (.agg #[.int .i64 1, .int .i64 3, .pointer k2, .slice aa2 0 dd2, .slice bb2 0 ff2]) 1 3 L2 [] []) := U2.out.below hb7 (Nat.le_refl _)
      replace U3 : Hid (Sg W7 (.agg #[.int .i64 2, .int .i64 l, .pointer k3, .slice aa3 nc dd3, .slice bb3 nd ff3]) 2 l L3 S3 T3) := U3.out.below hb7 (Nat.le_refl _)
      have RB1 : Hid (W7.heap[w9.heap.size]? = some (.cells #[.int .i64 i, .int .i64 l, .pointer k1, .slice aa1 na dd1, .slice bb1 nb ff1] 33 (0, 0))) := hr7
      have HW7 := Lib.hid hW7
      clear hW7 hb7 hr7
      obtain ⟨W8, hW8⟩ : ∃ W8, W8 = W7.alloc (.cells #[.int .i64 1, .int .i64 3, .pointer k2, .slice aa2 0 dd2, .slice bb2 0 ff2] 33) := ⟨_, rfl⟩
      obtain ⟨hb8, hr8, hl8⟩ := box_at hW8 (hl7 : W7.heap.size = w9.heap.size + 1)
      replace RW : Hid (W8.heap[w.heap.size]? = some (.cells #[.int .i64 i, .int .i64 l, .string (Let.mk L), .slice sa ls sc, .slice ta lt tc] 25 (0, 0))) := (hb8.block _ (row_lt RW.out)).trans RW.out
      replace RD : Hid (W8.heap[w.heap.size + 1]? = some (.cells #[.int .i64 da, .int .i64 dn, .int .i64 dm, .int .i64 dq, .string (Let.mk dt)] 27 (0, 0))) := (hb8.block _ (row_lt RD.out)).trans RD.out
      replace R8 : Hid (W8.heap[w8.heap.size]? = some (.cells #[.int .i64 i, .int .i64 l, .pointer q8, .slice a8 n8 d8, .slice a9 n9 d9] 33 (0, 0))) := (hb8.block _ (row_lt R8.out)).trans R8.out
      replace RB1 : Hid (W8.heap[w9.heap.size]? = some (.cells #[.int .i64 i, .int .i64 l, .pointer k1, .slice aa1 na dd1, .slice bb1 nb ff1] 33 (0, 0))) := (hb8.block _ (row_lt RB1.out)).trans RB1.out
      replace BB : Hid (Below w.heap.size w W8) := below_more BB.out hb8
      replace O8 : Hid (Sg W8 (.agg #[.int .i64 i, .int .i64 l, .pointer q8, .slice a8 n8 d8, .slice a9 n9 d9]) i l L S T) := O8.out.below hb8 (Nat.le_refl _)
      replace PW : Hid (Pl W8 (.agg #[.int .i64 i, .int .i64 l, .string (Let.mk L), .slice sa ls sc, .slice ta lt tc]) i l L S T) := PW.out.below hb8 (Nat.le_refl _)
      replace U1 : Hid (Sg W8 (.agg #[.int .i64 i, .int .i64 l, .pointer k1, .slice aa1 na dd1, .slice bb1 nb ff1]) i l L1 S1 T1) := U1.out.below hb8 (Nat.le_refl _)
      replace U2 : Hid (Sg W8 (.agg #[.int .i64 1, .int .i64 3, .pointer k2, .slice aa2 0 dd2, .slice bb2 0 ff2]) 1 3 L2 [] []) := U2.out.below hb8 (Nat.le_refl _)
      replace U3 : Hid (Sg W8 (.agg #[.int .i64 2, .int .i64 l, .pointer k3, .slice aa3 nc dd3, .slice bb3 nd ff3]) 2 l L3 S3 T3) := U3.out.below hb8 (Nat.le_refl _)
      have RB2 : Hid (W8.heap[w9.heap.size + 1]? = some (.cells #[.int .i64 1, .int .i64 3, .pointer k2, .slice aa2 0 dd2, .slice bb2 0 ff2] 33 (0, 0))) := hr8
      have HW8 := Lib.hid hW8
      clear hW8 hb8 hr8
      obtain ⟨W9, hW9⟩ : ∃ W9, W9 = W8.alloc (.cells #[.int .i64 2, .int .i64 l, .pointer k3, .slice aa3 nc dd3, .slice bb3 nd ff3] 33) := ⟨_, rfl⟩
      obtain ⟨hb9, hr9, hl9⟩ := box_at hW9 (hl8 : W8.heap.size = w9.heap.size + 1 + 1)
      replace RW : Hid (W9.heap[w.heap.size]? = some (.cells #[.int .i64 i, .int .i64 l, .string (Let.mk L), .slice sa ls sc, .slice ta lt tc] 25 (0, 0))) := (hb9.block _ (row_lt RW.out)).trans RW.out
      replace RD : Hid (W9.heap[w.heap.size + 1]? = some (.cells #[.int .i64 da, .int .i64 dn, .int .i64 dm, .int .i64 dq, .string (Let.mk dt)] 27 (0, 0))) := (hb9.block _ (row_lt RD.out)).trans RD.out
      replace R8 : Hid (W9.heap[w8.heap.size]? = some (.cells #[.int .i64 i, .int .i64 l, .pointer q8, .slice a8 n8 d8, .slice a9 n9 d9] 33 (0, 0))) := (hb9.block _ (row_lt R8.out)).trans R8.out
      replace RB1 : Hid (W9.heap[w9.heap.size]? = some (.cells #[.int .i64 i, .int .i64 l, .pointer k1, .slice aa1 na dd1, .slice bb1 nb ff1] 33 (0, 0))) := (hb9.block _ (row_lt RB1.out)).trans RB1.out
      replace RB2 : Hid (W9.heap[w9.heap.size + 1]? = some (.cells #[.int .i64 1, .int .i64 3, .pointer k2, .slice aa2 0 dd2, .slice bb2 0 ff2] 33 (0, 0))) := (hb9.block _ (row_lt RB2.out)).trans RB2.out
      replace BB : Hid (Below w.heap.size w W9) := below_more BB.out hb9
      replace O8 : Hid (Sg W9 (.agg #[.int .i64 i, .int .i64 l, .pointer q8, .slice a8 n8 d8, .slice a9 n9 d9]) i l L S T) := O8.out.below hb9 (Nat.le_refl _)
      replace PW : Hid (Pl W9 (.agg #[.int .i64 i, .int .i64 l, .string (Let.mk L), .slice sa ls sc, .slice ta lt tc]) i l L S T) := PW.out.below hb9 (Nat.le_refl _)
      replace U1 : Hid (Sg W9 (.agg #[.int .i64 i, .int .i64 l, .pointer k1, .slice aa1 na dd1, .slice bb1 nb ff1]) i l L1 S1 T1) := U1.out.below hb9 (Nat.le_refl _)
      replace U2 : Hid (Sg W9 (.agg #[.int .i64 1, .int .i64 3, .pointer k2, .slice aa2 0 dd2, .slice bb2 0 ff2]) 1 3 L2 [] []) := U2.out.below hb9 (Nat.le_refl _)
      replace U3 : Hid (Sg W9 (.agg #[.int .i64 2, .int .i64 l, .pointer k3, .slice aa3 nc dd3, .slice bb3 nd ff3]) 2 l L3 S3 T3) := U3.out.below hb9 (Nat.le_refl _)
      have RB3 : Hid (W9.heap[w9.heap.size + 1 + 1]? = some (.cells #[.int .i64 2, .int .i64 l, .pointer k3, .slice aa3 nc dd3, .slice bb3 nd ff3] 33 (0, 0))) := hr9
      have HW9 := Lib.hid hW9
      clear hW9 hb9 hr9
      go_upto_region 8 with fail
      rw [← HW7.out, ← HW8.out, ← HW9.out]
      clear HW7 HW8 HW9
      clear hl7 hl8 hl9
      obtain ⟨rb2c0, rb2c1, rb2c2, rb2c3, rb2c4⟩ := five_cells RB2.out
      go_wp2_with fail
      refine (HPP.out _ _ U2.out).mono ?_
      rintro e w10 ⟨v9, rfl, o9, b9⟩
      obtain ⟨ga, gd, gb, gf, rfl, _, _⟩ := o9.open_
      simp only [List.length_nil] at o9 ⊢
      clear rb2c0 rb2c1 rb2c2 rb2c3 rb2c4
      replace RW : Hid (w10.heap[w.heap.size]? = some (.cells #[.int .i64 i, .int .i64 l, .string (Let.mk L), .slice sa ls sc, .slice ta lt tc] 25 (0, 0))) := (b9.block _ (row_lt RW.out)).trans RW.out
      replace RD : Hid (w10.heap[w.heap.size + 1]? = some (.cells #[.int .i64 da, .int .i64 dn, .int .i64 dm, .int .i64 dq, .string (Let.mk dt)] 27 (0, 0))) := (b9.block _ (row_lt RD.out)).trans RD.out
      replace R8 : Hid (w10.heap[w8.heap.size]? = some (.cells #[.int .i64 i, .int .i64 l, .pointer q8, .slice a8 n8 d8, .slice a9 n9 d9] 33 (0, 0))) := (b9.block _ (row_lt R8.out)).trans R8.out
      replace RB1 : Hid (w10.heap[w9.heap.size]? = some (.cells #[.int .i64 i, .int .i64 l, .pointer k1, .slice aa1 na dd1, .slice bb1 nb ff1] 33 (0, 0))) := (b9.block _ (row_lt RB1.out)).trans RB1.out
      replace RB2 : Hid (w10.heap[w9.heap.size + 1]? = some (.cells #[.int .i64 1, .int .i64 3, .pointer k2, .slice aa2 0 dd2, .slice bb2 0 ff2] 33 (0, 0))) := (b9.block _ (row_lt RB2.out)).trans RB2.out
      replace RB3 : Hid (w10.heap[w9.heap.size + 1 + 1]? = some (.cells #[.int .i64 2, .int .i64 l, .pointer k3, .slice aa3 nc dd3, .slice bb3 nd ff3] 33 (0, 0))) := (b9.block _ (row_lt RB3.out)).trans RB3.out
      replace BB : Hid (Below w.heap.size w w10) := below_more BB.out b9
      replace O8 : Hid (Sg w10 (.agg #[.int .i64 i, .int .i64 l, .pointer q8, .slice a8 n8 d8, .slice a9 n9 d9]) i l L S T) := O8.out.below b9 (Nat.le_refl _)
      replace PW : Hid (Pl w10 (.agg #[.int .i64 i, .int .i64 l, .string (Let.mk L), .slice sa ls sc, .slice ta lt tc]) i l L S T) := PW.out.below b9 (Nat.le_refl _)
      replace U1 : Hid (Sg w10 (.agg #[.int .i64 i, .int .i64 l, .pointer k1, .slice aa1 na dd1, .slice bb1 nb ff1]) i l L1 S1 T1) := U1.out.below b9 (Nat.le_refl _)
      replace U2 : Hid (Sg w10 (.agg #[.int .i64 1, .int .i64 3, .pointer k2, .slice aa2 0 dd2, .slice bb2 0 ff2]) 1 3 L2 [] []) := U2.out.below b9 (Nat.le_refl _)
      replace U3 : Hid (Sg w10 (.agg #[.int .i64 2, .int .i64 l, .pointer k3, .slice aa3 nc dd3, .slice bb3 nd ff3]) 2 l L3 S3 T3) := U3.out.below b9 (Nat.le_refl _)
      clear HPP b9 o9
      obtain ⟨W10, hW10⟩ : ∃ W10, W10 = w10.alloc (.cells #[.int .i64 1, .int .i64 3, .string (Let.mk L2), .slice ga 0 gd, .slice gb 0 gf] 25) := ⟨_, rfl⟩
      obtain ⟨hb10, hr10, hl10⟩ := box_at hW10 (rfl : w10.heap.size = w10.heap.size)
      replace RW : Hid (W10.heap[w.heap.size]? = some (.cells #[.int .i64 i, .int .i64 l, .string (Let.mk L), .slice sa ls sc, .slice ta lt tc] 25 (0, 0))) := (hb10.block _ (row_lt RW.out)).trans RW.out
      replace RD : Hid (W10.heap[w.heap.size + 1]? = some (.cells #[.int .i64 da, .int .i64 dn, .int .i64 dm, .int .i64 dq, .string (Let.mk dt)] 27 (0, 0))) := (hb10.block _ (row_lt RD.out)).trans RD.out
      replace R8 : Hid (W10.heap[w8.heap.size]? = some (.cells #[.int .i64 i, .int .i64 l, .pointer q8, .slice a8 n8 d8, .slice a9 n9 d9] 33 (0, 0))) := (hb10.block _ (row_lt R8.out)).trans R8.out
      replace RB1 : Hid (W10.heap[w9.heap.size]? = some (.cells #[.int .i64 i, .int .i64 l, .pointer k1, .slice aa1 na dd1, .slice bb1 nb ff1] 33 (0, 0))) := (hb10.block _ (row_lt RB1.out)).trans RB1.out
      replace RB2 : Hid (W10.heap[w9.heap.size + 1]? = some (.cells #[.int .i64 1, .int .i64 3, .pointer k2, .slice aa2 0 dd2, .slice bb2 0 ff2] 33 (0, 0))) := (hb10.block _ (row_lt RB2.out)).trans RB2.out
      replace RB3 : Hid (W10.heap[w9.heap.size + 1 + 1]? = some (.cells #[.int .i64 2, .int .i64 l, .pointer k3, .slice aa3 nc dd3, .slice bb3 nd ff3] 33 (0, 0))) := (hb10.block _ (row_lt RB3.out)).trans RB3.out
      replace BB : Hid (Below w.heap.size w W10) := below_more BB.out hb10
      replace O8 : Hid (Sg W10 (.agg #[.int .i64 i, .int .i64 l, .pointer q8, .slice a8 n8 d8, .slice a9 n9 d9]) i l L S T) := O8.out.below hb10 (Nat.le_refl _)
      replace PW : Hid (Pl W10 (.agg #[.int .i64 i, .int .i64 l, .string (Let.mk L), .slice sa ls sc, .slice ta lt tc]) i l L S T) := PW.out.below hb10 (Nat.le_refl _)
      replace U1 : Hid (Sg W10 (.agg #[.int .i64 i, .int .i64 l, .pointer k1, .slice aa1 na dd1, .slice bb1 nb ff1]) i l L1 S1 T1) := U1.out.below hb10 (Nat.le_refl _)
      replace U2 : Hid (Sg W10 (.agg #[.int .i64 1, .int .i64 3, .pointer k2, .slice aa2 0 dd2, .slice bb2 0 ff2]) 1 3 L2 [] []) := U2.out.below hb10 (Nat.le_refl _)
      replace U3 : Hid (Sg W10 (.agg #[.int .i64 2, .int .i64 l, .pointer k3, .slice aa3 nc dd3, .slice bb3 nd ff3]) 2 l L3 S3 T3) := U3.out.below hb10 (Nat.le_refl _)
      have RP : Hid (W10.heap[w10.heap.size]? = some (.cells #[.int .i64 1, .int .i64 3, .string (Let.mk L2), .slice ga 0 gd, .slice gb 0 gf] 25 (0, 0))) := hr10
      have HW10 := Lib.hid hW10
      clear hW10 hb10 hr10
      go_upto_region 9 with fail
      rw [← HW10.out]
      clear HW10
      clear hl10
      have BX : Hid (∀ w', Below W10.heap.size W10 w' → Below W10.heap.size W10 w' ∧ (w'.cell? ⟨w9.heap.size, 0, none⟩ = some (.int .i64 i) ∧ w'.cell? ⟨w9.heap.size, 1, none⟩ = some (.int .i64 l) ∧ w'.cell? ⟨w9.heap.size, 2, none⟩ = some (.pointer k1) ∧ w'.cell? ⟨w9.heap.size, 3, none⟩ = some (.slice aa1 na dd1) ∧ w'.cell? ⟨w9.heap.size, 4, none⟩ = some (.slice bb1 nb ff1)) ∧ (w'.cell? ⟨w9.heap.size + 1, 0, none⟩ = some (.int .i64 1) ∧ w'.cell? ⟨w9.heap.size + 1, 1, none⟩ = some (.int .i64 3) ∧ w'.cell? ⟨w9.heap.size + 1, 2, none⟩ = some (.pointer k2) ∧ w'.cell? ⟨w9.heap.size + 1, 3, none⟩ = some (.slice aa2 0 dd2) ∧ w'.cell? ⟨w9.heap.size + 1, 4, none⟩ = some (.slice bb2 0 ff2)) ∧ (w'.cell? ⟨w9.heap.size + 1 + 1, 0, none⟩ = some (.int .i64 2) ∧ w'.cell? ⟨w9.heap.size + 1 + 1, 1, none⟩ = some (.int .i64 l) ∧ w'.cell? ⟨w9.heap.size + 1 + 1, 2, none⟩ = some (.pointer k3) ∧ w'.cell? ⟨w9.heap.size + 1 + 1, 3, none⟩ = some (.slice aa3 nc dd3) ∧ w'.cell? ⟨w9.heap.size + 1 + 1, 4, none⟩ = some (.slice bb3 nd ff3)) ∧ (w'.cell? ⟨w10.heap.size, 0, none⟩ = some (.int .i64 1) ∧ w'.cell? ⟨w10.heap.size, 1, none⟩ = some (.int .i64 3) ∧ w'.cell? ⟨w10.heap.size, 2, none⟩ = some (.string (Let.mk L2)) ∧ w'.cell? ⟨w10.heap.size, 3, none⟩ = some (.slice ga 0 gd) ∧ w'.cell? ⟨w10.heap.size, 4, none⟩ = some (.slice gb 0 gf)) ∧ (w'.cell? ⟨w.heap.size, 0, none⟩ = some (.int .i64 i) ∧ w'.cell? ⟨w.heap.size, 1, none⟩ = some (.int .i64 l) ∧ w'.cell? ⟨w.heap.size, 2, none⟩ = some (.string (Let.mk L)) ∧ w'.cell? ⟨w.heap.size, 3, none⟩ = some (.slice sa ls sc) ∧ w'.cell? ⟨w.heap.size, 4, none⟩ = some (.slice ta lt tc))) := fun w' hb => ⟨hb, five_cells ((hb.block _ (row_lt RB1.out)).trans RB1.out), five_cells ((hb.block _ (row_lt RB2.out)).trans RB2.out), five_cells ((hb.block _ (row_lt RB3.out)).trans RB3.out), five_cells ((hb.block _ (row_lt RP.out)).trans RP.out), five_cells ((hb.block _ (row_lt RW.out)).trans RW.out)⟩
      have KR := Lib.hid (Below.refl W10.heap.size W10)
      have QU1 : Hid (∀ w', Below W10.heap.size W10 w' → Sg w' (.agg #[.int .i64 i, .int .i64 l, .pointer k1, .slice aa1 na dd1, .slice bb1 nb ff1]) i l L1 S1 T1) := fun w' hb => U1.out.below hb (Nat.le_refl _)
      have QU2 : Hid (∀ w', Below W10.heap.size W10 w' → Sg w' (.agg #[.int .i64 1, .int .i64 3, .pointer k2, .slice aa2 0 dd2, .slice bb2 0 ff2]) 1 3 L2 [] []) := fun w' hb => U2.out.below hb (Nat.le_refl _)
      have QU3 : Hid (∀ w', Below W10.heap.size W10 w' → Sg w' (.agg #[.int .i64 2, .int .i64 l, .pointer k3, .slice aa3 nc dd3, .slice bb3 nd ff3]) 2 l L3 S3 T3) := fun w' hb => U3.out.below hb (Nat.le_refl _)
      have KK : Hid (∀ w', Below W10.heap.size W10 w' → Below w.heap.size w w') := fun w' hb => below_more BB.out hb
      have r1 := R1.out
      have r2 := R2.out
      go_region_held3 (fun w' => Below W10.heap.size W10 w' ∧ (w'.cell? ⟨w9.heap.size, 0, none⟩ = some (.int .i64 i) ∧ w'.cell? ⟨w9.heap.size, 1, none⟩ = some (.int .i64 l) ∧ w'.cell? ⟨w9.heap.size, 2, none⟩ = some (.pointer k1) ∧ w'.cell? ⟨w9.heap.size, 3, none⟩ = some (.slice aa1 na dd1) ∧ w'.cell? ⟨w9.heap.size, 4, none⟩ = some (.slice bb1 nb ff1)) ∧ (w'.cell? ⟨w9.heap.size + 1, 0, none⟩ = some (.int .i64 1) ∧ w'.cell? ⟨w9.heap.size + 1, 1, none⟩ = some (.int .i64 3) ∧ w'.cell? ⟨w9.heap.size + 1, 2, none⟩ = some (.pointer k2) ∧ w'.cell? ⟨w9.heap.size + 1, 3, none⟩ = some (.slice aa2 0 dd2) ∧ w'.cell? ⟨w9.heap.size + 1, 4, none⟩ = some (.slice bb2 0 ff2)) ∧ (w'.cell? ⟨w9.heap.size + 1 + 1, 0, none⟩ = some (.int .i64 2) ∧ w'.cell? ⟨w9.heap.size + 1 + 1, 1, none⟩ = some (.int .i64 l) ∧ w'.cell? ⟨w9.heap.size + 1 + 1, 2, none⟩ = some (.pointer k3) ∧ w'.cell? ⟨w9.heap.size + 1 + 1, 3, none⟩ = some (.slice aa3 nc dd3) ∧ w'.cell? ⟨w9.heap.size + 1 + 1, 4, none⟩ = some (.slice bb3 nd ff3)) ∧ (w'.cell? ⟨w10.heap.size, 0, none⟩ = some (.int .i64 1) ∧ w'.cell? ⟨w10.heap.size, 1, none⟩ = some (.int .i64 3) ∧ w'.cell? ⟨w10.heap.size, 2, none⟩ = some (.string (Let.mk L2)) ∧ w'.cell? ⟨w10.heap.size, 3, none⟩ = some (.slice ga 0 gd) ∧ w'.cell? ⟨w10.heap.size, 4, none⟩ = some (.slice gb 0 gf)) ∧ (w'.cell? ⟨w.heap.size, 0, none⟩ = some (.int .i64 i) ∧ w'.cell? ⟨w.heap.size, 1, none⟩ = some (.int .i64 l) ∧ w'.cell? ⟨w.heap.size, 2, none⟩ = some (.string (Let.mk L)) ∧ w'.cell? ⟨w.heap.size, 3, none⟩ = some (.slice sa ls sc) ∧ w'.cell? ⟨w.heap.size, 4, none⟩ = some (.slice ta lt tc)))
        ((refine BX.out _ ?_; focus ((repeat first | with_reducible assumption | with_reducible exact KR.out | with_reducible apply Below.drew | with_reducible apply below_drews | (with_reducible refine Below.alloc ?_ ?_ _; focus (first | with_reducible assumption | with_reducible exact KR.out | exact Nat.le_refl _)) | exact Nat.le_refl _ | (with_reducible refine below_put ?_ (by first | assumption | omega) _)); done)))
        (first
          | (go_at_call 12; (with_reducible refine (CR.out _ (.agg #[.int .i64 i, .int .i64 l, .pointer k1, .slice aa1 na dd1, .slice bb1 nb ff1]) _ _ _ _ _ (QU1.out _ ?_)).mono ?_); (focus ((repeat first | with_reducible assumption | with_reducible exact KR.out | with_reducible apply Below.drew | with_reducible apply below_drews | (with_reducible refine Below.alloc ?_ ?_ _; focus (first | with_reducible assumption | with_reducible exact KR.out | exact Nat.le_refl _)) | exact Nat.le_refl _ | (with_reducible refine below_put ?_ (by first | assumption | omega) _)); done)); rintro e wx1 ⟨p1, rfl, or1, cc1⟩; have jj1 := fun h => below_more (B := W10.heap.size) (w := W10) h cc1; replace jj1 := jj1 (by (repeat first | with_reducible assumption | with_reducible exact KR.out | with_reducible apply Below.drew | with_reducible apply below_drews | (with_reducible refine Below.alloc ?_ ?_ _; focus (first | with_reducible assumption | with_reducible exact KR.out | exact Nat.le_refl _)) | exact Nat.le_refl _ | (with_reducible refine below_put ?_ (by first | assumption | omega) _))))
          | (go_at_call 12; (with_reducible refine (CR.out _ (.agg #[.int .i64 1, .int .i64 3, .pointer k2, .slice aa2 0 dd2, .slice bb2 0 ff2]) _ _ _ _ _ (QU2.out _ ?_)).mono ?_); (focus ((repeat first | with_reducible assumption | with_reducible exact KR.out | with_reducible apply Below.drew | with_reducible apply below_drews | (with_reducible refine Below.alloc ?_ ?_ _; focus (first | with_reducible assumption | with_reducible exact KR.out | exact Nat.le_refl _)) | exact Nat.le_refl _ | (with_reducible refine below_put ?_ (by first | assumption | omega) _)); done)); rintro e wx2 ⟨p2, rfl, or2, cc2⟩; have jj2 := fun h => below_more (B := W10.heap.size) (w := W10) h cc2; replace jj2 := jj2 (by (repeat first | with_reducible assumption | with_reducible exact KR.out | with_reducible apply Below.drew | with_reducible apply below_drews | (with_reducible refine Below.alloc ?_ ?_ _; focus (first | with_reducible assumption | with_reducible exact KR.out | exact Nat.le_refl _)) | exact Nat.le_refl _ | (with_reducible refine below_put ?_ (by first | assumption | omega) _))))
          | (go_at_call 12; (with_reducible refine (CR.out _ (.agg #[.int .i64 2, .int .i64 l, .pointer k3, .slice aa3 nc dd3, .slice bb3 nd ff3]) _ _ _ _ _ (QU3.out _ ?_)).mono ?_); (focus ((repeat first | with_reducible assumption | with_reducible exact KR.out | with_reducible apply Below.drew | with_reducible apply below_drews | (with_reducible refine Below.alloc ?_ ?_ _; focus (first | with_reducible assumption | with_reducible exact KR.out | exact Nat.le_refl _)) | exact Nat.le_refl _ | (with_reducible refine below_put ?_ (by first | assumption | omega) _)); done)); rintro e wx3 ⟨p3, rfl, or3, cc3⟩; have jj3 := fun h => below_more (B := W10.heap.size) (w := W10) h cc3; replace jj3 := jj3 (by (repeat first | with_reducible assumption | with_reducible exact KR.out | with_reducible apply Below.drew | with_reducible apply below_drews | (with_reducible refine Below.alloc ?_ ?_ _; focus (first | with_reducible assumption | with_reducible exact KR.out | exact Nat.le_refl _)) | exact Nat.le_refl _ | (with_reducible refine below_put ?_ (by first | assumption | omega) _))))
          | (go_at_call 13; (with_reducible refine (CT.out _ (.pointer p1) L1 N1.out.1 or1).mono ?_); rintro e wx4 ⟨rfl, cc4⟩; have jj4 := fun h => below_more (B := W10.heap.size) (w := W10) h cc4; replace jj4 := jj4 (by (repeat first | with_reducible assumption | with_reducible exact KR.out | with_reducible apply Below.drew | with_reducible apply below_drews | (with_reducible refine Below.alloc ?_ ?_ _; focus (first | with_reducible assumption | with_reducible exact KR.out | exact Nat.le_refl _)) | exact Nat.le_refl _ | (with_reducible refine below_put ?_ (by first | assumption | omega) _))))
          | (go_at_call 13; (with_reducible refine (CT.out _ (.pointer p2) L2 N1.out.2.1 or2).mono ?_); rintro e wx5 ⟨rfl, cc5⟩; have jj5 := fun h => below_more (B := W10.heap.size) (w := W10) h cc5; replace jj5 := jj5 (by (repeat first | with_reducible assumption | with_reducible exact KR.out | with_reducible apply Below.drew | with_reducible apply below_drews | (with_reducible refine Below.alloc ?_ ?_ _; focus (first | with_reducible assumption | with_reducible exact KR.out | exact Nat.le_refl _)) | exact Nat.le_refl _ | (with_reducible refine below_put ?_ (by first | assumption | omega) _))))
          | (go_at_call 13; (with_reducible refine (CT.out _ (.pointer p3) L3 N1.out.2.2 or3).mono ?_); rintro e wx6 ⟨rfl, cc6⟩; have jj6 := fun h => below_more (B := W10.heap.size) (w := W10) h cc6; replace jj6 := jj6 (by (repeat first | with_reducible assumption | with_reducible exact KR.out | with_reducible apply Below.drew | with_reducible apply below_drews | (with_reducible refine Below.alloc ?_ ?_ _; focus (first | with_reducible assumption | with_reducible exact KR.out | exact Nat.le_refl _)) | exact Nat.le_refl _ | (with_reducible refine below_put ?_ (by first | assumption | omega) _))))
          | (go_at_call 15; (with_reducible refine (CI.out _ (.agg #[.int .i64 i, .int .i64 l, .pointer k1, .slice aa1 na dd1, .slice bb1 nb ff1]) _ _ _ _ _ (QU1.out _ ?_)).mono ?_); (focus ((repeat first | with_reducible assumption | with_reducible exact KR.out | with_reducible apply Below.drew | with_reducible apply below_drews | (with_reducible refine Below.alloc ?_ ?_ _; focus (first | with_reducible assumption | with_reducible exact KR.out | exact Nat.le_refl _)) | exact Nat.le_refl _ | (with_reducible refine below_put ?_ (by first | assumption | omega) _)); done)); rintro e wx7 ⟨rfl, cc7⟩; have jj7 := fun h => below_more (B := W10.heap.size) (w := W10) h cc7; replace jj7 := jj7 (by (repeat first | with_reducible assumption | with_reducible exact KR.out | with_reducible apply Below.drew | with_reducible apply below_drews | (with_reducible refine Below.alloc ?_ ?_ _; focus (first | with_reducible assumption | with_reducible exact KR.out | exact Nat.le_refl _)) | exact Nat.le_refl _ | (with_reducible refine below_put ?_ (by first | assumption | omega) _))))
          | (go_at_call 14; (with_reducible refine (CB.out _ (.agg #[.int .i64 1, .int .i64 3, .pointer k2, .slice aa2 0 dd2, .slice bb2 0 ff2]) _ _ _ _ _ (QU2.out _ ?_)).mono ?_); (focus ((repeat first | with_reducible assumption | with_reducible exact KR.out | with_reducible apply Below.drew | with_reducible apply below_drews | (with_reducible refine Below.alloc ?_ ?_ _; focus (first | with_reducible assumption | with_reducible exact KR.out | exact Nat.le_refl _)) | exact Nat.le_refl _ | (with_reducible refine below_put ?_ (by first | assumption | omega) _)); done)); rintro e wx8 ⟨rfl, cc8⟩; have jj8 := fun h => below_more (B := W10.heap.size) (w := W10) h cc8; replace jj8 := jj8 (by (repeat first | with_reducible assumption | with_reducible exact KR.out | with_reducible apply Below.drew | with_reducible apply below_drews | (with_reducible refine Below.alloc ?_ ?_ _; focus (first | with_reducible assumption | with_reducible exact KR.out | exact Nat.le_refl _)) | exact Nat.le_refl _ | (with_reducible refine below_put ?_ (by first | assumption | omega) _)))))
      all_goals go_wp2_with fail
      all_goals go_ret
      all_goals exact ⟨ret_bool (by simp), KK.out _ (by (repeat first | with_reducible assumption | with_reducible exact KR.out | with_reducible apply Below.drew | with_reducible apply below_drews | (with_reducible refine Below.alloc ?_ ?_ _; focus (first | with_reducible assumption | with_reducible exact KR.out | exact Nat.le_refl _)) | exact Nat.le_refl _ | (with_reducible refine below_put ?_ (by first | assumption | omega) _)))⟩

theorem acc_eq : Rows.laid_unicode_utf8_acceptRanges = Lib.acceptData := by kernel_rfl

set_option maxRecDepth 100000 in
theorem lifted (os : Os) (started : os.Started) (H : Type) (enc : TypeId × Value → H) :
    ReturnsInHanded {} Tryd.checked os 5 .any (fun w args => (Rows.segmentWholeSpec.pre enc Tryd.prog Tryd.f5 [] false w args ∧ laidMetH Tryd.prog Rows.segmentWholeRow.laid w) ∧ sizedMet enc Tryd.prog Tryd.f5 (OpenSpec.ofChange Rows.segmentWholeSpec) false w args) (Rows.segmentWholeSpec.post enc Tryd.prog Tryd.f5 false true false false) := by
  refine returnsInHanded_of_change_and (C := Tryd.checked) (X := fun w _ => laidMetH Tryd.prog Rows.segmentWholeRow.laid w) (fun _ _ _ hh h => h.of_heap hh) own started (by kernel_rfl) Tryd.func5
    (ChangeSpec.witness_shaped (enc := enc) (C := Tryd.checked) (os := os) (X := fun w _ => laidMetH Tryd.prog Rows.segmentWholeRow.laid w) false (World.laidAll Tryd.prog os Rows.segmentWholeRow.laid) #[.agg #[.int .i64 0, .int .i64 0, .string ByteArray.empty, .slice none 0 0, .slice none 0 0], .agg #[.int .i64 0, .int .i64 0, .int .i64 0, .int .i64 0, .string ByteArray.empty]] 8 (World.laidAll_os _ _ _)
      (World.shaped_of_ZipB (by kernel_rfl) (by kernel_rfl)) (by kernel_rfl) (by kernel_rfl) (by kernel_rfl)
      (by rw [MakeChecks.laidMetH_plain _ _ _ (by kernel_rfl)]; exact laidMet_laidAll _ (by kernel_rfl) (by kernel_rfl))) ?_
  intro W base args ds gs before hval0 hW _ _ hL _
  have hval : ∀ (j : Nat) t v, Tryd.f5.params[j]? = some t → args[j]? = some v → Value.okWide Tryd.prog W .any base t v := hval0
  have hread : ∀ t ∈ Tryd.f5.params.toList, Tryd.prog.readableRec t = true ∧ t < Tryd.prog.types.size := by
    have : (Tryd.f5.params.toList.all fun t => Tryd.prog.readableRec t && decide (t < Tryd.prog.types.size)) = true := by kernel_rfl
    intro t ht
    have := List.all_eq_true.1 this t ht
    simpa using this
  rw [MakeChecks.laidMetH_plain _ _ _ (by kernel_rfl)] at hL
  have hT : Tabs W := utf8Tabs_of_readsT (U8Types.of196 Tryd.lays196) ⟨by kernel_rfl, by kernel_rfl, by kernel_rfl, by kernel_rfl, by kernel_rfl, by kernel_rfl, by kernel_rfl⟩ (Pinned.utf8First_eq ▸ Lib.laidMet.reads hL (.tail _ (.head _))) (acc_eq ▸ Lib.laidMet.reads hL (.head _))
  refine law_contract (P := Tryd.prog) (s := Rows.segmentWholeSpec) (fn := Tryd.f5) (tb := 4) laidOut rfl hread rfl Tryd.underlying4 (fun W' => okWide_bool_mk Tryd.underlying4 _) ?_ hW ?_
  · intro ds hds
    rw [Tryd.params5] at hds
    match ds, hds with
    | [d0, d1], _ => rfl
  intro pl hA
  rw [Tryd.params5] at hA hval
  obtain ⟨v0, vs0, d0, ds0, p0, q0, hargs, rfl, hp0, h0, r0⟩ := trodAll_cons hA
  obtain ⟨v1, vs1, d1, ds1, p1, q1, rfl, rfl, hp1, h1, r1⟩ := trodAll_cons r0
  obtain ⟨rfl, rfl, hpe⟩ := trodAll_nil r1
  obtain rfl : args = #[v0, v1] := by cases args; simp_all
  obtain ⟨ia, la, La, Sa, Ta, hGa⟩ := open_seg (hval 0 25 v0 rfl rfl) h0
  obtain ⟨d, rfl, hGd⟩ := open_sdeed (hval 1 27 v1 rfl rfl) h1
  exact walk W hT hGa d hGd 

theorem over : Rows.segmentWholeRow.holds Tryd.pinned (OpenSpec.ofChange Rows.segmentWholeSpec) :=
  OpenClaim.holds_of_wide 5 Tryd.f5 rfl rfl rfl rfl rfl rfl rfl ⟨rfl, rfl, rfl, rfl, rfl⟩ rfl rfl rfl rfl rfl (by kernel_rfl) Tryd.func5 (by kernel_rfl)
    (of_decide_eq_true (by kernel_rfl)) (by unfold Func.isWrapper; first | (rw [if_pos (by decide +kernel)]; kernel_rfl) | (rw [if_neg (by decide +kernel)]; exact ⟨rfl, rfl⟩))
    (fun os started H enc _ => lifted os started H enc)

/-- The statement. -/
theorem proved : Rows.SegmentWholeCardSaid :=
  Claim7.holds_tied_plain_at .later [] [.data, .pinned] true (true, "6b0743cd36e34604b984c1513822f15240037a7789e0deed1213dcc3a7259910") false over (fun _ h => by cases h) (by kernel_rfl) (fun _ h => by cases h) segmentWhole_row_tie rfl ⟨rfl, rfl⟩ (by kernel_rfl) rfl
    (fun f fn hf hfn => by
      obtain rfl : f = 5 := Option.some.inj ((show Tryd.prog.funcNamed Rows.segmentWholeRow.func = some 5 by kernel_rfl).symm.trans hf) |>.symm
      obtain rfl : fn = Tryd.f5 := (Option.some.inj (Tryd.func5.symm.trans hfn)).symm
      exact ⟨by kernel_rfl, fun j t ht => by
        rw [Tryd.params5] at ht
        have hm : t ∈ [25, 27] := by simpa using Array.mem_of_getElem? ht
        have hall : ([25, 27].all fun u => !Tryd.prog.wantsStandIn u) = true := by kernel_rfl
        exact (show Tryd.prog.wantsStandIn t = false by simpa using List.all_eq_true.1 hall t hm)⟩)
    (by kernel_rfl)
#print axioms proved
end Go.Proofs.YtkgdfclpogiemaaDoor.segmentWhole
