/- For every plain segment, everything that is asked and all three numbers: SegmentParts answers true, and its arguments read behind the call as before. No condition. THE TIED CARD: unicode/utf8's two tables start as the program's text lays them. -/
import Derived.Test.YtkgdfclpogiemaaDoorRows
import Derived.Test.YtkgdfclpogiemaaDoorTie
import Derived.Test.YtkgdfclpogiemaaDoorCards
import Derived.Test.YtkgdfclpogiemaaDoorLift
import Derived.ProofKit
import Derived.Lib.LaidU8T
import Derived.PinnedBridge
import Derived.Lay
import Derived.LaidOnce
import Derived.SevenTiedAt
import Derived.Test.YtkgdfclpogiemaaDoorWr
import Derived.Test.YtkgdfclpogiemaaDoorW
import Derived.Test.YtkgdfclpogiemaaDoorVb
import Derived.Test.YtkgdfclpogiemaaDoorParts
import Derived.Deep.RegionHeld3
import Derived.Deep.DeepCutAuto
import Derived.Deep.CutBlock
import Derived.Laws.Concat
set_option linter.unusedVariables false
namespace Go.Proofs.YtkgdfclpogiemaaDoor.segmentParts
open Go.ChangeShapes Go.WideShapes Go.ChangeAt Go.RowKit Go.Lib Go.Shelf Go.Proofs.YtkgdfclpogiemaaDoor.Lift Go.Proofs.YtkgdfclpogiemaaDoor.Rt Go.Proofs.YtkgdfclpogiemaaDoor.Rig Go.Proofs.YtkgdfclpogiemaaDoor.Seg
open Go.ChangeMaps (open_string shut_string)

theorem own : ownKnob Tryd.prog.godebug = none := by kernel_rfl
theorem laidOut : laidOutB Tryd.prog = true := by kernel_rfl

theorem e1 : Let.cut [97, 98, 99] 0 (1 : Nat) = [97] := by decide +kernel
theorem e2 : Let.cut [97, 98, 99] (1 : Nat) (2 : Nat) = [98] := by decide +kernel
theorem e3 : Let.cut [97, 98, 99] (2 : Nat) (Let.cnt [97, 98, 99] : Nat) = [99] := by decide +kernel
theorem e4 : placeI (Let.cnt [97, 98, 99]) 1 = (1 : Nat) := by decide +kernel
theorem e5 : strTo (Let.cnt [97, 98, 99]) 1 1 = (2 : Nat) := by decide +kernel
theorem e6 : (2 : Nat) ≤ Let.cnt [97, 98, 99] := by decide +kernel
set_option maxRecDepth 100000 in
set_option maxHeartbeats 24000000 in
theorem walk (w : World) (hT : Tabs w) {v : Value} {i l : Int} {L : Bytes} {S : List Sp} {T : List St} (h : Arg w v i l L S T) (d : Deed) (hd : d.good) (x y z : Int) (x1 : -9223372036854775808 ≤ x) (x2 : x ≤ 9223372036854775807) (y1 : -9223372036854775808 ≤ y) (y2 : y ≤ 9223372036854775807) (z1 : -9223372036854775808 ≤ z) (z2 : z ≤ 9223372036854775807) :
    Calls Tryd.prog 3 #[v, d.val, .agg #[.int .i64 x, .int .i64 y, .int .i64 z]] w fun e w' => e = .returned (.bool true) ∧ Below w.heap.size w w' := by
  obtain ⟨da, dn, dm, dq, dt⟩ := d
  obtain ⟨ga, gn, gm, gq, gt⟩ := hd
  show Calls Tryd.prog 3 #[v, .agg #[.int .i64 da, .int .i64 dn, .int .i64 dm, .int .i64 dq, .string (Let.mk dt)], .agg #[.int .i64 x, .int .i64 y, .int .i64 z]] w _
  simp only at ga gn gm gq gt
  have C1 : Hid (∀ w', Below w.heap.size w w' → Calls Tryd.prog 10 #[.string (ByteArray.mk #[97, 98, 99])] w' (GiveSg w' 1 2 [97, 98, 99] [] [])) := fun w' hb => text_any [97, 98, 99] w' (by decide) (by decide +kernel) (hT.below hb)
  have C2 : Hid (∀ w' x, Sg w' x 1 2 [97, 98, 99] [] [] → Calls Tryd.prog 11 #[x, .int .i64 1, .int .i64 1, .int .i64 5, .int .i64 6, .int .i64 3] w' (GivePart w' 1 2 5 3 6 [97] [98] [99] [] [] [] [])) := fun w' x hx => by
    have := spart_any 1 2 1 1 5 6 3 w' hx trivial ⟨List.Pairwise.nil, by simp⟩ e4 e5 (by omega) e6 (by omega) (by omega) (by omega) (by omega) (by decide) (by simp)
    rwa [e1, e2, e3] at this
  have CR : Hid (∀ w' x (i l : Int) (L : Bytes) (S : List Sp) (T : List St), Sg w' x i l L S T → Calls Tryd.prog 12 #[x] w' fun e w'' => ∃ q, e = .returned (.pointer q) ∧ IsRope w'' L (.pointer q) ∧ Below w'.heap.size w' w'') := fun w' x i l L S T hx => rope_any w' hx
  have CT : Hid (∀ w' u L, L.length ≤ 100000 → IsRope w' L u → Calls Tryd.prog 13 #[u] w' fun e w'' => e = .returned (.string (Let.mk L)) ∧ Below w'.heap.size w' w'') := fun w' u L hl hu => Con.text_is w' hu (by omega)
  have CI : Hid (∀ w' x (i l : Int) (L : Bytes) (S : List Sp) (T : List St), Sg w' x i l L S T → Calls Tryd.prog 15 #[x] w' fun e w'' => e = .returned (.int .i64 i) ∧ Below w'.heap.size w' w'') := fun w' x i l L S T hx => id_any w' hx
  have CB : Hid (∀ w' x (i l : Int) (L : Bytes) (S : List Sp) (T : List St), Sg w' x i l L S T → Calls Tryd.prog 14 #[x] w' fun e w'' => e = .returned (.int .i64 l) ∧ Below w'.heap.size w' w'') := fun w' x i l L S T hx => label_any w' hx
  have CN : Hid (loadB L S T dt = false → ∀ w', Below w.heap.size w w' → Calls Tryd.prog 16 #[v, .agg #[.int .i64 da, .int .i64 dn, .int .i64 dm, .int .i64 dq, .string (Let.mk dt)]] w' fun e w'' => e = .returned (.tuple #[.agg #[.int .i64 0, .int .i64 0, .pointer none, .slice none 0 0, .slice none 0 0], .bool false]) ∧ Below w'.heap.size w' w'') := fun hB w' hb => loaded_no w' da dn dm dq dt (h.pl.below hb (Nat.le_refl _)) hB (hT.below hb) gt
  have CY : Hid (loadB L S T dt = true → ∀ w', Below w.heap.size w w' → Calls Tryd.prog 16 #[v, .agg #[.int .i64 da, .int .i64 dn, .int .i64 dm, .int .i64 dq, .string (Let.mk dt)]] w' (GiveIns w' true i l L S T)) := fun hB w' hb => loaded_yes w' da dn dm dq dt (h.pl.below hb (Nat.le_refl _)) hB (hT.below hb) gt
  have HPL : Hid (∀ w', Below w.heap.size w w' → Pl w' v i l L S T) := fun w' hb => h.pl.below hb (Nat.le_refl _)
  obtain ⟨sa, sc, ta, tc, rfl, _, _⟩ := h.pl.open_
  obtain ⟨ls, hls⟩ : ∃ ls, ls = S.length := ⟨_, rfl⟩
  obtain ⟨lt, hlt⟩ : ∃ lt, lt = T.length := ⟨_, rfl⟩
  simp only [← hls, ← hlt] at CN CY HPL ⊢
  have GA := Lib.hid ga
  have GN := Lib.hid gn
  obtain ⟨ga1, ga2⟩ := ga
  obtain ⟨gn1, gn2⟩ := gn
  have BB : Hid (Below w.heap.size w w) := Below.refl _ _
  obtain ⟨W1, hW1⟩ : ∃ W1, W1 = w.alloc (.cells #[.int .i64 i, .int .i64 l, .string (Let.mk L), .slice sa ls sc, .slice ta lt tc] 25) := ⟨_, rfl⟩
  obtain ⟨hb1, hr1, hl1⟩ := box_at hW1 (rfl : w.heap.size = w.heap.size)
  replace BB : Hid (Below w.heap.size w W1) := below_more BB.out hb1
  have RW : Hid (W1.heap[w.heap.size]? = some (.cells #[.int .i64 i, .int .i64 l, .string (Let.mk L), .slice sa ls sc, .slice ta lt tc] 25 (0, 0))) := hr1
  have HW1 := Lib.hid hW1
  clear hW1 hb1 hr1
  obtain ⟨W2, hW2⟩ : ∃ W2, W2 = W1.alloc (.cells #[.int .i64 da, .int .i64 dn, .int .i64 dm, .int .i64 dq, .string (Let.mk dt)] 27) := ⟨_, rfl⟩
  obtain ⟨hb2, hr2, hl2⟩ := box_at hW2 (hl1 : W1.heap.size = w.heap.size + 1)
  replace RW : Hid (W2.heap[w.heap.size]? = some (.cells #[.int .i64 i, .int .i64 l, .string (Let.mk L), .slice sa ls sc, .slice ta lt tc] 25 (0, 0))) := (hb2.block _ (row_lt RW.out)).trans RW.out
  replace BB : Hid (Below w.heap.size w W2) := below_more BB.out hb2
  have RD : Hid (W2.heap[w.heap.size + 1]? = some (.cells #[.int .i64 da, .int .i64 dn, .int .i64 dm, .int .i64 dq, .string (Let.mk dt)] 27 (0, 0))) := hr2
  have HW2 := Lib.hid hW2
  clear hW2 hb2 hr2
  obtain ⟨W3, hW3⟩ : ∃ W3, W3 = W2.alloc (.cells #[.int .i64 x, .int .i64 y, .int .i64 z] 28) := ⟨_, rfl⟩
  obtain ⟨hb3, hr3, hl3⟩ := box_at hW3 (hl2 : W2.heap.size = w.heap.size + 1 + 1)
  replace RW : Hid (W3.heap[w.heap.size]? = some (.cells #[.int .i64 i, .int .i64 l, .string (Let.mk L), .slice sa ls sc, .slice ta lt tc] 25 (0, 0))) := (hb3.block _ (row_lt RW.out)).trans RW.out
  replace RD : Hid (W3.heap[w.heap.size + 1]? = some (.cells #[.int .i64 da, .int .i64 dn, .int .i64 dm, .int .i64 dq, .string (Let.mk dt)] 27 (0, 0))) := (hb3.block _ (row_lt RD.out)).trans RD.out
  replace BB : Hid (Below w.heap.size w W3) := below_more BB.out hb3
  have RX : Hid (W3.heap[w.heap.size + 1 + 1]? = some (.cells #[.int .i64 x, .int .i64 y, .int .i64 z] 28 (0, 0))) := hr3
  have HW3 := Lib.hid hW3
  clear hW3 hb3 hr3
  clear h hT hls hlt gm gq gt
  go_enter Tryd.func3, Tryd.ntmps3
  go_upto_region 1 with fail
  rw [← HW1.out, ← HW2.out, ← HW3.out]
  clear HW1 HW2 HW3
  clear hl1 hl2 hl3
  go_wp2_with fail
  refine (C1.out _ BB.out).mono ?_
  rintro e w1 ⟨v1, rfl, o1, b1⟩
  replace RW : Hid (w1.heap[w.heap.size]? = some (.cells #[.int .i64 i, .int .i64 l, .string (Let.mk L), .slice sa ls sc, .slice ta lt tc] 25 (0, 0))) := (b1.block _ (row_lt RW.out)).trans RW.out
  replace RD : Hid (w1.heap[w.heap.size + 1]? = some (.cells #[.int .i64 da, .int .i64 dn, .int .i64 dm, .int .i64 dq, .string (Let.mk dt)] 27 (0, 0))) := (b1.block _ (row_lt RD.out)).trans RD.out
  replace RX : Hid (w1.heap[w.heap.size + 1 + 1]? = some (.cells #[.int .i64 x, .int .i64 y, .int .i64 z] 28 (0, 0))) := (b1.block _ (row_lt RX.out)).trans RX.out
  replace BB : Hid (Below w.heap.size w w1) := below_more BB.out b1
  go_wp2_with fail
  refine (C2.out _ _ o1).mono ?_
  rintro e w2 ⟨u1, u2, u3, rfl, o1, o2, o3, b2⟩
  replace RW : Hid (w2.heap[w.heap.size]? = some (.cells #[.int .i64 i, .int .i64 l, .string (Let.mk L), .slice sa ls sc, .slice ta lt tc] 25 (0, 0))) := (b2.block _ (row_lt RW.out)).trans RW.out
  replace RD : Hid (w2.heap[w.heap.size + 1]? = some (.cells #[.int .i64 da, .int .i64 dn, .int .i64 dm, .int .i64 dq, .string (Let.mk dt)] 27 (0, 0))) := (b2.block _ (row_lt RD.out)).trans RD.out
  replace RX : Hid (w2.heap[w.heap.size + 1 + 1]? = some (.cells #[.int .i64 x, .int .i64 y, .int .i64 z] 28 (0, 0))) := (b2.block _ (row_lt RX.out)).trans RX.out
  replace BB : Hid (Below w.heap.size w w2) := below_more BB.out b2
  clear C1 C2
  obtain ⟨q1, a1, d1, b1, f1, rfl, _, _, _⟩ := o1.open_
  obtain ⟨q2, a2, d2, b2, f2, rfl, _, _, _⟩ := o2.open_
  obtain ⟨q3, a3, d3, b3, f3, rfl, _, _, _⟩ := o3.open_
  simp only [List.length_nil] at o1 o2 o3 ⊢
  have O1 : Hid (Sg w2 (.agg #[.int .i64 1, .int .i64 2, .pointer q1, .slice a1 0 d1, .slice b1 0 f1]) 1 2 [97] [] []) := o1
  have O2 : Hid (Sg w2 (.agg #[.int .i64 5, .int .i64 3, .pointer q2, .slice a2 0 d2, .slice b2 0 f2]) 5 3 [98] [] []) := o2
  have O3 : Hid (Sg w2 (.agg #[.int .i64 6, .int .i64 2, .pointer q3, .slice a3 0 d3, .slice b3 0 f3]) 6 2 [99] [] []) := o3
  clear o1 o2 o3
  obtain ⟨W4, hW4⟩ : ∃ W4, W4 = w2.alloc (.cells #[.int .i64 1, .int .i64 2, .pointer q1, .slice a1 0 d1, .slice b1 0 f1] 33) := ⟨_, rfl⟩
  obtain ⟨hb4, hr4, hl4⟩ := box_at hW4 (rfl : w2.heap.size = w2.heap.size)
  replace RW : Hid (W4.heap[w.heap.size]? = some (.cells #[.int .i64 i, .int .i64 l, .string (Let.mk L), .slice sa ls sc, .slice ta lt tc] 25 (0, 0))) := (hb4.block _ (row_lt RW.out)).trans RW.out
  replace RD : Hid (W4.heap[w.heap.size + 1]? = some (.cells #[.int .i64 da, .int .i64 dn, .int .i64 dm, .int .i64 dq, .string (Let.mk dt)] 27 (0, 0))) := (hb4.block _ (row_lt RD.out)).trans RD.out
  replace RX : Hid (W4.heap[w.heap.size + 1 + 1]? = some (.cells #[.int .i64 x, .int .i64 y, .int .i64 z] 28 (0, 0))) := (hb4.block _ (row_lt RX.out)).trans RX.out
  replace BB : Hid (Below w.heap.size w W4) := below_more BB.out hb4
  replace O1 : Hid (Sg W4 (.agg #[.int .i64 1, .int .i64 2, .pointer q1, .slice a1 0 d1, .slice b1 0 f1]) 1 2 [97] [] []) := O1.out.below hb4 (Nat.le_refl _)
  replace O2 : Hid (Sg W4 (.agg #[.int .i64 5, .int .i64 3, .pointer q2, .slice a2 0 d2, .slice b2 0 f2]) 5 3 [98] [] []) := O2.out.below hb4 (Nat.le_refl _)
  replace O3 : Hid (Sg W4 (.agg #[.int .i64 6, .int .i64 2, .pointer q3, .slice a3 0 d3, .slice b3 0 f3]) 6 2 [99] [] []) := O3.out.below hb4 (Nat.le_refl _)
  have RA1 : Hid (W4.heap[w2.heap.size]? = some (.cells #[.int .i64 1, .int .i64 2, .pointer q1, .slice a1 0 d1, .slice b1 0 f1] 33 (0, 0))) := hr4
  have HW4 := Lib.hid hW4
  clear hW4 hb4 hr4
  obtain ⟨W5, hW5⟩ : ∃ W5, W5 = W4.alloc (.cells #[.int .i64 5, .int .i64 3, .pointer q2, .slice a2 0 d2, .slice b2 0 f2] 33) := ⟨_, rfl⟩
  obtain ⟨hb5, hr5, hl5⟩ := box_at hW5 (hl4 : W4.heap.size = w2.heap.size + 1)
  replace RW : Hid (W5.heap[w.heap.size]? = some (.cells #[.int .i64 i, .int .i64 l, .string (Let.mk L), .slice sa ls sc, .slice ta lt tc] 25 (0, 0))) := (hb5.block _ (row_lt RW.out)).trans RW.out
  replace RD : Hid (W5.heap[w.heap.size + 1]? = some (.cells #[.int .i64 da, .int .i64 dn, .int .i64 dm, .int .i64 dq, .string (Let.mk dt)] 27 (0, 0))) := (hb5.block _ (row_lt RD.out)).trans RD.out
  replace RX : Hid (W5.heap[w.heap.size + 1 + 1]? = some (.cells #[.int .i64 x, .int .i64 y, .int .i64 z] 28 (0, 0))) := (hb5.block _ (row_lt RX.out)).trans RX.out
  replace RA1 : Hid (W5.heap[w2.heap.size]? = some (.cells #[.int .i64 1, .int .i64 2, .pointer q1, .slice a1 0 d1, .slice b1 0 f1] 33 (0, 0))) := (hb5.block _ (row_lt RA1.out)).trans RA1.out
  replace BB : Hid (Below w.heap.size w W5) := below_more BB.out hb5
  replace O1 : Hid (Sg W5 (.agg #[.int .i64 1, .int .i64 2, .pointer q1, .slice a1 0 d1, .slice b1 0 f1]) 1 2 [97] [] []) := O1.out.below hb5 (Nat.le_refl _)
  replace O2 : Hid (Sg W5 (.agg #[.int .i64 5, .int .i64 3, .pointer q2, .slice a2 0 d2, .slice b2 0 f2]) 5 3 [98] [] []) := O2.out.below hb5 (Nat.le_refl _)
  replace O3 : Hid (Sg W5 (.agg #[.int .i64 6, .int .i64 2, .pointer q3, .slice a3 0 d3, .slice b3 0 f3]) 6 2 [99] [] []) := O3.out.below hb5 (Nat.le_refl _)
  have RA2 : Hid (W5.heap[w2.heap.size + 1]? = some (.cells #[.int .i64 5, .int .i64 3, .pointer q2, .slice a2 0 d2, .slice b2 0 f2] 33 (0, 0))) := hr5
  have HW5 := Lib.hid hW5
  clear hW5 hb5 hr5
  obtain ⟨W6, hW6⟩ : ∃ W6, W6 = W5.alloc (.cells #[.int .i64 6, .int .i64 2, .pointer q3, .slice a3 0 d3, .slice b3 0 f3] 33) := ⟨_, rfl⟩
  obtain ⟨hb6, hr6, hl6⟩ := box_at hW6 (hl5 : W5.heap.size = w2.heap.size + 1 + 1)
  replace RW : Hid (W6.heap[w.heap.size]? = some (.cells #[.int .i64 i, .int .i64 l, .string (Let.mk L), .slice sa ls sc, .slice ta lt tc] 25 (0, 0))) := (hb6.block _ (row_lt RW.out)).trans RW.out
  replace RD : Hid (W6.heap[w.heap.size + 1]? = some (.cells #[.int .i64 da, .int .i64 dn, .int .i64 dm, .int .i64 dq, .string (Let.mk dt)] 27 (0, 0))) := (hb6.block _ (row_lt RD.out)).trans RD.out
  replace RX : Hid (W6.heap[w.heap.size + 1 + 1]? = some (.cells #[.int .i64 x, .int .i64 y, .int .i64 z] 28 (0, 0))) := (hb6.block _ (row_lt RX.out)).trans RX.out
  replace RA1 : Hid (W6.heap[w2.heap.size]? = some (.cells #[.int .i64 1, .int .i64 2, .pointer q1, .slice a1 0 d1, .slice b1 0 f1] 33 (0, 0))) := (hb6.block _ (row_lt RA1.out)).trans RA1.out
  replace RA2 : Hid (W6.heap[w2.heap.size + 1]? = some (.cells #[.int .i64 5, .int .i64 3, .pointer q2, .slice a2 0 d2, .slice b2 0 f2] 33 (0, 0))) := (hb6.block _ (row_lt RA2.out)).trans RA2.out
  replace BB : Hid (Below w.heap.size w W6) := below_more BB.out hb6
  replace O1 : Hid (Sg W6 (.agg #[.int .i64 1, .int .i64 2, .pointer q1, .slice a1 0 d1, .slice b1 0 f1]) 1 2 [97] [] []) := O1.out.below hb6 (Nat.le_refl _)
  replace O2 : Hid (Sg W6 (.agg #[.int .i64 5, .int .i64 3, .pointer q2, .slice a2 0 d2, .slice b2 0 f2]) 5 3 [98] [] []) := O2.out.below hb6 (Nat.le_refl _)
  replace O3 : Hid (Sg W6 (.agg #[.int .i64 6, .int .i64 2, .pointer q3, .slice a3 0 d3, .slice b3 0 f3]) 6 2 [99] [] []) := O3.out.below hb6 (Nat.le_refl _)
  have RA3 : Hid (W6.heap[w2.heap.size + 1 + 1]? = some (.cells #[.int .i64 6, .int .i64 2, .pointer q3, .slice a3 0 d3, .slice b3 0 f3] 33 (0, 0))) := hr6
  have HW6 := Lib.hid hW6
  clear hW6 hb6 hr6
  go_upto_region 2 with fail
  rw [← HW4.out, ← HW5.out, ← HW6.out]
  clear HW4 HW5 HW6
  clear hl4 hl5 hl6
  obtain ⟨ra1c0, ra1c1, ra1c2, ra1c3, ra1c4⟩ := five_cells RA1.out
  go_wp2_with fail
  refine (CR.out _ _ _ _ _ _ _ O1.out).mono ?_
  rintro e w3 ⟨q, rfl, o4, c1⟩
  clear ra1c0 ra1c1 ra1c2 ra1c3 ra1c4
  replace RW : Hid (w3.heap[w.heap.size]? = some (.cells #[.int .i64 i, .int .i64 l, .string (Let.mk L), .slice sa ls sc, .slice ta lt tc] 25 (0, 0))) := (c1.block _ (row_lt RW.out)).trans RW.out
  replace RD : Hid (w3.heap[w.heap.size + 1]? = some (.cells #[.int .i64 da, .int .i64 dn, .int .i64 dm, .int .i64 dq, .string (Let.mk dt)] 27 (0, 0))) := (c1.block _ (row_lt RD.out)).trans RD.out
  replace RX : Hid (w3.heap[w.heap.size + 1 + 1]? = some (.cells #[.int .i64 x, .int .i64 y, .int .i64 z] 28 (0, 0))) := (c1.block _ (row_lt RX.out)).trans RX.out
  replace RA1 : Hid (w3.heap[w2.heap.size]? = some (.cells #[.int .i64 1, .int .i64 2, .pointer q1, .slice a1 0 d1, .slice b1 0 f1] 33 (0, 0))) := (c1.block _ (row_lt RA1.out)).trans RA1.out
  replace RA2 : Hid (w3.heap[w2.heap.size + 1]? = some (.cells #[.int .i64 5, .int .i64 3, .pointer q2, .slice a2 0 d2, .slice b2 0 f2] 33 (0, 0))) := (c1.block _ (row_lt RA2.out)).trans RA2.out
  replace RA3 : Hid (w3.heap[w2.heap.size + 1 + 1]? = some (.cells #[.int .i64 6, .int .i64 2, .pointer q3, .slice a3 0 d3, .slice b3 0 f3] 33 (0, 0))) := (c1.block _ (row_lt RA3.out)).trans RA3.out
  replace BB : Hid (Below w.heap.size w w3) := below_more BB.out c1
  replace O1 : Hid (Sg w3 (.agg #[.int .i64 1, .int .i64 2, .pointer q1, .slice a1 0 d1, .slice b1 0 f1]) 1 2 [97] [] []) := O1.out.below c1 (Nat.le_refl _)
  replace O2 : Hid (Sg w3 (.agg #[.int .i64 5, .int .i64 3, .pointer q2, .slice a2 0 d2, .slice b2 0 f2]) 5 3 [98] [] []) := O2.out.below c1 (Nat.le_refl _)
  replace O3 : Hid (Sg w3 (.agg #[.int .i64 6, .int .i64 2, .pointer q3, .slice a3 0 d3, .slice b3 0 f3]) 6 2 [99] [] []) := O3.out.below c1 (Nat.le_refl _)
  go_wp2_with fail
  refine (CT.out _ _ _ (by decide) o4).mono ?_
  rintro e w4 ⟨rfl, c2⟩
  replace RW : Hid (w4.heap[w.heap.size]? = some (.cells #[.int .i64 i, .int .i64 l, .string (Let.mk L), .slice sa ls sc, .slice ta lt tc] 25 (0, 0))) := (c2.block _ (row_lt RW.out)).trans RW.out
  replace RD : Hid (w4.heap[w.heap.size + 1]? = some (.cells #[.int .i64 da, .int .i64 dn, .int .i64 dm, .int .i64 dq, .string (Let.mk dt)] 27 (0, 0))) := (c2.block _ (row_lt RD.out)).trans RD.out
  replace RX : Hid (w4.heap[w.heap.size + 1 + 1]? = some (.cells #[.int .i64 x, .int .i64 y, .int .i64 z] 28 (0, 0))) := (c2.block _ (row_lt RX.out)).trans RX.out
  replace RA1 : Hid (w4.heap[w2.heap.size]? = some (.cells #[.int .i64 1, .int .i64 2, .pointer q1, .slice a1 0 d1, .slice b1 0 f1] 33 (0, 0))) := (c2.block _ (row_lt RA1.out)).trans RA1.out
  replace RA2 : Hid (w4.heap[w2.heap.size + 1]? = some (.cells #[.int .i64 5, .int .i64 3, .pointer q2, .slice a2 0 d2, .slice b2 0 f2] 33 (0, 0))) := (c2.block _ (row_lt RA2.out)).trans RA2.out
  replace RA3 : Hid (w4.heap[w2.heap.size + 1 + 1]? = some (.cells #[.int .i64 6, .int .i64 2, .pointer q3, .slice a3 0 d3, .slice b3 0 f3] 33 (0, 0))) := (c2.block _ (row_lt RA3.out)).trans RA3.out
  replace BB : Hid (Below w.heap.size w w4) := below_more BB.out c2
  replace O1 : Hid (Sg w4 (.agg #[.int .i64 1, .int .i64 2, .pointer q1, .slice a1 0 d1, .slice b1 0 f1]) 1 2 [97] [] []) := O1.out.below c2 (Nat.le_refl _)
  replace O2 : Hid (Sg w4 (.agg #[.int .i64 5, .int .i64 3, .pointer q2, .slice a2 0 d2, .slice b2 0 f2]) 5 3 [98] [] []) := O2.out.below c2 (Nat.le_refl _)
  replace O3 : Hid (Sg w4 (.agg #[.int .i64 6, .int .i64 2, .pointer q3, .slice a3 0 d3, .slice b3 0 f3]) 6 2 [99] [] []) := O3.out.below c2 (Nat.le_refl _)
  have sA : Let.mk [97] = ByteArray.mk #[97] := rfl
  rw [sA]
  clear sA c1 o4
  obtain ⟨ra2c0, ra2c1, ra2c2, ra2c3, ra2c4⟩ := five_cells RA2.out
  go_wp2_with fail
  refine (CB.out _ _ _ _ _ _ _ O2.out).mono ?_
  rintro e w5 ⟨rfl, c3⟩
  clear ra2c0 ra2c1 ra2c2 ra2c3 ra2c4
  replace RW : Hid (w5.heap[w.heap.size]? = some (.cells #[.int .i64 i, .int .i64 l, .string (Let.mk L), .slice sa ls sc, .slice ta lt tc] 25 (0, 0))) := (c3.block _ (row_lt RW.out)).trans RW.out
  replace RD : Hid (w5.heap[w.heap.size + 1]? = some (.cells #[.int .i64 da, .int .i64 dn, .int .i64 dm, .int .i64 dq, .string (Let.mk dt)] 27 (0, 0))) := (c3.block _ (row_lt RD.out)).trans RD.out
  replace RX : Hid (w5.heap[w.heap.size + 1 + 1]? = some (.cells #[.int .i64 x, .int .i64 y, .int .i64 z] 28 (0, 0))) := (c3.block _ (row_lt RX.out)).trans RX.out
  replace RA1 : Hid (w5.heap[w2.heap.size]? = some (.cells #[.int .i64 1, .int .i64 2, .pointer q1, .slice a1 0 d1, .slice b1 0 f1] 33 (0, 0))) := (c3.block _ (row_lt RA1.out)).trans RA1.out
  replace RA2 : Hid (w5.heap[w2.heap.size + 1]? = some (.cells #[.int .i64 5, .int .i64 3, .pointer q2, .slice a2 0 d2, .slice b2 0 f2] 33 (0, 0))) := (c3.block _ (row_lt RA2.out)).trans RA2.out
  replace RA3 : Hid (w5.heap[w2.heap.size + 1 + 1]? = some (.cells #[.int .i64 6, .int .i64 2, .pointer q3, .slice a3 0 d3, .slice b3 0 f3] 33 (0, 0))) := (c3.block _ (row_lt RA3.out)).trans RA3.out
  replace BB : Hid (Below w.heap.size w w5) := below_more BB.out c3
  replace O1 : Hid (Sg w5 (.agg #[.int .i64 1, .int .i64 2, .pointer q1, .slice a1 0 d1, .slice b1 0 f1]) 1 2 [97] [] []) := O1.out.below c3 (Nat.le_refl _)
  replace O2 : Hid (Sg w5 (.agg #[.int .i64 5, .int .i64 3, .pointer q2, .slice a2 0 d2, .slice b2 0 f2]) 5 3 [98] [] []) := O2.out.below c3 (Nat.le_refl _)
  replace O3 : Hid (Sg w5 (.agg #[.int .i64 6, .int .i64 2, .pointer q3, .slice a3 0 d3, .slice b3 0 f3]) 6 2 [99] [] []) := O3.out.below c3 (Nat.le_refl _)
  obtain ⟨ra3c0, ra3c1, ra3c2, ra3c3, ra3c4⟩ := five_cells RA3.out
  go_wp2_with fail
  refine (CI.out _ _ _ _ _ _ _ O3.out).mono ?_
  rintro e w6 ⟨rfl, c4⟩
  clear ra3c0 ra3c1 ra3c2 ra3c3 ra3c4
  replace RW : Hid (w6.heap[w.heap.size]? = some (.cells #[.int .i64 i, .int .i64 l, .string (Let.mk L), .slice sa ls sc, .slice ta lt tc] 25 (0, 0))) := (c4.block _ (row_lt RW.out)).trans RW.out
  replace RD : Hid (w6.heap[w.heap.size + 1]? = some (.cells #[.int .i64 da, .int .i64 dn, .int .i64 dm, .int .i64 dq, .string (Let.mk dt)] 27 (0, 0))) := (c4.block _ (row_lt RD.out)).trans RD.out
  replace RX : Hid (w6.heap[w.heap.size + 1 + 1]? = some (.cells #[.int .i64 x, .int .i64 y, .int .i64 z] 28 (0, 0))) := (c4.block _ (row_lt RX.out)).trans RX.out
  replace RA1 : Hid (w6.heap[w2.heap.size]? = some (.cells #[.int .i64 1, .int .i64 2, .pointer q1, .slice a1 0 d1, .slice b1 0 f1] 33 (0, 0))) := (c4.block _ (row_lt RA1.out)).trans RA1.out
  replace RA2 : Hid (w6.heap[w2.heap.size + 1]? = some (.cells #[.int .i64 5, .int .i64 3, .pointer q2, .slice a2 0 d2, .slice b2 0 f2] 33 (0, 0))) := (c4.block _ (row_lt RA2.out)).trans RA2.out
  replace RA3 : Hid (w6.heap[w2.heap.size + 1 + 1]? = some (.cells #[.int .i64 6, .int .i64 2, .pointer q3, .slice a3 0 d3, .slice b3 0 f3] 33 (0, 0))) := (c4.block _ (row_lt RA3.out)).trans RA3.out
  replace BB : Hid (Below w.heap.size w w6) := below_more BB.out c4
  replace O1 : Hid (Sg w6 (.agg #[.int .i64 1, .int .i64 2, .pointer q1, .slice a1 0 d1, .slice b1 0 f1]) 1 2 [97] [] []) := O1.out.below c4 (Nat.le_refl _)
  replace O2 : Hid (Sg w6 (.agg #[.int .i64 5, .int .i64 3, .pointer q2, .slice a2 0 d2, .slice b2 0 f2]) 5 3 [98] [] []) := O2.out.below c4 (Nat.le_refl _)
  replace O3 : Hid (Sg w6 (.agg #[.int .i64 6, .int .i64 2, .pointer q3, .slice a3 0 d3, .slice b3 0 f3]) 6 2 [99] [] []) := O3.out.below c4 (Nat.le_refl _)
  clear c2 c3 c4
  clear RA1 RA2 RA3 O1 O2 O3
  clear CR CT CI CB
  obtain ⟨rwc0, rwc1, rwc2, rwc3, rwc4⟩ := five_cells RW.out
  obtain ⟨rdc0, rdc1, rdc2, rdc3, rdc4⟩ := five_cells RD.out
  cases hB : loadB L S T dt with
  | false =>
    have CN2 := Lib.hid (CN.out hB _ BB.out)
    clear CN CY hB
    go_wp2_with fail
    refine CN2.out.mono ?_
    rintro e w8 ⟨rfl, b8⟩
    have FIN := Lib.hid ((below_more BB.out b8).alloc (by have := (below_more BB.out b8).size; omega) (.cells #[.int .i64 0, .int .i64 0, .pointer none, .slice none 0 0, .slice none 0 0] 33))
    clear b8
    go_wp2_with fail
    go_ret
    exact ⟨rfl, FIN.out⟩
  | true =>
    have hB2 := hB
    unfold loadB right5 at hB2
    rw [Bool.and_eq_true, Bool.and_eq_true, Bool.and_eq_true, Bool.and_eq_true] at hB2
    obtain ⟨hs, ⟨hrL, hmm⟩, hq, hrt⟩ := hB2
    obtain ⟨m1, m2, m3⟩ : L.length ≤ 1500 ∧ S.length ≤ 300 ∧ T.length ≤ 300 := of_decide_eq_true hs
    obtain ⟨hRS, hRT⟩ := mright_of hmm
    obtain ⟨p, e, hp, he, hpe, hec⟩ := str_nat (Let.cnt L) da dn
    have hcl := Let.cnt_len L
    have P0 : Hid (∀ s ∈ T, 0 < s.m) := RT_pos hRT
    have P1 : Hid (∀ s ∈ sA p T, 0 < s.m) := RT_pos (sA_right (p := (p : Int)) hRT)
    have P3 : Hid (∀ s ∈ sB (e - p : Int) (sB p T), 0 < s.m) := RT_pos (sB_right (p := (e - p : Int)) (sB_right (p := (p : Int)) hRT))
    have HPT : Hid (∀ w' x (md ls lb : Int), Sg w' x i l L S T → Calls Tryd.prog 11 #[x, .int .i64 da, .int .i64 dn, .int .i64 md, .int .i64 ls, .int .i64 lb] w' (GivePart w' i l md lb ls (Let.cut L 0 p) (Let.cut L p e) (Let.cut L e (Let.cnt L)) (pA p S) (sA p T) (pB (e - p : Int) (pB p S)) (sB (e - p : Int) (sB p T)))) := fun w' x md ls lb hx => spart_any p e da dn md ls lb w' hx hRS hRT hp he hpe hec GA.out.1 GA.out.2 GN.out.1 GN.out.2 (by omega) (by omega)
    have CY2 := Lib.hid (CY.out hB _ BB.out)
    have HPR : Hid (∀ w' u (md ls lb : Int), Pl w' u i l L S T → Calls Tryd.prog 17 #[u, .int .i64 da, .int .i64 dn, .int .i64 md, .int .i64 ls, .int .i64 lb] w' (GivePartP w' i l md lb ls (Let.cut L 0 p) (Let.cut L p e) (Let.cut L e (Let.cnt L)) (pA p S) (sA p T) (pB (e - p : Int) (pB p S)) (sB (e - p : Int) (sB p T)))) := fun w' u md ls lb hu => part5_any p e da dn md ls lb w' hu hRS hRT hp he hpe hec GA.out.1 GA.out.2 GN.out.1 GN.out.2 (by omega) (by omega)
    have HPC : Hid (∀ w' u (id : Int), Sg w' u i l L S T → Calls Tryd.prog 19 #[u, .int .i64 da, .int .i64 dn, .int .i64 id] w' (GiveSg w' id l (Let.cut L p e) [] [])) := fun w' u id hu => piece_any p e da dn id w' hu hp he hpe hec GA.out.1 GA.out.2 GN.out.1 GN.out.2 (by omega)
    have HPD : Hid (∀ w' u (id : Int), Pl w' u i l L S T → Calls Tryd.prog 20 #[u, .int .i64 da, .int .i64 dn, .int .i64 id] w' (GivePl w' id l (Let.cut L p e) [] [])) := fun w' u id hu => piece5_any p e da dn id w' hu hp he hpe hec GA.out.1 GA.out.2 GN.out.1 GN.out.2 (by omega)
    have HTW : Hid (∀ w' u (id : Int), Sg w' u i l L S T → Calls Tryd.prog 21 #[u, .int .i64 id] w' (GiveSg w' id l L [] [])) := fun w' u id hu => twin_any id w' hu
    have q1 := Con.cut_len L 0 p
    have q2 := Con.cut_len L p e
    have q3 := Con.cut_len L e (Let.cnt L)
    have q4 := pA_len p S
    have q5 := Nat.le_trans (pB_len (e - p : Int) (pB p S)) (pB_len p S)
    have q6 := sA_len p T
    have q7 := Nat.le_trans (sB_len (e - p : Int) (sB p T)) (sB_len p T)
    have HAS : Hid (∀ w' x u (i l : Int) (L : Bytes) (S : List Sp) (T : List St), (∀ s ∈ T, 0 < s.m) → L.length ≤ 100000 → S.length ≤ 100000 → T.length ≤ 100000 → Sg w' x i l L S T → Pl w' u i l L S T → Calls Tryd.prog 18 #[x, u] w' fun e w'' => e = .returned (.bool true) ∧ Below w'.heap.size w' w'') := fun w' x u i l L S T hp a1 a2 a3 hx hu => has_any w' hx hu hp (by omega) (by omega) (by omega)
    have N1 : Hid ((Let.cut L 0 p).length ≤ 100000 ∧ (Let.cut L p e).length ≤ 100000 ∧ (Let.cut L e (Let.cnt L)).length ≤ 100000 ∧ L.length ≤ 100000 ∧ (pA p S).length ≤ 100000 ∧ (pB (e - p : Int) (pB p S)).length ≤ 100000 ∧ S.length ≤ 100000 ∧ (sA p T).length ≤ 100000 ∧ (sB (e - p : Int) (sB p T)).length ≤ 100000 ∧ T.length ≤ 100000) := ⟨by omega, by omega, by omega, by omega, by omega, by omega, by omega, by omega, by omega, by omega⟩
    clear q1 q2 q3 q4 q5 q6 q7
    have NP : Hid (∀ s ∈ ([] : List St), 0 < s.m) := fun s hs => by simp at hs
    have NZ : Hid (([] : List Sp).length ≤ 100000 ∧ ([] : List St).length ≤ 100000) := ⟨by decide, by decide⟩
    clear hs hrL hmm hq hrt hRS hRT hp he hpe hec hcl m1 m2 m3 CN CY hB GA GN
    generalize pB (e - p : Int) (pB p S) = S3 at *
    generalize sB (e - p : Int) (sB p T) = T3 at *
    generalize pA p S = S1 at *
    generalize sA p T = T1 at *
    generalize Let.cut L 0 p = L1 at *
    generalize Let.cut L p e = L2 at *
    generalize Let.cut L e (Let.cnt L) = L3 at *
    go_wp2_with fail
    refine CY2.out.mono ?_
    rintro e w8 ⟨v8, rfl, o8, b8⟩
    clear rwc0 rwc1 rwc2 rwc3 rwc4 rdc0 rdc1 rdc2 rdc3 rdc4
    replace RW : Hid (w8.heap[w.heap.size]? = some (.cells #[.int .i64 i, .int .i64 l, .string (Let.mk L), .slice sa ls sc, .slice ta lt tc] 25 (0, 0))) := (b8.block _ (row_lt RW.out)).trans RW.out
    replace RD : Hid (w8.heap[w.heap.size + 1]? = some (.cells #[.int .i64 da, .int .i64 dn, .int .i64 dm, .int .i64 dq, .string (Let.mk dt)] 27 (0, 0))) := (b8.block _ (row_lt RD.out)).trans RD.out
    replace RX : Hid (w8.heap[w.heap.size + 1 + 1]? = some (.cells #[.int .i64 x, .int .i64 y, .int .i64 z] 28 (0, 0))) := (b8.block _ (row_lt RX.out)).trans RX.out
    replace BB : Hid (Below w.heap.size w w8) := below_more BB.out b8
    obtain ⟨q8, a8, d8, a9, d9, rfl, _, _, _⟩ := o8.open_
    obtain ⟨n8, hn8⟩ : ∃ n, n = S.length := ⟨_, rfl⟩
    obtain ⟨n9, hn9⟩ : ∃ n, n = T.length := ⟨_, rfl⟩
    rw [← hn8, ← hn9] at o8 ⊢
    clear hn8 hn9
    have O8 : Hid (Sg w8 (.agg #[.int .i64 i, .int .i64 l, .pointer q8, .slice a8 n8 d8, .slice a9 n9 d9]) i l L S T) := o8
    clear o8 b8 CY2
    have PW : Hid (Pl w8 (.agg #[.int .i64 i, .int .i64 l, .string (Let.mk L), .slice sa ls sc, .slice ta lt tc]) i l L S T) := HPL.out _ BB.out
    clear HPL
    obtain ⟨W7, hW7⟩ : ∃ W7, W7 = w8.alloc (.cells #[.int .i64 i, .int .i64 l, .pointer q8, .slice a8 n8 d8, .slice a9 n9 d9] 33) := ⟨_, rfl⟩
    obtain ⟨hb7, hr7, hl7⟩ := box_at hW7 (rfl : w8.heap.size = w8.heap.size)
    replace RW : Hid (W7.heap[w.heap.size]? = some (.cells #[.int .i64 i, .int .i64 l, .string (Let.mk L), .slice sa ls sc, .slice ta lt tc] 25 (0, 0))) := (hb7.block _ (row_lt RW.out)).trans RW.out
    replace RD : Hid (W7.heap[w.heap.size + 1]? = some (.cells #[.int .i64 da, .int .i64 dn, .int .i64 dm, .int .i64 dq, .string (Let.mk dt)] 27 (0, 0))) := (hb7.block _ (row_lt RD.out)).trans RD.out
    replace RX : Hid (W7.heap[w.heap.size + 1 + 1]? = some (.cells #[.int .i64 x, .int .i64 y, .int .i64 z] 28 (0, 0))) := (hb7.block _ (row_lt RX.out)).trans RX.out
    replace BB : Hid (Below w.heap.size w W7) := below_more BB.out hb7
    replace O8 : Hid (Sg W7 (.agg #[.int .i64 i, .int .i64 l, .pointer q8, .slice a8 n8 d8, .slice a9 n9 d9]) i l L S T) := O8.out.below hb7 (Nat.le_refl _)
    replace PW : Hid (Pl W7 (.agg #[.int .i64 i, .int .i64 l, .string (Let.mk L), .slice sa ls sc, .slice ta lt tc]) i l L S T) := PW.out.below hb7 (Nat.le_refl _)
    have R8 : Hid (W7.heap[w8.heap.size]? = some (.cells #[.int .i64 i, .int .i64 l, .pointer q8, .slice a8 n8 d8, .slice a9 n9 d9] 33 (0, 0))) := hr7
    have HW7 := Lib.hid hW7
    clear hW7 hb7 hr7
    go_upto_region 7 with fail
    rw [← HW7.out]
    clear HW7
    clear hl7
    obtain ⟨r8c0, r8c1, r8c2, r8c3, r8c4⟩ := five_cells R8.out
    obtain ⟨rdc0, rdc1, rdc2, rdc3, rdc4⟩ := five_cells RD.out
    obtain ⟨rxc0, rxc1, rxc2⟩ := three_cells RX.out
    go_wp2_with fail
    refine (HPT.out _ _ _ _ _ O8.out).mono ?_
    rintro e w9 ⟨u1, u2, u3, rfl, o1, o2, o3, b9⟩
    clear r8c0 r8c1 r8c2 r8c3 r8c4 rdc0 rdc1 rdc2 rdc3 rdc4 rxc0 rxc1 rxc2
    replace RW : Hid (w9.heap[w.heap.size]? = some (.cells #[.int .i64 i, .int .i64 l, .string (Let.mk L), .slice sa ls sc, .slice ta lt tc] 25 (0, 0))) := (b9.block _ (row_lt RW.out)).trans RW.out
    replace RD : Hid (w9.heap[w.heap.size + 1]? = some (.cells #[.int .i64 da, .int .i64 dn, .int .i64 dm, .int .i64 dq, .string (Let.mk dt)] 27 (0, 0))) := (b9.block _ (row_lt RD.out)).trans RD.out
    replace RX : Hid (w9.heap[w.heap.size + 1 + 1]? = some (.cells #[.int .i64 x, .int .i64 y, .int .i64 z] 28 (0, 0))) := (b9.block _ (row_lt RX.out)).trans RX.out
    replace R8 : Hid (w9.heap[w8.heap.size]? = some (.cells #[.int .i64 i, .int .i64 l, .pointer q8, .slice a8 n8 d8, .slice a9 n9 d9] 33 (0, 0))) := (b9.block _ (row_lt R8.out)).trans R8.out
    replace BB : Hid (Below w.heap.size w w9) := below_more BB.out b9
    replace O8 : Hid (Sg w9 (.agg #[.int .i64 i, .int .i64 l, .pointer q8, .slice a8 n8 d8, .slice a9 n9 d9]) i l L S T) := O8.out.below b9 (Nat.le_refl _)
    replace PW : Hid (Pl w9 (.agg #[.int .i64 i, .int .i64 l, .string (Let.mk L), .slice sa ls sc, .slice ta lt tc]) i l L S T) := PW.out.below b9 (Nat.le_refl _)
    clear HPT b9
    obtain ⟨k1, aa1, dd1, bb1, ff1, rfl, _, _, _⟩ := o1.open_
    obtain ⟨k2, aa2, dd2, bb2, ff2, rfl, _, _, _⟩ := o2.open_
    obtain ⟨k3, aa3, dd3, bb3, ff3, rfl, _, _, _⟩ := o3.open_
    simp only [List.length_nil] at o2 ⊢
    obtain ⟨na, hna⟩ : ∃ n, n = S1.length := ⟨_, rfl⟩
    obtain ⟨nb, hnb⟩ : ∃ n, n = T1.length := ⟨_, rfl⟩
    obtain ⟨nc, hnc⟩ : ∃ n, n = S3.length := ⟨_, rfl⟩
    obtain ⟨nd, hnd⟩ : ∃ n, n = T3.length := ⟨_, rfl⟩
    rw [← hna, ← hnb] at o1
    rw [← hnc, ← hnd] at o3
    rw [← hna, ← hnb, ← hnc, ← hnd]
    clear hna hnb hnc hnd
    have U1 : Hid (Sg w9 (.agg #[.int .i64 i, .int .i64 l, .pointer k1, .slice aa1 na dd1, .slice bb1 nb ff1]) i l L1 S1 T1) := o1
    have U2 : Hid (Sg w9 (.agg #[.int .i64 x, .int .i64 z, .pointer k2, .slice aa2 0 dd2, .slice bb2 0 ff2]) x z L2 [] []) := o2
    have U3 : Hid (Sg w9 (.agg #[.int .i64 y, .int .i64 l, .pointer k3, .slice aa3 nc dd3, .slice bb3 nd ff3]) y l L3 S3 T3) := o3
    clear o1 o2 o3
    obtain ⟨W8, hW8⟩ : ∃ W8, W8 = w9.alloc (.cells #[.int .i64 i, .int .i64 l, .pointer k1, .slice aa1 na dd1, .slice bb1 nb ff1] 33) := ⟨_, rfl⟩
    obtain ⟨hb8, hr8, hl8⟩ := box_at hW8 (rfl : w9.heap.size = w9.heap.size)
    replace RW : Hid (W8.heap[w.heap.size]? = some (.cells #[.int .i64 i, .int .i64 l, .string (Let.mk L), .slice sa ls sc, .slice ta lt tc] 25 (0, 0))) := (hb8.block _ (row_lt RW.out)).trans RW.out
    replace RD : Hid (W8.heap[w.heap.size + 1]? = some (.cells #[.int .i64 da, .int .i64 dn, .int .i64 dm, .int .i64 dq, .string (Let.mk dt)] 27 (0, 0))) := (hb8.block _ (row_lt RD.out)).trans RD.out
    replace RX : Hid (W8.heap[w.heap.size + 1 + 1]? = some (.cells #[.int .i64 x, .int .i64 y, .int .i64 z] 28 (0, 0))) := (hb8.block _ (row_lt RX.out)).trans RX.out
    replace R8 : Hid (W8.heap[w8.heap.size]? = some (.cells #[.int .i64 i, .int .i64 l, .pointer q8, .slice a8 n8 d8, .slice a9 n9 d9] 33 (0, 0))) := (hb8.block _ (row_lt R8.out)).trans R8.out
    replace BB : Hid (Below w.heap.size w W8) := below_more BB.out hb8
    replace O8 : Hid (Sg W8 (.agg #[.int .i64 i, .int .i64 l, .pointer q8, .slice a8 n8 d8, .slice a9 n9 d9]) i l L S T) := O8.out.below hb8 (Nat.le_refl _)
    replace PW : Hid (Pl W8 (.agg #[.int .i64 i, .int .i64 l, .string (Let.mk L), .slice sa ls sc, .slice ta lt tc]) i l L S T) := PW.out.below hb8 (Nat.le_refl _)
    replace U1 : Hid (Sg W8 (.agg #[.int .i64 i, .int .i64 l, .pointer k1, .slice aa1 na dd1, .slice bb1 nb ff1]) i l L1 S1 T1) := U1.out.below hb8 (Nat.le_refl _)
    replace U2 : Hid (Sg W8 (.agg #[.int .i64 x, .int .i64 z, .pointer k2, .slice aa2 0 dd2, .slice bb2 0 ff2]) x z L2 [] []) := U2.out.below hb8 (Nat.le_refl _)
    replace U3 : Hid (Sg W8 (.agg #[.int .i64 y, .int .i64 l, .pointer k3, .slice aa3 nc dd3, .slice bb3 nd ff3]) y l L3 S3 T3) := U3.out.below hb8 (Nat.le_refl _)
    have RB1 : Hid (W8.heap[w9.heap.size]? = some (.cells #[.int .i64 i, .int .i64 l, .pointer k1, .slice aa1 na dd1, .slice bb1 nb ff1] 33 (0, 0))) := hr8
    have HW8 := Lib.hid hW8
    clear hW8 hb8 hr8
    obtain ⟨W9, hW9⟩ : ∃ W9, W9 = W8.alloc (.cells #[.int .i64 x, .int .i64 z, .pointer k2, .slice aa2 0 dd2, .slice bb2 0 ff2] 33) := ⟨_, rfl⟩
    obtain ⟨hb9, hr9, hl9⟩ := box_at hW9 (hl8 : W8.heap.size = w9.heap.size + 1)
    replace RW : Hid (W9.heap[w.heap.size]? = some (.cells #[.int .i64 i, .int .i64 l, .string (Let.mk L), .slice sa ls sc, .slice ta lt tc] 25 (0, 0))) := (hb9.block _ (row_lt RW.out)).trans RW.out
    replace RD : Hid (W9.heap[w.heap.size + 1]? = some (.cells #[.int .i64 da, .int .i64 dn, .int .i64 dm, .int .i64 dq, .string (Let.mk dt)] 27 (0, 0))) := (hb9.block _ (row_lt RD.out)).trans RD.out
    replace RX : Hid (W9.heap[w.heap.size + 1 + 1]? = some (.cells #[.int .i64 x, .int .i64 y, .int .i64 z] 28 (0, 0))) := (hb9.block _ (row_lt RX.out)).trans RX.out
    replace R8 : Hid (W9.heap[w8.heap.size]? = some (.cells #[.int .i64 i, .int .i64 l, .pointer q8, .slice a8 n8 d8, .slice a9 n9 d9] 33 (0, 0))) := (hb9.block _ (row_lt R8.out)).trans R8.out
    replace RB1 : Hid (W9.heap[w9.heap.size]? = some (.cells #[.int .i64 i, .int .i64 l, .pointer k1, .slice aa1 na dd1, .slice bb1 nb ff1] 33 (0, 0))) := (hb9.block _ (row_lt RB1.out)).trans RB1.out
    replace BB : Hid (Below w.heap.size w W9) := below_more BB.out hb9
    replace O8 : Hid (Sg W9 (.agg #[.int .i64 i, .int .i64 l, .pointer q8, .slice a8 n8 d8, .slice a9 n9 d9]) i l L S T) := O8.out.below hb9 (Nat.le_refl _)
    replace PW : Hid (Pl W9 (.agg #[.int .i64 i, .int .i64 l, .string (Let.mk L), .slice sa ls sc, .slice ta lt tc]) i l L S T) := PW.out.below hb9 (Nat.le_refl _)
    replace U1 : Hid (Sg W9 (.agg #[.int .i64 i, .int .i64 l, .pointer k1, .slice aa1 na dd1, .slice bb1 nb ff1]) i l L1 S1 T1) := U1.out.below hb9 (Nat.le_refl _)
    replace U2 : Hid (Sg W9 (.agg #[.int .i64 x, .int .i64 z, .pointer k2, .slice aa2 0 dd2, .slice bb2 0 ff2]) x z L2 [] []) := U2.out.below hb9 (Nat.le_refl _)
    replace U3 : Hid (Sg W9 (.agg #[.int .i64 y, .int .i64 l, .pointer k3, .slice aa3 nc dd3, .slice bb3 nd ff3]) y l L3 S3 T3) := U3.out.below hb9 (Nat.le_refl _)
    have RB2 : Hid (W9.heap[w9.heap.size + 1]? = some (.cells #[.int .i64 x, .int .i64 z, .pointer k2, .slice aa2 0 dd2, .slice bb2 0 ff2] 33 (0, 0))) := hr9
    have HW9 := Lib.hid hW9
    clear hW9 hb9 hr9
    obtain ⟨W10, hW10⟩ : ∃ W10, W10 = W9.alloc (.cells #[.int .i64 y, .int .i64 l, .pointer k3, .slice aa3 nc dd3, .slice bb3 nd ff3] 33) := ⟨_, rfl⟩
    obtain ⟨hb10, hr10, hl10⟩ := box_at hW10 (hl9 : W9.heap.size = w9.heap.size + 1 + 1)
    replace RW : Hid (W10.heap[w.heap.size]? = some (.cells #[.int .i64 i, .int .i64 l, .string (Let.mk L), .slice sa ls sc, .slice ta lt tc] 25 (0, 0))) := (hb10.block _ (row_lt RW.out)).trans RW.out
    replace RD : Hid (W10.heap[w.heap.size + 1]? = some (.cells #[.int .i64 da, .int .i64 dn, .int .i64 dm, .int .i64 dq, .string (Let.mk dt)] 27 (0, 0))) := (hb10.block _ (row_lt RD.out)).trans RD.out
    replace RX : Hid (W10.heap[w.heap.size + 1 + 1]? = some (.cells #[.int .i64 x, .int .i64 y, .int .i64 z] 28 (0, 0))) := (hb10.block _ (row_lt RX.out)).trans RX.out
    replace R8 : Hid (W10.heap[w8.heap.size]? = some (.cells #[.int .i64 i, .int .i64 l, .pointer q8, .slice a8 n8 d8, .slice a9 n9 d9] 33 (0, 0))) := (hb10.block _ (row_lt R8.out)).trans R8.out
    replace RB1 : Hid (W10.heap[w9.heap.size]? = some (.cells #[.int .i64 i, .int .i64 l, .pointer k1, .slice aa1 na dd1, .slice bb1 nb ff1] 33 (0, 0))) := (hb10.block _ (row_lt RB1.out)).trans RB1.out
    replace RB2 : Hid (W10.heap[w9.heap.size + 1]? = some (.cells #[.int .i64 x, .int .i64 z, .pointer k2, .slice aa2 0 dd2, .slice bb2 0 ff2] 33 (0, 0))) := (hb10.block _ (row_lt RB2.out)).trans RB2.out
    replace BB : Hid (Below w.heap.size w W10) := below_more BB.out hb10
    replace O8 : Hid (Sg W10 (.agg #[.int .i64 i, .int .i64 l, .pointer q8, .slice a8 n8 d8, .slice a9 n9 d9]) i l L S T) := O8.out.below hb10 (Nat.le_refl _)
    replace PW : Hid (Pl W10 (.agg #[.int .i64 i, .int .i64 l, .string (Let.mk L), .slice sa ls sc, .slice ta lt tc]) i l L S T) := PW.out.below hb10 (Nat.le_refl _)
    replace U1 : Hid (Sg W10 (.agg #[.int .i64 i, .int .i64 l, .pointer k1, .slice aa1 na dd1, .slice bb1 nb ff1]) i l L1 S1 T1) := U1.out.below hb10 (Nat.le_refl _)
    replace U2 : Hid (Sg W10 (.agg #[.int .i64 x, .int .i64 z, .pointer k2, .slice aa2 0 dd2, .slice bb2 0 ff2]) x z L2 [] []) := U2.out.below hb10 (Nat.le_refl _)
    replace U3 : Hid (Sg W10 (.agg #[.int .i64 y, .int .i64 l, .pointer k3, .slice aa3 nc dd3, .slice bb3 nd ff3]) y l L3 S3 T3) := U3.out.below hb10 (Nat.le_refl _)
    have RB3 : Hid (W10.heap[w9.heap.size + 1 + 1]? = some (.cells #[.int .i64 y, .int .i64 l, .pointer k3, .slice aa3 nc dd3, .slice bb3 nd ff3] 33 (0, 0))) := hr10
    have HW10 := Lib.hid hW10
    clear hW10 hb10 hr10
    go_upto_region 8 with fail
    rw [← HW8.out, ← HW9.out, ← HW10.out]
    clear HW8 HW9 HW10
    clear hl8 hl9 hl10
    obtain ⟨rwc0, rwc1, rwc2, rwc3, rwc4⟩ := five_cells RW.out
    obtain ⟨rdc0, rdc1, rdc2, rdc3, rdc4⟩ := five_cells RD.out
    obtain ⟨rxc0, rxc1, rxc2⟩ := three_cells RX.out
    go_wp2_with fail
    refine (HPR.out _ _ _ _ _ PW.out).mono ?_
    rintro e w10 ⟨u1, u2, u3, rfl, o1, o2, o3, b9⟩
    clear rwc0 rwc1 rwc2 rwc3 rwc4 rdc0 rdc1 rdc2 rdc3 rdc4 rxc0 rxc1 rxc2
    replace RW : Hid (w10.heap[w.heap.size]? = some (.cells #[.int .i64 i, .int .i64 l, .string (Let.mk L), .slice sa ls sc, .slice ta lt tc] 25 (0, 0))) := (b9.block _ (row_lt RW.out)).trans RW.out
    replace RD : Hid (w10.heap[w.heap.size + 1]? = some (.cells #[.int .i64 da, .int .i64 dn, .int .i64 dm, .int .i64 dq, .string (Let.mk dt)] 27 (0, 0))) := (b9.block _ (row_lt RD.out)).trans RD.out
    replace RX : Hid (w10.heap[w.heap.size + 1 + 1]? = some (.cells #[.int .i64 x, .int .i64 y, .int .i64 z] 28 (0, 0))) := (b9.block _ (row_lt RX.out)).trans RX.out
    replace R8 : Hid (w10.heap[w8.heap.size]? = some (.cells #[.int .i64 i, .int .i64 l, .pointer q8, .slice a8 n8 d8, .slice a9 n9 d9] 33 (0, 0))) := (b9.block _ (row_lt R8.out)).trans R8.out
    replace RB1 : Hid (w10.heap[w9.heap.size]? = some (.cells #[.int .i64 i, .int .i64 l, .pointer k1, .slice aa1 na dd1, .slice bb1 nb ff1] 33 (0, 0))) := (b9.block _ (row_lt RB1.out)).trans RB1.out
    replace RB2 : Hid (w10.heap[w9.heap.size + 1]? = some (.cells #[.int .i64 x, .int .i64 z, .pointer k2, .slice aa2 0 dd2, .slice bb2 0 ff2] 33 (0, 0))) := (b9.block _ (row_lt RB2.out)).trans RB2.out
    replace RB3 : Hid (w10.heap[w9.heap.size + 1 + 1]? = some (.cells #[.int .i64 y, .int .i64 l, .pointer k3, .slice aa3 nc dd3, .slice bb3 nd ff3] 33 (0, 0))) := (b9.block _ (row_lt RB3.out)).trans RB3.out
    replace BB : Hid (Below w.heap.size w w10) := below_more BB.out b9
    replace O8 : Hid (Sg w10 (.agg #[.int .i64 i, .int .i64 l, .pointer q8, .slice a8 n8 d8, .slice a9 n9 d9]) i l L S T) := O8.out.below b9 (Nat.le_refl _)
    replace PW : Hid (Pl w10 (.agg #[.int .i64 i, .int .i64 l, .string (Let.mk L), .slice sa ls sc, .slice ta lt tc]) i l L S T) := PW.out.below b9 (Nat.le_refl _)
    replace U1 : Hid (Sg w10 (.agg #[.int .i64 i, .int .i64 l, .pointer k1, .slice aa1 na dd1, .slice bb1 nb ff1]) i l L1 S1 T1) := U1.out.below b9 (Nat.le_refl _)
    replace U2 : Hid (Sg w10 (.agg #[.int .i64 x, .int .i64 z, .pointer k2, .slice aa2 0 dd2, .slice bb2 0 ff2]) x z L2 [] []) := U2.out.below b9 (Nat.le_refl _)
    replace U3 : Hid (Sg w10 (.agg #[.int .i64 y, .int .i64 l, .pointer k3, .slice aa3 nc dd3, .slice bb3 nd ff3]) y l L3 S3 T3) := U3.out.below b9 (Nat.le_refl _)
    clear HPR b9
    obtain ⟨ga1, gd1, gb1, gf1, rfl, _, _⟩ := o1.open_
    obtain ⟨ga2, gd2, gb2, gf2, rfl, _, _⟩ := o2.open_
    obtain ⟨ga3, gd3, gb3, gf3, rfl, _, _⟩ := o3.open_
    simp only [List.length_nil] at o2 ⊢
    obtain ⟨pa, hpa⟩ : ∃ n, n = S1.length := ⟨_, rfl⟩
    obtain ⟨pb, hpb⟩ : ∃ n, n = T1.length := ⟨_, rfl⟩
    obtain ⟨pc, hpc⟩ : ∃ n, n = S3.length := ⟨_, rfl⟩
    obtain ⟨pd, hpd⟩ : ∃ n, n = T3.length := ⟨_, rfl⟩
    rw [← hpa, ← hpb] at o1
    rw [← hpc, ← hpd] at o3
    rw [← hpa, ← hpb, ← hpc, ← hpd]
    clear hpa hpb hpc hpd
    have V1 : Hid (Pl w10 (.agg #[.int .i64 i, .int .i64 l, .string (Let.mk L1), .slice ga1 pa gd1, .slice gb1 pb gf1]) i l L1 S1 T1) := o1
    have V2 : Hid (Pl w10 (.agg #[.int .i64 x, .int .i64 z, .string (Let.mk L2), .slice ga2 0 gd2, .slice gb2 0 gf2]) x z L2 [] []) := o2
    have V3 : Hid (Pl w10 (.agg #[.int .i64 y, .int .i64 l, .string (Let.mk L3), .slice ga3 pc gd3, .slice gb3 pd gf3]) y l L3 S3 T3) := o3
    clear o1 o2 o3
    obtain ⟨W11, hW11⟩ : ∃ W11, W11 = w10.alloc (.cells #[.int .i64 i, .int .i64 l, .string (Let.mk L1), .slice ga1 pa gd1, .slice gb1 pb gf1] 25) := ⟨_, rfl⟩
    obtain ⟨hb11, hr11, hl11⟩ := box_at hW11 (rfl : w10.heap.size = w10.heap.size)
    replace RW : Hid (W11.heap[w.heap.size]? = some (.cells #[.int .i64 i, .int .i64 l, .string (Let.mk L), .slice sa ls sc, .slice ta lt tc] 25 (0, 0))) := (hb11.block _ (row_lt RW.out)).trans RW.out
    replace RD : Hid (W11.heap[w.heap.size + 1]? = some (.cells #[.int .i64 da, .int .i64 dn, .int .i64 dm, .int .i64 dq, .string (Let.mk dt)] 27 (0, 0))) := (hb11.block _ (row_lt RD.out)).trans RD.out
    replace RX : Hid (W11.heap[w.heap.size + 1 + 1]? = some (.cells #[.int .i64 x, .int .i64 y, .int .i64 z] 28 (0, 0))) := (hb11.block _ (row_lt RX.out)).trans RX.out
    replace R8 : Hid (W11.heap[w8.heap.size]? = some (.cells #[.int .i64 i, .int .i64 l, .pointer q8, .slice a8 n8 d8, .slice a9 n9 d9] 33 (0, 0))) := (hb11.block _ (row_lt R8.out)).trans R8.out
    replace RB1 : Hid (W11.heap[w9.heap.size]? = some (.cells #[.int .i64 i, .int .i64 l, .pointer k1, .slice aa1 na dd1, .slice bb1 nb ff1] 33 (0, 0))) := (hb11.block _ (row_lt RB1.out)).trans RB1.out
    replace RB2 : Hid (W11.heap[w9.heap.size + 1]? = some (.cells #[.int .i64 x, .int .i64 z, .pointer k2, .slice aa2 0 dd2, .slice bb2 0 ff2] 33 (0, 0))) := (hb11.block _ (row_lt RB2.out)).trans RB2.out
    replace RB3 : Hid (W11.heap[w9.heap.size + 1 + 1]? = some (.cells #[.int .i64 y, .int .i64 l, .pointer k3, .slice aa3 nc dd3, .slice bb3 nd ff3] 33 (0, 0))) := (hb11.block _ (row_lt RB3.out)).trans RB3.out
    replace BB : Hid (Below w.heap.size w W11) := below_more BB.out hb11
    replace O8 : Hid (Sg W11 (.agg #[.int .i64 i, .int .i64 l, .pointer q8, .slice a8 n8 d8, .slice a9 n9 d9]) i l L S T) := O8.out.below hb11 (Nat.le_refl _)
    replace PW : Hid (Pl W11 (.agg #[.int .i64 i, .int .i64 l, .string (Let.mk L), .slice sa ls sc, .slice ta lt tc]) i l L S T) := PW.out.below hb11 (Nat.le_refl _)
    replace U1 : Hid (Sg W11 (.agg #[.int .i64 i, .int .i64 l, .pointer k1, .slice aa1 na dd1, .slice bb1 nb ff1]) i l L1 S1 T1) := U1.out.below hb11 (Nat.le_refl _)
    replace U2 : Hid (Sg W11 (.agg #[.int .i64 x, .int .i64 z, .pointer k2, .slice aa2 0 dd2, .slice bb2 0 ff2]) x z L2 [] []) := U2.out.below hb11 (Nat.le_refl _)
    replace U3 : Hid (Sg W11 (.agg #[.int .i64 y, .int .i64 l, .pointer k3, .slice aa3 nc dd3, .slice bb3 nd ff3]) y l L3 S3 T3) := U3.out.below hb11 (Nat.le_refl _)
    replace V1 : Hid (Pl W11 (.agg #[.int .i64 i, .int .i64 l, .string (Let.mk L1), .slice ga1 pa gd1, .slice gb1 pb gf1]) i l L1 S1 T1) := V1.out.below hb11 (Nat.le_refl _)
    replace V2 : Hid (Pl W11 (.agg #[.int .i64 x, .int .i64 z, .string (Let.mk L2), .slice ga2 0 gd2, .slice gb2 0 gf2]) x z L2 [] []) := V2.out.below hb11 (Nat.le_refl _)
    replace V3 : Hid (Pl W11 (.agg #[.int .i64 y, .int .i64 l, .string (Let.mk L3), .slice ga3 pc gd3, .slice gb3 pd gf3]) y l L3 S3 T3) := V3.out.below hb11 (Nat.le_refl _)
    have RC1 : Hid (W11.heap[w10.heap.size]? = some (.cells #[.int .i64 i, .int .i64 l, .string (Let.mk L1), .slice ga1 pa gd1, .slice gb1 pb gf1] 25 (0, 0))) := hr11
    have HW11 := Lib.hid hW11
    clear hW11 hb11 hr11
    obtain ⟨W12, hW12⟩ : ∃ W12, W12 = W11.alloc (.cells #[.int .i64 x, .int .i64 z, .string (Let.mk L2), .slice ga2 0 gd2, .slice gb2 0 gf2] 25) := ⟨_, rfl⟩
    obtain ⟨hb12, hr12, hl12⟩ := box_at hW12 (hl11 : W11.heap.size = w10.heap.size + 1)
    replace RW : Hid (W12.heap[w.heap.size]? = some (.cells #[.int .i64 i, .int .i64 l, .string (Let.mk L), .slice sa ls sc, .slice ta lt tc] 25 (0, 0))) := (hb12.block _ (row_lt RW.out)).trans RW.out
    replace RD : Hid (W12.heap[w.heap.size + 1]? = some (.cells #[.int .i64 da, .int .i64 dn, .int .i64 dm, .int .i64 dq, .string (Let.mk dt)] 27 (0, 0))) := (hb12.block _ (row_lt RD.out)).trans RD.out
    replace RX : Hid (W12.heap[w.heap.size + 1 + 1]? = some (.cells #[.int .i64 x, .int .i64 y, .int .i64 z] 28 (0, 0))) := (hb12.block _ (row_lt RX.out)).trans RX.out
    replace R8 : Hid (W12.heap[w8.heap.size]? = some (.cells #[.int .i64 i, .int .i64 l, .pointer q8, .slice a8 n8 d8, .slice a9 n9 d9] 33 (0, 0))) := (hb12.block _ (row_lt R8.out)).trans R8.out
    replace RB1 : Hid (W12.heap[w9.heap.size]? = some (.cells #[.int .i64 i, .int .i64 l, .pointer k1, .slice aa1 na dd1, .slice bb1 nb ff1] 33 (0, 0))) := (hb12.block _ (row_lt RB1.out)).trans RB1.out
    replace RB2 : Hid (W12.heap[w9.heap.size + 1]? = some (.cells #[.int .i64 x, .int .i64 z, .pointer k2, .slice aa2 0 dd2, .slice bb2 0 ff2] 33 (0, 0))) := (hb12.block _ (row_lt RB2.out)).trans RB2.out
    replace RB3 : Hid (W12.heap[w9.heap.size + 1 + 1]? = some (.cells #[.int .i64 y, .int .i64 l, .pointer k3, .slice aa3 nc dd3, .slice bb3 nd ff3] 33 (0, 0))) := (hb12.block _ (row_lt RB3.out)).trans RB3.out
    replace RC1 : Hid (W12.heap[w10.heap.size]? = some (.cells #[.int .i64 i, .int .i64 l, .string (Let.mk L1), .slice ga1 pa gd1, .slice gb1 pb gf1] 25 (0, 0))) := (hb12.block _ (row_lt RC1.out)).trans RC1.out
    replace BB : Hid (Below w.heap.size w W12) := below_more BB.out hb12
    replace O8 : Hid (Sg W12 (.agg #[.int .i64 i, .int .i64 l, .pointer q8, .slice a8 n8 d8, .slice a9 n9 d9]) i l L S T) := O8.out.below hb12 (Nat.le_refl _)
    replace PW : Hid (Pl W12 (.agg #[.int .i64 i, .int .i64 l, .string (Let.mk L), .slice sa ls sc, .slice ta lt tc]) i l L S T) := PW.out.below hb12 (Nat.le_refl _)
    replace U1 : Hid (Sg W12 (.agg #[.int .i64 i, .int .i64 l, .pointer k1, .slice aa1 na dd1, .slice bb1 nb ff1]) i l L1 S1 T1) := U1.out.below hb12 (Nat.le_refl _)
    replace U2 : Hid (Sg W12 (.agg #[.int .i64 x, .int .i64 z, .pointer k2, .slice aa2 0 dd2, .slice bb2 0 ff2]) x z L2 [] []) := U2.out.below hb12 (Nat.le_refl _)
    replace U3 : Hid (Sg W12 (.agg #[.int .i64 y, .int .i64 l, .pointer k3, .slice aa3 nc dd3, .slice bb3 nd ff3]) y l L3 S3 T3) := U3.out.below hb12 (Nat.le_refl _)
    replace V1 : Hid (Pl W12 (.agg #[.int .i64 i, .int .i64 l, .string (Let.mk L1), .slice ga1 pa gd1, .slice gb1 pb gf1]) i l L1 S1 T1) := V1.out.below hb12 (Nat.le_refl _)
    replace V2 : Hid (Pl W12 (.agg #[.int .i64 x, .int .i64 z, .string (Let.mk L2), .slice ga2 0 gd2, .slice gb2 0 gf2]) x z L2 [] []) := V2.out.below hb12 (Nat.le_refl _)
    replace V3 : Hid (Pl W12 (.agg #[.int .i64 y, .int .i64 l, .string (Let.mk L3), .slice ga3 pc gd3, .slice gb3 pd gf3]) y l L3 S3 T3) := V3.out.below hb12 (Nat.le_refl _)
    have RC2 : Hid (W12.heap[w10.heap.size + 1]? = some (.cells #[.int .i64 x, .int .i64 z, .string (Let.mk L2), .slice ga2 0 gd2, .slice gb2 0 gf2] 25 (0, 0))) := hr12
    have HW12 := Lib.hid hW12
    clear hW12 hb12 hr12
    obtain ⟨W13, hW13⟩ : ∃ W13, W13 = W12.alloc (.cells #[.int .i64 y, .int .i64 l, .string (Let.mk L3), .slice ga3 pc gd3, .slice gb3 pd gf3] 25) := ⟨_, rfl⟩
    obtain ⟨hb13, hr13, hl13⟩ := box_at hW13 (hl12 : W12.heap.size = w10.heap.size + 1 + 1)
    replace RW : Hid (W13.heap[w.heap.size]? = some (.cells #[.int .i64 i, .int .i64 l, .string (Let.mk L), .slice sa ls sc, .slice ta lt tc] 25 (0, 0))) := (hb13.block _ (row_lt RW.out)).trans RW.out
    replace RD : Hid (W13.heap[w.heap.size + 1]? = some (.cells #[.int .i64 da, .int .i64 dn, .int .i64 dm, .int .i64 dq, .string (Let.mk dt)] 27 (0, 0))) := (hb13.block _ (row_lt RD.out)).trans RD.out
    replace RX : Hid (W13.heap[w.heap.size + 1 + 1]? = some (.cells #[.int .i64 x, .int .i64 y, .int .i64 z] 28 (0, 0))) := (hb13.block _ (row_lt RX.out)).trans RX.out
    replace R8 : Hid (W13.heap[w8.heap.size]? = some (.cells #[.int .i64 i, .int .i64 l, .pointer q8, .slice a8 n8 d8, .slice a9 n9 d9] 33 (0, 0))) := (hb13.block _ (row_lt R8.out)).trans R8.out
    replace RB1 : Hid (W13.heap[w9.heap.size]? = some (.cells #[.int .i64 i, .int .i64 l, .pointer k1, .slice aa1 na dd1, .slice bb1 nb ff1] 33 (0, 0))) := (hb13.block _ (row_lt RB1.out)).trans RB1.out
    replace RB2 : Hid (W13.heap[w9.heap.size + 1]? = some (.cells #[.int .i64 x, .int .i64 z, .pointer k2, .slice aa2 0 dd2, .slice bb2 0 ff2] 33 (0, 0))) := (hb13.block _ (row_lt RB2.out)).trans RB2.out
    replace RB3 : Hid (W13.heap[w9.heap.size + 1 + 1]? = some (.cells #[.int .i64 y, .int .i64 l, .pointer k3, .slice aa3 nc dd3, .slice bb3 nd ff3] 33 (0, 0))) := (hb13.block _ (row_lt RB3.out)).trans RB3.out
    replace RC1 : Hid (W13.heap[w10.heap.size]? = some (.cells #[.int .i64 i, .int .i64 l, .string (Let.mk L1), .slice ga1 pa gd1, .slice gb1 pb gf1] 25 (0, 0))) := (hb13.block _ (row_lt RC1.out)).trans RC1.out
    replace RC2 : Hid (W13.heap[w10.heap.size + 1]? = some (.cells #[.int .i64 x, .int .i64 z, .string (Let.mk L2), .slice ga2 0 gd2, .slice gb2 0 gf2] 25 (0, 0))) := (hb13.block _ (row_lt RC2.out)).trans RC2.out
    replace BB : Hid (Below w.heap.size w W13) := below_more BB.out hb13
    replace O8 : Hid (Sg W13 (.agg #[.int .i64 i, .int .i64 l, .pointer q8, .slice a8 n8 d8, .slice a9 n9 d9]) i l L S T) := O8.out.below hb13 (Nat.le_refl _)
    replace PW : Hid (Pl W13 (.agg #[.int .i64 i, .int .i64 l, .string (Let.mk L), .slice sa ls sc, .slice ta lt tc]) i l L S T) := PW.out.below hb13 (Nat.le_refl _)
    replace U1 : Hid (Sg W13 (.agg #[.int .i64 i, .int .i64 l, .pointer k1, .slice aa1 na dd1, .slice bb1 nb ff1]) i l L1 S1 T1) := U1.out.below hb13 (Nat.le_refl _)
    replace U2 : Hid (Sg W13 (.agg #[.int .i64 x, .int .i64 z, .pointer k2, .slice aa2 0 dd2, .slice bb2 0 ff2]) x z L2 [] []) := U2.out.below hb13 (Nat.le_refl _)
    replace U3 : Hid (Sg W13 (.agg #[.int .i64 y, .int .i64 l, .pointer k3, .slice aa3 nc dd3, .slice bb3 nd ff3]) y l L3 S3 T3) := U3.out.below hb13 (Nat.le_refl _)
    replace V1 : Hid (Pl W13 (.agg #[.int .i64 i, .int .i64 l, .string (Let.mk L1), .slice ga1 pa gd1, .slice gb1 pb gf1]) i l L1 S1 T1) := V1.out.below hb13 (Nat.le_refl _)
    replace V2 : Hid (Pl W13 (.agg #[.int .i64 x, .int .i64 z, .string (Let.mk L2), .slice ga2 0 gd2, .slice gb2 0 gf2]) x z L2 [] []) := V2.out.below hb13 (Nat.le_refl _)
    replace V3 : Hid (Pl W13 (.agg #[.int .i64 y, .int .i64 l, .string (Let.mk L3), .slice ga3 pc gd3, .slice gb3 pd gf3]) y l L3 S3 T3) := V3.out.below hb13 (Nat.le_refl _)
    have RC3 : Hid (W13.heap[w10.heap.size + 1 + 1]? = some (.cells #[.int .i64 y, .int .i64 l, .string (Let.mk L3), .slice ga3 pc gd3, .slice gb3 pd gf3] 25 (0, 0))) := hr13
    have HW13 := Lib.hid hW13
    clear hW13 hb13 hr13
    go_upto_region 9 with fail
    rw [← HW11.out, ← HW12.out, ← HW13.out]
    clear HW11 HW12 HW13
    clear hl11 hl12 hl13
    obtain ⟨rwc0, rwc1, rwc2, rwc3, rwc4⟩ := five_cells RW.out
    clear rwc0 rwc1 rwc2 rwc3 rwc4
    have BX0 : Hid (∀ w', Below W13.heap.size W13 w' → Below W13.heap.size W13 w' ∧ (w'.cell? ⟨w9.heap.size, 0, none⟩ = some (.int .i64 i) ∧ w'.cell? ⟨w9.heap.size, 1, none⟩ = some (.int .i64 l) ∧ w'.cell? ⟨w9.heap.size, 2, none⟩ = some (.pointer k1) ∧ w'.cell? ⟨w9.heap.size, 3, none⟩ = some (.slice aa1 na dd1) ∧ w'.cell? ⟨w9.heap.size, 4, none⟩ = some (.slice bb1 nb ff1)) ∧ (w'.cell? ⟨w9.heap.size + 1, 0, none⟩ = some (.int .i64 x) ∧ w'.cell? ⟨w9.heap.size + 1, 1, none⟩ = some (.int .i64 z) ∧ w'.cell? ⟨w9.heap.size + 1, 2, none⟩ = some (.pointer k2) ∧ w'.cell? ⟨w9.heap.size + 1, 3, none⟩ = some (.slice aa2 0 dd2) ∧ w'.cell? ⟨w9.heap.size + 1, 4, none⟩ = some (.slice bb2 0 ff2)) ∧ (w'.cell? ⟨w9.heap.size + 1 + 1, 0, none⟩ = some (.int .i64 y) ∧ w'.cell? ⟨w9.heap.size + 1 + 1, 1, none⟩ = some (.int .i64 l) ∧ w'.cell? ⟨w9.heap.size + 1 + 1, 2, none⟩ = some (.pointer k3) ∧ w'.cell? ⟨w9.heap.size + 1 + 1, 3, none⟩ = some (.slice aa3 nc dd3) ∧ w'.cell? ⟨w9.heap.size + 1 + 1, 4, none⟩ = some (.slice bb3 nd ff3)) ∧ (w'.cell? ⟨w10.heap.size, 0, none⟩ = some (.int .i64 i) ∧ w'.cell? ⟨w10.heap.size, 1, none⟩ = some (.int .i64 l) ∧ w'.cell? ⟨w10.heap.size, 2, none⟩ = some (.string (Let.mk L1)) ∧ w'.cell? ⟨w10.heap.size, 3, none⟩ = some (.slice ga1 pa gd1) ∧ w'.cell? ⟨w10.heap.size, 4, none⟩ = some (.slice gb1 pb gf1)) ∧ (w'.cell? ⟨w10.heap.size + 1, 0, none⟩ = some (.int .i64 x) ∧ w'.cell? ⟨w10.heap.size + 1, 1, none⟩ = some (.int .i64 z) ∧ w'.cell? ⟨w10.heap.size + 1, 2, none⟩ = some (.string (Let.mk L2)) ∧ w'.cell? ⟨w10.heap.size + 1, 3, none⟩ = some (.slice ga2 0 gd2) ∧ w'.cell? ⟨w10.heap.size + 1, 4, none⟩ = some (.slice gb2 0 gf2)) ∧ (w'.cell? ⟨w10.heap.size + 1 + 1, 0, none⟩ = some (.int .i64 y) ∧ w'.cell? ⟨w10.heap.size + 1 + 1, 1, none⟩ = some (.int .i64 l) ∧ w'.cell? ⟨w10.heap.size + 1 + 1, 2, none⟩ = some (.string (Let.mk L3)) ∧ w'.cell? ⟨w10.heap.size + 1 + 1, 3, none⟩ = some (.slice ga3 pc gd3) ∧ w'.cell? ⟨w10.heap.size + 1 + 1, 4, none⟩ = some (.slice gb3 pd gf3)) ∧ (w'.cell? ⟨w8.heap.size, 0, none⟩ = some (.int .i64 i) ∧ w'.cell? ⟨w8.heap.size, 1, none⟩ = some (.int .i64 l) ∧ w'.cell? ⟨w8.heap.size, 2, none⟩ = some (.pointer q8) ∧ w'.cell? ⟨w8.heap.size, 3, none⟩ = some (.slice a8 n8 d8) ∧ w'.cell? ⟨w8.heap.size, 4, none⟩ = some (.slice a9 n9 d9)) ∧ (w'.cell? ⟨w.heap.size, 0, none⟩ = some (.int .i64 i) ∧ w'.cell? ⟨w.heap.size, 1, none⟩ = some (.int .i64 l) ∧ w'.cell? ⟨w.heap.size, 2, none⟩ = some (.string (Let.mk L)) ∧ w'.cell? ⟨w.heap.size, 3, none⟩ = some (.slice sa ls sc) ∧ w'.cell? ⟨w.heap.size, 4, none⟩ = some (.slice ta lt tc)) ∧ (w'.cell? ⟨w.heap.size + 1, 0, none⟩ = some (.int .i64 da) ∧ w'.cell? ⟨w.heap.size + 1, 1, none⟩ = some (.int .i64 dn) ∧ w'.cell? ⟨w.heap.size + 1, 2, none⟩ = some (.int .i64 dm) ∧ w'.cell? ⟨w.heap.size + 1, 3, none⟩ = some (.int .i64 dq) ∧ w'.cell? ⟨w.heap.size + 1, 4, none⟩ = some (.string (Let.mk dt))) ∧ (w'.cell? ⟨w.heap.size + 1 + 1, 0, none⟩ = some (.int .i64 x) ∧ w'.cell? ⟨w.heap.size + 1 + 1, 1, none⟩ = some (.int .i64 y) ∧ w'.cell? ⟨w.heap.size + 1 + 1, 2, none⟩ = some (.int .i64 z))) := fun w' hb => ⟨hb, five_cells ((hb.block _ (row_lt RB1.out)).trans RB1.out), five_cells ((hb.block _ (row_lt RB2.out)).trans RB2.out), five_cells ((hb.block _ (row_lt RB3.out)).trans RB3.out), five_cells ((hb.block _ (row_lt RC1.out)).trans RC1.out), five_cells ((hb.block _ (row_lt RC2.out)).trans RC2.out), five_cells ((hb.block _ (row_lt RC3.out)).trans RC3.out), five_cells ((hb.block _ (row_lt R8.out)).trans R8.out), five_cells ((hb.block _ (row_lt RW.out)).trans RW.out), five_cells ((hb.block _ (row_lt RD.out)).trans RD.out), three_cells ((hb.block _ (row_lt RX.out)).trans RX.out)⟩
    have QU1 : Hid (∀ w', Below W13.heap.size W13 w' → Sg w' (.agg #[.int .i64 i, .int .i64 l, .pointer k1, .slice aa1 na dd1, .slice bb1 nb ff1]) i l L1 S1 T1) := fun w' hb => U1.out.below hb (Nat.le_refl _)
    have QU2 : Hid (∀ w', Below W13.heap.size W13 w' → Sg w' (.agg #[.int .i64 x, .int .i64 z, .pointer k2, .slice aa2 0 dd2, .slice bb2 0 ff2]) x z L2 [] []) := fun w' hb => U2.out.below hb (Nat.le_refl _)
    have QU3 : Hid (∀ w', Below W13.heap.size W13 w' → Sg w' (.agg #[.int .i64 y, .int .i64 l, .pointer k3, .slice aa3 nc dd3, .slice bb3 nd ff3]) y l L3 S3 T3) := fun w' hb => U3.out.below hb (Nat.le_refl _)
    have QV1 : Hid (∀ w', Below W13.heap.size W13 w' → Pl w' (.agg #[.int .i64 i, .int .i64 l, .string (Let.mk L1), .slice ga1 pa gd1, .slice gb1 pb gf1]) i l L1 S1 T1) := fun w' hb => V1.out.below hb (Nat.le_refl _)
    have QV2 : Hid (∀ w', Below W13.heap.size W13 w' → Pl w' (.agg #[.int .i64 x, .int .i64 z, .string (Let.mk L2), .slice ga2 0 gd2, .slice gb2 0 gf2]) x z L2 [] []) := fun w' hb => V2.out.below hb (Nat.le_refl _)
    have QV3 : Hid (∀ w', Below W13.heap.size W13 w' → Pl w' (.agg #[.int .i64 y, .int .i64 l, .string (Let.mk L3), .slice ga3 pc gd3, .slice gb3 pd gf3]) y l L3 S3 T3) := fun w' hb => V3.out.below hb (Nat.le_refl _)
    have QO8 : Hid (∀ w', Below W13.heap.size W13 w' → Sg w' (.agg #[.int .i64 i, .int .i64 l, .pointer q8, .slice a8 n8 d8, .slice a9 n9 d9]) i l L S T) := fun w' hb => O8.out.below hb (Nat.le_refl _)
    have QPW : Hid (∀ w', Below W13.heap.size W13 w' → Pl w' (.agg #[.int .i64 i, .int .i64 l, .string (Let.mk L), .slice sa ls sc, .slice ta lt tc]) i l L S T) := fun w' hb => PW.out.below hb (Nat.le_refl _)
    have KK0 : Hid (∀ w', Below W13.heap.size W13 w' → Below w.heap.size w w') := fun w' hb => below_more BB.out hb
    obtain ⟨WA, hWA⟩ : ∃ WA, WA = W13.alloc (.cells #[.int .i64 i, .int .i64 l, .string (Let.mk L), .slice sa ls sc, .slice ta lt tc] 25) := ⟨_, rfl⟩
    obtain ⟨bA, rA, lA⟩ := box_at hWA rfl
    have RA' := Lib.hid rA
    have BA := Lib.hid bA
    have HWA := Lib.hid hWA
    clear bA rA lA hWA
    obtain ⟨rwc0, rwc1, rwc2, rwc3, rwc4⟩ := five_cells RW.out
    go_upto_region 10 with fail
    rw [← HWA.out]
    clear rwc0 rwc1 rwc2 rwc3 rwc4
    obtain ⟨_, _, _, _, _, _, _, _, ⟨rw0, rw1, rw2, rw3, rw4⟩, _, rx0, rx1, rx2⟩ := BX0.out WA BA.out
    obtain ⟨t0, t1, t2, t3, t4⟩ := five_cells RA'.out
    obtain ⟨f0, f1, f2, f3, f4⟩ := five_free RA'.out
    obtain ⟨WZ, hWZ⟩ : ∃ WZ, WZ = ((WA.setCell ⟨W13.heap.size, 0, none⟩ (.int .i64 x)).setCell ⟨W13.heap.size, 3, none⟩ (.slice none 0 0)).setCell ⟨W13.heap.size, 4, none⟩ (.slice none 0 0) := ⟨_, rfl⟩
    have RT : Hid (WZ.heap[W13.heap.size]? = some (.cells #[.int .i64 x, .int .i64 l, .string (Let.mk L), .slice none 0 0, .slice none 0 0] 25 (0, 0))) := by show _ = _; rw [hWZ]; exact set_block (set_block (set_block RA'.out))
    have BZ : Hid (Below W13.heap.size W13 WZ) := by show Below _ _ _; rw [hWZ]; exact below_put (below_put (below_put BA.out (Nat.le_refl _) _) (Nat.le_refl _) _) (Nat.le_refl _) _
    have HWZ := Lib.hid hWZ
    clear hWZ
    go_upto_region 11 with fail
    rw [← HWZ.out]
    clear HWZ HWA RA' BA rw0 rw1 rw2 rw3 rw4 rx0 rx1 rx2 t0 t1 t2 t3 t4 f0 f1 f2 f3 f4
    have BX : Hid (∀ w', Below WZ.heap.size WZ w' → Below WZ.heap.size WZ w' ∧ ((w'.cell? ⟨W13.heap.size, 0, none⟩ = some (.int .i64 x) ∧ w'.cell? ⟨W13.heap.size, 1, none⟩ = some (.int .i64 l) ∧ w'.cell? ⟨W13.heap.size, 2, none⟩ = some (.string (Let.mk L)) ∧ w'.cell? ⟨W13.heap.size, 3, none⟩ = some (.slice none 0 0) ∧ w'.cell? ⟨W13.heap.size, 4, none⟩ = some (.slice none 0 0)) ∧ ((w'.cell? ⟨w9.heap.size, 0, none⟩ = some (.int .i64 i) ∧ w'.cell? ⟨w9.heap.size, 1, none⟩ = some (.int .i64 l) ∧ w'.cell? ⟨w9.heap.size, 2, none⟩ = some (.pointer k1) ∧ w'.cell? ⟨w9.heap.size, 3, none⟩ = some (.slice aa1 na dd1) ∧ w'.cell? ⟨w9.heap.size, 4, none⟩ = some (.slice bb1 nb ff1)) ∧ (w'.cell? ⟨w9.heap.size + 1, 0, none⟩ = some (.int .i64 x) ∧ w'.cell? ⟨w9.heap.size + 1, 1, none⟩ = some (.int .i64 z) ∧ w'.cell? ⟨w9.heap.size + 1, 2, none⟩ = some (.pointer k2) ∧ w'.cell? ⟨w9.heap.size + 1, 3, none⟩ = some (.slice aa2 0 dd2) ∧ w'.cell? ⟨w9.heap.size + 1, 4, none⟩ = some (.slice bb2 0 ff2)) ∧ (w'.cell? ⟨w9.heap.size + 1 + 1, 0, none⟩ = some (.int .i64 y) ∧ w'.cell? ⟨w9.heap.size + 1 + 1, 1, none⟩ = some (.int .i64 l) ∧ w'.cell? ⟨w9.heap.size + 1 + 1, 2, none⟩ = some (.pointer k3) ∧ w'.cell? ⟨w9.heap.size + 1 + 1, 3, none⟩ = some (.slice aa3 nc dd3) ∧ w'.cell? ⟨w9.heap.size + 1 + 1, 4, none⟩ = some (.slice bb3 nd ff3)) ∧ (w'.cell? ⟨w10.heap.size, 0, none⟩ = some (.int .i64 i) ∧ w'.cell? ⟨w10.heap.size, 1, none⟩ = some (.int .i64 l) ∧ w'.cell? ⟨w10.heap.size, 2, none⟩ = some (.string (Let.mk L1)) ∧ w'.cell? ⟨w10.heap.size, 3, none⟩ = some (.slice ga1 pa gd1) ∧ w'.cell? ⟨w10.heap.size, 4, none⟩ = some (.slice gb1 pb gf1)) ∧ (w'.cell? ⟨w10.heap.size + 1, 0, none⟩ = some (.int .i64 x) ∧ w'.cell? ⟨w10.heap.size + 1, 1, none⟩ = some (.int .i64 z) ∧ w'.cell? ⟨w10.heap.size + 1, 2, none⟩ = some (.string (Let.mk L2)) ∧ w'.cell? ⟨w10.heap.size + 1, 3, none⟩ = some (.slice ga2 0 gd2) ∧ w'.cell? ⟨w10.heap.size + 1, 4, none⟩ = some (.slice gb2 0 gf2)) ∧ (w'.cell? ⟨w10.heap.size + 1 + 1, 0, none⟩ = some (.int .i64 y) ∧ w'.cell? ⟨w10.heap.size + 1 + 1, 1, none⟩ = some (.int .i64 l) ∧ w'.cell? ⟨w10.heap.size + 1 + 1, 2, none⟩ = some (.string (Let.mk L3)) ∧ w'.cell? ⟨w10.heap.size + 1 + 1, 3, none⟩ = some (.slice ga3 pc gd3) ∧ w'.cell? ⟨w10.heap.size + 1 + 1, 4, none⟩ = some (.slice gb3 pd gf3)) ∧ (w'.cell? ⟨w8.heap.size, 0, none⟩ = some (.int .i64 i) ∧ w'.cell? ⟨w8.heap.size, 1, none⟩ = some (.int .i64 l) ∧ w'.cell? ⟨w8.heap.size, 2, none⟩ = some (.pointer q8) ∧ w'.cell? ⟨w8.heap.size, 3, none⟩ = some (.slice a8 n8 d8) ∧ w'.cell? ⟨w8.heap.size, 4, none⟩ = some (.slice a9 n9 d9)) ∧ (w'.cell? ⟨w.heap.size, 0, none⟩ = some (.int .i64 i) ∧ w'.cell? ⟨w.heap.size, 1, none⟩ = some (.int .i64 l) ∧ w'.cell? ⟨w.heap.size, 2, none⟩ = some (.string (Let.mk L)) ∧ w'.cell? ⟨w.heap.size, 3, none⟩ = some (.slice sa ls sc) ∧ w'.cell? ⟨w.heap.size, 4, none⟩ = some (.slice ta lt tc)) ∧ (w'.cell? ⟨w.heap.size + 1, 0, none⟩ = some (.int .i64 da) ∧ w'.cell? ⟨w.heap.size + 1, 1, none⟩ = some (.int .i64 dn) ∧ w'.cell? ⟨w.heap.size + 1, 2, none⟩ = some (.int .i64 dm) ∧ w'.cell? ⟨w.heap.size + 1, 3, none⟩ = some (.int .i64 dq) ∧ w'.cell? ⟨w.heap.size + 1, 4, none⟩ = some (.string (Let.mk dt))) ∧ (w'.cell? ⟨w.heap.size + 1 + 1, 0, none⟩ = some (.int .i64 x) ∧ w'.cell? ⟨w.heap.size + 1 + 1, 1, none⟩ = some (.int .i64 y) ∧ w'.cell? ⟨w.heap.size + 1 + 1, 2, none⟩ = some (.int .i64 z))))) := fun w' hb => ⟨hb, five_cells ((hb.block _ (row_lt RT.out)).trans RT.out), (BX0.out w' (below_more BZ.out hb)).2⟩
    have KR := Lib.hid (Below.refl WZ.heap.size WZ)
    replace QU1 : Hid (∀ w', Below WZ.heap.size WZ w' → Sg w' (.agg #[.int .i64 i, .int .i64 l, .pointer k1, .slice aa1 na dd1, .slice bb1 nb ff1]) i l L1 S1 T1) := fun w' hb => QU1.out w' (below_more BZ.out hb)
    replace QU2 : Hid (∀ w', Below WZ.heap.size WZ w' → Sg w' (.agg #[.int .i64 x, .int .i64 z, .pointer k2, .slice aa2 0 dd2, .slice bb2 0 ff2]) x z L2 [] []) := fun w' hb => QU2.out w' (below_more BZ.out hb)
    replace QU3 : Hid (∀ w', Below WZ.heap.size WZ w' → Sg w' (.agg #[.int .i64 y, .int .i64 l, .pointer k3, .slice aa3 nc dd3, .slice bb3 nd ff3]) y l L3 S3 T3) := fun w' hb => QU3.out w' (below_more BZ.out hb)
    replace QV1 : Hid (∀ w', Below WZ.heap.size WZ w' → Pl w' (.agg #[.int .i64 i, .int .i64 l, .string (Let.mk L1), .slice ga1 pa gd1, .slice gb1 pb gf1]) i l L1 S1 T1) := fun w' hb => QV1.out w' (below_more BZ.out hb)
    replace QV2 : Hid (∀ w', Below WZ.heap.size WZ w' → Pl w' (.agg #[.int .i64 x, .int .i64 z, .string (Let.mk L2), .slice ga2 0 gd2, .slice gb2 0 gf2]) x z L2 [] []) := fun w' hb => QV2.out w' (below_more BZ.out hb)
    replace QV3 : Hid (∀ w', Below WZ.heap.size WZ w' → Pl w' (.agg #[.int .i64 y, .int .i64 l, .string (Let.mk L3), .slice ga3 pc gd3, .slice gb3 pd gf3]) y l L3 S3 T3) := fun w' hb => QV3.out w' (below_more BZ.out hb)
    replace QO8 : Hid (∀ w', Below WZ.heap.size WZ w' → Sg w' (.agg #[.int .i64 i, .int .i64 l, .pointer q8, .slice a8 n8 d8, .slice a9 n9 d9]) i l L S T) := fun w' hb => QO8.out w' (below_more BZ.out hb)
    replace QPW : Hid (∀ w', Below WZ.heap.size WZ w' → Pl w' (.agg #[.int .i64 i, .int .i64 l, .string (Let.mk L), .slice sa ls sc, .slice ta lt tc]) i l L S T) := fun w' hb => QPW.out w' (below_more BZ.out hb)
    have QPT : Hid (∀ w', Below WZ.heap.size WZ w' → Pl w' (.agg #[.int .i64 x, .int .i64 l, .string (Let.mk L), .slice none 0 0, .slice none 0 0]) x l L [] []) := fun w' hb => nil_pl _ _ _ _
    have KK : Hid (∀ w', Below WZ.heap.size WZ w' → Below w.heap.size w w') := fun w' hb => KK0.out w' (below_more BZ.out hb)
    obtain ⟨_, ⟨c0, c1, c2, c3, c4⟩, _⟩ := BX.out WZ KR.out
    clear c0 c1 c2 c3 c4
    clear RB1 RB2 RB3 RC1 RC2 RC3 R8 RW RD RX
    clear BX0 KK0 U1 U2 U3 V1 V2 V3 O8 PW BB
    go_region_held3 (fun w' => Below WZ.heap.size WZ w' ∧ ((w'.cell? ⟨W13.heap.size, 0, none⟩ = some (.int .i64 x) ∧ w'.cell? ⟨W13.heap.size, 1, none⟩ = some (.int .i64 l) ∧ w'.cell? ⟨W13.heap.size, 2, none⟩ = some (.string (Let.mk L)) ∧ w'.cell? ⟨W13.heap.size, 3, none⟩ = some (.slice none 0 0) ∧ w'.cell? ⟨W13.heap.size, 4, none⟩ = some (.slice none 0 0)) ∧ ((w'.cell? ⟨w9.heap.size, 0, none⟩ = some (.int .i64 i) ∧ w'.cell? ⟨w9.heap.size, 1, none⟩ = some (.int .i64 l) ∧ w'.cell? ⟨w9.heap.size, 2, none⟩ = some (.pointer k1) ∧ w'.cell? ⟨w9.heap.size, 3, none⟩ = some (.slice aa1 na dd1) ∧ w'.cell? ⟨w9.heap.size, 4, none⟩ = some (.slice bb1 nb ff1)) ∧ (w'.cell? ⟨w9.heap.size + 1, 0, none⟩ = some (.int .i64 x) ∧ w'.cell? ⟨w9.heap.size + 1, 1, none⟩ = some (.int .i64 z) ∧ w'.cell? ⟨w9.heap.size + 1, 2, none⟩ = some (.pointer k2) ∧ w'.cell? ⟨w9.heap.size + 1, 3, none⟩ = some (.slice aa2 0 dd2) ∧ w'.cell? ⟨w9.heap.size + 1, 4, none⟩ = some (.slice bb2 0 ff2)) ∧ (w'.cell? ⟨w9.heap.size + 1 + 1, 0, none⟩ = some (.int .i64 y) ∧ w'.cell? ⟨w9.heap.size + 1 + 1, 1, none⟩ = some (.int .i64 l) ∧ w'.cell? ⟨w9.heap.size + 1 + 1, 2, none⟩ = some (.pointer k3) ∧ w'.cell? ⟨w9.heap.size + 1 + 1, 3, none⟩ = some (.slice aa3 nc dd3) ∧ w'.cell? ⟨w9.heap.size + 1 + 1, 4, none⟩ = some (.slice bb3 nd ff3)) ∧ (w'.cell? ⟨w10.heap.size, 0, none⟩ = some (.int .i64 i) ∧ w'.cell? ⟨w10.heap.size, 1, none⟩ = some (.int .i64 l) ∧ w'.cell? ⟨w10.heap.size, 2, none⟩ = some (.string (Let.mk L1)) ∧ w'.cell? ⟨w10.heap.size, 3, none⟩ = some (.slice ga1 pa gd1) ∧ w'.cell? ⟨w10.heap.size, 4, none⟩ = some (.slice gb1 pb gf1)) ∧ (w'.cell? ⟨w10.heap.size + 1, 0, none⟩ = some (.int .i64 x) ∧ w'.cell? ⟨w10.heap.size + 1, 1, none⟩ = some (.int .i64 z) ∧ w'.cell? ⟨w10.heap.size + 1, 2, none⟩ = some (.string (Let.mk L2)) ∧ w'.cell? ⟨w10.heap.size + 1, 3, none⟩ = some (.slice ga2 0 gd2) ∧ w'.cell? ⟨w10.heap.size + 1, 4, none⟩ = some (.slice gb2 0 gf2)) ∧ (w'.cell? ⟨w10.heap.size + 1 + 1, 0, none⟩ = some (.int .i64 y) ∧ w'.cell? ⟨w10.heap.size + 1 + 1, 1, none⟩ = some (.int .i64 l) ∧ w'.cell? ⟨w10.heap.size + 1 + 1, 2, none⟩ = some (.string (Let.mk L3)) ∧ w'.cell? ⟨w10.heap.size + 1 + 1, 3, none⟩ = some (.slice ga3 pc gd3) ∧ w'.cell? ⟨w10.heap.size + 1 + 1, 4, none⟩ = some (.slice gb3 pd gf3)) ∧ (w'.cell? ⟨w8.heap.size, 0, none⟩ = some (.int .i64 i) ∧ w'.cell? ⟨w8.heap.size, 1, none⟩ = some (.int .i64 l) ∧ w'.cell? ⟨w8.heap.size, 2, none⟩ = some (.pointer q8) ∧ w'.cell? ⟨w8.heap.size, 3, none⟩ = some (.slice a8 n8 d8) ∧ w'.cell? ⟨w8.heap.size, 4, none⟩ = some (.slice a9 n9 d9)) ∧ (w'.cell? ⟨w.heap.size, 0, none⟩ = some (.int .i64 i) ∧ w'.cell? ⟨w.heap.size, 1, none⟩ = some (.int .i64 l) ∧ w'.cell? ⟨w.heap.size, 2, none⟩ = some (.string (Let.mk L)) ∧ w'.cell? ⟨w.heap.size, 3, none⟩ = some (.slice sa ls sc) ∧ w'.cell? ⟨w.heap.size, 4, none⟩ = some (.slice ta lt tc)) ∧ (w'.cell? ⟨w.heap.size + 1, 0, none⟩ = some (.int .i64 da) ∧ w'.cell? ⟨w.heap.size + 1, 1, none⟩ = some (.int .i64 dn) ∧ w'.cell? ⟨w.heap.size + 1, 2, none⟩ = some (.int .i64 dm) ∧ w'.cell? ⟨w.heap.size + 1, 3, none⟩ = some (.int .i64 dq) ∧ w'.cell? ⟨w.heap.size + 1, 4, none⟩ = some (.string (Let.mk dt))) ∧ (w'.cell? ⟨w.heap.size + 1 + 1, 0, none⟩ = some (.int .i64 x) ∧ w'.cell? ⟨w.heap.size + 1 + 1, 1, none⟩ = some (.int .i64 y) ∧ w'.cell? ⟨w.heap.size + 1 + 1, 2, none⟩ = some (.int .i64 z)))))
      ((refine BX.out _ ?_; focus ((repeat first | with_reducible assumption | with_reducible exact KR.out | with_reducible apply Below.drew | with_reducible apply below_drews | (with_reducible refine Below.alloc ?_ ?_ _; focus (first | with_reducible assumption | with_reducible exact KR.out | exact Nat.le_refl _)) | exact Nat.le_refl _ | (with_reducible refine below_put ?_ (by first | assumption | omega) _)); done)))
      (first
        | (go_at_call 18; (with_reducible refine (HAS.out _ (.agg #[.int .i64 i, .int .i64 l, .pointer k1, .slice aa1 na dd1, .slice bb1 nb ff1]) (.agg #[.int .i64 i, .int .i64 l, .string (Let.mk L1), .slice ga1 pa gd1, .slice gb1 pb gf1]) _ _ _ _ _ P1.out N1.out.1 N1.out.2.2.2.2.1 N1.out.2.2.2.2.2.2.2.1 (QU1.out _ ?_) (QV1.out _ ?_)).mono ?_); (focus ((repeat first | with_reducible assumption | with_reducible exact KR.out | with_reducible apply Below.drew | with_reducible apply below_drews | (with_reducible refine Below.alloc ?_ ?_ _; focus (first | with_reducible assumption | with_reducible exact KR.out | exact Nat.le_refl _)) | exact Nat.le_refl _ | (with_reducible refine below_put ?_ (by first | assumption | omega) _)); done)); (focus ((repeat first | with_reducible assumption | with_reducible exact KR.out | with_reducible apply Below.drew | with_reducible apply below_drews | (with_reducible refine Below.alloc ?_ ?_ _; focus (first | with_reducible assumption | with_reducible exact KR.out | exact Nat.le_refl _)) | exact Nat.le_refl _ | (with_reducible refine below_put ?_ (by first | assumption | omega) _)); done)); rintro e wx1 ⟨rfl, cc1⟩; have jj1 := fun h => below_more (B := WZ.heap.size) (w := WZ) h cc1; replace jj1 := jj1 (by (repeat first | with_reducible assumption | with_reducible exact KR.out | with_reducible apply Below.drew | with_reducible apply below_drews | (with_reducible refine Below.alloc ?_ ?_ _; focus (first | with_reducible assumption | with_reducible exact KR.out | exact Nat.le_refl _)) | exact Nat.le_refl _ | (with_reducible refine below_put ?_ (by first | assumption | omega) _))))
        | (go_at_call 18; (with_reducible refine (HAS.out _ (.agg #[.int .i64 x, .int .i64 z, .pointer k2, .slice aa2 0 dd2, .slice bb2 0 ff2]) (.agg #[.int .i64 x, .int .i64 z, .string (Let.mk L2), .slice ga2 0 gd2, .slice gb2 0 gf2]) _ _ _ _ _ NP.out N1.out.2.1 NZ.out.1 NZ.out.2 (QU2.out _ ?_) (QV2.out _ ?_)).mono ?_); (focus ((repeat first | with_reducible assumption | with_reducible exact KR.out | with_reducible apply Below.drew | with_reducible apply below_drews | (with_reducible refine Below.alloc ?_ ?_ _; focus (first | with_reducible assumption | with_reducible exact KR.out | exact Nat.le_refl _)) | exact Nat.le_refl _ | (with_reducible refine below_put ?_ (by first | assumption | omega) _)); done)); (focus ((repeat first | with_reducible assumption | with_reducible exact KR.out | with_reducible apply Below.drew | with_reducible apply below_drews | (with_reducible refine Below.alloc ?_ ?_ _; focus (first | with_reducible assumption | with_reducible exact KR.out | exact Nat.le_refl _)) | exact Nat.le_refl _ | (with_reducible refine below_put ?_ (by first | assumption | omega) _)); done)); rintro e wx2 ⟨rfl, cc2⟩; have jj2 := fun h => below_more (B := WZ.heap.size) (w := WZ) h cc2; replace jj2 := jj2 (by (repeat first | with_reducible assumption | with_reducible exact KR.out | with_reducible apply Below.drew | with_reducible apply below_drews | (with_reducible refine Below.alloc ?_ ?_ _; focus (first | with_reducible assumption | with_reducible exact KR.out | exact Nat.le_refl _)) | exact Nat.le_refl _ | (with_reducible refine below_put ?_ (by first | assumption | omega) _))))
        | (go_at_call 18; (with_reducible refine (HAS.out _ (.agg #[.int .i64 y, .int .i64 l, .pointer k3, .slice aa3 nc dd3, .slice bb3 nd ff3]) (.agg #[.int .i64 y, .int .i64 l, .string (Let.mk L3), .slice ga3 pc gd3, .slice gb3 pd gf3]) _ _ _ _ _ P3.out N1.out.2.2.1 N1.out.2.2.2.2.2.1 N1.out.2.2.2.2.2.2.2.2.1 (QU3.out _ ?_) (QV3.out _ ?_)).mono ?_); (focus ((repeat first | with_reducible assumption | with_reducible exact KR.out | with_reducible apply Below.drew | with_reducible apply below_drews | (with_reducible refine Below.alloc ?_ ?_ _; focus (first | with_reducible assumption | with_reducible exact KR.out | exact Nat.le_refl _)) | exact Nat.le_refl _ | (with_reducible refine below_put ?_ (by first | assumption | omega) _)); done)); (focus ((repeat first | with_reducible assumption | with_reducible exact KR.out | with_reducible apply Below.drew | with_reducible apply below_drews | (with_reducible refine Below.alloc ?_ ?_ _; focus (first | with_reducible assumption | with_reducible exact KR.out | exact Nat.le_refl _)) | exact Nat.le_refl _ | (with_reducible refine below_put ?_ (by first | assumption | omega) _)); done)); rintro e wx3 ⟨rfl, cc3⟩; have jj3 := fun h => below_more (B := WZ.heap.size) (w := WZ) h cc3; replace jj3 := jj3 (by (repeat first | with_reducible assumption | with_reducible exact KR.out | with_reducible apply Below.drew | with_reducible apply below_drews | (with_reducible refine Below.alloc ?_ ?_ _; focus (first | with_reducible assumption | with_reducible exact KR.out | exact Nat.le_refl _)) | exact Nat.le_refl _ | (with_reducible refine below_put ?_ (by first | assumption | omega) _))))
        | (go_at_call 19; (with_reducible refine (HPC.out _ _ _ (QO8.out _ ?_)).mono ?_); (focus ((repeat first | with_reducible assumption | with_reducible exact KR.out | with_reducible apply Below.drew | with_reducible apply below_drews | (with_reducible refine Below.alloc ?_ ?_ _; focus (first | with_reducible assumption | with_reducible exact KR.out | exact Nat.le_refl _)) | exact Nat.le_refl _ | (with_reducible refine below_put ?_ (by first | assumption | omega) _)); done)); rintro e wx4 ⟨v4, rfl, o4, cc4⟩; obtain ⟨pc1, pc2, pc3, pc4, pc5, rfl, _, _, _⟩ := o4.open_; simp only [List.length_nil] at o4 ⊢; have jj4 := fun h => below_more (B := WZ.heap.size) (w := WZ) h cc4; replace jj4 := jj4 (by (repeat first | with_reducible assumption | with_reducible exact KR.out | with_reducible apply Below.drew | with_reducible apply below_drews | (with_reducible refine Below.alloc ?_ ?_ _; focus (first | with_reducible assumption | with_reducible exact KR.out | exact Nat.le_refl _)) | exact Nat.le_refl _ | (with_reducible refine below_put ?_ (by first | assumption | omega) _))))
        | (go_at_call 20; (with_reducible refine (HPD.out _ _ _ (QPW.out _ ?_)).mono ?_); (focus ((repeat first | with_reducible assumption | with_reducible exact KR.out | with_reducible apply Below.drew | with_reducible apply below_drews | (with_reducible refine Below.alloc ?_ ?_ _; focus (first | with_reducible assumption | with_reducible exact KR.out | exact Nat.le_refl _)) | exact Nat.le_refl _ | (with_reducible refine below_put ?_ (by first | assumption | omega) _)); done)); rintro e wx5 ⟨v5, rfl, o5, cc5⟩; obtain ⟨pd2, pd3, pd4, pd5, rfl, _, _⟩ := o5.open_; simp only [List.length_nil] at o5 ⊢; have o6 := o4.below cc5 (Nat.le_refl _); have jj5 := fun h => below_more (B := WZ.heap.size) (w := WZ) h cc5; replace jj5 := jj5 (by (repeat first | with_reducible assumption | with_reducible exact KR.out | with_reducible apply Below.drew | with_reducible apply below_drews | (with_reducible refine Below.alloc ?_ ?_ _; focus (first | with_reducible assumption | with_reducible exact KR.out | exact Nat.le_refl _)) | exact Nat.le_refl _ | (with_reducible refine below_put ?_ (by first | assumption | omega) _))))
        | (go_at_call 21; (with_reducible refine (HTW.out _ _ _ (QO8.out _ ?_)).mono ?_); (focus ((repeat first | with_reducible assumption | with_reducible exact KR.out | with_reducible apply Below.drew | with_reducible apply below_drews | (with_reducible refine Below.alloc ?_ ?_ _; focus (first | with_reducible assumption | with_reducible exact KR.out | exact Nat.le_refl _)) | exact Nat.le_refl _ | (with_reducible refine below_put ?_ (by first | assumption | omega) _)); done)); rintro e wx7 ⟨v7, rfl, o7, cc7⟩; obtain ⟨pe1, pe2, pe3, pe4, pe5, rfl, _, _, _⟩ := o7.open_; simp only [List.length_nil] at o7 ⊢; have jj7 := fun h => below_more (B := WZ.heap.size) (w := WZ) h cc7; replace jj7 := jj7 (by (repeat first | with_reducible assumption | with_reducible exact KR.out | with_reducible apply Below.drew | with_reducible apply below_drews | (with_reducible refine Below.alloc ?_ ?_ _; focus (first | with_reducible assumption | with_reducible exact KR.out | exact Nat.le_refl _)) | exact Nat.le_refl _ | (with_reducible refine below_put ?_ (by first | assumption | omega) _))))
        | (go_at_call 18; (with_reducible refine (HAS.out _ _ _ _ _ _ _ _ NP.out N1.out.2.1 NZ.out.1 NZ.out.2 o6 o5).mono ?_); rintro e wx6 ⟨rfl, cc6⟩; have jj6 := fun h => below_more (B := WZ.heap.size) (w := WZ) h cc6; replace jj6 := jj6 (by (repeat first | with_reducible assumption | with_reducible exact KR.out | with_reducible apply Below.drew | with_reducible apply below_drews | (with_reducible refine Below.alloc ?_ ?_ _; focus (first | with_reducible assumption | with_reducible exact KR.out | exact Nat.le_refl _)) | exact Nat.le_refl _ | (with_reducible refine below_put ?_ (by first | assumption | omega) _))))
        | (go_at_call 18; (with_reducible refine (HAS.out _ _ (.agg #[.int .i64 x, .int .i64 l, .string (Let.mk L), .slice none 0 0, .slice none 0 0]) _ _ _ _ _ NP.out N1.out.2.2.2.1 NZ.out.1 NZ.out.2 o7 (QPT.out _ ?_)).mono ?_); (focus ((repeat first | with_reducible assumption | with_reducible exact KR.out | with_reducible apply Below.drew | with_reducible apply below_drews | (with_reducible refine Below.alloc ?_ ?_ _; focus (first | with_reducible assumption | with_reducible exact KR.out | exact Nat.le_refl _)) | exact Nat.le_refl _ | (with_reducible refine below_put ?_ (by first | assumption | omega) _)); done)); rintro e wx8 ⟨rfl, cc8⟩; have jj8 := fun h => below_more (B := WZ.heap.size) (w := WZ) h cc8; replace jj8 := jj8 (by (repeat first | with_reducible assumption | with_reducible exact KR.out | with_reducible apply Below.drew | with_reducible apply below_drews | (with_reducible refine Below.alloc ?_ ?_ _; focus (first | with_reducible assumption | with_reducible exact KR.out | exact Nat.le_refl _)) | exact Nat.le_refl _ | (with_reducible refine below_put ?_ (by first | assumption | omega) _))))
        | (go_at_call 18; (with_reducible refine (HAS.out _ (.agg #[.int .i64 i, .int .i64 l, .pointer q8, .slice a8 n8 d8, .slice a9 n9 d9]) (.agg #[.int .i64 i, .int .i64 l, .string (Let.mk L), .slice sa ls sc, .slice ta lt tc]) _ _ _ _ _ P0.out N1.out.2.2.2.1 N1.out.2.2.2.2.2.2.1 N1.out.2.2.2.2.2.2.2.2.2 (QO8.out _ ?_) (QPW.out _ ?_)).mono ?_); (focus ((repeat first | with_reducible assumption | with_reducible exact KR.out | with_reducible apply Below.drew | with_reducible apply below_drews | (with_reducible refine Below.alloc ?_ ?_ _; focus (first | with_reducible assumption | with_reducible exact KR.out | exact Nat.le_refl _)) | exact Nat.le_refl _ | (with_reducible refine below_put ?_ (by first | assumption | omega) _)); done)); (focus ((repeat first | with_reducible assumption | with_reducible exact KR.out | with_reducible apply Below.drew | with_reducible apply below_drews | (with_reducible refine Below.alloc ?_ ?_ _; focus (first | with_reducible assumption | with_reducible exact KR.out | exact Nat.le_refl _)) | exact Nat.le_refl _ | (with_reducible refine below_put ?_ (by first | assumption | omega) _)); done)); rintro e wx9 ⟨rfl, cc9⟩; have jj9 := fun h => below_more (B := WZ.heap.size) (w := WZ) h cc9; replace jj9 := jj9 (by (repeat first | with_reducible assumption | with_reducible exact KR.out | with_reducible apply Below.drew | with_reducible apply below_drews | (with_reducible refine Below.alloc ?_ ?_ _; focus (first | with_reducible assumption | with_reducible exact KR.out | exact Nat.le_refl _)) | exact Nat.le_refl _ | (with_reducible refine below_put ?_ (by first | assumption | omega) _)))))
    all_goals go_wp2_with fail
    all_goals go_ret
    all_goals exact ⟨rfl, KK.out _ (by (repeat first | with_reducible assumption | with_reducible exact KR.out | with_reducible apply Below.drew | with_reducible apply below_drews | (with_reducible refine Below.alloc ?_ ?_ _; focus (first | with_reducible assumption | with_reducible exact KR.out | exact Nat.le_refl _)) | exact Nat.le_refl _ | (with_reducible refine below_put ?_ (by first | assumption | omega) _)))⟩

theorem acc_eq : Rows.laid_unicode_utf8_acceptRanges = Lib.acceptData := by kernel_rfl

set_option maxRecDepth 100000 in
theorem lifted (os : Os) (started : os.Started) (H : Type) (enc : TypeId × Value → H) :
    ReturnsInHanded {} Tryd.checked os 3 .any (fun w args => (Rows.segmentPartsSpec.pre enc Tryd.prog Tryd.f3 [] false w args ∧ laidMetH Tryd.prog Rows.segmentPartsRow.laid w) ∧ sizedMet enc Tryd.prog Tryd.f3 (OpenSpec.ofChange Rows.segmentPartsSpec) false w args) (Rows.segmentPartsSpec.post enc Tryd.prog Tryd.f3 false true false false) := by
  refine returnsInHanded_of_change_and (C := Tryd.checked) (X := fun w _ => laidMetH Tryd.prog Rows.segmentPartsRow.laid w) (fun _ _ _ hh h => h.of_heap hh) own started (by kernel_rfl) Tryd.func3
    (ChangeSpec.witness_shaped (enc := enc) (C := Tryd.checked) (os := os) (X := fun w _ => laidMetH Tryd.prog Rows.segmentPartsRow.laid w) false (World.laidAll Tryd.prog os Rows.segmentPartsRow.laid) #[.agg #[.int .i64 0, .int .i64 0, .string ByteArray.empty, .slice none 0 0, .slice none 0 0], .agg #[.int .i64 0, .int .i64 0, .int .i64 0, .int .i64 0, .string ByteArray.empty], .agg #[.int .i64 0, .int .i64 0, .int .i64 0]] 8 (World.laidAll_os _ _ _)
      (World.shaped_of_ZipB (by kernel_rfl) (by kernel_rfl)) (by kernel_rfl) (by kernel_rfl) (by kernel_rfl)
      (by rw [MakeChecks.laidMetH_plain _ _ _ (by kernel_rfl)]; exact laidMet_laidAll _ (by kernel_rfl) (by kernel_rfl))) ?_
  intro W base args ds gs before hval0 hW _ _ hL _
  have hval : ∀ (j : Nat) t v, Tryd.f3.params[j]? = some t → args[j]? = some v → Value.okWide Tryd.prog W .any base t v := hval0
  have hread : ∀ t ∈ Tryd.f3.params.toList, Tryd.prog.readableRec t = true ∧ t < Tryd.prog.types.size := by
    have : (Tryd.f3.params.toList.all fun t => Tryd.prog.readableRec t && decide (t < Tryd.prog.types.size)) = true := by kernel_rfl
    intro t ht
    have := List.all_eq_true.1 this t ht
    simpa using this
  rw [MakeChecks.laidMetH_plain _ _ _ (by kernel_rfl)] at hL
  have hT : Tabs W := utf8Tabs_of_readsT (U8Types.of196 Tryd.lays196) ⟨by kernel_rfl, by kernel_rfl, by kernel_rfl, by kernel_rfl, by kernel_rfl, by kernel_rfl, by kernel_rfl⟩ (Pinned.utf8First_eq ▸ Lib.laidMet.reads hL (.tail _ (.head _))) (acc_eq ▸ Lib.laidMet.reads hL (.head _))
  refine law_contract (P := Tryd.prog) (s := Rows.segmentPartsSpec) (fn := Tryd.f3) (tb := 4) laidOut rfl hread rfl Tryd.underlying4 (fun W' => okWide_bool_mk Tryd.underlying4 _) ?_ hW ?_
  · intro ds hds
    rw [Tryd.params3] at hds
    match ds, hds with
    | [d0, d1, d2], _ => rfl
  intro pl hA
  rw [Tryd.params3] at hA hval
  obtain ⟨v0, vs0, d0, ds0, p0, q0, hargs, rfl, hp0, h0, r0⟩ := trodAll_cons hA
  obtain ⟨v1, vs1, d1, ds1, p1, q1, rfl, rfl, hp1, h1, r1⟩ := trodAll_cons r0
  obtain ⟨v2, vs2, d2, ds2, p2, q2, rfl, rfl, hp2, h2, r2⟩ := trodAll_cons r1
  obtain ⟨rfl, rfl, hpe⟩ := trodAll_nil r2
  obtain rfl : args = #[v0, v1, v2] := by cases args; simp_all
  obtain ⟨ia, la, La, Sa, Ta, hGa⟩ := open_seg (hval 0 25 v0 rfl rfl) h0
  obtain ⟨d, rfl, hGd⟩ := open_sdeed (hval 1 27 v1 rfl rfl) h1
  obtain ⟨x, y, z, rfl, hb2⟩ := open_int3 Tryd.underlying28 Tryd.underlying3 (by kernel_rfl) (by kernel_rfl) (hval 2 28 v2 rfl rfl) h2
  exact walk W hT hGa d hGd x y z hb2.1.1 hb2.1.2 hb2.2.1.1 hb2.2.1.2 hb2.2.2.1 hb2.2.2.2 

theorem over : Rows.segmentPartsRow.holds Tryd.pinned (OpenSpec.ofChange Rows.segmentPartsSpec) :=
  OpenClaim.holds_of_wide 3 Tryd.f3 rfl rfl rfl rfl rfl rfl rfl ⟨rfl, rfl, rfl, rfl, rfl⟩ rfl rfl rfl rfl rfl (by kernel_rfl) Tryd.func3 (by kernel_rfl)
    (of_decide_eq_true (by kernel_rfl)) (by unfold Func.isWrapper; first | (rw [if_pos (by decide +kernel)]; kernel_rfl) | (rw [if_neg (by decide +kernel)]; exact ⟨rfl, rfl⟩))
    (fun os started H enc _ => lifted os started H enc)

/-- The statement. -/
theorem proved : Rows.SegmentPartsCardSaid :=
  Claim7.holds_tied_plain_at .later [] [.data, .pinned] true (true, "6b0743cd36e34604b984c1513822f15240037a7789e0deed1213dcc3a7259910") false over (fun _ h => by cases h) (by kernel_rfl) (fun _ h => by cases h) segmentParts_row_tie rfl ⟨rfl, rfl⟩ (by kernel_rfl) rfl
    (fun f fn hf hfn => by
      obtain rfl : f = 3 := Option.some.inj ((show Tryd.prog.funcNamed Rows.segmentPartsRow.func = some 3 by kernel_rfl).symm.trans hf) |>.symm
      obtain rfl : fn = Tryd.f3 := (Option.some.inj (Tryd.func3.symm.trans hfn)).symm
      exact ⟨by kernel_rfl, fun j t ht => by
        rw [Tryd.params3] at ht
        have hm : t ∈ [25, 27, 28] := by simpa using Array.mem_of_getElem? ht
        have hall : ([25, 27, 28].all fun u => !Tryd.prog.wantsStandIn u) = true := by kernel_rfl
        exact (show Tryd.prog.wantsStandIn t = false by simpa using List.all_eq_true.1 hall t hm)⟩)
    (by kernel_rfl)
#print axioms proved
end Go.Proofs.YtkgdfclpogiemaaDoor.segmentParts
