/- Segments: Untake: no site, or no room; the plain text's Untake. -/
import Derived.Test.YtkgdfclpogiemaaGreatDoorSt
import Derived.Test.YtkgdfclpogiemaaGreatDoorFo
import Derived.Test.YtkgdfclpogiemaaGreatDoorIn
import Derived.Deep.RegionWith
set_option linter.unusedVariables false
set_option maxRecDepth 100000
namespace Go.Proofs.YtkgdfclpogiemaaGreatDoor.Seg
open Go.RowKit Go.Lib Go.Proofs.YtkgdfclpogiemaaGreatDoor.Rt Go.Proofs.YtkgdfclpogiemaaGreatDoor.Rig

set_option maxHeartbeats 8000000 in
theorem untake_none {v u : Value} {i l : Int} {L M : Bytes} {S : List Sp} {T : List St} (mk quota : Int) (w : World) (h : Sg w v i l L S T) (hu : IsRope w M u) (hp : ∀ s ∈ T, 0 < s.m) (hps : ofT T mk = []) (hmk : i64 mk) (q1 : -9223372036854775808 ≤ quota) (q2 : quota ≤ 9223372036854775807) (b1 : L.length ≤ 5000) (b2 : M.length ≤ 5000) (l1 : S.length ≤ 10000) (l2 : T.length ≤ 10000) :
    Calls Tryz.prog 17 #[v, .int .i64 mk, u, .int .i64 quota] w (GiveIns w false i l L S T) := by
  have HSG : Hid (∀ w', Below w.heap.size w w' → Sg w' v i l L S T) := fun w' hb => h.below hb (Nat.le_refl _)
  obtain ⟨q, sa, sc, ta, tc, rfl, hR, hS, hT⟩ := h.open_
  obtain ⟨pu, rfl⟩ := rope_ptr hu
  have HRR : Hid (∀ w', Below w.heap.size w w' → IsRope w' L (.pointer q) ∧ Spans w' (.slice sa S.length sc) S ∧ Sites w' (.slice ta T.length tc) T) := fun w' hb => ⟨hR.below hb (Nat.le_refl _), hS.below hb (Nat.le_refl _), hT.below hb (Nat.le_refl _)⟩
  have CO : Hid (∀ w', Below w.heap.size w w' → Calls Tryz.prog 32 #[.agg #[.slice sa S.length sc, .slice ta T.length tc], .int .i64 mk] w' (GivesOf w' (ofS S mk) (ofT T mk))) := fun w' hb => of_any mk w' (hS.below hb (Nat.le_refl _)) (hT.below hb (Nat.le_refl _)) hmk l1 (by omega)
  have HP : Hid (∀ s ∈ T, 0 < s.m) := hp
  obtain ⟨nt, hnt⟩ : ∃ n, n = (ofT T mk).length := ⟨_, rfl⟩
  have hn0 : nt = 0 := by rw [hnt, hps]; rfl
  subst hn0
  have HNT := Lib.hid hnt
  obtain ⟨mk1, mk2⟩ := hmk
  clear hnt hps
  generalize S.length = ls at *
  generalize T.length = lt at *
  have BB : Hid (Below w.heap.size w w) := Below.refl _ _
  obtain ⟨W1, hW1⟩ : ∃ W1, W1 = w.alloc (.cells #[.int .i64 i, .int .i64 l, .pointer q, .slice sa ls sc, .slice ta lt tc] 32) := ⟨_, rfl⟩
  obtain ⟨hb1, hr1, hl1⟩ := box_at hW1 (rfl : w.heap.size = w.heap.size)
  replace BB : Hid (Below w.heap.size w W1) := below_more BB.out hb1
  have RS : Hid (W1.heap[w.heap.size]? = some (.cells #[.int .i64 i, .int .i64 l, .pointer q, .slice sa ls sc, .slice ta lt tc] 32 (0, 0))) := hr1
  have HW1 := Lib.hid hW1
  clear hW1 hb1 hr1
  obtain ⟨W2, hW2⟩ : ∃ W2, W2 = W1.alloc (.cells #[.int .i64 0, .int .i64 0, .pointer none, .slice none 0 0, .slice none 0 0] 32) := ⟨_, rfl⟩
  obtain ⟨hb2, hr2, hl2⟩ := box_at hW2 (hl1 : W1.heap.size = w.heap.size + 1)
  replace RS : Hid (W2.heap[w.heap.size]? = some (.cells #[.int .i64 i, .int .i64 l, .pointer q, .slice sa ls sc, .slice ta lt tc] 32 (0, 0))) := (hb2.block _ (row_lt RS.out)).trans RS.out
  replace BB : Hid (Below w.heap.size w W2) := below_more BB.out hb2
  have RZ : Hid (W2.heap[w.heap.size + 1]? = some (.cells #[.int .i64 0, .int .i64 0, .pointer none, .slice none 0 0, .slice none 0 0] 32 (0, 0))) := hr2
  have HW2 := Lib.hid hW2
  clear hW2 hb2 hr2
  clear h hu hR hS hT hp b1 b2 l1 l2 HSG
  obtain ⟨rsc0, rsc1, rsc2, rsc3, rsc4⟩ := five_cells RS.out
  go_enter Tryz.func17, Tryz.ntmps17
  go_upto_region 1 with fail
  rw [← HW1.out, ← HW2.out]
  clear HW1 HW2
  clear hl1 hl2
  go_wp2_with fail
  refine (CO.out _ BB.out).mono ?_
  rintro e w1 ⟨v1, v2, rfl, g1, g2, b1⟩
  obtain ⟨s1, t1, rfl⟩ := g1.is_slice
  obtain ⟨pa, pc, rfl, _, _, _⟩ := g2.open_
  rw [← HNT.out]
  generalize (ofS S mk).length = nz at *
  clear g1 g2
  clear rsc0 rsc1 rsc2 rsc3 rsc4
  replace RS : Hid (w1.heap[w.heap.size]? = some (.cells #[.int .i64 i, .int .i64 l, .pointer q, .slice sa ls sc, .slice ta lt tc] 32 (0, 0))) := (b1.block _ (row_lt RS.out)).trans RS.out
  replace RZ : Hid (w1.heap[w.heap.size + 1]? = some (.cells #[.int .i64 0, .int .i64 0, .pointer none, .slice none 0 0, .slice none 0 0] 32 (0, 0))) := (b1.block _ (row_lt RZ.out)).trans RZ.out
  replace BB : Hid (Below w.heap.size w w1) := below_more BB.out b1
  clear b1 CO HNT
  obtain ⟨rsc0, rsc1, rsc2, rsc3, rsc4⟩ := five_cells RS.out
  obtain ⟨g1, g2, g3⟩ := HRR.out _ BB.out
  obtain ⟨k0, k1, k2, k3, k4, f0, f1, f2, f3, f4⟩ := zseg_cells RZ.out
  have FIN := Lib.hid (give_sg (w := w) (i := i) (l := l) (Nat.le_add_right _ 1) RZ.out g1 g2 g3 HP.out BB.out)
  obtain ⟨y0, y1, y2, y3, y4⟩ := set5_cells (a0 := .int .i64 i) (a1 := .int .i64 l) (a2 := .pointer q) (a3 := .slice sa ls sc) (a4 := .slice ta lt tc) RZ.out
  clear g1 g2 g3
  go_wp2_with fail
  exact bodyPost_ret (v := .tuple #[.agg #[.int .i64 i, .int .i64 l, .pointer q, .slice sa ls sc, .slice ta lt tc], .bool false]) (by simp only [set5] at y0 y1 y2 y3 y4; simp [results, Tryz.results17, go_sem, y0, y1, y2, y3, y4]) rfl ⟨_, rfl, FIN.out.1, FIN.out.2⟩

set_option maxHeartbeats 8000000 in
theorem untake_full {v u : Value} {i l : Int} {L M : Bytes} {S : List Sp} {T : List St} (mk quota : Int) (w : World) (h : Sg w v i l L S T) (hu : IsRope w M u) (hp : ∀ s ∈ T, 0 < s.m) (hps : 0 < (ofT T mk).length) (hf : fitB L.length M.length quota = false) (hmk : i64 mk) (q1 : -9223372036854775808 ≤ quota) (q2 : quota ≤ 9223372036854775807) (b1 : L.length ≤ 5000) (b2 : M.length ≤ 5000) (l1 : S.length ≤ 10000) (l2 : T.length ≤ 10000) :
    Calls Tryz.prog 17 #[v, .int .i64 mk, u, .int .i64 quota] w (GiveIns w false i l L S T) := by
  have CF : Hid (∀ w', Below w.heap.size w w' → Calls Tryz.prog 49 #[v, u, .int .i64 quota] w' fun e w'' => e = .returned (.bool false) ∧ Below w'.heap.size w' w'') := fun w' hb => by
    have := fits_any quota w' (h.below hb (Nat.le_refl _)) (hu.below hb (Nat.le_refl _)) q1 q2 (by omega) (by omega)
    rwa [hf] at this
  have HSG : Hid (∀ w', Below w.heap.size w w' → Sg w' v i l L S T) := fun w' hb => h.below hb (Nat.le_refl _)
  obtain ⟨q, sa, sc, ta, tc, rfl, hR, hS, hT⟩ := h.open_
  obtain ⟨pu, rfl⟩ := rope_ptr hu
  have HRR : Hid (∀ w', Below w.heap.size w w' → IsRope w' L (.pointer q) ∧ Spans w' (.slice sa S.length sc) S ∧ Sites w' (.slice ta T.length tc) T) := fun w' hb => ⟨hR.below hb (Nat.le_refl _), hS.below hb (Nat.le_refl _), hT.below hb (Nat.le_refl _)⟩
  have CO : Hid (∀ w', Below w.heap.size w w' → Calls Tryz.prog 32 #[.agg #[.slice sa S.length sc, .slice ta T.length tc], .int .i64 mk] w' (GivesOf w' (ofS S mk) (ofT T mk))) := fun w' hb => of_any mk w' (hS.below hb (Nat.le_refl _)) (hT.below hb (Nat.le_refl _)) hmk l1 (by omega)
  have HP : Hid (∀ s ∈ T, 0 < s.m) := hp
  obtain ⟨nt, hnt⟩ : ∃ n, n = (ofT T mk).length := ⟨_, rfl⟩
  have hn1 : 0 < nt := by omega
  have HNT := Lib.hid hnt
  obtain ⟨mk1, mk2⟩ := hmk
  clear hnt hps
  generalize S.length = ls at *
  generalize T.length = lt at *
  have BB : Hid (Below w.heap.size w w) := Below.refl _ _
  obtain ⟨W1, hW1⟩ : ∃ W1, W1 = w.alloc (.cells #[.int .i64 i, .int .i64 l, .pointer q, .slice sa ls sc, .slice ta lt tc] 32) := ⟨_, rfl⟩
  obtain ⟨hb1, hr1, hl1⟩ := box_at hW1 (rfl : w.heap.size = w.heap.size)
  replace BB : Hid (Below w.heap.size w W1) := below_more BB.out hb1
  have RS : Hid (W1.heap[w.heap.size]? = some (.cells #[.int .i64 i, .int .i64 l, .pointer q, .slice sa ls sc, .slice ta lt tc] 32 (0, 0))) := hr1
  have HW1 := Lib.hid hW1
  clear hW1 hb1 hr1
  obtain ⟨W2, hW2⟩ : ∃ W2, W2 = W1.alloc (.cells #[.int .i64 0, .int .i64 0, .pointer none, .slice none 0 0, .slice none 0 0] 32) := ⟨_, rfl⟩
  obtain ⟨hb2, hr2, hl2⟩ := box_at hW2 (hl1 : W1.heap.size = w.heap.size + 1)
  replace RS : Hid (W2.heap[w.heap.size]? = some (.cells #[.int .i64 i, .int .i64 l, .pointer q, .slice sa ls sc, .slice ta lt tc] 32 (0, 0))) := (hb2.block _ (row_lt RS.out)).trans RS.out
  replace BB : Hid (Below w.heap.size w W2) := below_more BB.out hb2
  have RZ : Hid (W2.heap[w.heap.size + 1]? = some (.cells #[.int .i64 0, .int .i64 0, .pointer none, .slice none 0 0, .slice none 0 0] 32 (0, 0))) := hr2
  have HW2 := Lib.hid hW2
  clear hW2 hb2 hr2
  clear h hu hR hS hT hp b1 b2 l1 l2 HSG hf
  obtain ⟨rsc0, rsc1, rsc2, rsc3, rsc4⟩ := five_cells RS.out
  go_enter Tryz.func17, Tryz.ntmps17
  go_upto_region 1 with fail
  rw [← HW1.out, ← HW2.out]
  clear HW1 HW2
  clear hl1 hl2
  go_wp2_with fail
  refine (CO.out _ BB.out).mono ?_
  rintro e w1 ⟨v1, v2, rfl, g1, g2, b1⟩
  obtain ⟨s1, t1, rfl⟩ := g1.is_slice
  obtain ⟨pa, pc, rfl, _, _, _⟩ := g2.open_
  rw [← HNT.out]
  generalize (ofS S mk).length = nz at *
  clear g1 g2
  clear rsc0 rsc1 rsc2 rsc3 rsc4
  replace RS : Hid (w1.heap[w.heap.size]? = some (.cells #[.int .i64 i, .int .i64 l, .pointer q, .slice sa ls sc, .slice ta lt tc] 32 (0, 0))) := (b1.block _ (row_lt RS.out)).trans RS.out
  replace RZ : Hid (w1.heap[w.heap.size + 1]? = some (.cells #[.int .i64 0, .int .i64 0, .pointer none, .slice none 0 0, .slice none 0 0] 32 (0, 0))) := (b1.block _ (row_lt RZ.out)).trans RZ.out
  replace BB : Hid (Below w.heap.size w w1) := below_more BB.out b1
  clear b1 CO HNT
  have g0 : ((nt : Int) == 0) = false := by rw [beq_eq_false_iff_ne]; omega
  have g00 : ¬ ((nt : Int) = 0) := by omega
  obtain ⟨rsc0, rsc1, rsc2, rsc3, rsc4⟩ := five_cells RS.out
  go_upto_region 2 with fail
  go_wp2_with fail
  refine (CF.out _ BB.out).mono ?_
  rintro e w2 ⟨rfl, b2⟩
  clear rsc0 rsc1 rsc2 rsc3 rsc4
  replace RS : Hid (w2.heap[w.heap.size]? = some (.cells #[.int .i64 i, .int .i64 l, .pointer q, .slice sa ls sc, .slice ta lt tc] 32 (0, 0))) := (b2.block _ (row_lt RS.out)).trans RS.out
  replace RZ : Hid (w2.heap[w.heap.size + 1]? = some (.cells #[.int .i64 0, .int .i64 0, .pointer none, .slice none 0 0, .slice none 0 0] 32 (0, 0))) := (b2.block _ (row_lt RZ.out)).trans RZ.out
  replace BB : Hid (Below w.heap.size w w2) := below_more BB.out b2
  clear b2 CF
  obtain ⟨rsc0, rsc1, rsc2, rsc3, rsc4⟩ := five_cells RS.out
  obtain ⟨g1, g2, g3⟩ := HRR.out _ BB.out
  obtain ⟨k0, k1, k2, k3, k4, f0, f1, f2, f3, f4⟩ := zseg_cells RZ.out
  have FIN := Lib.hid (give_sg (w := w) (i := i) (l := l) (Nat.le_add_right _ 1) RZ.out g1 g2 g3 HP.out BB.out)
  obtain ⟨y0, y1, y2, y3, y4⟩ := set5_cells (a0 := .int .i64 i) (a1 := .int .i64 l) (a2 := .pointer q) (a3 := .slice sa ls sc) (a4 := .slice ta lt tc) RZ.out
  clear g1 g2 g3
  go_wp2_with fail
  exact bodyPost_ret (v := .tuple #[.agg #[.int .i64 i, .int .i64 l, .pointer q, .slice sa ls sc, .slice ta lt tc], .bool false]) (by simp only [set5] at y0 y1 y2 y3 y4; simp [results, Tryz.results17, go_sem, y0, y1, y2, y3, y4]) rfl ⟨_, rfl, FIN.out.1, FIN.out.2⟩

set_option maxHeartbeats 16000000 in
theorem untake5_none {v : Value} {i l : Int} {L M : Bytes} {S : List Sp} {T : List St} (mk quota : Int) (w : World) (h : Pl w v i l L S T) (hp : ∀ s ∈ T, 0 < s.m) (hps : ofT T mk = []) (hmk : i64 mk) (q1 : -9223372036854775808 ≤ quota) (q2 : quota ≤ 9223372036854775807) (b1 : L.length ≤ 3000) (b2 : M.length ≤ 3000) (l1 : S.length ≤ 10000) (l2 : T.length ≤ 3000) :
    Calls Tryz.prog 18 #[v, .int .i64 mk, .string (Let.mk M), .int .i64 quota] w (GiveInsP w false i l L S T) := by
  obtain ⟨sa, sc, ta, tc, rfl, hS, hT⟩ := h.open_
  have CK : Hid (∀ w', Below w.heap.size w w' → Calls Tryz.prog 40 #[.agg #[.int .i64 i, .int .i64 l, .string (Let.mk L), .slice sa S.length sc, .slice ta T.length tc]] w' fun e w'' => e = .returned (.agg #[.slice sa S.length sc, .slice ta T.length tc]) ∧ Below w'.heap.size w' w'') := fun w' hb => marks5_any w' (hS.below hb (Nat.le_refl _)) (hT.below hb (Nat.le_refl _))
  have CO : Hid (∀ w', Below w.heap.size w w' → Calls Tryz.prog 48 #[.agg #[.slice sa S.length sc, .slice ta T.length tc], .int .i64 mk] w' (GivesOf w' (ofS S mk) (ofT T mk))) := fun w' hb => rof_any mk w' (hS.below hb (Nat.le_refl _)) (hT.below hb (Nat.le_refl _)) hmk l1 (by omega)
  have HPL : Hid (∀ w', Below w.heap.size w w' → Pl w' (.agg #[.int .i64 i, .int .i64 l, .string (Let.mk L), .slice sa S.length sc, .slice ta T.length tc]) i l L S T) := fun w' hb => h.below hb (Nat.le_refl _)
  have HP : Hid (∀ s ∈ T, 0 < s.m) := hp
  obtain ⟨nt, hnt⟩ : ∃ n, n = (ofT T mk).length := ⟨_, rfl⟩
  have hn0 : nt = 0 := by rw [hnt, hps]; rfl
  subst hn0
  have HNT := Lib.hid hnt
  obtain ⟨mk1, mk2⟩ := hmk
  clear hnt hps
  generalize S.length = ls at *
  generalize T.length = lt at *
  have BB : Hid (Below w.heap.size w w) := Below.refl _ _
  obtain ⟨W1, hW1⟩ : ∃ W1, W1 = w.alloc (.cells #[.int .i64 i, .int .i64 l, .string (Let.mk L), .slice sa ls sc, .slice ta lt tc] 25) := ⟨_, rfl⟩
  obtain ⟨hb1, hr1, hl1⟩ := box_at hW1 (rfl : w.heap.size = w.heap.size)
  replace BB : Hid (Below w.heap.size w W1) := below_more BB.out hb1
  have RS : Hid (W1.heap[w.heap.size]? = some (.cells #[.int .i64 i, .int .i64 l, .string (Let.mk L), .slice sa ls sc, .slice ta lt tc] 25 (0, 0))) := hr1
  have HW1 := Lib.hid hW1
  clear hW1 hb1 hr1
  obtain ⟨W2, hW2⟩ : ∃ W2, W2 = W1.alloc (.cells #[.int .i64 0, .int .i64 0, .string (ByteArray.mk #[]), .slice none 0 0, .slice none 0 0] 25) := ⟨_, rfl⟩
  obtain ⟨hb2, hr2, hl2⟩ := box_at hW2 (hl1 : W1.heap.size = w.heap.size + 1)
  replace RS : Hid (W2.heap[w.heap.size]? = some (.cells #[.int .i64 i, .int .i64 l, .string (Let.mk L), .slice sa ls sc, .slice ta lt tc] 25 (0, 0))) := (hb2.block _ (row_lt RS.out)).trans RS.out
  replace BB : Hid (Below w.heap.size w W2) := below_more BB.out hb2
  have RZ : Hid (W2.heap[w.heap.size + 1]? = some (.cells #[.int .i64 0, .int .i64 0, .string (ByteArray.mk #[]), .slice none 0 0, .slice none 0 0] 25 (0, 0))) := hr2
  have HW2 := Lib.hid hW2
  clear hW2 hb2 hr2
  clear h hS hT b1 b2 l1 l2 hp
  obtain ⟨rsc0, rsc1, rsc2, rsc3, rsc4⟩ := five_cells RS.out
  go_enter Tryz.func18, Tryz.ntmps18
  go_upto_region 1 with fail
  rw [← HW1.out, ← HW2.out]
  clear HW1 HW2
  clear hl1 hl2
  go_wp2_with fail
  refine (CK.out _ BB.out).mono ?_
  rintro e w1 ⟨rfl, b1⟩
  clear rsc0 rsc1 rsc2 rsc3 rsc4
  replace RS : Hid (w1.heap[w.heap.size]? = some (.cells #[.int .i64 i, .int .i64 l, .string (Let.mk L), .slice sa ls sc, .slice ta lt tc] 25 (0, 0))) := (b1.block _ (row_lt RS.out)).trans RS.out
  replace RZ : Hid (w1.heap[w.heap.size + 1]? = some (.cells #[.int .i64 0, .int .i64 0, .string (ByteArray.mk #[]), .slice none 0 0, .slice none 0 0] 25 (0, 0))) := (b1.block _ (row_lt RZ.out)).trans RZ.out
  replace BB : Hid (Below w.heap.size w w1) := below_more BB.out b1
  clear b1 CK
  go_wp2_with fail
  refine (CO.out _ BB.out).mono ?_
  rintro e w2 ⟨v1, v2, rfl, g1, g2, b2⟩
  obtain ⟨s1, t1, rfl⟩ := g1.is_slice
  obtain ⟨pa, pc, rfl, _, _, _⟩ := g2.open_
  rw [← HNT.out]
  generalize (ofS S mk).length = nz at *
  clear g1 g2
  replace RS : Hid (w2.heap[w.heap.size]? = some (.cells #[.int .i64 i, .int .i64 l, .string (Let.mk L), .slice sa ls sc, .slice ta lt tc] 25 (0, 0))) := (b2.block _ (row_lt RS.out)).trans RS.out
  replace RZ : Hid (w2.heap[w.heap.size + 1]? = some (.cells #[.int .i64 0, .int .i64 0, .string (ByteArray.mk #[]), .slice none 0 0, .slice none 0 0] 25 (0, 0))) := (b2.block _ (row_lt RZ.out)).trans RZ.out
  replace BB : Hid (Below w.heap.size w w2) := below_more BB.out b2
  clear b2 CO HNT
  obtain ⟨rsc0, rsc1, rsc2, rsc3, rsc4⟩ := five_cells RS.out
  obtain ⟨g1, g2⟩ := pl_parts (HPL.out _ BB.out)
  have FIN := Lib.hid (give_pl (w := w) (i := i) (l := l) (L := L) (Nat.le_add_right _ 1) RZ.out g1 g2 HP.out BB.out)
  clear g1 g2
  obtain ⟨k0, k1, k2, k3, k4⟩ := five_cells RZ.out
  obtain ⟨f0, f1, f2, f3, f4⟩ := five_free RZ.out
  obtain ⟨y0, y1, y2, y3, y4⟩ := set5_cells (a0 := .int .i64 i) (a1 := .int .i64 l) (a2 := .string (Let.mk L)) (a3 := .slice sa ls sc) (a4 := .slice ta lt tc) RZ.out
  go_wp2_with fail
  exact bodyPost_ret (v := .tuple #[.agg #[.int .i64 i, .int .i64 l, .string (Let.mk L), .slice sa ls sc, .slice ta lt tc], .bool false]) (by simp only [set5] at y0 y1 y2 y3 y4; simp [results, Tryz.results18, go_sem, y0, y1, y2, y3, y4]) rfl ⟨_, rfl, FIN.out.1, FIN.out.2⟩

set_option maxHeartbeats 16000000 in
theorem untake5_full {v : Value} {i l : Int} {L M : Bytes} {S : List Sp} {T : List St} (mk quota : Int) (w : World) (h : Pl w v i l L S T) {p : Nat} {ps : List Int} (hp : ∀ s ∈ T, 0 < s.m) (hps : ofT T mk = (p : Int) :: ps) (hf : fitB L.length M.length quota = false) (hpc : p ≤ 10000) (hmk : i64 mk) (q1 : -9223372036854775808 ≤ quota) (q2 : quota ≤ 9223372036854775807) (b1 : L.length ≤ 3000) (b2 : M.length ≤ 3000) (l1 : S.length ≤ 10000) (l2 : T.length ≤ 3000) :
    Calls Tryz.prog 18 #[v, .int .i64 mk, .string (Let.mk M), .int .i64 quota] w (GiveInsP w false i l L S T) := by
  obtain ⟨sa, sc, ta, tc, rfl, hS, hT⟩ := h.open_
  have CK : Hid (∀ w', Below w.heap.size w w' → Calls Tryz.prog 40 #[.agg #[.int .i64 i, .int .i64 l, .string (Let.mk L), .slice sa S.length sc, .slice ta T.length tc]] w' fun e w'' => e = .returned (.agg #[.slice sa S.length sc, .slice ta T.length tc]) ∧ Below w'.heap.size w' w'') := fun w' hb => marks5_any w' (hS.below hb (Nat.le_refl _)) (hT.below hb (Nat.le_refl _))
  have CO : Hid (∀ w', Below w.heap.size w w' → Calls Tryz.prog 48 #[.agg #[.slice sa S.length sc, .slice ta T.length tc], .int .i64 mk] w' (GivesOf w' (ofS S mk) (ofT T mk))) := fun w' hb => rof_any mk w' (hS.below hb (Nat.le_refl _)) (hT.below hb (Nat.le_refl _)) hmk l1 (by omega)
  have HPL : Hid (∀ w', Below w.heap.size w w' → Pl w' (.agg #[.int .i64 i, .int .i64 l, .string (Let.mk L), .slice sa S.length sc, .slice ta T.length tc]) i l L S T) := fun w' hb => h.below hb (Nat.le_refl _)
  have HP : Hid (∀ s ∈ T, 0 < s.m) := hp
  have CI : Hid (∀ w', Below w.heap.size w w' → Calls Tryz.prog 54 #[.agg #[.int .i64 i, .int .i64 l, .string (Let.mk L), .slice sa S.length sc, .slice ta T.length tc], .int .i64 p, .string (Let.mk M), .int .i64 0, .int .i64 quota] w' (GiveInsP w' false i l L S T)) := fun w' hb => insert5_no p 0 quota w' (h.below hb (Nat.le_refl _)) hp (by omega) (by omega) hf
  obtain ⟨nt, hnt⟩ : ∃ n, n = (ofT T mk).length := ⟨_, rfl⟩
  have hn1 : 1 ≤ nt := by rw [hnt, hps]; simp
  have HPS := Lib.hid hps
  have HNT := Lib.hid hnt
  obtain ⟨mk1, mk2⟩ := hmk
  have hp4 : (p : Int) ≤ 10000 := by omega
  clear hnt hps
  generalize S.length = ls at *
  generalize T.length = lt at *
  have BB : Hid (Below w.heap.size w w) := Below.refl _ _
  obtain ⟨W1, hW1⟩ : ∃ W1, W1 = w.alloc (.cells #[.int .i64 i, .int .i64 l, .string (Let.mk L), .slice sa ls sc, .slice ta lt tc] 25) := ⟨_, rfl⟩
  obtain ⟨hb1, hr1, hl1⟩ := box_at hW1 (rfl : w.heap.size = w.heap.size)
  replace BB : Hid (Below w.heap.size w W1) := below_more BB.out hb1
  have RS : Hid (W1.heap[w.heap.size]? = some (.cells #[.int .i64 i, .int .i64 l, .string (Let.mk L), .slice sa ls sc, .slice ta lt tc] 25 (0, 0))) := hr1
  have HW1 := Lib.hid hW1
  clear hW1 hb1 hr1
  obtain ⟨W2, hW2⟩ : ∃ W2, W2 = W1.alloc (.cells #[.int .i64 0, .int .i64 0, .string (ByteArray.mk #[]), .slice none 0 0, .slice none 0 0] 25) := ⟨_, rfl⟩
  obtain ⟨hb2, hr2, hl2⟩ := box_at hW2 (hl1 : W1.heap.size = w.heap.size + 1)
  replace RS : Hid (W2.heap[w.heap.size]? = some (.cells #[.int .i64 i, .int .i64 l, .string (Let.mk L), .slice sa ls sc, .slice ta lt tc] 25 (0, 0))) := (hb2.block _ (row_lt RS.out)).trans RS.out
  replace BB : Hid (Below w.heap.size w W2) := below_more BB.out hb2
  have RZ : Hid (W2.heap[w.heap.size + 1]? = some (.cells #[.int .i64 0, .int .i64 0, .string (ByteArray.mk #[]), .slice none 0 0, .slice none 0 0] 25 (0, 0))) := hr2
  have HW2 := Lib.hid hW2
  clear hW2 hb2 hr2
  clear h hS hT b1 b2 l1 l2 hp hf hpc
  obtain ⟨rsc0, rsc1, rsc2, rsc3, rsc4⟩ := five_cells RS.out
  go_enter Tryz.func18, Tryz.ntmps18
  go_upto_region 1 with fail
  rw [← HW1.out, ← HW2.out]
  clear HW1 HW2
  clear hl1 hl2
  go_wp2_with fail
  refine (CK.out _ BB.out).mono ?_
  rintro e w1 ⟨rfl, b1⟩
  clear rsc0 rsc1 rsc2 rsc3 rsc4
  replace RS : Hid (w1.heap[w.heap.size]? = some (.cells #[.int .i64 i, .int .i64 l, .string (Let.mk L), .slice sa ls sc, .slice ta lt tc] 25 (0, 0))) := (b1.block _ (row_lt RS.out)).trans RS.out
  replace RZ : Hid (w1.heap[w.heap.size + 1]? = some (.cells #[.int .i64 0, .int .i64 0, .string (ByteArray.mk #[]), .slice none 0 0, .slice none 0 0] 25 (0, 0))) := (b1.block _ (row_lt RZ.out)).trans RZ.out
  replace BB : Hid (Below w.heap.size w w1) := below_more BB.out b1
  clear b1 CK
  go_wp2_with fail
  refine (CO.out _ BB.out).mono ?_
  rintro e w2 ⟨v1, v2, rfl, g1, g2, b2⟩
  obtain ⟨s1, t1, rfl⟩ := g1.is_slice
  rw [HPS.out] at g2
  obtain ⟨pa, pc, rfl, hpl, hpc2, hpi⟩ := g2.open_
  obtain ⟨bb, oo, rfl, hbb, _, cc⟩ := hpi 0 (by simp)
  rw [← HPS.out, ← HNT.out] at hpl ⊢
  generalize (ofS S mk).length = nz at *
  replace RS : Hid (w2.heap[w.heap.size]? = some (.cells #[.int .i64 i, .int .i64 l, .string (Let.mk L), .slice sa ls sc, .slice ta lt tc] 25 (0, 0))) := (b2.block _ (row_lt RS.out)).trans RS.out
  replace RZ : Hid (w2.heap[w.heap.size + 1]? = some (.cells #[.int .i64 0, .int .i64 0, .string (ByteArray.mk #[]), .slice none 0 0, .slice none 0 0] 25 (0, 0))) := (b2.block _ (row_lt RZ.out)).trans RZ.out
  replace BB : Hid (Below w.heap.size w w2) := below_more BB.out b2
  have HS : Hid (∀ w', Below w2.heap.size w2 w' → w'.cell? ⟨bb, oo, none⟩ = some (.int .i64 p)) := fun w' hb => below_cell hb hbb cc
  have g0 : ((nt : Int) == 0) = false := by rw [beq_eq_false_iff_ne]; omega
  have g00 : ¬ ((nt : Int) = 0) := by omega
  have gp : 0 < nt := by omega
  clear b2 CO HNT HPS g1 g2 hpi cc hpl hbb
  have KR := Lib.hid (Below.refl w2.heap.size w2)
  have KK : Hid (∀ w', Below w2.heap.size w2 w' → Below w.heap.size w w') := fun w' hb => below_more BB.out hb
  have BX0 : Hid (∀ w', Below w2.heap.size w2 w' → Below w2.heap.size w2 w' ∧ (w'.cell? ⟨w.heap.size, 0, none⟩ = some (.int .i64 i) ∧ w'.cell? ⟨w.heap.size, 1, none⟩ = some (.int .i64 l) ∧ w'.cell? ⟨w.heap.size, 2, none⟩ = some (.string (Let.mk L)) ∧ w'.cell? ⟨w.heap.size, 3, none⟩ = some (.slice sa ls sc) ∧ w'.cell? ⟨w.heap.size, 4, none⟩ = some (.slice ta lt tc))) := fun w' hb => ⟨hb, five_cells ((hb.block _ (row_lt RS.out)).trans RS.out)⟩
  have BX : Hid (∀ w', Below w2.heap.size w2 w' → Below w2.heap.size w2 w' ∧ (w'.cell? ⟨w.heap.size, 0, none⟩ = some (.int .i64 i) ∧ w'.cell? ⟨w.heap.size, 1, none⟩ = some (.int .i64 l) ∧ w'.cell? ⟨w.heap.size, 2, none⟩ = some (.string (Let.mk L)) ∧ w'.cell? ⟨w.heap.size, 3, none⟩ = some (.slice sa ls sc) ∧ w'.cell? ⟨w.heap.size, 4, none⟩ = some (.slice ta lt tc)) ∧ w'.cell? ⟨bb, oo, none⟩ = some (.int .i64 p)) := fun w' hb => ⟨hb, (BX0.out w' hb).2, HS.out w' hb⟩
  go_upto_region 4 with fail
  go_cut [12, 13] from 25 to 35 (fun x y wx => ∃ (NB : Nat) (a3 : Option Addr) (n3 d3 : Nat) (a4 : Option Addr) (n4 d4 : Nat), x = .pointer (some ⟨NB, 0, none⟩) ∧ y = .bool false ∧ Hid (FilP w2 wx NB i l L S T a3 n3 d3 a4 n4 d4))
  case first =>
    obtain ⟨_, ⟨c0, c1, c2, c3, c4⟩, d0⟩ := BX.out w2 KR.out
    go_region_held3 (fun w' => Below w2.heap.size w2 w' ∧ (w'.cell? ⟨w.heap.size, 0, none⟩ = some (.int .i64 i) ∧ w'.cell? ⟨w.heap.size, 1, none⟩ = some (.int .i64 l) ∧ w'.cell? ⟨w.heap.size, 2, none⟩ = some (.string (Let.mk L)) ∧ w'.cell? ⟨w.heap.size, 3, none⟩ = some (.slice sa ls sc) ∧ w'.cell? ⟨w.heap.size, 4, none⟩ = some (.slice ta lt tc)) ∧ w'.cell? ⟨bb, oo, none⟩ = some (.int .i64 p))
      ((refine BX.out _ ?_; focus ((repeat first | with_reducible assumption | with_reducible exact KR.out | with_reducible apply Below.drew | with_reducible apply below_drews | (with_reducible refine Below.alloc ?_ ?_ _; focus (first | with_reducible assumption | with_reducible exact KR.out | exact Nat.le_refl _)) | exact Nat.le_refl _ | (with_reducible refine below_put ?_ (by first | assumption | omega) _)); done)))
      ((go_at_call 54; (with_reducible refine (CI.out _ (KK.out _ ?_)).mono ?_); (focus ((repeat first | with_reducible assumption | with_reducible exact KR.out | with_reducible apply Below.drew | with_reducible apply below_drews | (with_reducible refine Below.alloc ?_ ?_ _; focus (first | with_reducible assumption | with_reducible exact KR.out | exact Nat.le_refl _)) | exact Nat.le_refl _ | (with_reducible refine below_put ?_ (by first | assumption | omega) _)); done)); rintro e w5 ⟨v5, rfl, o5, b5⟩; obtain ⟨a3, d3, a4, d4, rfl, g3, g4⟩ := o5.open_; have jj5 := fun h => below_more (B := w2.heap.size) (w := w2) h b5; replace jj5 := jj5 (by (repeat first | with_reducible assumption | with_reducible exact KR.out | with_reducible apply Below.drew | with_reducible apply below_drews | (with_reducible refine Below.alloc ?_ ?_ _; focus (first | with_reducible assumption | with_reducible exact KR.out | exact Nat.le_refl _)) | exact Nat.le_refl _ | (with_reducible refine below_put ?_ (by first | assumption | omega) _))); have yy5 := jj5.size; first | (have zN := ZR.below zN b5; have FN := fil_pl (i := i) (l := l) (L := L) zN g3 g4 HP.out jj5; obtain ⟨z0, z1, z2, z3, z4⟩ := five_cells zN.z; obtain ⟨f0, f1, f2, f3, f4⟩ := five_free zN.z; have s6 := zN.s) | ((with_reducible (have zN := fun hk => zr_new (cs := #[.int .i64 0, .int .i64 0, .string (ByteArray.mk #[]), .slice none 0 0, .slice none 0 0]) (ty := 25) (W := w2) hk b5)); replace zN := zN (by (repeat first | with_reducible assumption | with_reducible exact KR.out | with_reducible apply Below.drew | with_reducible apply below_drews | (with_reducible refine Below.alloc ?_ ?_ _; focus (first | with_reducible assumption | with_reducible exact KR.out | exact Nat.le_refl _)) | exact Nat.le_refl _ | (with_reducible refine below_put ?_ (by first | assumption | omega) _))); have FN := fil_pl (i := i) (l := l) (L := L) zN g3 g4 HP.out jj5; obtain ⟨z0, z1, z2, z3, z4⟩ := five_cells zN.z; obtain ⟨f0, f1, f2, f3, f4⟩ := five_free zN.z; have s6 := zN.s) | ((with_reducible (have zN := fun hk => zr_newd (cs := #[.int .i64 0, .int .i64 0, .string (ByteArray.mk #[]), .slice none 0 0, .slice none 0 0]) (ty := 25) (W := w2) hk b5)); replace zN := zN (by (repeat first | with_reducible assumption | with_reducible exact KR.out | with_reducible apply Below.drew | with_reducible apply below_drews | (with_reducible refine Below.alloc ?_ ?_ _; focus (first | with_reducible assumption | with_reducible exact KR.out | exact Nat.le_refl _)) | exact Nat.le_refl _ | (with_reducible refine below_put ?_ (by first | assumption | omega) _))); have FN := fil_pl (i := i) (l := l) (L := L) zN g3 g4 HP.out jj5; obtain ⟨z0, z1, z2, z3, z4⟩ := five_cells zN.z; obtain ⟨f0, f1, f2, f3, f4⟩ := five_free zN.z; have s6 := zN.s) | (have FN := fil_pla (i := i) (l := l) (L := L) g3 g4 jj5; have zN := zr_alloc (cs := #[.int .i64 0, .int .i64 0, .string (ByteArray.mk #[]), .slice none 0 0, .slice none 0 0]) (ty := 25) jj5; obtain ⟨z0, z1, z2, z3, z4⟩ := five_cells zN.z; obtain ⟨f0, f1, f2, f3, f4⟩ := five_free zN.z; have s6 := zN.s)))
    all_goals go_wp2_with fail
    all_goals go_meet
    all_goals exact ⟨_, _, _, _, _, _, _, rfl, rfl, FN⟩
  case rest =>
    obtain ⟨wp, hwp⟩ : ∃ wp : World, wp = wc := ⟨_, rfl⟩
    subst hwp
    obtain ⟨NB, a3, n3, d3, a4, n4, d4, rfl, rfl, HF⟩ := hcut
    obtain ⟨r0, s0, hbF, sF⟩ := HF.out
    clear HF BX BX0 HS KR KK CI sF
    replace RS : Hid (wp.heap[w.heap.size]? = some (.cells #[.int .i64 i, .int .i64 l, .string (Let.mk L), .slice sa ls sc, .slice ta lt tc] 25 (0, 0))) := (hbF.block _ (row_lt RS.out)).trans RS.out
    replace RZ : Hid (wp.heap[w.heap.size + 1]? = some (.cells #[.int .i64 0, .int .i64 0, .string (ByteArray.mk #[]), .slice none 0 0, .slice none 0 0] 25 (0, 0))) := (hbF.block _ (row_lt RZ.out)).trans RZ.out
    replace BB : Hid (Below w.heap.size w wp) := below_more BB.out hbF
    clear hbF
    obtain ⟨rsc0, rsc1, rsc2, rsc3, rsc4⟩ := five_cells RS.out
    obtain ⟨g1, g2⟩ := pl_parts (HPL.out _ BB.out)
    have FIN := Lib.hid (give_pl (w := w) (i := i) (l := l) (L := L) (Nat.le_add_right _ 1) RZ.out g1 g2 HP.out BB.out)
    clear g1 g2
    obtain ⟨k0, k1, k2, k3, k4⟩ := five_cells RZ.out
    obtain ⟨f0, f1, f2, f3, f4⟩ := five_free RZ.out
    obtain ⟨y0, y1, y2, y3, y4⟩ := set5_cells (a0 := .int .i64 i) (a1 := .int .i64 l) (a2 := .string (Let.mk L)) (a3 := .slice sa ls sc) (a4 := .slice ta lt tc) RZ.out
    go_wp2_with fail
    exact bodyPost_ret (v := .tuple #[.agg #[.int .i64 i, .int .i64 l, .string (Let.mk L), .slice sa ls sc, .slice ta lt tc], .bool false]) (by simp only [set5] at y0 y1 y2 y3 y4; simp [results, Tryz.results18, go_sem, y0, y1, y2, y3, y4]) rfl ⟨_, rfl, FIN.out.1, FIN.out.2⟩

set_option maxHeartbeats 16000000 in
theorem untake5_yes {v : Value} {i l : Int} {L M : Bytes} {S : List Sp} {T : List St} (mk quota : Int) (w : World) (h : Pl w v i l L S T) {p : Nat} {ps : List Int} (hRS : RS 0 0 (Let.cnt L) S) (hRT : RT (Let.cnt L) T) (hps : ofT T mk = (p : Int) :: ps) (hf : fitB L.length M.length quota = true) (hpc : p ≤ Let.cnt L) (hmk : i64 mk) (q1 : -9223372036854775808 ≤ quota) (q2 : quota ≤ 9223372036854775807) (b1 : L.length ≤ 3000) (b2 : M.length ≤ 3000) (l1 : S.length ≤ 10000) (l2 : T.length ≤ 3000) :
    Calls Tryz.prog 18 #[v, .int .i64 mk, .string (Let.mk M), .int .i64 quota] w (GiveInsP w true i l (Let.put L p M) (dropS (pPut S p (Let.cnt M) 0) mk) (dropT (pPutT T p (Let.cnt M)) mk)) := by
  obtain ⟨sa, sc, ta, tc, rfl, hS, hT⟩ := h.open_
  have CK : Hid (∀ w', Below w.heap.size w w' → Calls Tryz.prog 40 #[.agg #[.int .i64 i, .int .i64 l, .string (Let.mk L), .slice sa S.length sc, .slice ta T.length tc]] w' fun e w'' => e = .returned (.agg #[.slice sa S.length sc, .slice ta T.length tc]) ∧ Below w'.heap.size w' w'') := fun w' hb => marks5_any w' (hS.below hb (Nat.le_refl _)) (hT.below hb (Nat.le_refl _))
  have CO : Hid (∀ w', Below w.heap.size w w' → Calls Tryz.prog 48 #[.agg #[.slice sa S.length sc, .slice ta T.length tc], .int .i64 mk] w' (GivesOf w' (ofS S mk) (ofT T mk))) := fun w' hb => rof_any mk w' (hS.below hb (Nat.le_refl _)) (hT.below hb (Nat.le_refl _)) hmk l1 (by omega)
  have HPL : Hid (∀ w', Below w.heap.size w w' → Pl w' (.agg #[.int .i64 i, .int .i64 l, .string (Let.mk L), .slice sa S.length sc, .slice ta T.length tc]) i l L S T) := fun w' hb => h.below hb (Nat.le_refl _)
  have hcl := Let.cnt_len L
  have hcm := Let.cnt_len M
  have h1 := pPut_ok (mk := 0) (p := (p : Int)) (k := (Let.cnt M : Int)) hRS (by omega) (by omega) (by omega)
  have h2 := pPutT_right hRT (p := (p : Int)) (k := (Let.cnt M : Int)) (by omega) (by omega)
  have h3 := RS_len h1.1 (by omega)
  have h4 := pPutT_len5 T p (Let.cnt M)
  have P2 : Hid (∀ s ∈ pPutT T p (Let.cnt M), 0 < s.m) := RT_pos h2
  have POS : Hid (∀ s ∈ dropT (pPutT T p (Let.cnt M)) mk, 0 < s.m) := dropT_pos2 mk (RT_pos h2)
  have CI : Hid (∀ w', Below w.heap.size w w' → Calls Tryz.prog 54 #[.agg #[.int .i64 i, .int .i64 l, .string (Let.mk L), .slice sa S.length sc, .slice ta T.length tc], .int .i64 p, .string (Let.mk M), .int .i64 0, .int .i64 quota] w' (GiveInsP w' true i l (Let.put L p M) (pPut S p (Let.cnt M) 0) (pPutT T p (Let.cnt M)))) := fun w' hb => insert5_yes p p 0 quota w' (h.below hb (Nat.le_refl _)) hRS hRT (by unfold placeI; omega) (by omega) (by omega) ⟨by omega, by omega⟩ b1 b2 l2 hf
  have CF : Hid (∀ w' u, Pl w' u i l (Let.put L p M) (pPut S p (Let.cnt M) 0) (pPutT T p (Let.cnt M)) → Calls Tryz.prog 21 #[u, .int .i64 mk] w' (GivePl w' i l (Let.put L p M) (dropS (pPut S p (Let.cnt M) 0) mk) (dropT (pPutT T p (Let.cnt M)) mk))) := fun w' u hu => forget5_any mk w' hu (RT_pos h2) hmk (by omega) (by omega)
  obtain ⟨nt, hnt⟩ : ∃ n, n = (ofT T mk).length := ⟨_, rfl⟩
  have hn1 : 1 ≤ nt := by rw [hnt, hps]; simp
  have HPS := Lib.hid hps
  have HNT := Lib.hid hnt
  obtain ⟨mk1, mk2⟩ := hmk
  have hp4 : (p : Int) ≤ 10000 := by omega
  clear hnt hps
  clear h1 h2 h3 h4 hcl hcm
  generalize dropS (pPut S p (Let.cnt M) 0) mk = S3 at *
  generalize dropT (pPutT T p (Let.cnt M)) mk = T3 at *
  generalize pPut S p (Let.cnt M) 0 = S2 at *
  generalize pPutT T p (Let.cnt M) = T2 at *
  generalize Let.put L p M = L2 at *
  generalize S.length = ls at *
  generalize T.length = lt at *
  have BB : Hid (Below w.heap.size w w) := Below.refl _ _
  obtain ⟨W1, hW1⟩ : ∃ W1, W1 = w.alloc (.cells #[.int .i64 i, .int .i64 l, .string (Let.mk L), .slice sa ls sc, .slice ta lt tc] 25) := ⟨_, rfl⟩
  obtain ⟨hb1, hr1, hl1⟩ := box_at hW1 (rfl : w.heap.size = w.heap.size)
  replace BB : Hid (Below w.heap.size w W1) := below_more BB.out hb1
  have RS : Hid (W1.heap[w.heap.size]? = some (.cells #[.int .i64 i, .int .i64 l, .string (Let.mk L), .slice sa ls sc, .slice ta lt tc] 25 (0, 0))) := hr1
  have HW1 := Lib.hid hW1
  clear hW1 hb1 hr1
  obtain ⟨W2, hW2⟩ : ∃ W2, W2 = W1.alloc (.cells #[.int .i64 0, .int .i64 0, .string (ByteArray.mk #[]), .slice none 0 0, .slice none 0 0] 25) := ⟨_, rfl⟩
  obtain ⟨hb2, hr2, hl2⟩ := box_at hW2 (hl1 : W1.heap.size = w.heap.size + 1)
  replace RS : Hid (W2.heap[w.heap.size]? = some (.cells #[.int .i64 i, .int .i64 l, .string (Let.mk L), .slice sa ls sc, .slice ta lt tc] 25 (0, 0))) := (hb2.block _ (row_lt RS.out)).trans RS.out
  replace BB : Hid (Below w.heap.size w W2) := below_more BB.out hb2
  have RZ : Hid (W2.heap[w.heap.size + 1]? = some (.cells #[.int .i64 0, .int .i64 0, .string (ByteArray.mk #[]), .slice none 0 0, .slice none 0 0] 25 (0, 0))) := hr2
  have HW2 := Lib.hid hW2
  clear hW2 hb2 hr2
  clear h hS hT b1 b2 l1 l2 hRS hRT hf hpc
  obtain ⟨rsc0, rsc1, rsc2, rsc3, rsc4⟩ := five_cells RS.out
  go_enter Tryz.func18, Tryz.ntmps18
  go_upto_region 1 with fail
  rw [← HW1.out, ← HW2.out]
  clear HW1 HW2
  clear hl1 hl2
  go_wp2_with fail
  refine (CK.out _ BB.out).mono ?_
  rintro e w1 ⟨rfl, b1⟩
  clear rsc0 rsc1 rsc2 rsc3 rsc4
  replace RS : Hid (w1.heap[w.heap.size]? = some (.cells #[.int .i64 i, .int .i64 l, .string (Let.mk L), .slice sa ls sc, .slice ta lt tc] 25 (0, 0))) := (b1.block _ (row_lt RS.out)).trans RS.out
  replace RZ : Hid (w1.heap[w.heap.size + 1]? = some (.cells #[.int .i64 0, .int .i64 0, .string (ByteArray.mk #[]), .slice none 0 0, .slice none 0 0] 25 (0, 0))) := (b1.block _ (row_lt RZ.out)).trans RZ.out
  replace BB : Hid (Below w.heap.size w w1) := below_more BB.out b1
  clear b1 CK
  go_wp2_with fail
  refine (CO.out _ BB.out).mono ?_
  rintro e w2 ⟨v1, v2, rfl, g1, g2, b2⟩
  obtain ⟨s1, t1, rfl⟩ := g1.is_slice
  rw [HPS.out] at g2
  obtain ⟨pa, pc, rfl, hpl, hpc2, hpi⟩ := g2.open_
  obtain ⟨bb, oo, rfl, hbb, _, cc⟩ := hpi 0 (by simp)
  rw [← HPS.out, ← HNT.out] at hpl ⊢
  generalize (ofS S mk).length = nz at *
  replace RS : Hid (w2.heap[w.heap.size]? = some (.cells #[.int .i64 i, .int .i64 l, .string (Let.mk L), .slice sa ls sc, .slice ta lt tc] 25 (0, 0))) := (b2.block _ (row_lt RS.out)).trans RS.out
  replace RZ : Hid (w2.heap[w.heap.size + 1]? = some (.cells #[.int .i64 0, .int .i64 0, .string (ByteArray.mk #[]), .slice none 0 0, .slice none 0 0] 25 (0, 0))) := (b2.block _ (row_lt RZ.out)).trans RZ.out
  replace BB : Hid (Below w.heap.size w w2) := below_more BB.out b2
  have HS : Hid (∀ w', Below w2.heap.size w2 w' → w'.cell? ⟨bb, oo, none⟩ = some (.int .i64 p)) := fun w' hb => below_cell hb hbb cc
  have g0 : ((nt : Int) == 0) = false := by rw [beq_eq_false_iff_ne]; omega
  have g00 : ¬ ((nt : Int) = 0) := by omega
  have gp : 0 < nt := by omega
  clear b2 CO HNT HPS g1 g2 hpi cc hpl hbb
  have KR := Lib.hid (Below.refl w2.heap.size w2)
  have KK : Hid (∀ w', Below w2.heap.size w2 w' → Below w.heap.size w w') := fun w' hb => below_more BB.out hb
  have BX0 : Hid (∀ w', Below w2.heap.size w2 w' → Below w2.heap.size w2 w' ∧ (w'.cell? ⟨w.heap.size, 0, none⟩ = some (.int .i64 i) ∧ w'.cell? ⟨w.heap.size, 1, none⟩ = some (.int .i64 l) ∧ w'.cell? ⟨w.heap.size, 2, none⟩ = some (.string (Let.mk L)) ∧ w'.cell? ⟨w.heap.size, 3, none⟩ = some (.slice sa ls sc) ∧ w'.cell? ⟨w.heap.size, 4, none⟩ = some (.slice ta lt tc))) := fun w' hb => ⟨hb, five_cells ((hb.block _ (row_lt RS.out)).trans RS.out)⟩
  have BX : Hid (∀ w', Below w2.heap.size w2 w' → Below w2.heap.size w2 w' ∧ (w'.cell? ⟨w.heap.size, 0, none⟩ = some (.int .i64 i) ∧ w'.cell? ⟨w.heap.size, 1, none⟩ = some (.int .i64 l) ∧ w'.cell? ⟨w.heap.size, 2, none⟩ = some (.string (Let.mk L)) ∧ w'.cell? ⟨w.heap.size, 3, none⟩ = some (.slice sa ls sc) ∧ w'.cell? ⟨w.heap.size, 4, none⟩ = some (.slice ta lt tc)) ∧ w'.cell? ⟨bb, oo, none⟩ = some (.int .i64 p)) := fun w' hb => ⟨hb, (BX0.out w' hb).2, HS.out w' hb⟩
  go_upto_region 4 with fail
  go_cut [12, 13] from 25 to 35 (fun x y wx => ∃ (NB : Nat) (a3 : Option Addr) (n3 d3 : Nat) (a4 : Option Addr) (n4 d4 : Nat), x = .pointer (some ⟨NB, 0, none⟩) ∧ y = .bool true ∧ Hid (FilP w2 wx NB i l L2 S2 T2 a3 n3 d3 a4 n4 d4))
  case first =>
    obtain ⟨_, ⟨c0, c1, c2, c3, c4⟩, d0⟩ := BX.out w2 KR.out
    go_region_held3 (fun w' => Below w2.heap.size w2 w' ∧ (w'.cell? ⟨w.heap.size, 0, none⟩ = some (.int .i64 i) ∧ w'.cell? ⟨w.heap.size, 1, none⟩ = some (.int .i64 l) ∧ w'.cell? ⟨w.heap.size, 2, none⟩ = some (.string (Let.mk L)) ∧ w'.cell? ⟨w.heap.size, 3, none⟩ = some (.slice sa ls sc) ∧ w'.cell? ⟨w.heap.size, 4, none⟩ = some (.slice ta lt tc)) ∧ w'.cell? ⟨bb, oo, none⟩ = some (.int .i64 p))
      ((refine BX.out _ ?_; focus ((repeat first | with_reducible assumption | with_reducible exact KR.out | with_reducible apply Below.drew | with_reducible apply below_drews | (with_reducible refine Below.alloc ?_ ?_ _; focus (first | with_reducible assumption | with_reducible exact KR.out | exact Nat.le_refl _)) | exact Nat.le_refl _ | (with_reducible refine below_put ?_ (by first | assumption | omega) _)); done)))
      ((go_at_call 54; (with_reducible refine (CI.out _ (KK.out _ ?_)).mono ?_); (focus ((repeat first | with_reducible assumption | with_reducible exact KR.out | with_reducible apply Below.drew | with_reducible apply below_drews | (with_reducible refine Below.alloc ?_ ?_ _; focus (first | with_reducible assumption | with_reducible exact KR.out | exact Nat.le_refl _)) | exact Nat.le_refl _ | (with_reducible refine below_put ?_ (by first | assumption | omega) _)); done)); rintro e w5 ⟨v5, rfl, o5, b5⟩; obtain ⟨a3, d3, a4, d4, rfl, g3, g4⟩ := o5.open_; have jj5 := fun h => below_more (B := w2.heap.size) (w := w2) h b5; replace jj5 := jj5 (by (repeat first | with_reducible assumption | with_reducible exact KR.out | with_reducible apply Below.drew | with_reducible apply below_drews | (with_reducible refine Below.alloc ?_ ?_ _; focus (first | with_reducible assumption | with_reducible exact KR.out | exact Nat.le_refl _)) | exact Nat.le_refl _ | (with_reducible refine below_put ?_ (by first | assumption | omega) _))); have yy5 := jj5.size; first | (have zN := ZR.below zN b5; have FN := fil_pl (i := i) (l := l) (L := L2) zN g3 g4 P2.out jj5; obtain ⟨z0, z1, z2, z3, z4⟩ := five_cells zN.z; obtain ⟨f0, f1, f2, f3, f4⟩ := five_free zN.z; have s6 := zN.s) | ((with_reducible (have zN := fun hk => zr_new (cs := #[.int .i64 0, .int .i64 0, .string (ByteArray.mk #[]), .slice none 0 0, .slice none 0 0]) (ty := 25) (W := w2) hk b5)); replace zN := zN (by (repeat first | with_reducible assumption | with_reducible exact KR.out | with_reducible apply Below.drew | with_reducible apply below_drews | (with_reducible refine Below.alloc ?_ ?_ _; focus (first | with_reducible assumption | with_reducible exact KR.out | exact Nat.le_refl _)) | exact Nat.le_refl _ | (with_reducible refine below_put ?_ (by first | assumption | omega) _))); have FN := fil_pl (i := i) (l := l) (L := L2) zN g3 g4 P2.out jj5; obtain ⟨z0, z1, z2, z3, z4⟩ := five_cells zN.z; obtain ⟨f0, f1, f2, f3, f4⟩ := five_free zN.z; have s6 := zN.s) | ((with_reducible (have zN := fun hk => zr_newd (cs := #[.int .i64 0, .int .i64 0, .string (ByteArray.mk #[]), .slice none 0 0, .slice none 0 0]) (ty := 25) (W := w2) hk b5)); replace zN := zN (by (repeat first | with_reducible assumption | with_reducible exact KR.out | with_reducible apply Below.drew | with_reducible apply below_drews | (with_reducible refine Below.alloc ?_ ?_ _; focus (first | with_reducible assumption | with_reducible exact KR.out | exact Nat.le_refl _)) | exact Nat.le_refl _ | (with_reducible refine below_put ?_ (by first | assumption | omega) _))); have FN := fil_pl (i := i) (l := l) (L := L2) zN g3 g4 P2.out jj5; obtain ⟨z0, z1, z2, z3, z4⟩ := five_cells zN.z; obtain ⟨f0, f1, f2, f3, f4⟩ := five_free zN.z; have s6 := zN.s) | (have FN := fil_pla (i := i) (l := l) (L := L2) g3 g4 jj5; have zN := zr_alloc (cs := #[.int .i64 0, .int .i64 0, .string (ByteArray.mk #[]), .slice none 0 0, .slice none 0 0]) (ty := 25) jj5; obtain ⟨z0, z1, z2, z3, z4⟩ := five_cells zN.z; obtain ⟨f0, f1, f2, f3, f4⟩ := five_free zN.z; have s6 := zN.s)))
    all_goals go_wp2_with fail
    all_goals go_meet
    all_goals exact ⟨_, _, _, _, _, _, _, rfl, rfl, FN⟩
  case rest =>
    obtain ⟨wp, hwp⟩ : ∃ wp : World, wp = wc := ⟨_, rfl⟩
    subst hwp
    obtain ⟨NB, a3, n3, d3, a4, n4, d4, rfl, rfl, HF⟩ := hcut
    obtain ⟨r0, s0, hbF, sF⟩ := HF.out
    clear HF BX BX0 HS KR KK CI sF
    replace RS : Hid (wp.heap[w.heap.size]? = some (.cells #[.int .i64 i, .int .i64 l, .string (Let.mk L), .slice sa ls sc, .slice ta lt tc] 25 (0, 0))) := (hbF.block _ (row_lt RS.out)).trans RS.out
    replace RZ : Hid (wp.heap[w.heap.size + 1]? = some (.cells #[.int .i64 0, .int .i64 0, .string (ByteArray.mk #[]), .slice none 0 0, .slice none 0 0] 25 (0, 0))) := (hbF.block _ (row_lt RZ.out)).trans RZ.out
    replace BB : Hid (Below w.heap.size w wp) := below_more BB.out hbF
    clear hbF
    have RN : Hid (wp.heap[NB]? = some (.cells #[.int .i64 i, .int .i64 l, .string (Let.mk L2), .slice a3 n3 d3, .slice a4 n4 d4] 25 (0, 0))) := r0
    have PN : Hid (Pl wp (.agg #[.int .i64 i, .int .i64 l, .string (Let.mk L2), .slice a3 n3 d3, .slice a4 n4 d4]) i l L2 S2 T2) := s0
    clear r0 s0
    obtain ⟨rnc0, rnc1, rnc2, rnc3, rnc4⟩ := five_cells RN.out
    go_upto_region 7 with fail
    go_wp2_with fail
    refine (CF.out _ _ PN.out).mono ?_
    rintro e w7 ⟨v7, rfl, o7, b7⟩
    obtain ⟨a5, d5, a6, d6, rfl, g5, g6⟩ := o7.open_
    clear rnc0 rnc1 rnc2 rnc3 rnc4
    replace RS : Hid (w7.heap[w.heap.size]? = some (.cells #[.int .i64 i, .int .i64 l, .string (Let.mk L), .slice sa ls sc, .slice ta lt tc] 25 (0, 0))) := (b7.block _ (row_lt RS.out)).trans RS.out
    replace RZ : Hid (w7.heap[w.heap.size + 1]? = some (.cells #[.int .i64 0, .int .i64 0, .string (ByteArray.mk #[]), .slice none 0 0, .slice none 0 0] 25 (0, 0))) := (b7.block _ (row_lt RZ.out)).trans RZ.out
    replace RN : Hid (w7.heap[NB]? = some (.cells #[.int .i64 i, .int .i64 l, .string (Let.mk L2), .slice a3 n3 d3, .slice a4 n4 d4] 25 (0, 0))) := (b7.block _ (row_lt RN.out)).trans RN.out
    replace BB : Hid (Below w.heap.size w w7) := below_more BB.out b7
    replace PN : Hid (Pl w7 (.agg #[.int .i64 i, .int .i64 l, .string (Let.mk L2), .slice a3 n3 d3, .slice a4 n4 d4]) i l L2 S2 T2) := PN.out.below b7 (Nat.le_refl _)
    clear b7 CF o7
    have FIN := Lib.hid (give_pl (w := w) (i := i) (l := l) (L := L2) (Nat.le_add_right _ 1) RZ.out g5 g6 POS.out BB.out)
    clear g5 g6
    obtain ⟨k0, k1, k2, k3, k4⟩ := five_cells RZ.out
    obtain ⟨f0, f1, f2, f3, f4⟩ := five_free RZ.out
    obtain ⟨y0, y1, y2, y3, y4⟩ := set5_cells (a0 := .int .i64 i) (a1 := .int .i64 l) (a2 := .string (Let.mk L2)) (a3 := .slice a5 S3.length d5) (a4 := .slice a6 T3.length d6) RZ.out
    go_wp2_with fail
    exact bodyPost_ret (v := .tuple #[.agg #[.int .i64 i, .int .i64 l, .string (Let.mk L2), .slice a5 S3.length d5, .slice a6 T3.length d6], .bool true]) (by simp only [set5] at y0 y1 y2 y3 y4; simp [results, Tryz.results18, go_sem, y0, y1, y2, y3, y4]) rfl ⟨_, rfl, FIN.out.1, FIN.out.2⟩

end Go.Proofs.YtkgdfclpogiemaaGreatDoor.Seg
