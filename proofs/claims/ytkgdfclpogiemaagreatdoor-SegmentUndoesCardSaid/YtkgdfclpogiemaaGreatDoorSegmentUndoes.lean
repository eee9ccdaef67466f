/- For every plain segment and everything that is asked (two numbers, a mark, a quota, a text): SegmentUndoes answers true, and its arguments read behind the call as before. No condition. THE TIED CARD: unicode/utf8's two tables start as the program's text lays them. -/
import Derived.Test.YtkgdfclpogiemaaGreatDoorRows
import Derived.Test.YtkgdfclpogiemaaGreatDoorTie
import Derived.Test.YtkgdfclpogiemaaGreatDoorCards
import Derived.Test.YtkgdfclpogiemaaGreatDoorLift
import Derived.ProofKit
import Derived.Lib.LaidU8T
import Derived.PinnedBridge
import Derived.Lay
import Derived.LaidOnce
import Derived.SevenTiedAt
import Derived.Test.YtkgdfclpogiemaaGreatDoorUt
import Derived.Test.YtkgdfclpogiemaaGreatDoorUq
import Derived.Test.YtkgdfclpogiemaaGreatDoorUp
import Derived.Deep.RegionHeld3
import Derived.Deep.DeepCutAuto
import Derived.Deep.CutBlock
set_option linter.unusedVariables false
namespace Go.Proofs.YtkgdfclpogiemaaGreatDoor.segmentUndoes
open Go.ChangeShapes Go.WideShapes Go.ChangeAt Go.RowKit Go.Lib Go.Shelf Go.Proofs.YtkgdfclpogiemaaGreatDoor.Lift Go.Proofs.YtkgdfclpogiemaaGreatDoor.Rt Go.Proofs.YtkgdfclpogiemaaGreatDoor.Rig Go.Proofs.YtkgdfclpogiemaaGreatDoor.Seg
open Go.ChangeMaps (open_string shut_string)

theorem own : ownKnob Tryz.prog.godebug = none := by kernel_rfl
theorem laidOut : laidOutB Tryz.prog = true := by kernel_rfl

theorem e1 : Let.put [97, 99] (1 : Nat) [98] = [97, 98, 99] := by decide +kernel
theorem e2 : pPut [] (1 : Nat) (Let.cnt [98] : Nat) 7 = [⟨7, 1, 2⟩] := by decide +kernel
theorem e3 : pPutT [] (1 : Nat) (Let.cnt [98] : Nat) = [] := by decide +kernel
theorem e4 : placeI (Let.cnt [97, 99]) 1 = (1 : Nat) := by decide +kernel
theorem e6 : unL [97, 98, 99] (ofS [⟨7, 1, 2⟩] 7) = [97, 99] := by decide +kernel
theorem e7 : dropS (unS [⟨7, 1, 2⟩] (ofS [⟨7, 1, 2⟩] 7)) 7 = [] := by decide +kernel
theorem e8 : dropT (unT [] (ofS [⟨7, 1, 2⟩] 7)) 7 = [] := by decide +kernel
theorem e9 : Let.cnt [97, 98, 99] = 3 := by decide +kernel
theorem rs1 : RS 0 0 (Let.cnt [97, 98, 99]) [⟨7, 1, 2⟩] := by rw [e9]; exact ⟨by decide, by decide, by decide, by decide, by decide, trivial⟩
theorem unT_len (T : List St) : ∀ X : List Sp, (unT T X).length ≤ T.length
  | [] => Nat.le_refl _
  | x :: X => Nat.le_trans (pTakeT_len0 (unT T X) x.f x.t) (unT_len T X)
theorem dropS_lenw (S : List Sp) (mk : Int) : (dropS S mk).length ≤ S.length := List.length_filter_le _ _
theorem dropT_lenw (T : List St) (mk : Int) : (dropT T mk).length ≤ T.length := List.length_filter_le _ _
theorem ofT_place {T : List St} {n mk x : Int} {ps : List Int} (h : RT n T) (e : ofT T mk = x :: ps) : 0 ≤ x ∧ x ≤ n := by
  have hx : x ∈ ofT T mk := by rw [e]; exact List.mem_cons_self
  unfold ofT at hx
  obtain ⟨s, hs, rfl⟩ := List.mem_map.1 hx
  exact (h.2 s (List.mem_filter.1 hs).1).2
/-- A row of a region's own: made, not yet filled. -/
structure ZM (W w : World) (NB : Nat) : Prop where
  z : ZSeg w NB
  s : W.heap.size ≤ NB
theorem ZM.below {W w w' : World} {NB : Nat} (h : ZM W w NB) (hb : Below w.heap.size w w') : ZM W w' NB := ⟨h.z.below hb (row_lt h.z), h.s⟩
theorem zm_new {W w4 w5 : World} (hk : Below W.heap.size W w4) (b5 : Below (w4.alloc (.cells #[.int .i64 0, .int .i64 0, .pointer none, .slice none 0 0, .slice none 0 0] 32)).heap.size (w4.alloc (.cells #[.int .i64 0, .int .i64 0, .pointer none, .slice none 0 0, .slice none 0 0] 32)) w5) : ZM W w5 w4.heap.size := ⟨(b5.block _ (by simp)).trans (heap_alloc_new _ _), hk.size⟩
theorem zm_newd {W w4 w5 : World} (hk : Below W.heap.size W w4) (b5 : Below (w4.alloc (.cells #[.int .i64 0, .int .i64 0, .pointer none, .slice none 0 0, .slice none 0 0] 32)).drew.heap.size (w4.alloc (.cells #[.int .i64 0, .int .i64 0, .pointer none, .slice none 0 0, .slice none 0 0] 32)).drew w5) : ZM W w5 w4.heap.size := ⟨(b5.block _ (by show w4.heap.size < (w4.alloc _).heap.size; simp)).trans (heap_alloc_new _ _), hk.size⟩
def FilledS (W w : World) (NB : Nat) (i l : Int) (L : Bytes) (S : List Sp) (T : List St) (q a3 : Option Addr) (d3 : Nat) (a4 : Option Addr) (d4 : Nat) : Prop :=
  w.heap[NB]? = some (.cells #[.int .i64 i, .int .i64 l, .pointer q, .slice a3 S.length d3, .slice a4 T.length d4] 32 (0, 0)) ∧ Sg w (.agg #[.int .i64 i, .int .i64 l, .pointer q, .slice a3 S.length d3, .slice a4 T.length d4]) i l L S T ∧ Below W.heap.size W w
theorem fin_seg {W w : World} {NB : Nat} {i l : Int} {L : Bytes} {S : List Sp} {T : List St} {q a3 a4 : Option Addr} {d3 d4 : Nat} (z : ZM W w NB) (g2 : IsRope w L (.pointer q)) (g3 : Spans w (.slice a3 S.length d3) S) (g4 : Sites w (.slice a4 T.length d4) T) (hp : ∀ s ∈ T, 0 < s.m) (k : Below W.heap.size W w) :
    FilledS W (set5 w NB (.int .i64 i) (.int .i64 l) (.pointer q) (.slice a3 S.length d3) (.slice a4 T.length d4)) NB i l L S T q a3 d3 a4 d4 :=
  ⟨set5_block z.z, (give_sg (w := W) (i := i) (l := l) z.s z.z g2 g3 g4 hp k).1, (give_sg (w := W) (i := i) (l := l) z.s z.z g2 g3 g4 hp k).2⟩
theorem fin_sega {W w : World} {i l : Int} {L : Bytes} {S : List Sp} {T : List St} {q a3 a4 : Option Addr} {d3 d4 : Nat} (g2 : IsRope w L (.pointer q)) (g3 : Spans w (.slice a3 S.length d3) S) (g4 : Sites w (.slice a4 T.length d4) T) (k : Below W.heap.size W w) :
    FilledS W (w.alloc (.cells #[.int .i64 i, .int .i64 l, .pointer q, .slice a3 S.length d3, .slice a4 T.length d4] 32)) w.heap.size i l L S T q a3 d3 a4 d4 :=
  ⟨heap_alloc_new _ _, ⟨_, _, _, rfl, Con.IsRope.below g2 ((Below.refl _ _).alloc (Nat.le_refl _) _) (Nat.le_refl _), Fl.below g3 ((Below.refl _ _).alloc (Nat.le_refl _) _) (Nat.le_refl _), Fl.below g4 ((Below.refl _ _).alloc (Nat.le_refl _) _) (Nat.le_refl _)⟩, k.alloc k.size _⟩
theorem zseg_alloc (w : World) : ZSeg (w.alloc (.cells #[.int .i64 0, .int .i64 0, .pointer none, .slice none 0 0, .slice none 0 0] 32)) w.heap.size := heap_alloc_new _ _
/-- Both put it back, or both refuse. -/
theorem pair6 {i l : Int} {L M : Bytes} {S : List Sp} {T : List St} (dm dq : Int) (hL : L.length ≤ 1500) (hM : M.length ≤ 1500) (hS : S.length ≤ 300) (hTl : T.length ≤ 300) (hRS : RS 0 0 (Let.cnt L) S) (hRT : RT (Let.cnt L) T) (gm : i64 dm) (gq : i64 dq) :
    ∃ (fb : Bool) (L2 : Bytes) (S2 : List Sp) (T2 : List St), (∀ w v u, Sg w v i l L S T → IsRope w M u → Calls Tryz.prog 17 #[v, .int .i64 dm, u, .int .i64 dq] w (GiveIns w fb i l L2 S2 T2)) ∧
      (∀ w v, Pl w v i l L S T → Calls Tryz.prog 18 #[v, .int .i64 dm, .string (Let.mk M), .int .i64 dq] w (GiveInsP w fb i l L2 S2 T2)) ∧ (∀ s ∈ T2, 0 < s.m) ∧ L2.length ≤ 10000 ∧ S2.length ≤ 10000 ∧ T2.length ≤ 10000 := by
  have hcl := Let.cnt_len L
  have hcm := Let.cnt_len M
  cases hps : ofT T dm with
  | nil => exact ⟨false, L, S, T, fun w v u hv hu => untake_none dm dq w hv hu (RT_pos hRT) hps gm gq.1 gq.2 (by omega) (by omega) (by omega) (by omega), fun w v hv => untake5_none dm dq w hv (RT_pos hRT) hps gm gq.1 gq.2 (by omega) (by omega) (by omega) (by omega), RT_pos hRT, by omega, by omega, by omega⟩
  | cons x ps =>
    have hx := ofT_place hRT hps
    obtain ⟨p, rfl⟩ : ∃ p : Nat, x = p := ⟨x.toNat, by omega⟩
    have hpc : p ≤ Let.cnt L := by omega
    cases hf : fitB L.length M.length dq with
    | true =>
      have h1 := pPut_ok (mk := 0) (p := p) (k := Let.cnt M) hRS (by omega) (by omega) (by omega)
      have h2 := pPutT_right hRT (p := p) (k := Let.cnt M) (by omega) (by omega)
      refine ⟨true, _, _, _, fun w v u hv hu => untake_yes p dm dq w hv hu hRS hRT hps hpc gm gq.1 gq.2 (by omega) (by omega) (by omega) hf, fun w v hv => untake5_yes dm dq w hv hRS hRT hps hf hpc gm gq.1 gq.2 (by omega) (by omega) (by omega) (by omega), dropT_pos2 dm (RT_pos h2), ?_, ?_, ?_⟩
      · rw [Con.put_len]; omega
      · have := RS_len h1.1 (by omega)
        have h5 := dropS_lenw (pPut S p (Let.cnt M) 0) dm
        omega
      · have := pPutT_len5 T p (Let.cnt M)
        have h5 := dropT_lenw (pPutT T p (Let.cnt M)) dm
        omega
    | false =>
      exact ⟨false, L, S, T, fun w v u hv hu => untake_full dm dq w hv hu (RT_pos hRT) (by rw [hps]; exact Nat.succ_pos _) hf gm gq.1 gq.2 (by omega) (by omega) (by omega) (by omega), fun w v hv => untake5_full dm dq w hv (RT_pos hRT) hps hf (by omega) gm gq.1 gq.2 (by omega) (by omega) (by omega) (by omega), RT_pos hRT, by omega, by omega, by omega⟩
/-- Both undo the same. -/
theorem pair7 {i l : Int} {L : Bytes} {S : List Sp} {T : List St} (dm : Int) (hL : L.length ≤ 1500) (hS : S.length ≤ 300) (hTl : T.length ≤ 300) (hRS : RS 0 0 (Let.cnt L) S) (hRT : RT (Let.cnt L) T) (hr : Let.right L = true) (gm : i64 dm) :
    ∃ (L3 : Bytes) (S3 : List Sp) (T3 : List St), (∀ w v, Sg w v i l L S T → Calls Tryz.prog 16 #[v, .int .i64 dm] w (GiveSg w i l L3 S3 T3)) ∧
      (∀ w v, Pl w v i l L S T → Calls Tryz.prog 19 #[v, .int .i64 dm] w (GivePl w i l L3 S3 T3)) ∧ (∀ s ∈ T3, 0 < s.m) ∧ L3.length ≤ 10000 ∧ S3.length ≤ 10000 ∧ T3.length ≤ 10000 := by
  have hcl := Let.cnt_len L
  have ho : Ord 0 (Let.cnt L) (ofS S dm) := ofS_ord hRS.ord rfl
  have h1 := unS_ok ho (by omega) (by omega) hRS
  have h2 := unT_ok ho (by omega) (by omega) hRT
  have h3 := (unL_ok ho (by omega) (by omega) hr).2.2
  have h4 := Ord.tot ho (by omega)
  have h5 := RS_len h1 (by omega)
  have h6 := unT_len T (ofS S dm)
  have h7 := dropS_lenw (unS S (ofS S dm)) dm
  have h8 := dropT_lenw (unT T (ofS S dm)) dm
  exact ⟨_, _, _, fun w v hv => unput_any dm w hv hRS hRT gm (by omega) (by omega), fun w v hv => unput5_any dm w hv hRS hRT hr gm (by omega) (by omega), dropT_pos2 dm (RT_pos h2), by omega, by omega, by omega⟩

set_option maxRecDepth 100000 in
set_option maxHeartbeats 24000000 in
theorem walk (w : World) (hT : Tabs w) {v : Value} {i l : Int} {L : Bytes} {S : List Sp} {T : List St} (h : Arg w v i l L S T) (d : Deed) (hd : d.good) :
    Calls Tryz.prog 4 #[v, d.val] w fun e w' => e = .returned (.bool true) ∧ Below w.heap.size w w' := by
  obtain ⟨da, dn, dm, dq, dt⟩ := d
  obtain ⟨ga, gn, gm, gq, gt⟩ := hd
  show Calls Tryz.prog 4 #[v, .agg #[.int .i64 da, .int .i64 dn, .int .i64 dm, .int .i64 dq, .string (Let.mk dt)]] w _
  simp only at ga gn gm gq gt
  have C1 : Hid (∀ w', Below w.heap.size w w' → Calls Tryz.prog 5 #[.string (ByteArray.mk #[97, 99])] w' (GiveSg w' 1 2 [97, 99] [] [])) := fun w' hb => text_any [97, 99] w' (by decide) (by decide +kernel) (hT.below hb)
  have C2 : Hid (∀ w', Below w.heap.size w w' → Calls Tryz.prog 15 #[.string (ByteArray.mk #[98])] w' (Con.Roped w' [98])) := fun w' hb => of5_any [98] w' (by decide) (by decide +kernel) (hT.below hb)
  have C3 : Hid (∀ w' x u, Sg w' x 1 2 [97, 99] [] [] → IsRope w' [98] u → Calls Tryz.prog 14 #[x, .int .i64 1, u, .int .i64 7, .int .i64 10] w' (GiveIns w' true 1 2 [97, 98, 99] [⟨7, 1, 2⟩] [])) := fun w' x u hx hu => by
    have := insert_yes 1 1 7 10 w' hx hu trivial ⟨List.Pairwise.nil, by simp⟩ e4 (by omega) (by omega) ⟨by omega, by omega⟩ (by omega) (by omega) (by decide) (by decide) (by simp) (by decide)
    rwa [e1, e2, e3] at this
  have C4 : Hid (∀ w' x, Sg w' x 1 2 [97, 98, 99] [⟨7, 1, 2⟩] [] → Calls Tryz.prog 16 #[x, .int .i64 7] w' (GiveSg w' 1 2 [97, 99] [] [])) := fun w' x hx => by
    have := unput_any 7 w' hx rs1 ⟨List.Pairwise.nil, by simp⟩ ⟨by omega, by omega⟩ (by decide) (by decide)
    rwa [e6, e7, e8] at this
  have C5 : Hid (∀ w' x, Sg w' x 1 2 [97, 99] [] [] → Calls Tryz.prog 7 #[x] w' fun e w'' => ∃ q, e = .returned (.pointer q) ∧ IsRope w'' [97, 99] (.pointer q) ∧ Below w'.heap.size w' w'') := fun w' x hx => rope_any w' hx
  have C6 : Hid (∀ w' u, IsRope w' [97, 99] u → Calls Tryz.prog 8 #[u] w' fun e w'' => e = .returned (.string (ByteArray.mk #[97, 99])) ∧ Below w'.heap.size w' w'') := fun w' u hu => Con.text_is w' hu (by decide)
  have CN : Hid (loadB L S T dt = false → ∀ w', Below w.heap.size w w' → Calls Tryz.prog 10 #[v, .agg #[.int .i64 da, .int .i64 dn, .int .i64 dm, .int .i64 dq, .string (Let.mk dt)]] w' fun e w'' => e = .returned (.tuple #[.agg #[.int .i64 0, .int .i64 0, .pointer none, .slice none 0 0, .slice none 0 0], .bool false]) ∧ Below w'.heap.size w' w'') := fun hB w' hb => loaded_no w' da dn dm dq dt (h.pl.below hb (Nat.le_refl _)) hB (hT.below hb) gt
  have CY : Hid (loadB L S T dt = true → ∀ w', Below w.heap.size w w' → Calls Tryz.prog 10 #[v, .agg #[.int .i64 da, .int .i64 dn, .int .i64 dm, .int .i64 dq, .string (Let.mk dt)]] w' (GiveIns w' true i l L S T)) := fun hB w' hb => loaded_yes w' da dn dm dq dt (h.pl.below hb (Nat.le_refl _)) hB (hT.below hb) gt
  have HPL : Hid (∀ w', Below w.heap.size w w' → Pl w' v i l L S T) := fun w' hb => h.pl.below hb (Nat.le_refl _)
  have HTB : Hid (∀ w', Below w.heap.size w w' → Tabs w') := fun w' hb => hT.below hb
  obtain ⟨sa, sc, ta, tc, rfl, _, _⟩ := h.pl.open_
  obtain ⟨ls, hls⟩ : ∃ ls, ls = S.length := ⟨_, rfl⟩
  obtain ⟨lt, hlt⟩ : ∃ lt, lt = T.length := ⟨_, rfl⟩
  obtain ⟨W0, hW0⟩ : ∃ W0, W0 = (w.alloc (.cells #[.int .i64 i, .int .i64 l, .string (Let.mk L), .slice sa ls sc, .slice ta lt tc] 25)).alloc (.cells #[.int .i64 da, .int .i64 dn, .int .i64 dm, .int .i64 dq, .string (Let.mk dt)] 27) := ⟨_, rfl⟩
  obtain ⟨b0, r0, r1, l0⟩ := box2 w #[.int .i64 i, .int .i64 l, .string (Let.mk L), .slice sa ls sc, .slice ta lt tc] #[.int .i64 da, .int .i64 dn, .int .i64 dm, .int .i64 dq, .string (Let.mk dt)] 25 27
  rw [← hW0] at b0 r0 r1 l0
  have BX : Hid (∀ w', Below W0.heap.size W0 w' → (w'.cell? ⟨w.heap.size, 0, none⟩ = some (.int .i64 i) ∧ w'.cell? ⟨w.heap.size, 1, none⟩ = some (.int .i64 l) ∧ w'.cell? ⟨w.heap.size, 2, none⟩ = some (.string (Let.mk L)) ∧ w'.cell? ⟨w.heap.size, 3, none⟩ = some (.slice sa ls sc) ∧ w'.cell? ⟨w.heap.size, 4, none⟩ = some (.slice ta lt tc)) ∧ (w'.cell? ⟨w.heap.size + 1, 0, none⟩ = some (.int .i64 da) ∧ w'.cell? ⟨w.heap.size + 1, 1, none⟩ = some (.int .i64 dn) ∧ w'.cell? ⟨w.heap.size + 1, 2, none⟩ = some (.int .i64 dm) ∧ w'.cell? ⟨w.heap.size + 1, 3, none⟩ = some (.int .i64 dq) ∧ w'.cell? ⟨w.heap.size + 1, 4, none⟩ = some (.string (Let.mk dt)))) := fun w' hb => ⟨five_cells ((hb.block _ (by omega)).trans r0), five_cells ((hb.block _ (by omega)).trans r1)⟩
  have KB : Hid (∀ w', Below W0.heap.size W0 w' → Below w.heap.size w w') := fun w' hb => below_more b0 hb
  have HW0 := Lib.hid hW0
  simp only [← hls, ← hlt] at CN CY HPL ⊢
  have GA := Lib.hid ga
  have GM := Lib.hid gm
  have GQ := Lib.hid gq
  have h64 := And.intro ga (And.intro gm gq)
  obtain ⟨⟨ga1, ga2⟩, ⟨gm1, gm2⟩, ⟨gq1, gq2⟩⟩ := h64
  clear h b0 r0 r1 l0 hW0 hT hls hlt ga gn gm gq gt
  go_enter Tryz.func4, Tryz.ntmps4
  go_upto_region 1 with fail
  rw [← HW0.out]
  go_wp2_with fail
  refine (C1.out _ (KB.out _ (Below.refl _ _))).mono ?_
  rintro e w1 ⟨v1, rfl, o1, b1⟩
  have K1 : Below W0.heap.size W0 w1 := b1
  obtain ⟨q1, a1, d1, a2, d2, rfl, _, _, _⟩ := o1.open_
  go_wp2_with fail
  refine (C2.out _ (KB.out _ K1)).mono ?_
  rintro e w2 ⟨v2, rfl, o2, b2⟩
  have K2 : Below W0.heap.size W0 w2 := below_more K1 b2
  obtain ⟨q2, rfl⟩ := rope_ptr o2
  go_wp2_with fail
  refine (C3.out _ _ _ (o1.below b2 (Nat.le_refl _)) o2).mono ?_
  rintro e w3 ⟨v3, rfl, o3, b3⟩
  have K3 : Below W0.heap.size W0 w3 := below_more K2 b3
  obtain ⟨q3, a3, d3, a4, d4, rfl, _, _, _⟩ := o3.open_
  obtain ⟨W4, hW4⟩ : ∃ W4, W4 = w3.alloc (.cells #[.int .i64 1, .int .i64 2, .pointer q3, .slice a3 ([⟨7, 1, 2⟩] : List Sp).length d3, .slice a4 ([] : List St).length d4] 32) := ⟨_, rfl⟩
  obtain ⟨b4, r4, l4⟩ := box1 w3 #[.int .i64 1, .int .i64 2, .pointer q3, .slice a3 ([⟨7, 1, 2⟩] : List Sp).length d3, .slice a4 ([] : List St).length d4] 32
  rw [← hW4] at b4 r4 l4
  have K4 : Below W0.heap.size W0 W4 := below_more K3 b4
  have O4 : Hid (∀ w', Below W4.heap.size W4 w' → Sg w' (.agg #[.int .i64 1, .int .i64 2, .pointer q3, .slice a3 ([⟨7, 1, 2⟩] : List Sp).length d3, .slice a4 ([] : List St).length d4]) 1 2 [97, 98, 99] [⟨7, 1, 2⟩] []) := fun w' hb => (o3.below b4 (Nat.le_refl _)).below hb (Nat.le_refl _)
  have BY : Hid (∀ w', Below W4.heap.size W4 w' → w'.cell? ⟨w3.heap.size, 0, none⟩ = some (.int .i64 1) ∧ w'.cell? ⟨w3.heap.size, 1, none⟩ = some (.int .i64 2) ∧ w'.cell? ⟨w3.heap.size, 2, none⟩ = some (.pointer q3) ∧ w'.cell? ⟨w3.heap.size, 3, none⟩ = some (.slice a3 1 d3) ∧ w'.cell? ⟨w3.heap.size, 4, none⟩ = some (.slice a4 0 d4)) := fun w' hb => five_cells ((hb.block _ (by omega)).trans r4)
  have HW4 := Lib.hid hW4
  clear o1 o2 o3 b1 b2 b3 b4 r4 l4 hW4 K1 K2 K3 C1 C2 C3
  go_upto_region 2 with fail
  try simp only [List.length_nil, List.length_cons] at HW4 O4
  rw [← HW4.out]
  obtain ⟨c0, c1, c2, c3, c4⟩ := BY.out W4 (Below.refl _ _)
  go_wp2_with fail
  refine (C4.out _ _ (O4.out _ (Below.refl _ _))).mono ?_
  rintro e w5 ⟨v5, rfl, o5, b5⟩
  obtain ⟨q5, a5, d5, a6, d6, rfl, _, _, _⟩ := o5.open_
  have J5 : Below W4.heap.size W4 w5 := b5
  clear c0 c1 c2 c3 c4 b5
  go_wp2_with fail
  refine (C5.out _ _ o5).mono ?_
  rintro e w6 ⟨q6, rfl, o6, b6⟩
  have J6 : Below W4.heap.size W4 w6 := below_more J5 b6
  clear o5 b6 J5
  go_wp2_with fail
  refine (C6.out _ _ o6).mono ?_
  rintro e w7 ⟨rfl, b7⟩
  have K7 : Below W0.heap.size W0 w7 := below_more K4 (below_more J6 b7)
  clear b7 o6 J6 BY O4 C4 C5 C6 HW4 K4
  obtain ⟨⟨c0, c1, c2, c3, c4⟩, ⟨x0, x1, x2, x3, x4⟩⟩ := BX.out w7 K7
  cases hB : loadB L S T dt with
  | false =>
    have CN2 := Lib.hid (CN.out hB w7 (KB.out _ K7))
    clear CN CY hB
    go_wp2_with fail
    refine CN2.out.mono ?_
    rintro e w8 ⟨rfl, b8⟩
    have FIN := Lib.hid ((KB.out _ (below_more K7 b8)).alloc (by have := (KB.out _ (below_more K7 b8)).size; omega) (.cells #[.int .i64 0, .int .i64 0, .pointer none, .slice none 0 0, .slice none 0 0] 32))
    clear b8 K7
    go_wp2_with fail
    go_ret
    exact ⟨rfl, FIN.out⟩
  | true =>
    have hB2 := hB
    unfold loadB right5 at hB2
    rw [Bool.and_eq_true, Bool.and_eq_true, Bool.and_eq_true, Bool.and_eq_true] at hB2
    obtain ⟨hs, ⟨hrL, hmm⟩, hq, hrt⟩ := hB2
    obtain ⟨m1, m2, m3⟩ : L.length ≤ 1500 ∧ S.length ≤ 300 ∧ T.length ≤ 300 := of_decide_eq_true hs
    have m4 : dt.length ≤ 1500 := of_decide_eq_true hq
    obtain ⟨hRS, hRT⟩ := mright_of hmm
    obtain ⟨fb, L2, S2, T2, PA, PB, PC, n1, n2, n3⟩ := pair6 (i := i) (l := l) dm dq m1 m4 m2 m3 hRS hRT GM.out GQ.out
    obtain ⟨L3, S3, T3, PU, PV, PW, n4, n5, n6⟩ := pair7 (i := i) (l := l) dm m1 m2 m3 hRS hRT hrL GM.out
    have CY2 := Lib.hid (CY.out hB w7 (KB.out _ K7))
    have PA' := Lib.hid PA
    have PB' := Lib.hid PB
    have PC' : Hid (∀ s ∈ T2, 0 < s.m) := PC
    have CO : Hid (∀ w', Below w.heap.size w w' → Calls Tryz.prog 15 #[.string (Let.mk dt)] w' (Con.Roped w' dt)) := fun w' hb => of5_any dt w' (by omega) hrt (HTB.out w' hb)
    have CH : Hid (∀ w' x u, Sg w' x i l L2 S2 T2 → Pl w' u i l L2 S2 T2 → Calls Tryz.prog 12 #[x, u] w' fun e w'' => e = .returned (.bool true) ∧ Below w'.heap.size w' w'') := fun w' x u hx hu => has_any w' hx hu PC (by omega) (by omega) (by omega)
    have CG : Hid (∀ w' x u, Sg w' x i l L S T → Pl w' u i l L S T → Calls Tryz.prog 12 #[x, u] w' fun e w'' => e = .returned (.bool true) ∧ Below w'.heap.size w' w'') := fun w' x u hx hu => has_any w' hx hu (RT_pos hRT) (by omega) (by omega) (by omega)
    have CU := Lib.hid PU
    have CV := Lib.hid PV
    have CQ : Hid (∀ w' x u, Sg w' x i l L3 S3 T3 → Pl w' u i l L3 S3 T3 → Calls Tryz.prog 12 #[x, u] w' fun e w'' => e = .returned (.bool true) ∧ Below w'.heap.size w' w'') := fun w' x u hx hu => has_any w' hx hu PW (by omega) (by omega) (by omega)
    have CF : Hid (∀ w' x, Sg w' x i l L S T → Calls Tryz.prog 20 #[x, .int .i64 dm] w' (GiveSg w' i l L (dropS S dm) (dropT T dm))) := fun w' x hx => forget2_any dm w' hx (RT_pos hRT) GM.out (by omega) (by omega)
    have CK : Hid (∀ w' x, Pl w' x i l L S T → Calls Tryz.prog 21 #[x, .int .i64 dm] w' (GivePl w' i l L (dropS S dm) (dropT T dm))) := fun w' x hx => forget5_any dm w' hx (RT_pos hRT) GM.out (by omega) (by omega)
    have n7 := dropS_lenw S dm
    have n8 := dropT_lenw T dm
    have CR : Hid (∀ w' x u, Sg w' x i l L (dropS S dm) (dropT T dm) → Pl w' u i l L (dropS S dm) (dropT T dm) → Calls Tryz.prog 12 #[x, u] w' fun e w'' => e = .returned (.bool true) ∧ Below w'.heap.size w' w'') := fun w' x u hx hu => has_any w' hx hu (dropT_pos2 dm (RT_pos hRT)) (by omega) (by omega) (by omega)
    clear CN CY hB hs hrL hmm hq hrt m1 m2 m3 m4 hRS hRT PA PB PC PU PV PW n1 n2 n3 n4 n5 n6 n7 n8 HTB
    generalize hS4 : dropS S dm = S4 at CF CK CR
    generalize hT4 : dropT T dm = T4 at CF CK CR
    clear hS4 hT4
    go_wp2_with fail
    refine CY2.out.mono ?_
    rintro e w8 ⟨v8, rfl, o8, b8⟩
    have K8 : Below W0.heap.size W0 w8 := below_more K7 b8
    obtain ⟨q8, a8, d8, a9, d9, rfl, _, _, _⟩ := o8.open_
    obtain ⟨n8, hn8⟩ : ∃ n8, n8 = S.length := ⟨_, rfl⟩
    obtain ⟨n9, hn9⟩ : ∃ n9, n9 = T.length := ⟨_, rfl⟩
    rw [← hn8, ← hn9] at o8 ⊢
    obtain ⟨W9, hW9⟩ : ∃ W9, W9 = w8.alloc (.cells #[.int .i64 i, .int .i64 l, .pointer q8, .slice a8 n8 d8, .slice a9 n9 d9] 32) := ⟨_, rfl⟩
    obtain ⟨b9, r9, l9⟩ := box1 w8 #[.int .i64 i, .int .i64 l, .pointer q8, .slice a8 n8 d8, .slice a9 n9 d9] 32
    rw [← hW9] at b9 r9 l9
    have K9 : Below W0.heap.size W0 W9 := below_more K8 b9
    have O9 : Hid (∀ w', Below W9.heap.size W9 w' → Sg w' (.agg #[.int .i64 i, .int .i64 l, .pointer q8, .slice a8 n8 d8, .slice a9 n9 d9]) i l L S T) := fun w' hb => (o8.below b9 (Nat.le_refl _)).below hb (Nat.le_refl _)
    have BY : Hid (∀ w', Below W9.heap.size W9 w' → Below W9.heap.size W9 w' ∧ (w'.cell? ⟨w8.heap.size, 0, none⟩ = some (.int .i64 i) ∧ w'.cell? ⟨w8.heap.size, 1, none⟩ = some (.int .i64 l) ∧ w'.cell? ⟨w8.heap.size, 2, none⟩ = some (.pointer q8) ∧ w'.cell? ⟨w8.heap.size, 3, none⟩ = some (.slice a8 n8 d8) ∧ w'.cell? ⟨w8.heap.size, 4, none⟩ = some (.slice a9 n9 d9)) ∧ (w'.cell? ⟨w.heap.size + 1, 0, none⟩ = some (.int .i64 da) ∧ w'.cell? ⟨w.heap.size + 1, 2, none⟩ = some (.int .i64 dm) ∧ w'.cell? ⟨w.heap.size + 1, 3, none⟩ = some (.int .i64 dq) ∧ w'.cell? ⟨w.heap.size + 1, 4, none⟩ = some (.string (Let.mk dt)))) := fun w' hb => by
      obtain ⟨_, y0, _, y2, y3, y4⟩ := BX.out w' (below_more K9 hb)
      exact ⟨hb, five_cells ((hb.block _ (by omega)).trans r9), y0, y2, y3, y4⟩
    have KK : Hid (∀ w', Below W9.heap.size W9 w' → Below W0.heap.size W0 w') := fun w' hb => below_more K9 hb
    have HW9 := Lib.hid hW9
    have KR := Lib.hid (Below.refl W9.heap.size W9)
    clear o8 b8 b9 r9 l9 hW9 K7 K8 K9 CY2 hn8 hn9 c0 c1 c2 c3 c4 x0 x1 x2 x3 x4
    go_upto_region 5 with fail
    rw [← HW9.out]
    go_upto_region 7 with fail
    go_cut [9, 10] from 32 to 43 (fun x y wx => ∃ (NB : Nat) (q a3 : Option Addr) (d3 : Nat) (a4 : Option Addr) (d4 : Nat), x = .pointer (some ⟨NB, 0, none⟩) ∧ y = .bool fb ∧ Hid (FilledS W9 wx NB i l L2 S2 T2 q a3 d3 a4 d4))
    case first =>
      obtain ⟨_, ⟨c0, c1, c2, c3, c4⟩, x0, x2, x3, x4⟩ := BY.out W9 KR.out
      go_region_held3 (fun w' => Below W9.heap.size W9 w' ∧ (w'.cell? ⟨w8.heap.size, 0, none⟩ = some (.int .i64 i) ∧ w'.cell? ⟨w8.heap.size, 1, none⟩ = some (.int .i64 l) ∧ w'.cell? ⟨w8.heap.size, 2, none⟩ = some (.pointer q8) ∧ w'.cell? ⟨w8.heap.size, 3, none⟩ = some (.slice a8 n8 d8) ∧ w'.cell? ⟨w8.heap.size, 4, none⟩ = some (.slice a9 n9 d9)) ∧ (w'.cell? ⟨w.heap.size + 1, 0, none⟩ = some (.int .i64 da) ∧ w'.cell? ⟨w.heap.size + 1, 2, none⟩ = some (.int .i64 dm) ∧ w'.cell? ⟨w.heap.size + 1, 3, none⟩ = some (.int .i64 dq) ∧ w'.cell? ⟨w.heap.size + 1, 4, none⟩ = some (.string (Let.mk dt))))
        ((refine BY.out _ ?_; focus ((repeat first | assumption | exact KR.out | apply Below.drew | apply below_drews | (refine Below.alloc ?_ ?_ _; focus (first | assumption | exact KR.out | exact Nat.le_refl _)) | exact Nat.le_refl _ | (refine below_put ?_ (by first | assumption | omega) _)); done)))
        (first
          | (go_at_call 15; (with_reducible refine (CO.out _ (KB.out _ (KK.out _ ?_))).mono ?_); (focus ((repeat first | assumption | exact KR.out | apply Below.drew | apply below_drews | (refine Below.alloc ?_ ?_ _; focus (first | assumption | exact KR.out | exact Nat.le_refl _)) | exact Nat.le_refl _); done)); rintro e w10 ⟨v10, rfl, o10, b10⟩; obtain ⟨q10, rfl⟩ := rope_ptr o10; have j10 := fun h => below_more (B := W9.heap.size) (w := W9) h b10; replace j10 := j10 (by (repeat first | assumption | exact KR.out | apply Below.drew | apply below_drews | (refine Below.alloc ?_ ?_ _; focus (first | assumption | exact KR.out | exact Nat.le_refl _)) | exact Nat.le_refl _)); have y10 := j10.size; first | (have zN := ZM.below zN b10) | (have zN := fun hk => zm_new (W := W9) hk b10; replace zN := zN (by (repeat first | assumption | exact KR.out | apply Below.drew | apply below_drews | (refine Below.alloc ?_ ?_ _; focus (first | assumption | exact KR.out | exact Nat.le_refl _)) | exact Nat.le_refl _))) | (have zN := fun hk => zm_newd (W := W9) hk b10; replace zN := zN (by (repeat first | assumption | exact KR.out | apply Below.drew | apply below_drews | (refine Below.alloc ?_ ?_ _; focus (first | assumption | exact KR.out | exact Nat.le_refl _)) | exact Nat.le_refl _))) | skip)
          | (go_at_call 17; (with_reducible refine (PA'.out _ _ _ (O9.out _ ?_) ?_).mono ?_); (focus ((repeat first | assumption | exact KR.out | apply Below.drew | apply below_drews | (refine Below.alloc ?_ ?_ _; focus (first | assumption | exact KR.out | exact Nat.le_refl _)) | exact Nat.le_refl _); done)); (focus (first | exact o10 | exact Con.IsRope.below o10 ((Below.refl _ _).alloc (Nat.le_refl _) _) (Nat.le_refl _))); rintro e w11 ⟨v11, rfl, o11, b11⟩; obtain ⟨q11, a11, d11, a12, d12, rfl, g2, g3, g4⟩ := o11.open_; have j11 := fun h => below_more (B := W9.heap.size) (w := W9) h b11; replace j11 := j11 (by (repeat first | assumption | exact KR.out | apply Below.drew | apply below_drews | (refine Below.alloc ?_ ?_ _; focus (first | assumption | exact KR.out | exact Nat.le_refl _)) | exact Nat.le_refl _)); have y11 := j11.size; first | (have zN := ZM.below zN b11; have FN := fin_seg (i := i) (l := l) zN g2 g3 g4 PC'.out j11; obtain ⟨z0, z1, z2, z3, z4⟩ := five_cells zN.z; obtain ⟨f0, f1, f2, f3, f4⟩ := five_free zN.z; have s6 := zN.s) | (have zN := fun hk => zm_new (W := W9) hk b11; replace zN := zN (by (repeat first | assumption | exact KR.out | apply Below.drew | apply below_drews | (refine Below.alloc ?_ ?_ _; focus (first | assumption | exact KR.out | exact Nat.le_refl _)) | exact Nat.le_refl _)); have FN := fin_seg (i := i) (l := l) zN g2 g3 g4 PC'.out j11; obtain ⟨z0, z1, z2, z3, z4⟩ := five_cells zN.z; obtain ⟨f0, f1, f2, f3, f4⟩ := five_free zN.z; have s6 := zN.s) | (have FN := fin_sega (i := i) (l := l) g2 g3 g4 j11)))
      all_goals go_wp2_with fail
      all_goals go_meet
      all_goals exact ⟨_, _, _, _, _, _, rfl, rfl, FN⟩
    case rest =>
      obtain ⟨NB, q, a3, d3, a4, d4, rfl, rfl, HF⟩ := hcut
      obtain ⟨R6, O6, J6⟩ := HF.out
      replace R6 := Lib.hid R6
      obtain ⟨n3, hn3⟩ : ∃ n3, n3 = S2.length := ⟨_, rfl⟩
      obtain ⟨n4, hn4⟩ : ∃ n4, n4 = T2.length := ⟨_, rfl⟩
      rw [← hn3, ← hn4] at R6 O6
      have O6' : Hid (∀ w', Below wc.heap.size wc w' → Sg w' (.agg #[.int .i64 i, .int .i64 l, .pointer q, .slice a3 n3 d3, .slice a4 n4 d4]) i l L2 S2 T2) := fun w' hb => O6.below hb (Nat.le_refl _)
      have K6 : Below W0.heap.size W0 wc := KK.out _ J6
      have RC : Hid (∀ w', Below wc.heap.size wc w' → (w'.cell? ⟨NB, 0, none⟩ = some (.int .i64 i) ∧ w'.cell? ⟨NB, 1, none⟩ = some (.int .i64 l) ∧ w'.cell? ⟨NB, 2, none⟩ = some (.pointer q) ∧ w'.cell? ⟨NB, 3, none⟩ = some (.slice a3 n3 d3) ∧ w'.cell? ⟨NB, 4, none⟩ = some (.slice a4 n4 d4))) := fun w' hb => five_cells ((hb.block _ (row_lt R6.out)).trans R6.out)
      have J6' := Lib.hid J6
      clear HF O6 hn3 hn4 PA' CO
      obtain ⟨⟨c0, c1, c2, c3, c4⟩, ⟨x0, x1, x2, x3, x4⟩⟩ := BX.out wc K6
      go_wp2_with fail
      refine (PB'.out _ _ (HPL.out _ (KB.out _ K6))).mono ?_
      rintro e w11 ⟨v11, rfl, o11, b11⟩
      have K11 : Below W0.heap.size W0 w11 := below_more K6 b11
      obtain ⟨sa5, sc5, ta5, tc5, rfl, _, _⟩ := o11.open_
      obtain ⟨n5, hn5⟩ : ∃ n5, n5 = S2.length := ⟨_, rfl⟩
      obtain ⟨n6, hn6⟩ : ∃ n6, n6 = T2.length := ⟨_, rfl⟩
      rw [← hn5, ← hn6] at o11 ⊢
      obtain ⟨W12, hW12⟩ : ∃ W12, W12 = w11.alloc (.cells #[.int .i64 i, .int .i64 l, .string (Let.mk L2), .slice sa5 n5 sc5, .slice ta5 n6 tc5] 25) := ⟨_, rfl⟩
      obtain ⟨b12, r12, l12⟩ := box1 w11 #[.int .i64 i, .int .i64 l, .string (Let.mk L2), .slice sa5 n5 sc5, .slice ta5 n6 tc5] 25
      rw [← hW12] at b12 r12 l12
      have K12 : Below W0.heap.size W0 W12 := below_more K11 b12
      have J12 : Below wc.heap.size wc W12 := below_more b11 b12
      have P12 := o11.below b12 (Nat.le_refl _)
      have O12 := Lib.hid (O6'.out _ J12)
      have P12' := Lib.hid P12
      have HR12 := Lib.hid r12
      have HW12 := Lib.hid hW12
      clear o11 b11 b12 r12 l12 hW12 K6 K11 P12 hn5 hn6 c0 c1 c2 c3 c4 x0 x1 x2 x3 x4 PB'
      go_upto_region 9 with fail
      rw [← HW12.out]
      have KZ := Lib.hid (Below.refl W12.heap.size W12)
      have J9 : Below W9.heap.size W9 W12 := below_more J6'.out J12
      have KK0 : Hid (∀ w', Below W12.heap.size W12 w' → Below w.heap.size w w') := fun w' hb => KB.out _ (below_more K12 hb)
      have O614 : Hid (∀ w', Below W12.heap.size W12 w' → Sg w' (.agg #[.int .i64 i, .int .i64 l, .pointer q, .slice a3 n3 d3, .slice a4 n4 d4]) i l L2 S2 T2) := fun w' hb => O12.out.below hb (Nat.le_refl _)
      have P14 : Hid (∀ w', Below W12.heap.size W12 w' → Pl w' (.agg #[.int .i64 i, .int .i64 l, .string (Let.mk L2), .slice sa5 n5 sc5, .slice ta5 n6 tc5]) i l L2 S2 T2) := fun w' hb => P12'.out.below hb (Nat.le_refl _)
      have O914 : Hid (∀ w', Below W12.heap.size W12 w' → Sg w' (.agg #[.int .i64 i, .int .i64 l, .pointer q8, .slice a8 n8 d8, .slice a9 n9 d9]) i l L S T) := fun w' hb => O9.out w' (below_more J9 hb)
      have BZ : Hid (∀ w', Below W12.heap.size W12 w' → Below W12.heap.size W12 w' ∧ (w'.cell? ⟨w8.heap.size, 0, none⟩ = some (.int .i64 i) ∧ w'.cell? ⟨w8.heap.size, 1, none⟩ = some (.int .i64 l) ∧ w'.cell? ⟨w8.heap.size, 2, none⟩ = some (.pointer q8) ∧ w'.cell? ⟨w8.heap.size, 3, none⟩ = some (.slice a8 n8 d8) ∧ w'.cell? ⟨w8.heap.size, 4, none⟩ = some (.slice a9 n9 d9)) ∧ (w'.cell? ⟨NB, 0, none⟩ = some (.int .i64 i) ∧ w'.cell? ⟨NB, 1, none⟩ = some (.int .i64 l) ∧ w'.cell? ⟨NB, 2, none⟩ = some (.pointer q) ∧ w'.cell? ⟨NB, 3, none⟩ = some (.slice a3 n3 d3) ∧ w'.cell? ⟨NB, 4, none⟩ = some (.slice a4 n4 d4)) ∧ (w'.cell? ⟨w11.heap.size, 0, none⟩ = some (.int .i64 i) ∧ w'.cell? ⟨w11.heap.size, 1, none⟩ = some (.int .i64 l) ∧ w'.cell? ⟨w11.heap.size, 2, none⟩ = some (.string (Let.mk L2)) ∧ w'.cell? ⟨w11.heap.size, 3, none⟩ = some (.slice sa5 n5 sc5) ∧ w'.cell? ⟨w11.heap.size, 4, none⟩ = some (.slice ta5 n6 tc5)) ∧ (w'.cell? ⟨w.heap.size, 0, none⟩ = some (.int .i64 i) ∧ w'.cell? ⟨w.heap.size, 1, none⟩ = some (.int .i64 l) ∧ w'.cell? ⟨w.heap.size, 2, none⟩ = some (.string (Let.mk L)) ∧ w'.cell? ⟨w.heap.size, 3, none⟩ = some (.slice sa ls sc) ∧ w'.cell? ⟨w.heap.size, 4, none⟩ = some (.slice ta lt tc)) ∧ w'.cell? ⟨w.heap.size + 1, 2, none⟩ = some (.int .i64 dm)) := fun w' hb => by
        obtain ⟨z1, ⟨_, _, z5, _⟩⟩ := BX.out w' (below_more K12 hb)
        exact ⟨hb, (BY.out w' (below_more J9 hb)).2.1, RC.out w' (below_more J12 hb), five_cells ((hb.block _ (row_lt HR12.out)).trans HR12.out), z1, z5⟩
      have i9 : (fb == fb) = true := by simp
      obtain ⟨_, ⟨z0, z1, z2, z3, z4⟩, ⟨y0, y1, y2, y3, y4⟩, ⟨e0, e1, e2, e3, e4⟩, ⟨c0, c1, c2, c3, c4⟩, x2⟩ := BZ.out W12 KZ.out
      clear O12 P12' HR12 HW12 J12 J9 J6' K12 BX BY RC R6 O6' KB KK KR O9
      go_region_held3 (fun w' => Below W12.heap.size W12 w' ∧ (w'.cell? ⟨w8.heap.size, 0, none⟩ = some (.int .i64 i) ∧ w'.cell? ⟨w8.heap.size, 1, none⟩ = some (.int .i64 l) ∧ w'.cell? ⟨w8.heap.size, 2, none⟩ = some (.pointer q8) ∧ w'.cell? ⟨w8.heap.size, 3, none⟩ = some (.slice a8 n8 d8) ∧ w'.cell? ⟨w8.heap.size, 4, none⟩ = some (.slice a9 n9 d9)) ∧ (w'.cell? ⟨NB, 0, none⟩ = some (.int .i64 i) ∧ w'.cell? ⟨NB, 1, none⟩ = some (.int .i64 l) ∧ w'.cell? ⟨NB, 2, none⟩ = some (.pointer q) ∧ w'.cell? ⟨NB, 3, none⟩ = some (.slice a3 n3 d3) ∧ w'.cell? ⟨NB, 4, none⟩ = some (.slice a4 n4 d4)) ∧ (w'.cell? ⟨w11.heap.size, 0, none⟩ = some (.int .i64 i) ∧ w'.cell? ⟨w11.heap.size, 1, none⟩ = some (.int .i64 l) ∧ w'.cell? ⟨w11.heap.size, 2, none⟩ = some (.string (Let.mk L2)) ∧ w'.cell? ⟨w11.heap.size, 3, none⟩ = some (.slice sa5 n5 sc5) ∧ w'.cell? ⟨w11.heap.size, 4, none⟩ = some (.slice ta5 n6 tc5)) ∧ (w'.cell? ⟨w.heap.size, 0, none⟩ = some (.int .i64 i) ∧ w'.cell? ⟨w.heap.size, 1, none⟩ = some (.int .i64 l) ∧ w'.cell? ⟨w.heap.size, 2, none⟩ = some (.string (Let.mk L)) ∧ w'.cell? ⟨w.heap.size, 3, none⟩ = some (.slice sa ls sc) ∧ w'.cell? ⟨w.heap.size, 4, none⟩ = some (.slice ta lt tc)) ∧ w'.cell? ⟨w.heap.size + 1, 2, none⟩ = some (.int .i64 dm))
        ((refine BZ.out _ ?_; focus ((repeat first | with_reducible assumption | with_reducible exact KZ.out | with_reducible apply Below.drew | with_reducible apply below_drews); done)))
        (first
          | (go_at_call 12; (with_reducible refine (CH.out _ _ _ (O614.out _ ?_) (P14.out _ ?_)).mono ?_); (focus ((repeat first | with_reducible assumption | with_reducible exact KZ.out | with_reducible apply Below.drew | with_reducible apply below_drews); done)); (focus ((repeat first | with_reducible assumption | with_reducible exact KZ.out | with_reducible apply Below.drew | with_reducible apply below_drews); done)); rintro e wx1 ⟨rfl, cc1⟩; have jj1 := fun h => below_more (B := W12.heap.size) (w := W12) h cc1; replace jj1 := jj1 (by (repeat first | with_reducible assumption | with_reducible exact KZ.out | with_reducible apply Below.drew | with_reducible apply below_drews)))
          | (go_at_call 16; (with_reducible refine (CU.out _ _ (O914.out _ ?_)).mono ?_); (focus ((repeat first | with_reducible assumption | with_reducible exact KZ.out | with_reducible apply Below.drew | with_reducible apply below_drews); done)); rintro e wx2 ⟨v2, rfl, o2, cc2⟩; obtain ⟨g21, g22, g23, g24, g25, rfl, _, _, _⟩ := o2.open_; have jj2 := fun h => below_more (B := W12.heap.size) (w := W12) h cc2; replace jj2 := jj2 (by (repeat first | with_reducible assumption | with_reducible exact KZ.out | with_reducible apply Below.drew | with_reducible apply below_drews)))
          | (go_at_call 19; (with_reducible refine (CV.out _ _ (HPL.out _ (KK0.out _ ?_))).mono ?_); (focus ((repeat first | with_reducible assumption | with_reducible exact KZ.out | with_reducible apply Below.drew | with_reducible apply below_drews); done)); rintro e wx3 ⟨v3, rfl, o3, cc3⟩; obtain ⟨g31, g32, g33, g34, rfl, _, _⟩ := o3.open_; have o2b := o2.below cc3 (Nat.le_refl _); have jj3 := fun h => below_more (B := W12.heap.size) (w := W12) h cc3; replace jj3 := jj3 (by (repeat first | with_reducible assumption | with_reducible exact KZ.out | with_reducible apply Below.drew | with_reducible apply below_drews)))
          | (go_at_call 12; (with_reducible refine (CQ.out _ _ _ o2b o3).mono ?_); rintro e wx4 ⟨rfl, cc4⟩; have jj4 := fun h => below_more (B := W12.heap.size) (w := W12) h cc4; replace jj4 := jj4 (by (repeat first | with_reducible assumption | with_reducible exact KZ.out | with_reducible apply Below.drew | with_reducible apply below_drews)))
          | (go_at_call 20; (with_reducible refine (CF.out _ _ (O914.out _ ?_)).mono ?_); (focus ((repeat first | with_reducible assumption | with_reducible exact KZ.out | with_reducible apply Below.drew | with_reducible apply below_drews); done)); rintro e wx5 ⟨v5, rfl, o5, cc5⟩; obtain ⟨g51, g52, g53, g54, g55, rfl, _, _, _⟩ := o5.open_; have jj5 := fun h => below_more (B := W12.heap.size) (w := W12) h cc5; replace jj5 := jj5 (by (repeat first | with_reducible assumption | with_reducible exact KZ.out | with_reducible apply Below.drew | with_reducible apply below_drews)))
          | (go_at_call 21; (with_reducible refine (CK.out _ _ (HPL.out _ (KK0.out _ ?_))).mono ?_); (focus ((repeat first | with_reducible assumption | with_reducible exact KZ.out | with_reducible apply Below.drew | with_reducible apply below_drews); done)); rintro e wx6 ⟨v6, rfl, o6, cc6⟩; obtain ⟨g61, g62, g63, g64, rfl, _, _⟩ := o6.open_; have o5b := o5.below cc6 (Nat.le_refl _); have jj6 := fun h => below_more (B := W12.heap.size) (w := W12) h cc6; replace jj6 := jj6 (by (repeat first | with_reducible assumption | with_reducible exact KZ.out | with_reducible apply Below.drew | with_reducible apply below_drews)))
          | (go_at_call 12; (with_reducible refine (CR.out _ _ _ o5b o6).mono ?_); rintro e wx7 ⟨rfl, cc7⟩; have jj7 := fun h => below_more (B := W12.heap.size) (w := W12) h cc7; replace jj7 := jj7 (by (repeat first | with_reducible assumption | with_reducible exact KZ.out | with_reducible apply Below.drew | with_reducible apply below_drews)))
          | (go_at_call 12; (with_reducible refine (CG.out _ _ _ (O914.out _ ?_) (HPL.out _ (KK0.out _ ?_))).mono ?_); (focus ((repeat first | with_reducible assumption | with_reducible exact KZ.out | with_reducible apply Below.drew | with_reducible apply below_drews); done)); (focus ((repeat first | with_reducible assumption | with_reducible exact KZ.out | with_reducible apply Below.drew | with_reducible apply below_drews); done)); rintro e wx8 ⟨rfl, cc8⟩; have jj8 := fun h => below_more (B := W12.heap.size) (w := W12) h cc8; replace jj8 := jj8 (by (repeat first | with_reducible assumption | with_reducible exact KZ.out | with_reducible apply Below.drew | with_reducible apply below_drews))))
      all_goals go_wp2_with fail
      all_goals go_ret
      all_goals exact ⟨ret_bool (by simp), KK0.out _ (by (repeat first | with_reducible assumption | with_reducible exact KZ.out | with_reducible apply Below.drew | with_reducible apply below_drews))⟩

theorem acc_eq : Rows.laid_unicode_utf8_acceptRanges = Lib.acceptData := by kernel_rfl

set_option maxRecDepth 100000 in
theorem lifted (os : Os) (started : os.Started) (H : Type) (enc : TypeId × Value → H) :
    ReturnsInHanded {} Tryz.checked os 4 .any (fun w args => (Rows.segmentUndoesSpec.pre enc Tryz.prog Tryz.f4 [] false w args ∧ laidMetH Tryz.prog Rows.segmentUndoesRow.laid w) ∧ sizedMet enc Tryz.prog Tryz.f4 (OpenSpec.ofChange Rows.segmentUndoesSpec) false w args) (Rows.segmentUndoesSpec.post enc Tryz.prog Tryz.f4 false true false false) := by
  refine returnsInHanded_of_change_and (C := Tryz.checked) (X := fun w _ => laidMetH Tryz.prog Rows.segmentUndoesRow.laid w) (fun _ _ _ hh h => h.of_heap hh) own started (by kernel_rfl) Tryz.func4
    (ChangeSpec.witness_shaped (enc := enc) (C := Tryz.checked) (os := os) (X := fun w _ => laidMetH Tryz.prog Rows.segmentUndoesRow.laid w) false (World.laidAll Tryz.prog os Rows.segmentUndoesRow.laid) #[.agg #[.int .i64 0, .int .i64 0, .string ByteArray.empty, .slice none 0 0, .slice none 0 0], .agg #[.int .i64 0, .int .i64 0, .int .i64 0, .int .i64 0, .string ByteArray.empty]] 8 (World.laidAll_os _ _ _)
      (World.shaped_of_ZipB (by kernel_rfl) (by kernel_rfl)) (by kernel_rfl) (by kernel_rfl) (by kernel_rfl)
      (by rw [MakeChecks.laidMetH_plain _ _ _ (by kernel_rfl)]; exact laidMet_laidAll _ (by kernel_rfl) (by kernel_rfl))) ?_
  intro W base args ds gs before hval0 hW _ _ hL _
  have hval : ∀ (j : Nat) t v, Tryz.f4.params[j]? = some t → args[j]? = some v → Value.okWide Tryz.prog W .any base t v := hval0
  have hread : ∀ t ∈ Tryz.f4.params.toList, Tryz.prog.readableRec t = true ∧ t < Tryz.prog.types.size := by
    have : (Tryz.f4.params.toList.all fun t => Tryz.prog.readableRec t && decide (t < Tryz.prog.types.size)) = true := by kernel_rfl
    intro t ht
    have := List.all_eq_true.1 this t ht
    simpa using this
  rw [MakeChecks.laidMetH_plain _ _ _ (by kernel_rfl)] at hL
  have hT : Tabs W := utf8Tabs_of_readsT (U8Types.of196 Tryz.lays196) ⟨by kernel_rfl, by kernel_rfl, by kernel_rfl, by kernel_rfl, by kernel_rfl, by kernel_rfl, by kernel_rfl⟩ (Pinned.utf8First_eq ▸ Lib.laidMet.reads hL (.tail _ (.head _))) (acc_eq ▸ Lib.laidMet.reads hL (.head _))
  refine law_contract (P := Tryz.prog) (s := Rows.segmentUndoesSpec) (fn := Tryz.f4) (tb := 4) laidOut rfl hread rfl Tryz.underlying4 (fun W' => okWide_bool_mk Tryz.underlying4 _) ?_ hW ?_
  · intro ds hds
    rw [Tryz.params4] at hds
    match ds, hds with
    | [d0, d1], _ => rfl
  intro pl hA
  rw [Tryz.params4] at hA hval
  obtain ⟨v0, vs0, d0, ds0, p0, q0, hargs, rfl, hp0, h0, r0⟩ := trodAll_cons hA
  obtain ⟨v1, vs1, d1, ds1, p1, q1, rfl, rfl, hp1, h1, r1⟩ := trodAll_cons r0
  obtain ⟨rfl, rfl, hpe⟩ := trodAll_nil r1
  obtain rfl : args = #[v0, v1] := by cases args; simp_all
  obtain ⟨ia, la, La, Sa, Ta, hGa⟩ := open_seg (hval 0 25 v0 rfl rfl) h0
  obtain ⟨d, rfl, hGd⟩ := open_sdeed (hval 1 27 v1 rfl rfl) h1
  exact walk W hT hGa d hGd 

theorem over : Rows.segmentUndoesRow.holds Tryz.pinned (OpenSpec.ofChange Rows.segmentUndoesSpec) :=
  OpenClaim.holds_of_wide 4 Tryz.f4 rfl rfl rfl rfl rfl rfl rfl ⟨rfl, rfl, rfl, rfl, rfl⟩ rfl rfl rfl rfl rfl (by kernel_rfl) Tryz.func4 (by kernel_rfl)
    (of_decide_eq_true (by kernel_rfl)) (by unfold Func.isWrapper; first | (rw [if_pos (by decide +kernel)]; kernel_rfl) | (rw [if_neg (by decide +kernel)]; exact ⟨rfl, rfl⟩))
    (fun os started H enc _ => lifted os started H enc)

/-- The statement. -/
theorem proved : Rows.SegmentUndoesCardSaid :=
  Claim7.holds_tied_plain_at .later [] [.data, .pinned] true (true, "bbb963526ea8cba343adcc6cb74318256d91e4935cd9e7d053e7f38b47c0df35") false over (fun _ h => by cases h) (by kernel_rfl) (fun _ h => by cases h) segmentUndoes_row_tie rfl ⟨rfl, rfl⟩ (by kernel_rfl) rfl
    (fun f fn hf hfn => by
      obtain rfl : f = 4 := Option.some.inj ((show Tryz.prog.funcNamed Rows.segmentUndoesRow.func = some 4 by kernel_rfl).symm.trans hf) |>.symm
      obtain rfl : fn = Tryz.f4 := (Option.some.inj (Tryz.func4.symm.trans hfn)).symm
      exact ⟨by kernel_rfl, fun j t ht => by
        rw [Tryz.params4] at ht
        have hm : t ∈ [25, 27] := by simpa using Array.mem_of_getElem? ht
        have hall : ([25, 27].all fun u => !Tryz.prog.wantsStandIn u) = true := by kernel_rfl
        exact (show Tryz.prog.wantsStandIn t = false by simpa using List.all_eq_true.1 hall t hm)⟩)
    (by kernel_rfl)
#print axioms proved
end Go.Proofs.YtkgdfclpogiemaaGreatDoor.segmentUndoes
