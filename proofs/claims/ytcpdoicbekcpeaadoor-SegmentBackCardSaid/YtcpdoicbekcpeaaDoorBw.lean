/- SegmentBack: the walk through the whole statement. -/
import Derived.Test.YtcpdoicbekcpeaaDoorDe
import Derived.Test.YtcpdoicbekcpeaaDoorBl
import Derived.Test.YtcpdoicbekcpeaaDoorBp
import Derived.Deep.RegionHeld3
import Derived.Deep.DeepCutAuto
import Derived.Deep.CutBlock
set_option linter.unusedVariables false
namespace Go.Proofs.YtcpdoicbekcpeaaDoor.Bwk
open Go.ChangeShapes Go.WideShapes Go.ChangeAt Go.RowKit Go.Lib Go.Shelf Go.Proofs.YtcpdoicbekcpeaaDoor.Rt Go.Proofs.YtcpdoicbekcpeaaDoor.Rig Go.Proofs.YtcpdoicbekcpeaaDoor.Seg
set_option linter.unusedSimpArgs false
theorem e1 : Let.put [97, 99] (1 : Nat) [98] = [97, 98, 99] := by decide +kernel
theorem e2 : pPut [] (1 : Nat) (Let.cnt [98] : Nat) 7 = [⟨7, 1, 2⟩] := by decide +kernel
theorem e3 : pPutT [] (1 : Nat) (Let.cnt [98] : Nat) = [] := by decide +kernel
theorem e4 : placeI (Let.cnt [97, 99]) 1 = (1 : Nat) := by decide +kernel
theorem e6 : unL [97, 98, 99] (ofS [⟨7, 1, 2⟩] 7) = [97, 99] := by decide +kernel
theorem e7 : dropS (unS [⟨7, 1, 2⟩] (ofS [⟨7, 1, 2⟩] 7)) 7 = [] := by decide +kernel
theorem e8 : dropT (unT [] (ofS [⟨7, 1, 2⟩] 7)) 7 = [] := by decide +kernel
theorem e9 : Let.cnt [97, 98, 99] = 3 := by decide +kernel
theorem rs1 : RS 0 0 (Let.cnt [97, 98, 99]) [⟨7, 1, 2⟩] := by rw [e9]; exact ⟨by decide, by decide, by decide, by decide, by decide, trivial⟩
/-- A row of a region's own: made, not yet filled. -/
structure ZM (W w : World) (NB : Nat) : Prop where
  z : ZSeg w NB
  s : W.heap.size ≤ NB
theorem ZM.below {W w w' : World} {NB : Nat} (h : ZM W w NB) (hb : Below w.heap.size w w') : ZM W w' NB := ⟨h.z.below hb (row_lt h.z), h.s⟩
theorem zm_new {W w4 w5 : World} (hk : Below W.heap.size W w4) (b5 : Below (w4.alloc (.cells #[.int .i64 0, .int .i64 0, .pointer none, .slice none 0 0, .slice none 0 0] 33)).heap.size (w4.alloc (.cells #[.int .i64 0, .int .i64 0, .pointer none, .slice none 0 0, .slice none 0 0] 33)) w5) : ZM W w5 w4.heap.size := ⟨(b5.block _ (by simp)).trans (heap_alloc_new _ _), hk.size⟩
theorem zm_newd {W w4 w5 : World} (hk : Below W.heap.size W w4) (b5 : Below (w4.alloc (.cells #[.int .i64 0, .int .i64 0, .pointer none, .slice none 0 0, .slice none 0 0] 33)).drew.heap.size (w4.alloc (.cells #[.int .i64 0, .int .i64 0, .pointer none, .slice none 0 0, .slice none 0 0] 33)).drew w5) : ZM W w5 w4.heap.size := ⟨(b5.block _ (by show w4.heap.size < (w4.alloc _).heap.size; simp)).trans (heap_alloc_new _ _), hk.size⟩
def FilledS (W w : World) (NB : Nat) (i l : Int) (L : Bytes) (S : List Sp) (T : List St) (q a3 : Option Addr) (d3 : Nat) (a4 : Option Addr) (d4 : Nat) : Prop :=
  w.heap[NB]? = some (.cells #[.int .i64 i, .int .i64 l, .pointer q, .slice a3 S.length d3, .slice a4 T.length d4] 33 (0, 0)) ∧ Sg w (.agg #[.int .i64 i, .int .i64 l, .pointer q, .slice a3 S.length d3, .slice a4 T.length d4]) i l L S T ∧ Below W.heap.size W w ∧ W.heap.size ≤ NB
theorem fin_seg {W w : World} {NB : Nat} {i l : Int} {L : Bytes} {S : List Sp} {T : List St} {q a3 a4 : Option Addr} {d3 d4 : Nat} (z : ZM W w NB) (g2 : IsRope w L (.pointer q)) (g3 : Spans w (.slice a3 S.length d3) S) (g4 : Sites w (.slice a4 T.length d4) T) (hp : ∀ s ∈ T, 0 < s.m) (k : Below W.heap.size W w) :
    FilledS W (set5 w NB (.int .i64 i) (.int .i64 l) (.pointer q) (.slice a3 S.length d3) (.slice a4 T.length d4)) NB i l L S T q a3 d3 a4 d4 :=
  ⟨set5_block z.z, (give_sg (w := W) (i := i) (l := l) z.s z.z g2 g3 g4 hp k).1, (give_sg (w := W) (i := i) (l := l) z.s z.z g2 g3 g4 hp k).2, z.s⟩
theorem fin_sega {W w : World} {i l : Int} {L : Bytes} {S : List Sp} {T : List St} {q a3 a4 : Option Addr} {d3 d4 : Nat} (g2 : IsRope w L (.pointer q)) (g3 : Spans w (.slice a3 S.length d3) S) (g4 : Sites w (.slice a4 T.length d4) T) (k : Below W.heap.size W w) :
    FilledS W (w.alloc (.cells #[.int .i64 i, .int .i64 l, .pointer q, .slice a3 S.length d3, .slice a4 T.length d4] 33)) w.heap.size i l L S T q a3 d3 a4 d4 :=
  ⟨heap_alloc_new _ _, ⟨_, _, _, rfl, Con.IsRope.below g2 ((Below.refl _ _).alloc (Nat.le_refl _) _) (Nat.le_refl _), Fl.below g3 ((Below.refl _ _).alloc (Nat.le_refl _) _) (Nat.le_refl _), Fl.below g4 ((Below.refl _ _).alloc (Nat.le_refl _) _) (Nat.le_refl _)⟩, k.alloc k.size _, k.size⟩
theorem zseg_alloc (w : World) : ZSeg (w.alloc (.cells #[.int .i64 0, .int .i64 0, .pointer none, .slice none 0 0, .slice none 0 0] 33)) w.heap.size := heap_alloc_new _ _
/-- What the first insert gives. -/
def First (i l : Int) (L M : Bytes) (S : List Sp) (T : List St) (da dm : Int) : Prop := ∃ (L2 : Bytes) (S2 : List Sp) (T2 : List St), (∀ w v u, Sg w v i l L S T → IsRope w M u → Calls Tryd.prog 12 #[v, .int .i64 da, u, .int .i64 dm, .int .i64 1073741824] w (GiveIns w true i l L2 S2 T2)) ∧ BK dm (Let.cnt M) L2 S2 T2 ∧ L2.length ≤ 3000 ∧ T2.length ≤ 300 ∧ unL L2 (ofS S2 dm) = L
/-- The list that is asked. -/
def AskedAt (w : World) (ax : Option Addr) (A : List Deed) : Prop := A = [] ∨ ∃ b off, ax = some ⟨b, off, none⟩ ∧ b < w.heap.size ∧ DeedsAt w b off A
theorem AskedAt.below {w w' : World} {ax : Option Addr} {A : List Deed} (h : AskedAt w ax A) (hb : Below w.heap.size w w') : AskedAt w' ax A := by
  rcases h with h | ⟨b, off, e, hlt, hA⟩
  · exact .inl h
  · exact .inr ⟨b, off, e, Nat.lt_of_lt_of_le hlt hb.size, hA.below hb hlt⟩

set_option maxRecDepth 100000 in
set_option maxHeartbeats 24000000 in
theorem walk (w : World) (hT : Tabs w) {v : Value} {i l : Int} {L : Bytes} {S : List Sp} {T : List St} (h : Arg w v i l L S T) (d : Deed) (hd : d.good) {ax : Option Addr} {cx : Nat} {A : List Deed} (hA : A.length ≤ cx ∧ cx ≤ maxLen ∧ AskedAt w ax A) :
    Calls Tryd.prog 3 #[v, d.val, .slice ax A.length cx] w fun e w' => e = .returned (.bool true) ∧ Below w.heap.size w w' := by
  obtain ⟨da, dn, dm, dq, dt⟩ := d
  obtain ⟨ga, gn, gm, gq, gt⟩ := hd
  show Calls Tryd.prog 3 #[v, .agg #[.int .i64 da, .int .i64 dn, .int .i64 dm, .int .i64 dq, .string (Let.mk dt)], .slice ax A.length cx] w _
  simp only at ga gn gm gq gt
  have C1 : Hid (∀ w', Below w.heap.size w w' → Calls Tryd.prog 11 #[.string (ByteArray.mk #[97, 99])] w' (GiveSg w' 1 2 [97, 99] [] [])) := fun w' hb => text_any [97, 99] w' (by decide) (by decide +kernel) (hT.below hb)
  have C2 : Hid (∀ w', Below w.heap.size w w' → Calls Tryd.prog 13 #[.string (ByteArray.mk #[98])] w' (Con.Roped w' [98])) := fun w' hb => of5_any [98] w' (by decide) (by decide +kernel) (hT.below hb)
  have C3 : Hid (∀ w' x u, Sg w' x 1 2 [97, 99] [] [] → IsRope w' [98] u → Calls Tryd.prog 12 #[x, .int .i64 1, u, .int .i64 7, .int .i64 10] w' (GiveIns w' true 1 2 [97, 98, 99] [⟨7, 1, 2⟩] [])) := fun w' x u hx hu => by
    have := insert_yes 1 1 7 10 w' hx hu trivial ⟨List.Pairwise.nil, by simp⟩ e4 (by omega) (by omega) ⟨by omega, by omega⟩ (by omega) (by omega) (by decide) (by decide) (by simp) (by decide)
    rwa [e1, e2, e3] at this
  have C4 : Hid (∀ w' x, Sg w' x 1 2 [97, 98, 99] [⟨7, 1, 2⟩] [] → Calls Tryd.prog 14 #[x, .int .i64 7] w' (GiveSg w' 1 2 [97, 99] [] [])) := fun w' x hx => by
    have := unput_any 7 w' hx rs1 ⟨List.Pairwise.nil, by simp⟩ ⟨by omega, by omega⟩ (by decide) (by decide)
    rwa [e6, e7, e8] at this
  have C5 : Hid (∀ w' x, Sg w' x 1 2 [97, 99] [] [] → Calls Tryd.prog 15 #[x] w' fun e w'' => ∃ q, e = .returned (.pointer q) ∧ IsRope w'' [97, 99] (.pointer q) ∧ Below w'.heap.size w' w'') := fun w' x hx => rope_any w' hx
  have C6 : Hid (∀ w' u, IsRope w' [97, 99] u → Calls Tryd.prog 16 #[u] w' fun e w'' => e = .returned (.string (ByteArray.mk #[97, 99])) ∧ Below w'.heap.size w' w'') := fun w' u hu => Con.text_is w' hu (by decide)
  have CN : Hid (loadB L S T dt = false → ∀ w', Below w.heap.size w w' → Calls Tryd.prog 17 #[v, .agg #[.int .i64 da, .int .i64 dn, .int .i64 dm, .int .i64 dq, .string (Let.mk dt)]] w' fun e w'' => e = .returned (.tuple #[.agg #[.int .i64 0, .int .i64 0, .pointer none, .slice none 0 0, .slice none 0 0], .bool false]) ∧ Below w'.heap.size w' w'') := fun hB w' hb => loaded_no w' da dn dm dq dt (h.pl.below hb (Nat.le_refl _)) hB (hT.below hb) gt
  have CY : Hid (loadB L S T dt = true → ∀ w', Below w.heap.size w w' → Calls Tryd.prog 17 #[v, .agg #[.int .i64 da, .int .i64 dn, .int .i64 dm, .int .i64 dq, .string (Let.mk dt)]] w' (GiveIns w' true i l L S T)) := fun hB w' hb => loaded_yes w' da dn dm dq dt (h.pl.below hb (Nat.le_refl _)) hB (hT.below hb) gt
  have HPL : Hid (∀ w', Below w.heap.size w w' → Pl w' v i l L S T) := fun w' hb => h.pl.below hb (Nat.le_refl _)
  have HTB : Hid (∀ w', Below w.heap.size w w' → Tabs w') := fun w' hb => hT.below hb
  obtain ⟨hA1, hA2, hA3⟩ := hA
  have HAS : Hid (∀ w', Below w.heap.size w w' → AskedAt w' ax A) := fun w' hb => hA3.below hb
  obtain ⟨na, hna⟩ : ∃ na, na = A.length := ⟨_, rfl⟩
  rw [← hna] at hA1 ⊢
  have HNA := Lib.hid hna
  have HN1 := Lib.hid (And.intro hA1 hA2)
  clear hna hA1 hA2 hA3
  obtain ⟨sa, sc, ta, tc, rfl, _, _⟩ := h.pl.open_
  obtain ⟨ls, hls⟩ : ∃ ls, ls = S.length := ⟨_, rfl⟩
  obtain ⟨lt, hlt⟩ : ∃ lt, lt = T.length := ⟨_, rfl⟩
  obtain ⟨W0, hW0⟩ : ∃ W0, W0 = (w.alloc (.cells #[.int .i64 i, .int .i64 l, .string (Let.mk L), .slice sa ls sc, .slice ta lt tc] 25)).alloc (.cells #[.int .i64 da, .int .i64 dn, .int .i64 dm, .int .i64 dq, .string (Let.mk dt)] 27) := ⟨_, rfl⟩
  obtain ⟨b0, r0, r1, l0⟩ := box2 w #[.int .i64 i, .int .i64 l, .string (Let.mk L), .slice sa ls sc, .slice ta lt tc] #[.int .i64 da, .int .i64 dn, .int .i64 dm, .int .i64 dq, .string (Let.mk dt)] 25 27
  rw [← hW0] at b0 r0 r1 l0
  have BX : Hid (∀ w', Below W0.heap.size W0 w' → (w'.cell? ⟨w.heap.size, 0, none⟩ = some (.int .i64 i) ∧ w'.cell? ⟨w.heap.size, 1, none⟩ = some (.int .i64 l) ∧ w'.cell? ⟨w.heap.size, 2, none⟩ = some (.string (Let.mk L)) ∧ w'.cell? ⟨w.heap.size, 3, none⟩ = some (.slice sa ls sc) ∧ w'.cell? ⟨w.heap.size, 4, none⟩ = some (.slice ta lt tc)) ∧ (w'.cell? ⟨w.heap.size + 1, 0, none⟩ = some (.int .i64 da) ∧ w'.cell? ⟨w.heap.size + 1, 1, none⟩ = some (.int .i64 dn) ∧ w'.cell? ⟨w.heap.size + 1, 2, none⟩ = some (.int .i64 dm) ∧ w'.cell? ⟨w.heap.size + 1, 3, none⟩ = some (.int .i64 dq) ∧ w'.cell? ⟨w.heap.size + 1, 4, none⟩ = some (.string (Let.mk dt)))) := fun w' hb => ⟨five_cells ((hb.block _ (by omega)).trans r0), five_cells ((hb.block _ (by omega)).trans r1)⟩
  have KB : Hid (∀ w', Below W0.heap.size W0 w' → Below w.heap.size w w') := fun w' hb => below_more b0 hb
  have HW0 := Lib.hid hW0
  simp only [← hls, ← hlt] at CN CY HPL ⊢
  have GA := Lib.hid ga
  have GM := Lib.hid gm
  have GQ := Lib.hid gq
  have h64 := And.intro ga (And.intro gm gq)
  obtain ⟨⟨ga1, ga2⟩, ⟨gm1, gm2⟩, ⟨gq1, gq2⟩⟩ := h64
  clear h b0 r0 r1 l0 hW0 hT hls hlt ga gn gm gq gt
  go_enter Tryd.func3, Tryd.ntmps3
  go_upto_region 1 with fail
  rw [← HW0.out]
  go_wp2_with fail
  refine (C1.out _ (KB.out _ (Below.refl _ _))).mono ?_
  rintro e w1 ⟨v1, rfl, o1, b1⟩
  have K1 : Below W0.heap.size W0 w1 := b1
  obtain ⟨q1, a1, d1, a2, d2, rfl, _, _, _⟩ := o1.open_
  go_wp2_with fail
  refine (C2.out _ (KB.out _ K1)).mono ?_
  rintro e w2 ⟨v2, rfl, o2, b2⟩
  have K2 : Below W0.heap.size W0 w2 := below_more K1 b2
  obtain ⟨q2, rfl⟩ := rope_ptr o2
  go_wp2_with fail
  refine (C3.out _ _ _ (o1.below b2 (Nat.le_refl _)) o2).mono ?_
  rintro e w3 ⟨v3, rfl, o3, b3⟩
  have K3 : Below W0.heap.size W0 w3 := below_more K2 b3
  obtain ⟨q3, a3, d3, a4, d4, rfl, _, _, _⟩ := o3.open_
  obtain ⟨W4, hW4⟩ : ∃ W4, W4 = w3.alloc (.cells #[.int .i64 1, .int .i64 2, .pointer q3, .slice a3 ([⟨7, 1, 2⟩] : List Sp).length d3, .slice a4 ([] : List St).length d4] 33) := ⟨_, rfl⟩
  obtain ⟨b4, r4, l4⟩ := box1 w3 #[.int .i64 1, .int .i64 2, .pointer q3, .slice a3 ([⟨7, 1, 2⟩] : List Sp).length d3, .slice a4 ([] : List St).length d4] 33
  rw [← hW4] at b4 r4 l4
  have K4 : Below W0.heap.size W0 W4 := below_more K3 b4
  have O4 : Hid (∀ w', Below W4.heap.size W4 w' → Sg w' (.agg #[.int .i64 1, .int .i64 2, .pointer q3, .slice a3 ([⟨7, 1, 2⟩] : List Sp).length d3, .slice a4 ([] : List St).length d4]) 1 2 [97, 98, 99] [⟨7, 1, 2⟩] []) := fun w' hb => (o3.below b4 (Nat.le_refl _)).below hb (Nat.le_refl _)
  have BY : Hid (∀ w', Below W4.heap.size W4 w' → w'.cell? ⟨w3.heap.size, 0, none⟩ = some (.int .i64 1) ∧ w'.cell? ⟨w3.heap.size, 1, none⟩ = some (.int .i64 2) ∧ w'.cell? ⟨w3.heap.size, 2, none⟩ = some (.pointer q3) ∧ w'.cell? ⟨w3.heap.size, 3, none⟩ = some (.slice a3 1 d3) ∧ w'.cell? ⟨w3.heap.size, 4, none⟩ = some (.slice a4 0 d4)) := fun w' hb => five_cells ((hb.block _ (by omega)).trans r4)
  have HW4 := Lib.hid hW4
  clear o1 o2 o3 b1 b2 b3 b4 r4 l4 hW4 K1 K2 K3 C1 C2 C3
  go_upto_region 2 with fail
  try simp only [List.length_nil, List.length_cons] at HW4 O4
  rw [← HW4.out]
  obtain ⟨c0, c1, c2, c3, c4⟩ := BY.out W4 (Below.refl _ _)
  go_wp2_with fail
  refine (C4.out _ _ (O4.out _ (Below.refl _ _))).mono ?_
  rintro e w5 ⟨v5, rfl, o5, b5⟩
  obtain ⟨q5, a5, d5, a6, d6, rfl, _, _, _⟩ := o5.open_
  have J5 : Below W4.heap.size W4 w5 := b5
  clear c0 c1 c2 c3 c4 b5
  go_wp2_with fail
  refine (C5.out _ _ o5).mono ?_
  rintro e w6 ⟨q6, rfl, o6, b6⟩
  have J6 : Below W4.heap.size W4 w6 := below_more J5 b6
  clear o5 b6 J5
  go_wp2_with fail
  refine (C6.out _ _ o6).mono ?_
  rintro e w7 ⟨rfl, b7⟩
  have K7 : Below W0.heap.size W0 w7 := below_more K4 (below_more J6 b7)
  clear b7 o6 J6 BY O4 C4 C5 C6 HW4 K4
  obtain ⟨⟨c0, c1, c2, c3, c4⟩, ⟨x0, x1, x2, x3, x4⟩⟩ := BX.out w7 K7
  cases hB : loadB L S T dt with
  | false =>
    have CN2 := Lib.hid (CN.out hB w7 (KB.out _ K7))
    clear CN CY hB
    go_wp2_with fail
    refine CN2.out.mono ?_
    rintro e w8 ⟨rfl, b8⟩
    have FIN := Lib.hid ((KB.out _ (below_more K7 b8)).alloc (by have := (KB.out _ (below_more K7 b8)).size; omega) (.cells #[.int .i64 0, .int .i64 0, .pointer none, .slice none 0 0, .slice none 0 0] 33))
    clear b8 K7
    go_wp2_with fail
    go_ret
    exact ⟨rfl, FIN.out⟩
  | true =>
    have hB2 := hB
    unfold loadB right5 at hB2
    rw [Bool.and_eq_true, Bool.and_eq_true, Bool.and_eq_true, Bool.and_eq_true] at hB2
    obtain ⟨hs, ⟨hrL, hmm⟩, hq, hrt⟩ := hB2
    obtain ⟨m1, m2, m3⟩ : L.length ≤ 1500 ∧ S.length ≤ 300 ∧ T.length ≤ 300 := of_decide_eq_true hs
    have m4 : dt.length ≤ 1500 := of_decide_eq_true hq
    obtain ⟨hRS, hRT⟩ := mright_of hmm
    have CH : Hid (∀ w' x, Sg w' x i l L S T → Calls Tryd.prog 18 #[x, .int .i64 dm] w' fun e w'' => e = .returned (.bool (hasB S T dm)) ∧ Below w'.heap.size w' w'') := fun w' x hx => shas_any dm w' hx GM.out (by omega) (by omega)
    have BF : Hid (0 < dm → hasB S T dm = false → First i l L dt S T da dm) := fun g1 g2 => back_first (i := i) (l := l) da dm m1 m4 m3 hRS hRT hrL hrt GA.out GM.out g1 g2
    have CY2 := Lib.hid (CY.out hB w7 (KB.out _ K7))
    have CO : Hid (∀ w', Below w.heap.size w w' → Calls Tryd.prog 13 #[.string (Let.mk dt)] w' (Con.Roped w' dt)) := fun w' hb => of5_any dt w' (by omega) hrt (HTB.out w' hb)
    have HM1 := Lib.hid (And.intro m1 (And.intro m4 hrt))
    clear CN CY hB hs hrL hmm hq hrt m1 m2 m3 m4 hRS hRT
    go_wp2_with fail
    refine CY2.out.mono ?_
    rintro e w8 ⟨v8, rfl, o8, b8⟩
    have K8 : Below W0.heap.size W0 w8 := below_more K7 b8
    obtain ⟨q8, a8, d8, a9, d9, rfl, _, _, _⟩ := o8.open_
    obtain ⟨n8, hn8⟩ : ∃ n8, n8 = S.length := ⟨_, rfl⟩
    obtain ⟨n9, hn9⟩ : ∃ n9, n9 = T.length := ⟨_, rfl⟩
    rw [← hn8, ← hn9] at o8 ⊢
    obtain ⟨W9, hW9⟩ : ∃ W9, W9 = w8.alloc (.cells #[.int .i64 i, .int .i64 l, .pointer q8, .slice a8 n8 d8, .slice a9 n9 d9] 33) := ⟨_, rfl⟩
    obtain ⟨b9, r9, l9⟩ := box1 w8 #[.int .i64 i, .int .i64 l, .pointer q8, .slice a8 n8 d8, .slice a9 n9 d9] 33
    rw [← hW9] at b9 r9 l9
    have K9 : Below W0.heap.size W0 W9 := below_more K8 b9
    have O9 : Hid (∀ w', Below W9.heap.size W9 w' → Sg w' (.agg #[.int .i64 i, .int .i64 l, .pointer q8, .slice a8 n8 d8, .slice a9 n9 d9]) i l L S T) := fun w' hb => (o8.below b9 (Nat.le_refl _)).below hb (Nat.le_refl _)
    have BY : Hid (∀ w', Below W9.heap.size W9 w' → Below W9.heap.size W9 w' ∧ (w'.cell? ⟨w8.heap.size, 0, none⟩ = some (.int .i64 i) ∧ w'.cell? ⟨w8.heap.size, 1, none⟩ = some (.int .i64 l) ∧ w'.cell? ⟨w8.heap.size, 2, none⟩ = some (.pointer q8) ∧ w'.cell? ⟨w8.heap.size, 3, none⟩ = some (.slice a8 n8 d8) ∧ w'.cell? ⟨w8.heap.size, 4, none⟩ = some (.slice a9 n9 d9)) ∧ (w'.cell? ⟨w.heap.size + 1, 0, none⟩ = some (.int .i64 da) ∧ w'.cell? ⟨w.heap.size + 1, 2, none⟩ = some (.int .i64 dm) ∧ w'.cell? ⟨w.heap.size + 1, 3, none⟩ = some (.int .i64 dq) ∧ w'.cell? ⟨w.heap.size + 1, 4, none⟩ = some (.string (Let.mk dt)))) := fun w' hb => by
      obtain ⟨_, y0, _, y2, y3, y4⟩ := BX.out w' (below_more K9 hb)
      exact ⟨hb, five_cells ((hb.block _ (by omega)).trans r9), y0, y2, y3, y4⟩
    have KK : Hid (∀ w', Below W9.heap.size W9 w' → Below W0.heap.size W0 w') := fun w' hb => below_more K9 hb
    have HW9 := Lib.hid hW9
    have KR := Lib.hid (Below.refl W9.heap.size W9)
    clear o8 b8 b9 r9 l9 hW9 K7 K8 K9 CY2 hn8 hn9 c0 c1 c2 c3 c4 x0 x1 x2 x3 x4
    go_upto_region 5 with fail
    rw [← HW9.out]
    obtain ⟨⟨c0, c1, c2, c3, c4⟩, ⟨x0, x1, x2, x3, x4⟩⟩ := BX.out W9 (KK.out _ KR.out)
    obtain ⟨_, ⟨e0, e1, e2, e3, e4⟩, _⟩ := BY.out W9 KR.out
    have F9 := Lib.hid (KB.out _ (KK.out _ KR.out))
    by_cases hdm : dm ≤ 0
    · have g1 : decide (dm ≤ 0) = true := decide_eq_true hdm
      clear BF CH CO BY BX
      go_wp2_with fail
      go_ret
      exact ⟨rfl, F9.out⟩
    have g1 : decide (dm ≤ 0) = false := decide_eq_false hdm
    cases hh : hasB S T dm with
    | true =>
      rw [hh] at CH
      clear BF
      go_wp2_with fail
      refine (CH.out _ _ (O9.out _ KR.out)).mono ?_
      rintro e w10 ⟨rfl, b10⟩
      have F10 := Lib.hid (below_more F9.out b10)
      clear b10
      go_wp2_with fail
      go_ret
      exact ⟨rfl, F10.out⟩
    | false =>
    obtain ⟨L2, S2, T2, PA, PB, PN1, PN2, PU⟩ := BF.out (by omega) hh
    rw [hh] at CH
    have PA' := Lib.hid PA
    have HBK := Lib.hid PB
    have PC' : Hid (∀ s ∈ T2, 0 < s.m) := RT_pos PB.rt
    have HN2 := Lib.hid (And.intro PN1 (And.intro PN2 PU))
    clear BF hh PA PB PN1 PN2 PU F9
    go_wp2_with fail
    refine (CH.out _ _ (O9.out _ KR.out)).mono ?_
    rintro e wg ⟨rfl, b10⟩
    have J10 : Below W9.heap.size W9 wg := b10
    clear b10 c0 c1 c2 c3 c4 x0 x1 x2 x3 x4 e0 e1 e2 e3 e4 CH
    replace BY : Hid (∀ w', Below wg.heap.size wg w' → Below wg.heap.size wg w' ∧ _) := fun w' hb => ⟨hb, (BY.out w' (below_more J10 hb)).2⟩
    replace O9 : Hid (∀ w', Below wg.heap.size wg w' → Sg w' _ i l L S T) := fun w' hb => O9.out w' (below_more J10 hb)
    replace KK : Hid (∀ w', Below wg.heap.size wg w' → Below W0.heap.size W0 w') := fun w' hb => KK.out w' (below_more J10 hb)
    replace KR := Lib.hid (Below.refl wg.heap.size wg)
    clear J10
    go_upto_region 7 with fail
    go_cut [11, 12] from 47 to 58 (fun x y wx => ∃ (NB : Nat) (q a3 : Option Addr) (d3 : Nat) (a4 : Option Addr) (d4 : Nat), x = .pointer (some ⟨NB, 0, none⟩) ∧ y = .bool true ∧ Hid (FilledS wg wx NB i l L2 S2 T2 q a3 d3 a4 d4))
    case first =>
      obtain ⟨_, ⟨c0, c1, c2, c3, c4⟩, x0, x2, x3, x4⟩ := BY.out wg KR.out
      go_region_held3 (fun w' => Below wg.heap.size wg w' ∧ (w'.cell? ⟨w8.heap.size, 0, none⟩ = some (.int .i64 i) ∧ w'.cell? ⟨w8.heap.size, 1, none⟩ = some (.int .i64 l) ∧ w'.cell? ⟨w8.heap.size, 2, none⟩ = some (.pointer q8) ∧ w'.cell? ⟨w8.heap.size, 3, none⟩ = some (.slice a8 n8 d8) ∧ w'.cell? ⟨w8.heap.size, 4, none⟩ = some (.slice a9 n9 d9)) ∧ (w'.cell? ⟨w.heap.size + 1, 0, none⟩ = some (.int .i64 da) ∧ w'.cell? ⟨w.heap.size + 1, 2, none⟩ = some (.int .i64 dm) ∧ w'.cell? ⟨w.heap.size + 1, 3, none⟩ = some (.int .i64 dq) ∧ w'.cell? ⟨w.heap.size + 1, 4, none⟩ = some (.string (Let.mk dt))))
        ((refine BY.out _ ?_; focus ((repeat first | assumption | exact KR.out | apply Below.drew | apply below_drews | (refine Below.alloc ?_ ?_ _; focus (first | assumption | exact KR.out | exact Nat.le_refl _)) | exact Nat.le_refl _ | (refine below_put ?_ (by first | assumption | omega) _)); done)))
        (first
          | (go_at_call 13; (with_reducible refine (CO.out _ (KB.out _ (KK.out _ ?_))).mono ?_); (focus ((repeat first | assumption | exact KR.out | apply Below.drew | apply below_drews | (refine Below.alloc ?_ ?_ _; focus (first | assumption | exact KR.out | exact Nat.le_refl _)) | exact Nat.le_refl _); done)); rintro e w10 ⟨v10, rfl, o10, b10⟩; obtain ⟨q10, rfl⟩ := rope_ptr o10; have j10 := fun h => below_more (B := wg.heap.size) (w := wg) h b10; replace j10 := j10 (by (repeat first | assumption | exact KR.out | apply Below.drew | apply below_drews | (refine Below.alloc ?_ ?_ _; focus (first | assumption | exact KR.out | exact Nat.le_refl _)) | exact Nat.le_refl _)); have y10 := j10.size; first | (have zN := ZM.below zN b10) | (have zN := fun hk => zm_new (W := wg) hk b10; replace zN := zN (by (repeat first | assumption | exact KR.out | apply Below.drew | apply below_drews | (refine Below.alloc ?_ ?_ _; focus (first | assumption | exact KR.out | exact Nat.le_refl _)) | exact Nat.le_refl _))) | (have zN := fun hk => zm_newd (W := wg) hk b10; replace zN := zN (by (repeat first | assumption | exact KR.out | apply Below.drew | apply below_drews | (refine Below.alloc ?_ ?_ _; focus (first | assumption | exact KR.out | exact Nat.le_refl _)) | exact Nat.le_refl _))) | skip)
          | (go_at_call 12; (with_reducible refine (PA'.out _ _ _ (O9.out _ ?_) ?_).mono ?_); (focus ((repeat first | assumption | exact KR.out | apply Below.drew | apply below_drews | (refine Below.alloc ?_ ?_ _; focus (first | assumption | exact KR.out | exact Nat.le_refl _)) | exact Nat.le_refl _); done)); (focus (first | exact o10 | exact Con.IsRope.below o10 ((Below.refl _ _).alloc (Nat.le_refl _) _) (Nat.le_refl _))); rintro e w11 ⟨v11, rfl, o11, b11⟩; obtain ⟨q11, a11, d11, a12, d12, rfl, g2, g3, g4⟩ := o11.open_; have j11 := fun h => below_more (B := wg.heap.size) (w := wg) h b11; replace j11 := j11 (by (repeat first | assumption | exact KR.out | apply Below.drew | apply below_drews | (refine Below.alloc ?_ ?_ _; focus (first | assumption | exact KR.out | exact Nat.le_refl _)) | exact Nat.le_refl _)); have y11 := j11.size; first | (have zN := ZM.below zN b11; have FN := fin_seg (i := i) (l := l) zN g2 g3 g4 PC'.out j11; obtain ⟨z0, z1, z2, z3, z4⟩ := five_cells zN.z; obtain ⟨f0, f1, f2, f3, f4⟩ := five_free zN.z; have s6 := zN.s) | (have zN := fun hk => zm_new (W := wg) hk b11; replace zN := zN (by (repeat first | assumption | exact KR.out | apply Below.drew | apply below_drews | (refine Below.alloc ?_ ?_ _; focus (first | assumption | exact KR.out | exact Nat.le_refl _)) | exact Nat.le_refl _)); have FN := fin_seg (i := i) (l := l) zN g2 g3 g4 PC'.out j11; obtain ⟨z0, z1, z2, z3, z4⟩ := five_cells zN.z; obtain ⟨f0, f1, f2, f3, f4⟩ := five_free zN.z; have s6 := zN.s) | (have FN := fin_sega (i := i) (l := l) g2 g3 g4 j11)))
      all_goals go_wp2_with fail
      all_goals go_meet
      all_goals exact ⟨_, _, _, _, _, _, rfl, rfl, FN⟩
    case rest =>
      obtain ⟨NB, q, a3, d3, a4, d4, rfl, rfl, HF⟩ := hcut
      obtain ⟨R6, O6, J6, N6⟩ := HF.out
      have HNB : Hid (W0.heap.size ≤ NB) := Nat.le_trans (KK.out _ KR.out).size N6
      have LP0 : Hid (LP NB W0 i l dm (Let.cnt dt) L 0 L2 S2 T2 q a3 S2.length d3 a4 T2.length d4 wc) := ⟨R6, O6, HBK.out, by have := HN2.out.1; omega, HN2.out.2.1, fun _ => HN2.out.2.2, KK.out _ J6⟩
      obtain ⟨n3, hn3⟩ : ∃ n, n = S2.length := ⟨_, rfl⟩
      obtain ⟨n4, hn4⟩ : ∃ n, n = T2.length := ⟨_, rfl⟩
      rw [← hn3, ← hn4] at LP0
      have HCX : Hid (cx ≤ 9223372036854775807) := by have := HN1.out.2; unfold maxLen at this; exact this
      have hnc := HN1.out.1
      have hcx := HCX.out
      clear hn3 hn4 HF J6 PA' CO R6 O6 N6 HBK PC' HN2 BY O9 KK KR HW0 HPL g1
      go_upto_block 0 with fail
      go_cut [] (fun wx => ∃ (j : Nat) (L2 : Bytes) (S2 : List Sp) (T2 : List St) (q a3 : Option Addr) (n3 d3 : Nat) (a4 : Option Addr) (n4 d4 : Nat), j ≤ na ∧ j ≤ 30 ∧ (j = 0 → na = 0) ∧ Hid (LP NB W0 i l dm (Let.cnt dt) L j L2 S2 T2 q a3 n3 d3 a4 n4 d4 wx))
      case first =>
        go_wp2_with fail
        go_loopg [63] na (fun g iv wr => ∃ (j : Nat) (L2 : Bytes) (S2 : List Sp) (T2 : List St) (q a3 : Option Addr) (n3 d3 : Nat) (a4 : Option Addr) (n4 d4 : Nat), iv = .int .i64 j ∧ j ≤ na ∧ j ≤ 30 ∧ na - j ≤ g ∧ Hid (LP NB W0 i l dm (Let.cnt dt) L j L2 S2 T2 q a3 n3 d3 a4 n4 d4 wr))
        case atStart => exact ⟨0, _, _, _, _, _, _, _, _, _, _, rfl, Nat.zero_le _, Nat.zero_le _, Nat.le_refl _, LP0⟩
        case round =>
          obtain ⟨j, L2, S2, T2, q, a3, n3, d3, a4, n4, d4, rfl, hj, hj30, hg, HL⟩ := hrel
          have HKW := Lib.hid (KB.out _ HL.out.kb)
          by_cases hlt : j < na
          · have hjA : j < A.length := by rw [← HNA.out]; exact hlt
            obtain ⟨b, off, rfl, hb, hD⟩ : ∃ b off, ax = some ⟨b, off, none⟩ ∧ b < wr.heap.size ∧ DeedsAt wr b off A := by
              rcases HAS.out _ HKW.out with hA | hA
              · rw [hA] at hjA; simp at hjA
              · exact hA
            obtain ⟨g, c0, c1, c2, c3, c4⟩ := hD j hjA
            generalize A[j] = x at *
            obtain ⟨xa, xn, xm, xq, xt⟩ := x
            obtain ⟨⟨xa1, xa2⟩, _, ⟨xm1, xm2⟩, _, xt1⟩ := g
            simp only at xa1 xa2 xm1 xm2 xt1 c0 c1 c2 c3 c4
            unfold maxLen at xt1
            obtain ⟨B1, R1, l1⟩ := box1 wr #[.int .i64 xa, .int .i64 xn, .int .i64 xm, .int .i64 xq, .string (Let.mk xt)] 27
            obtain ⟨W1, hW1⟩ : ∃ W1, W1 = wr.alloc (.cells #[.int .i64 xa, .int .i64 xn, .int .i64 xm, .int .i64 xq, .string (Let.mk xt)] 27) := ⟨_, rfl⟩
            rw [← hW1] at B1 R1 l1
            have HL1 := Lib.hid (HL.out.below B1)
            have HW1 := Lib.hid hW1
            have HR1 := Lib.hid R1
            have HNN : Hid (NB < wr.heap.size) := row_lt HL.out.r
            have ms : (Let.mk xt).size = xt.length := Let.mk_size xt
            have i0 : (0 : Int) ≤ (j : Int) := by omega
            have i1 : (j : Int) < (na : Int) := by omega
            have KD : Hid (∀ w', Below W1.heap.size W1 w' → Below w.heap.size w w') := fun w' hb => below_more (below_more HKW.out B1) hb
            obtain ⟨x0, x1, x2, x3, x4⟩ := five_cells R1
            obtain ⟨_, ⟨k0, k1, k2, k3, k4⟩⟩ := BX.out _ HL1.out.kb
            clear hW1 R1 B1 l1 hD
            by_cases h30 : j = 30
            · subst h30
              go_wp2_with fail
              rw [← HW1.out]
              go_meet
              exact ⟨30, _, _, _, _, _, _, _, _, _, _, hj, Nat.le_refl _, by omega, HL1⟩
            · have z30 : ((j : Int) == 30) = false := by rw [beq_eq_false_iff_ne]; omega
              go_upto_region 14 with fail
              rw [← HW1.out]
              by_cases hx : xt.length ≤ 100
              · have d1 : decide (100 < (xt.length : Int)) = false := decide_eq_false (by omega)
                have CR : Hid (∀ w', Calls Tryd.prog 19 #[.string (Let.mk xt)] w' fun e w'' => e = .returned (.bool (Let.right xt)) ∧ w' = w'') := fun w' => right1_any xt w' (by unfold maxLen; omega)
                cases hr : Let.right xt with
                | false =>
                  rw [hr] at CR
                  go_wp2_with fail
                  refine (CR.out _).mono ?_
                  rintro e w5 ⟨rfl, rfl⟩
                  go_wp2_with fail
                  go_roundg (na - (j + 1))
                  case measure => omega
                  case rel => exact ⟨j + 1, _, _, _, _, _, _, _, _, _, _, by go_num, by omega, by omega, Nat.le_refl _, Lib.hid HL1.out.more⟩
                | true =>
                  rw [hr] at CR
                  by_cases hm : xm = dm
                  · subst hm
                    go_wp2_with fail
                    refine (CR.out _).mono ?_
                    rintro e w5 ⟨rfl, rfl⟩
                    go_wp2_with fail
                    go_roundg (na - (j + 1))
                    case measure => omega
                    case rel => exact ⟨j + 1, _, _, _, _, _, _, _, _, _, _, by go_num, by omega, by omega, Nat.le_refl _, Lib.hid HL1.out.more⟩
                  · have zm : (xm == dm) = false := by rw [beq_eq_false_iff_ne]; exact hm
                    obtain ⟨L3, S3, T3, PI, PBK, PLn, PTn⟩ := back_next (i := i) (l := l) xa xm HL.out.bk (by have := HL.out.bl; omega) hx HL.out.bt hr ⟨xa1, xa2⟩ ⟨xm1, xm2⟩ hm
                    have PI' := Lib.hid PI
                    have PB' := Lib.hid (And.intro PBK (And.intro PLn PTn))
                    have CO : Hid (∀ w', Below w.heap.size w w' → Calls Tryd.prog 13 #[.string (Let.mk xt)] w' (Con.Roped w' xt)) := fun w' hb => of5_any xt w' (by omega) hr (HTB.out w' hb)
                    have FN : Hid (∀ w', Below W1.heap.size W1 w' → w'.heap[NB]? = some (.cells #[.int .i64 i, .int .i64 l, .pointer q, .slice a3 n3 d3, .slice a4 n4 d4] 33 (0, 0))) := fun w' hb => (hb.block _ (row_lt HL1.out.r)).trans HL1.out.r
                    have O1 : Hid (∀ w', Below W1.heap.size W1 w' → Sg w' (.agg #[.int .i64 i, .int .i64 l, .pointer q, .slice a3 n3 d3, .slice a4 n4 d4]) i l L2 S2 T2) := fun w' hb => HL1.out.o.below hb (Nat.le_refl _)
                    have DN : Hid (∀ w', Below W1.heap.size W1 w' → w'.cell? ⟨wr.heap.size, 0, none⟩ = some (.int .i64 xa) ∧ w'.cell? ⟨wr.heap.size, 2, none⟩ = some (.int .i64 xm) ∧ w'.cell? ⟨wr.heap.size, 4, none⟩ = some (.string (Let.mk xt))) := fun w' hb => by
                      obtain ⟨y0, _, y2, _, y4⟩ := five_cells ((hb.block _ (row_lt HR1.out)).trans HR1.out)
                      exact ⟨y0, y2, y4⟩
                    have KS := Lib.hid (Below.refl W1.heap.size W1)
                    have HBL := Lib.hid (And.intro HL.out.bl HL1.out.kb)
                    clear PI PBK PLn PTn
                    go_wp2_with fail
                    refine (CR.out _).mono ?_
                    rintro e w5 ⟨rfl, rfl⟩
                    go_upto_region 15 with fail
                    obtain ⟨e0, e1, e2, e3, e4⟩ := five_cells (FN.out _ KS.out)
                    clear k0 k1 k2 k3 k4 c0 c1 c2 c3 c4 x0 x1 x2 x3 x4 CR
                    obtain ⟨y0, y2, y4⟩ := DN.out _ KS.out
                    go_region_with (first
                        | (go_at_call 13; (with_reducible refine (CO.out _ (KD.out _ ?_)).mono ?_); (focus ((repeat first | with_reducible assumption | with_reducible exact KS.out | with_reducible apply Below.drew | with_reducible apply below_drews); done)); rintro e w10 ⟨v10, rfl, o10, b10⟩; obtain ⟨q10, rfl⟩ := rope_ptr o10; have jj10 := fun h => below_more (B := W1.heap.size) (w := W1) h b10; replace jj10 := jj10 (by (repeat first | with_reducible assumption | with_reducible exact KS.out | with_reducible apply Below.drew | with_reducible apply below_drews)); obtain ⟨p0, p1, p2, p3, p4⟩ := five_cells (FN.out _ jj10); obtain ⟨r0, r2, r4⟩ := DN.out _ jj10)
                        | (go_at_call 12; (with_reducible refine (PI'.out _ _ _ (O1.out _ ?_) ?_).mono ?_); (focus ((repeat first | with_reducible assumption | with_reducible exact KS.out | with_reducible apply Below.drew | with_reducible apply below_drews); done)); (focus (first | exact o10 | exact Con.IsRope.below o10 (Below.refl _ _).drew (Nat.le_refl _))); rintro e w11 ⟨v11, rfl, o11, b11⟩; obtain ⟨q11, a7, d7, a8, d8, rfl, _, _, _⟩ := o11.open_; have jj11 := fun h => below_more (B := W1.heap.size) (w := W1) h b11; replace jj11 := jj11 (by (repeat first | with_reducible assumption | with_reducible exact KS.out | with_reducible apply Below.drew | with_reducible apply below_drews)); have R11 := FN.out _ jj11; obtain ⟨m0, m1, m2, m3, m4⟩ := five_cells R11; obtain ⟨f0, f1, f2, f3, f4⟩ := five_free R11; have UF := Lib.hid (LP.put (j := j) (L := L) HNB.out R11 (ptr_ni _) (sl_ni _ _ _) (sl_ni _ _ _) o11 PB'.out.1 (by have := PB'.out.2.1; have := HBL.out.1; omega) PB'.out.2.2 (below_more HBL.out.2 jj11))))
                    all_goals go_wp2_with fail
                    all_goals go_roundg (na - (j + 1))
                    all_goals first
                      | omega
                      | exact ⟨j + 1, _, _, _, _, _, _, _, _, _, _, by go_num, by omega, by omega, Nat.le_refl _, UF⟩
                      | exact ⟨j + 1, _, _, _, _, _, _, _, _, _, _, by go_num, by omega, by omega, Nat.le_refl _, Lib.hid (UF.out.below (Below.refl _ _).drew)⟩
              · have d1 : decide (100 < (xt.length : Int)) = true := decide_eq_true (by omega)
                go_wp2_with fail
                go_roundg (na - (j + 1))
                case measure => omega
                case rel => exact ⟨j + 1, _, _, _, _, _, _, _, _, _, _, by go_num, by omega, by omega, Nat.le_refl _, Lib.hid HL1.out.more⟩
          · obtain rfl : j = na := by omega
            have i1 : ¬ ((j : Int) < (j : Int)) := by omega
            go_wp2_with fail
            go_meet
            exact ⟨j, _, _, _, _, _, _, _, _, _, _, Nat.le_refl _, hj30, fun h => h, HL⟩
      case rest =>
        obtain ⟨j, L2, S2, T2, q, a3, n3, d3, a4, n4, d4, hj, hj30, hj0, HL⟩ := hcut
        have hlen : L2.length ≤ 6000 := by have := HL.out.bl; omega
        have hcl := Let.cnt_len L2
        obtain ⟨S3, T3, PU, PH, PL3, PS3, PT3, PC⟩ := back_undone (i := i) (l := l) HL.out.bk (by omega) HL.out.bt GM.out
        have HUN : Hid (na = 0 → unL L2 (ofS S2 dm) = L) := fun e => HL.out.un (by omega)
        obtain ⟨L3, hL3⟩ : ∃ L3, L3 = unL L2 (ofS S2 dm) := ⟨_, rfl⟩
        rw [← hL3] at PU PL3 PC HUN
        have PU' := Lib.hid PU
        have PH' := Lib.hid PH
        have hcd := Let.cnt_len dt
        have z1 : IntKind.i64.wrap ((Let.cnt L2 : Int) - (Let.cnt dt : Int)) = (Let.cnt L3 : Int) := by
          rw [PC]
          have := HM1.out.2.1
          exact IntWalk.i64_in _ (by omega)
        have HP3 := Lib.hid (And.intro PL3 (And.intro PS3 PT3))
        have SC : Hid (∀ w', Below wc.heap.size wc w' → Sg w' (.agg #[.int .i64 i, .int .i64 l, .pointer q, .slice a3 n3 d3, .slice a4 n4 d4]) i l L2 S2 T2) := fun w' hb => HL.out.o.below hb (Nat.le_refl _)
        have CRo : Hid (∀ w', Below wc.heap.size wc w' → Calls Tryd.prog 15 #[(.agg #[.int .i64 i, .int .i64 l, .pointer q, .slice a3 n3 d3, .slice a4 n4 d4])] w' fun e w'' => ∃ q, e = .returned (.pointer q) ∧ IsRope w'' L2 (.pointer q) ∧ Below w'.heap.size w' w'') := fun w' hb => rope_any w' (SC.out w' hb)
        have BC : Hid (∀ w', Below wc.heap.size wc w' → (w'.cell? ⟨NB, 0, none⟩ = some (.int .i64 i) ∧ w'.cell? ⟨NB, 1, none⟩ = some (.int .i64 l) ∧ w'.cell? ⟨NB, 2, none⟩ = some (.pointer q) ∧ w'.cell? ⟨NB, 3, none⟩ = some (.slice a3 n3 d3) ∧ w'.cell? ⟨NB, 4, none⟩ = some (.slice a4 n4 d4)) ∧ w'.cell? ⟨w.heap.size + 1, 2, none⟩ = some (.int .i64 dm) ∧ Below W0.heap.size W0 w') := fun w' hb => ⟨five_cells ((hb.block _ (row_lt HL.out.r)).trans HL.out.r), (BX.out _ (below_more HL.out.kb hb)).2.2.2.1, below_more HL.out.kb hb⟩
        have KW := Lib.hid (Below.refl wc.heap.size wc)
        obtain ⟨⟨k0, k1, k2, k3, k4⟩, x2, _⟩ := BC.out _ KW.out
        clear PU PH PC PL3 PS3 PT3 hL3 hj0 HL hlen hcl hcd
        go_wp2_with fail
        refine (CRo.out _ KW.out).mono ?_
        rintro e w11 ⟨q11, rfl, o11, b11⟩
        have K11 : Hid (Below wc.heap.size wc w11) := b11
        have CLn := Lib.hid (rlen_is w11 o11)
        clear o11 b11 k0 k1 k2 k3 k4 x2 CRo
        go_wp2_with fail
        refine CLn.out.mono ?_
        rintro e w12 ⟨rfl, rfl⟩
        obtain ⟨⟨k0, k1, k2, k3, k4⟩, x2, _⟩ := BC.out _ K11.out
        go_wp2_with fail
        refine (PU'.out _ _ (SC.out _ K11.out)).mono ?_
        rintro e w13 ⟨v13, rfl, o13, b13⟩
        obtain ⟨q13, a13, d13, a15, d15, rfl, _, _, _⟩ := o13.open_
        obtain ⟨n13, hn13⟩ : ∃ n, n = S3.length := ⟨_, rfl⟩
        obtain ⟨n15, hn15⟩ : ∃ n, n = T3.length := ⟨_, rfl⟩
        rw [← hn13, ← hn15] at o13 ⊢
        obtain ⟨W14, hW14⟩ : ∃ W14, W14 = w13.alloc (.cells #[.int .i64 i, .int .i64 l, .pointer q13, .slice a13 n13 d13, .slice a15 n15 d15] 33) := ⟨_, rfl⟩
        obtain ⟨b14, r14, l14⟩ := box1 w13 #[.int .i64 i, .int .i64 l, .pointer q13, .slice a13 n13 d13, .slice a15 n15 d15] 33
        rw [← hW14] at b14 r14 l14
        have J14 := below_more K11.out (below_more b13 b14)
        have K14 := (BC.out _ J14).2.2
        have O14 : Hid (∀ w', Below W14.heap.size W14 w' → Sg w' (.agg #[.int .i64 i, .int .i64 l, .pointer q13, .slice a13 n13 d13, .slice a15 n15 d15]) i l L3 S3 T3) := fun w' hb => (o13.below b14 (Nat.le_refl _)).below hb (Nat.le_refl _)
        have BZ : Hid (∀ w', Below W14.heap.size W14 w' → Below W14.heap.size W14 w' ∧ (w'.cell? ⟨w13.heap.size, 0, none⟩ = some (.int .i64 i) ∧ w'.cell? ⟨w13.heap.size, 1, none⟩ = some (.int .i64 l) ∧ w'.cell? ⟨w13.heap.size, 2, none⟩ = some (.pointer q13) ∧ w'.cell? ⟨w13.heap.size, 3, none⟩ = some (.slice a13 n13 d13) ∧ w'.cell? ⟨w13.heap.size, 4, none⟩ = some (.slice a15 n15 d15)) ∧ w'.cell? ⟨w.heap.size + 1, 2, none⟩ = some (.int .i64 dm) ∧ w'.cell? ⟨w.heap.size + 1, 4, none⟩ = some (.string (Let.mk dt)) ∧ w'.cell? ⟨w.heap.size, 2, none⟩ = some (.string (Let.mk L))) := fun w' hb => by
          obtain ⟨⟨_, _, y2, _, _⟩, ⟨_, _, z2, _, z4⟩⟩ := BX.out _ (below_more K14 hb)
          exact ⟨hb, five_cells ((hb.block _ (row_lt r14)).trans r14), z2, z4, y2⟩
        have KF : Hid (∀ w', Below W14.heap.size W14 w' → Below w.heap.size w w') := fun w' hb => KB.out _ (below_more K14 hb)
        have CHB : Hid (∀ w', Below W14.heap.size W14 w' → Calls Tryd.prog 18 #[(.agg #[.int .i64 i, .int .i64 l, .pointer q13, .slice a13 n13 d13, .slice a15 n15 d15]), .int .i64 dm] w' fun e w'' => e = .returned (.bool false) ∧ Below w'.heap.size w' w'') := fun w' hb => by
          have := shas_any dm w' (O14.out w' hb) GM.out (by have := HP3.out.2.1; omega) (by have := HP3.out.2.2; omega)
          rwa [PH'.out] at this
        have CRB : Hid (∀ w', Below W14.heap.size W14 w' → Calls Tryd.prog 15 #[(.agg #[.int .i64 i, .int .i64 l, .pointer q13, .slice a13 n13 d13, .slice a15 n15 d15])] w' fun e w'' => ∃ q, e = .returned (.pointer q) ∧ IsRope w'' L3 (.pointer q) ∧ Below w'.heap.size w' w'') := fun w' hb => rope_any w' (O14.out w' hb)
        have CCT : Hid (∀ w', Calls Tryd.prog 21 #[.string (Let.mk dt)] w' fun e w'' => e = .returned (.int .i64 (Let.cnt dt)) ∧ Below w'.heap.size w' w'') := fun w' => count1_any dt w' (by have := HM1.out.2.1; omega)
        have CTX : Hid (∀ w' u, IsRope w' L3 u → Calls Tryd.prog 16 #[u] w' fun e w'' => e = .returned (.string (Let.mk L3)) ∧ Below w'.heap.size w' w'') := fun w' u hu => Con.text_is w' hu (by have := HP3.out.1; omega)
        have HW14 := Lib.hid hW14
        have KZ := Lib.hid (Below.refl W14.heap.size W14)
        obtain ⟨_, ⟨e0, e1, e2, e3, e4⟩, x2', x4, c2⟩ := BZ.out _ KZ.out
        clear o13 b13 b14 r14 l14 hW14 J14 K14 hn13 hn15 k0 k1 k2 k3 k4 x2 CLn SC PU' BC BX KB O14
        go_upto_region 19 with fail
        rw [← HW14.out]
        by_cases hz : na = 0
        · have g3 : decide (0 < (na : Int)) = false := decide_eq_false (by omega)
          have g4 : decide (0 < na) = false := decide_eq_false (by omega)
          have CTX : Hid (∀ w' u, IsRope w' L3 u → Calls Tryd.prog 16 #[u] w' fun e w'' => e = .returned (.string (Let.mk L)) ∧ Below w'.heap.size w' w'') := fun w' u hu => by have := CTX.out w' u hu; rwa [HUN.out hz] at this
          go_region_held3 (fun w' => Below W14.heap.size W14 w' ∧ (w'.cell? ⟨w13.heap.size, 0, none⟩ = some (.int .i64 i) ∧ w'.cell? ⟨w13.heap.size, 1, none⟩ = some (.int .i64 l) ∧ w'.cell? ⟨w13.heap.size, 2, none⟩ = some (.pointer q13) ∧ w'.cell? ⟨w13.heap.size, 3, none⟩ = some (.slice a13 n13 d13) ∧ w'.cell? ⟨w13.heap.size, 4, none⟩ = some (.slice a15 n15 d15)) ∧ w'.cell? ⟨w.heap.size + 1, 2, none⟩ = some (.int .i64 dm) ∧ w'.cell? ⟨w.heap.size + 1, 4, none⟩ = some (.string (Let.mk dt)) ∧ w'.cell? ⟨w.heap.size, 2, none⟩ = some (.string (Let.mk L)))
            ((refine BZ.out _ ?_; focus ((repeat first | with_reducible assumption | with_reducible exact KZ.out | with_reducible apply Below.drew | with_reducible apply below_drews); done)))
            (first
          | (go_at_call 18; (with_reducible refine (CHB.out _ ?_).mono ?_); (focus ((repeat first | with_reducible assumption | with_reducible exact KZ.out | with_reducible apply Below.drew | with_reducible apply below_drews); done)); rintro e w19 ⟨rfl, b19⟩; have jj19 := fun h => below_more (B := W14.heap.size) (w := W14) h b19; replace jj19 := jj19 (by (repeat first | with_reducible assumption | with_reducible exact KZ.out | with_reducible apply Below.drew | with_reducible apply below_drews)))
          | (go_at_call 15; (with_reducible refine (CRB.out _ ?_).mono ?_); (focus ((repeat first | with_reducible assumption | with_reducible exact KZ.out | with_reducible apply Below.drew | with_reducible apply below_drews); done)); rintro e w20 ⟨q20, rfl, o20, b20⟩; have jj20 := fun h => below_more (B := W14.heap.size) (w := W14) h b20; replace jj20 := jj20 (by (repeat first | with_reducible assumption | with_reducible exact KZ.out | with_reducible apply Below.drew | with_reducible apply below_drews)); have KS20 := Lib.hid (Below.refl w20.heap.size w20); have HO20 : Hid (∀ w', Below w20.heap.size w20 w' → IsRope w' L3 (.pointer q20)) := (fun w' hb => o20.below hb (Nat.le_refl _)))
          | (go_at_call 20; (with_reducible refine (rlen_is _ (HO20.out _ ?_)).mono ?_); (focus ((repeat first | with_reducible assumption | with_reducible exact KZ.out | with_reducible exact KS20.out | with_reducible apply Below.drew | with_reducible apply below_drews); done)); rintro e w21 ⟨rfl, rfl⟩)
          | (go_at_call 21; (with_reducible refine (CCT.out _).mono ?_); rintro e w22 ⟨rfl, b22⟩; have jj22 := fun h => below_more (B := W14.heap.size) (w := W14) h b22; replace jj22 := jj22 (by (repeat first | with_reducible assumption | with_reducible exact KZ.out | with_reducible apply Below.drew | with_reducible apply below_drews)); (try (refine have mm20 : Below w20.heap.size w20 w22 := ?_; ?_; focus (refine below_more ?_ b22; (repeat first | with_reducible assumption | with_reducible exact KZ.out | with_reducible exact KS20.out | with_reducible apply Below.drew | with_reducible apply below_drews); done))))
          | (go_at_call 16; (with_reducible refine (CTX.out _ _ (HO20.out _ ?_)).mono ?_); (focus ((repeat first | with_reducible assumption | with_reducible exact KZ.out | with_reducible exact KS20.out | with_reducible apply Below.drew | with_reducible apply below_drews); done)); rintro e w23 ⟨rfl, b23⟩; have jj23 := fun h => below_more (B := W14.heap.size) (w := W14) h b23; replace jj23 := jj23 (by (repeat first | with_reducible assumption | with_reducible exact KZ.out | with_reducible apply Below.drew | with_reducible apply below_drews))))
          all_goals go_wp2_with fail
          all_goals go_ret
          all_goals exact ⟨ret_bool (by simp), KF.out _ (by (repeat first | with_reducible assumption | with_reducible exact KZ.out | with_reducible apply Below.drew | with_reducible apply below_drews))⟩
        · have g3 : decide (0 < (na : Int)) = true := decide_eq_true (by omega)
          have g4 : decide (0 < na) = true := decide_eq_true (by omega)
          clear CTX
          refine wp_region_held_drew (S := fun w' => Below W14.heap.size W14 w' ∧ (w'.cell? ⟨w13.heap.size, 0, none⟩ = some (.int .i64 i) ∧ w'.cell? ⟨w13.heap.size, 1, none⟩ = some (.int .i64 l) ∧ w'.cell? ⟨w13.heap.size, 2, none⟩ = some (.pointer q13) ∧ w'.cell? ⟨w13.heap.size, 3, none⟩ = some (.slice a13 n13 d13) ∧ w'.cell? ⟨w13.heap.size, 4, none⟩ = some (.slice a15 n15 d15)) ∧ w'.cell? ⟨w.heap.size + 1, 2, none⟩ = some (.int .i64 dm) ∧ w'.cell? ⟨w.heap.size + 1, 4, none⟩ = some (.string (Let.mk dt)) ∧ w'.cell? ⟨w.heap.size, 2, none⟩ = some (.string (Let.mk L))) (by kernel_rfl) ?_ (fun hHeld => ?_)
          focus ((try dsimp only); (refine BZ.out _ ?_; focus ((repeat first | with_reducible assumption | with_reducible exact KZ.out | with_reducible apply Below.drew | with_reducible apply below_drews); done)); done)
          refine' wpAnyH_take (i := 0) (v := _) rfl (by kernel_rfl) (by kernel_rfl) (by kernel_rfl) (fun _ _ _ h => h) (Or.inl ⟨by rfl, ?hy12⟩) (by assumption) ?rest12
          case hy12 => (intro w hSw; (try dsimp only at hSw); go_simp; try with_reducible rfl)
          try simp only [Act.put, List.getElem_toArray, List.getElem_cons_zero, List.getElem_cons_succ, List.setIfInBounds_toArray, List.set_cons_zero, List.set_cons_succ]
          refine' wpAnyH_take (i := 1) (v := _) rfl (by kernel_rfl) (by kernel_rfl) (by kernel_rfl) (fun _ _ _ h => h) (Or.inl ⟨by rfl, ?hy13⟩) (by assumption) ?rest13
          case hy13 => (intro w hSw; (try dsimp only at hSw); go_simp; try with_reducible rfl)
          try simp only [Act.put, List.getElem_toArray, List.getElem_cons_zero, List.getElem_cons_succ, List.setIfInBounds_toArray, List.set_cons_zero, List.set_cons_succ]
          refine' wpAnyH_take (i := 2) (v := _) rfl (by kernel_rfl) (by kernel_rfl) (by kernel_rfl) (fun _ _ _ h => h) (Or.inl ⟨by rfl, ?hy14⟩) (by assumption) ?rest14
          case hy14 => (intro w hSw; (try dsimp only at hSw); go_simp; try with_reducible rfl)
          try simp only [Act.put, List.getElem_toArray, List.getElem_cons_zero, List.getElem_cons_succ, List.setIfInBounds_toArray, List.set_cons_zero, List.set_cons_succ]
          refine wpAnyH_ready (rs := [3]) (by kernel_rfl) (by simp) ?_
          refine AllReadyH.cons rfl (fun K hK => ?_) ?_
          · go_simp
            (go_at_call 18; (with_reducible refine (CHB.out _ ?_).mono ?_); (focus ((repeat first | with_reducible assumption | with_reducible exact KZ.out | with_reducible apply Below.drew | with_reducible apply below_drews); done)); rintro e w19 ⟨rfl, b19⟩; have jj19 := fun h => below_more (B := W14.heap.size) (w := W14) h b19; replace jj19 := jj19 (by (repeat first | with_reducible assumption | with_reducible exact KZ.out | with_reducible apply Below.drew | with_reducible apply below_drews)))
            go_wp2_with fail
            refine hK.out _ _ ?_ (fun hHeld => ?_)
            focus ((try dsimp only); (refine BZ.out _ ?_; focus ((repeat first | with_reducible assumption | with_reducible exact KZ.out | with_reducible apply Below.drew | with_reducible apply below_drews); done)); done)
            clear hK K
            try simp only [Act.put, List.getElem_toArray, List.getElem_cons_zero, List.getElem_cons_succ, List.setIfInBounds_toArray, List.set_cons_zero, List.set_cons_succ]
            refine' wpAnyH_take (i := 4) (v := _) rfl (by kernel_rfl) (by kernel_rfl) (by kernel_rfl) (fun _ _ _ h => h) (Or.inl ⟨by rfl, ?hy15⟩) (by assumption) ?rest15
            case hy15 => (intro w hSw; (try dsimp only at hSw); go_simp; try with_reducible rfl)
            try simp only [Act.put, List.getElem_toArray, List.getElem_cons_zero, List.getElem_cons_succ, List.setIfInBounds_toArray, List.set_cons_zero, List.set_cons_succ]
            refine' wpAnyH_take (i := 5) (v := _) rfl (by kernel_rfl) (by kernel_rfl) (by kernel_rfl) (fun _ _ _ h => h) (Or.inl ⟨by rfl, ?hy16⟩) (by assumption) ?rest16
            case hy16 => (intro w hSw; (try dsimp only at hSw); go_simp; try with_reducible rfl)
            try simp only [Act.put, List.getElem_toArray, List.getElem_cons_zero, List.getElem_cons_succ, List.setIfInBounds_toArray, List.set_cons_zero, List.set_cons_succ]
            refine' wpAnyH_take (i := 6) (v := _) rfl (by kernel_rfl) (by kernel_rfl) (by kernel_rfl) (fun _ _ _ h => h) (Or.inl ⟨by rfl, ?hy17⟩) (by assumption) ?rest17
            case hy17 => (intro w hSw; (try dsimp only at hSw); go_simp; try with_reducible rfl)
            try simp only [Act.put, List.getElem_toArray, List.getElem_cons_zero, List.getElem_cons_succ, List.setIfInBounds_toArray, List.set_cons_zero, List.set_cons_succ]
            refine' wpAnyH_take (i := 9) (v := _) rfl (by kernel_rfl) (by kernel_rfl) (by kernel_rfl) (fun _ _ _ h => h) (Or.inl ⟨by rfl, ?hy18⟩) (by assumption) ?rest18
            case hy18 => (intro w hSw; (try dsimp only at hSw); go_simp; try with_reducible rfl)
            try simp only [Act.put, List.getElem_toArray, List.getElem_cons_zero, List.getElem_cons_succ, List.setIfInBounds_toArray, List.set_cons_zero, List.set_cons_succ]
            refine' wpAnyH_take (i := 10) (v := _) rfl (by kernel_rfl) (by kernel_rfl) (by kernel_rfl) (fun _ _ _ h => h) (Or.inl ⟨by rfl, ?hy19⟩) (by assumption) ?rest19
            case hy19 => (intro w hSw; (try dsimp only at hSw); go_simp; try with_reducible rfl)
            try simp only [Act.put, List.getElem_toArray, List.getElem_cons_zero, List.getElem_cons_succ, List.setIfInBounds_toArray, List.set_cons_zero, List.set_cons_succ]
            refine' wpAnyH_take (i := 11) (v := _) rfl (by kernel_rfl) (by kernel_rfl) (by kernel_rfl) (fun _ _ _ h => h) (Or.inl ⟨by rfl, ?hy20⟩) (by assumption) ?rest20
            case hy20 => (intro w hSw; (try dsimp only at hSw); go_simp; try with_reducible rfl)
            try simp only [Act.put, List.getElem_toArray, List.getElem_cons_zero, List.getElem_cons_succ, List.setIfInBounds_toArray, List.set_cons_zero, List.set_cons_succ]
            refine wpAnyH_ready (rs := [7]) (by kernel_rfl) (by simp) ?_
            refine AllReadyH.cons rfl (fun K hK => ?_) ?_
            · go_simp
              (go_at_call 15; (with_reducible refine (CRB.out _ ?_).mono ?_); (focus ((repeat first | with_reducible assumption | with_reducible exact KZ.out | with_reducible apply Below.drew | with_reducible apply below_drews); done)); rintro e w20 ⟨q20, rfl, o20, b20⟩; have jj20 := fun h => below_more (B := W14.heap.size) (w := W14) h b20; replace jj20 := jj20 (by (repeat first | with_reducible assumption | with_reducible exact KZ.out | with_reducible apply Below.drew | with_reducible apply below_drews)); have KS20 := Lib.hid (Below.refl w20.heap.size w20); have HO20 : Hid (∀ w', Below w20.heap.size w20 w' → IsRope w' L3 (.pointer q20)) := (fun w' hb => o20.below hb (Nat.le_refl _)))
              go_wp2_with fail
              refine hK.out _ _ ?_ (fun hHeld => ?_)
              focus ((try dsimp only); (refine BZ.out _ ?_; focus ((repeat first | with_reducible assumption | with_reducible exact KZ.out | with_reducible apply Below.drew | with_reducible apply below_drews); done)); done)
              clear hK K
              try simp only [Act.put, List.getElem_toArray, List.getElem_cons_zero, List.getElem_cons_succ, List.setIfInBounds_toArray, List.set_cons_zero, List.set_cons_succ]
              refine wpAnyH_ready (rs := [8]) (by kernel_rfl) (by simp) ?_
              refine AllReadyH.cons rfl (fun K hK => ?_) ?_
              · go_simp
                (go_at_call 20; (with_reducible refine (rlen_is _ (HO20.out _ ?_)).mono ?_); (focus ((repeat first | with_reducible assumption | with_reducible exact KZ.out | with_reducible exact KS20.out | with_reducible apply Below.drew | with_reducible apply below_drews); done)); rintro e w21 ⟨rfl, rfl⟩)
                go_wp2_with fail
                refine hK.out _ _ ?_ (fun hHeld => ?_)
                focus ((try dsimp only); (refine BZ.out _ ?_; focus ((repeat first | with_reducible assumption | with_reducible exact KZ.out | with_reducible apply Below.drew | with_reducible apply below_drews); done)); done)
                clear hK K
                try simp only [Act.put, List.getElem_toArray, List.getElem_cons_zero, List.getElem_cons_succ, List.setIfInBounds_toArray, List.set_cons_zero, List.set_cons_succ]
                refine wpAnyH_ready (rs := [12]) (by kernel_rfl) (by simp) ?_
                refine AllReadyH.cons rfl (fun K hK => ?_) ?_
                · go_simp
                  (go_at_call 21; (with_reducible refine (CCT.out _).mono ?_); rintro e w22 ⟨rfl, b22⟩; have jj22 := fun h => below_more (B := W14.heap.size) (w := W14) h b22; replace jj22 := jj22 (by (repeat first | with_reducible assumption | with_reducible exact KZ.out | with_reducible apply Below.drew | with_reducible apply below_drews)); (try (refine have mm20 : Below w20.heap.size w20 w22 := ?_; ?_; focus (refine below_more ?_ b22; (repeat first | with_reducible assumption | with_reducible exact KZ.out | with_reducible exact KS20.out | with_reducible apply Below.drew | with_reducible apply below_drews); done))))
                  go_wp2_with fail
                  refine hK.out _ _ ?_ (fun hHeld => ?_)
                  focus ((try dsimp only); (refine BZ.out _ ?_; focus ((repeat first | with_reducible assumption | with_reducible exact KZ.out | with_reducible apply Below.drew | with_reducible apply below_drews); done)); done)
                  clear hK K
                  try simp only [Act.put, List.getElem_toArray, List.getElem_cons_zero, List.getElem_cons_succ, List.setIfInBounds_toArray, List.set_cons_zero, List.set_cons_succ]
                  refine' wpAnyH_take (i := 13) (v := _) rfl (by kernel_rfl) (by kernel_rfl) (by kernel_rfl) (fun _ _ _ h => h) (Or.inl ⟨by rfl, ?hy1⟩) (by assumption) ?rest1
                  case hy1 => (intro w hSw; (try dsimp only at hSw); go_simp; try with_reducible rfl)
                  try simp only [Act.put, List.getElem_toArray, List.getElem_cons_zero, List.getElem_cons_succ, List.setIfInBounds_toArray, List.set_cons_zero, List.set_cons_succ]
                  refine' wpAnyH_take (i := 14) (v := _) rfl (by kernel_rfl) (by kernel_rfl) (by kernel_rfl) (fun _ _ _ h => h) (Or.inl ⟨by rfl, ?hy2⟩) (by assumption) ?rest2
                  case hy2 => (intro w hSw; (try dsimp only at hSw); go_simp; try with_reducible rfl)
                  try simp only [Act.put, List.getElem_toArray, List.getElem_cons_zero, List.getElem_cons_succ, List.setIfInBounds_toArray, List.set_cons_zero, List.set_cons_succ]
                  refine' wpAnyH_take (i := 15) (v := _) rfl (by kernel_rfl) (by kernel_rfl) (by kernel_rfl) (fun _ _ _ h => h) (Or.inl ⟨by rfl, ?hy3⟩) (by assumption) ?rest3
                  case hy3 => (intro w hSw; (try dsimp only at hSw); go_simp; try with_reducible rfl)
                  try simp only [Act.put, List.getElem_toArray, List.getElem_cons_zero, List.getElem_cons_succ, List.setIfInBounds_toArray, List.set_cons_zero, List.set_cons_succ]
                  refine' wpAnyH_take (i := 16) (v := _) rfl (by kernel_rfl) (by kernel_rfl) (by kernel_rfl) (fun _ _ _ h => h) (Or.inl ⟨by rfl, ?hy4⟩) (by assumption) ?rest4
                  case hy4 => (intro w hSw; (try dsimp only at hSw); go_simp; try with_reducible rfl)
                  try simp only [Act.put, List.getElem_toArray, List.getElem_cons_zero, List.getElem_cons_succ, List.setIfInBounds_toArray, List.set_cons_zero, List.set_cons_succ]
                  refine' wpAnyH_take (i := 17) (v := _) rfl (by kernel_rfl) (by kernel_rfl) (by kernel_rfl) (fun _ _ _ h => h) (Or.inl ⟨by rfl, ?hy5⟩) (by assumption) ?rest5
                  case hy5 => (intro w hSw; (try dsimp only at hSw); go_simp; try with_reducible rfl)
                  try simp only [Act.put, List.getElem_toArray, List.getElem_cons_zero, List.getElem_cons_succ, List.setIfInBounds_toArray, List.set_cons_zero, List.set_cons_succ]
                  refine' wpAnyH_take (i := 18) (v := _) rfl (by kernel_rfl) (by kernel_rfl) (by kernel_rfl) (fun _ _ _ h => h) (Or.inl ⟨by rfl, ?hy6⟩) (by assumption) ?rest6
                  case hy6 => (intro w hSw; (try dsimp only at hSw); go_simp; try with_reducible rfl)
                  try simp only [Act.put, List.getElem_toArray, List.getElem_cons_zero, List.getElem_cons_succ, List.setIfInBounds_toArray, List.set_cons_zero, List.set_cons_succ]
                  refine' wpAnyH_take (i := 19) (v := _) rfl (by kernel_rfl) (by kernel_rfl) (by kernel_rfl) (fun _ _ _ h => h) (Or.inl ⟨by rfl, ?hy7⟩) (by assumption) ?rest7
                  case hy7 => (intro w hSw; (try dsimp only at hSw); go_simp; try with_reducible rfl)
                  try simp only [Act.put, List.getElem_toArray, List.getElem_cons_zero, List.getElem_cons_succ, List.setIfInBounds_toArray, List.set_cons_zero, List.set_cons_succ]
                  refine' wpAnyH_take (i := 20) (v := _) rfl (by kernel_rfl) (by kernel_rfl) (by kernel_rfl) (fun _ _ _ h => h) (Or.inl ⟨by rfl, ?hy8⟩) (by assumption) ?rest8
                  case hy8 => (intro w hSw; (try dsimp only at hSw); go_simp; try with_reducible rfl)
                  try simp only [Act.put, List.getElem_toArray, List.getElem_cons_zero, List.getElem_cons_succ, List.setIfInBounds_toArray, List.set_cons_zero, List.set_cons_succ]
                  refine wpAnyH_take (i := 21) (v := undef) rfl (by kernel_rfl) (by kernel_rfl) (by kernel_rfl) (fun _ _ _ h => h) (Or.inr ⟨by rfl, rfl⟩) (by assumption) ?_
                  try simp only [Act.put, List.getElem_toArray, List.getElem_cons_zero, List.getElem_cons_succ, List.setIfInBounds_toArray, List.set_cons_zero, List.set_cons_succ]
                  refine wpAnyH_take (i := 24) (v := undef) rfl (by kernel_rfl) (by kernel_rfl) (by kernel_rfl) (fun _ _ _ h => h) (Or.inr ⟨by rfl, rfl⟩) (by assumption) ?_
                  try simp only [Act.put, List.getElem_toArray, List.getElem_cons_zero, List.getElem_cons_succ, List.setIfInBounds_toArray, List.set_cons_zero, List.set_cons_succ]
                  refine wpAnyH_take (i := 25) (v := undef) rfl (by kernel_rfl) (by kernel_rfl) (by kernel_rfl) (fun _ _ _ h => h) (Or.inr ⟨by rfl, rfl⟩) (by assumption) ?_
                  try simp only [Act.put, List.getElem_toArray, List.getElem_cons_zero, List.getElem_cons_succ, List.setIfInBounds_toArray, List.set_cons_zero, List.set_cons_succ]
                  refine wpAnyH_ready (rs := [22]) (by kernel_rfl) (by simp) ?_
                  refine AllReadyH.cons rfl (fun K hK => ?_) ?_
                  · go_simp
                    refine hK.out _ _ ?_ (fun hHeld => ?_)
                    focus ((try dsimp only); (refine BZ.out _ ?_; focus ((repeat first | with_reducible assumption | with_reducible exact KZ.out | with_reducible apply Below.drew | with_reducible apply below_drews); done)); done)
                    clear hK K
                    try simp only [Act.put, List.getElem_toArray, List.getElem_cons_zero, List.getElem_cons_succ, List.setIfInBounds_toArray, List.set_cons_zero, List.set_cons_succ]
                    refine wpAnyH_ready (rs := [23]) (by kernel_rfl) (by simp) ?_
                    refine AllReadyH.cons rfl (fun K hK => ?_) ?_
                    · go_simp
                      refine hK.out _ _ ?_ (fun hHeld => ?_)
                      focus ((try dsimp only); (refine BZ.out _ ?_; focus ((repeat first | with_reducible assumption | with_reducible exact KZ.out | with_reducible apply Below.drew | with_reducible apply below_drews); done)); done)
                      clear hK K
                      try simp only [Act.put, List.getElem_toArray, List.getElem_cons_zero, List.getElem_cons_succ, List.setIfInBounds_toArray, List.set_cons_zero, List.set_cons_succ]
                      refine wpAnyH_take (i := 26) (v := undef) rfl (by kernel_rfl) (by kernel_rfl) (by kernel_rfl) (fun _ _ _ h => h) (Or.inr ⟨by rfl, rfl⟩) (by assumption) ?_
                      try simp only [Act.put, List.getElem_toArray, List.getElem_cons_zero, List.getElem_cons_succ, List.setIfInBounds_toArray, List.set_cons_zero, List.set_cons_succ]
                      refine' wpAnyH_take (i := 27) (v := _) rfl (by kernel_rfl) (by kernel_rfl) (by kernel_rfl) (fun _ _ _ h => h) (Or.inl ⟨by rfl, ?hy9⟩) (by assumption) ?rest9
                      case hy9 => (intro w hSw; (try dsimp only at hSw); go_simp; try with_reducible rfl)
                      try simp only [Act.put, List.getElem_toArray, List.getElem_cons_zero, List.getElem_cons_succ, List.setIfInBounds_toArray, List.set_cons_zero, List.set_cons_succ]
                      refine' wpAnyH_take (i := 28) (v := _) rfl (by kernel_rfl) (by kernel_rfl) (by kernel_rfl) (fun _ _ _ h => h) (Or.inl ⟨by rfl, ?hy10⟩) (by assumption) ?rest10
                      case hy10 => (intro w hSw; (try dsimp only at hSw); go_simp; try with_reducible rfl)
                      try simp only [Act.put, List.getElem_toArray, List.getElem_cons_zero, List.getElem_cons_succ, List.setIfInBounds_toArray, List.set_cons_zero, List.set_cons_succ]
                      refine' wpAnyH_take (i := 29) (v := _) rfl (by kernel_rfl) (by kernel_rfl) (by kernel_rfl) (fun _ _ _ h => h) (Or.inl ⟨by rfl, ?hy11⟩) (by assumption) ?rest11
                      case hy11 => (intro w hSw; (try dsimp only at hSw); go_simp; try with_reducible rfl)
                      try simp only [Act.put, List.getElem_toArray, List.getElem_cons_zero, List.getElem_cons_succ, List.setIfInBounds_toArray, List.set_cons_zero, List.set_cons_succ]
                      refine wpAnyH_done (by kernel_rfl) ?_ _
                      go_wp2_with fail
                      go_ret
                      exact ⟨ret_bool (by simp), KF.out _ (by (repeat first | with_reducible assumption | with_reducible exact KZ.out | with_reducible apply Below.drew | with_reducible apply below_drews))⟩
                    exact AllReadyH.nil
                  exact AllReadyH.nil
                exact AllReadyH.nil
              exact AllReadyH.nil
            exact AllReadyH.nil
          exact AllReadyH.nil
end Go.Proofs.YtcpdoicbekcpeaaDoor.Bwk
