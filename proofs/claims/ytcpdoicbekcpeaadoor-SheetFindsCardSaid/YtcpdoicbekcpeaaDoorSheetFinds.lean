/- For every list of plain segments, every plain segment and every number: SheetFinds answers true, and its arguments read behind the call as before. No condition. THE TIED CARD: unicode/utf8's two tables start as the program's text lays them. -/
import Derived.Test.YtcpdoicbekcpeaaDoorRows
import Derived.Test.YtcpdoicbekcpeaaDoorTie
import Derived.Test.YtcpdoicbekcpeaaDoorCards
import Derived.Test.YtcpdoicbekcpeaaDoorLift
import Derived.ProofKit
import Derived.Lib.LaidU8T
import Derived.PinnedBridge
import Derived.Lay
import Derived.LaidOnce
import Derived.SevenTiedAt
import Derived.Test.YtcpdoicbekcpeaaDoorHs
import Derived.Test.YtcpdoicbekcpeaaDoorHt
import Derived.Test.YtcpdoicbekcpeaaDoorHv
import Derived.SizedLaws
import Derived.Deep.RegionHeld3
import Derived.Deep.DeepCutAuto
import Derived.Deep.CutBlock
import Derived.Deep.RegionHeld
import Derived.OrdersHeld
set_option linter.unusedVariables false
namespace Go.Proofs.YtcpdoicbekcpeaaDoor.sheetFinds
open Go.ChangeShapes Go.WideShapes Go.ChangeAt Go.RowKit Go.Lib Go.Shelf Go.Proofs.YtcpdoicbekcpeaaDoor.Lift Go.Proofs.YtcpdoicbekcpeaaDoor.Rk Go.Proofs.YtcpdoicbekcpeaaDoor.Rt Go.Proofs.YtcpdoicbekcpeaaDoor.Rig Go.Proofs.YtcpdoicbekcpeaaDoor.Seg Go.Proofs.YtcpdoicbekcpeaaDoor.She
open Go.ChangeMaps (open_string shut_string)

theorem own : ownKnob Tryd.prog.godebug = none := by kernel_rfl
theorem laidOut : laidOutB Tryd.prog = true := by kernel_rfl

set_option linter.unusedSimpArgs false
theorem load_two {u : Value} (f : Bool) (w : World) (h : Pls w u twoG) (hT : Con.Tabs w) : Calls Tryd.prog 22 #[.bool f, u] w fun e w' => ∃ a c, e = .returned (.tuple #[.agg #[.bool f, .slice a 2 c], .bool true]) ∧ Sgs w' (.slice a 2 c) twoG ∧ Below w.heap.size w w' := by
  refine (sload_any f w h two_sz (by decide) hT).mono ?_
  rintro e w' ⟨s, rfl, hs, hb⟩
  rw [two_ok, if_pos rfl] at hs
  obtain ⟨a, c, rfl⟩ := Rk.Rows.is_slice hs
  exact ⟨a, c, by rw [two_ok, Bool.and_true]; rfl, hs, hb⟩
theorem load_ok {u : Value} {G : List G5} (f : Bool) (w : World) (h : Pls w u G) (hsz : ∀ g ∈ G, g.sz) (hn : G.length ≤ 10000) (hok : okG G = true) (hT : Con.Tabs w) : Calls Tryd.prog 22 #[.bool f, u] w fun e w' => ∃ a c, e = .returned (.tuple #[.agg #[.bool f, .slice a G.length c], .bool true]) ∧ Sgs w' (.slice a G.length c) G ∧ Below w.heap.size w w' := by
  refine (sload_any f w h hsz hn hT).mono ?_
  rintro e w' ⟨s, rfl, hs, hb⟩
  rw [hok, if_pos rfl] at hs
  obtain ⟨a, c, rfl⟩ := Rk.Rows.is_slice hs
  exact ⟨a, c, by rw [hok, Bool.and_true], hs, hb⟩
theorem find_two (id : Int) : placeN twoG 2 = some 1 := by decide +kernel
theorem row1 {w : World} {b : Nat} {g : G5} {a1 a2 : Option Addr} {c1 c2 : Nat} (hg : PlC w [.int .i64 g.i, .int .i64 g.l, .string (Let.mk g.L), .slice a1 g.S.length c1, .slice a2 g.T.length c2] g)
    (hb : w.heap[b]? = some (.cells #[.int .i64 g.i, .int .i64 g.l, .string (Let.mk g.L), .slice a1 g.S.length c1, .slice a2 g.T.length c2] 25 (0, 0))) : Pls w (.slice (some ⟨b, 0, none⟩) 1 1) [g] :=
  ⟨[(_, g)], rfl, Rk.row_one (e := 25) hb rfl, fun x hx => by simp at hx; subst hx; exact hg⟩
/-- One segment in its place: the list may still be loaded, told. -/
theorem set_sz {G : List G5} {x : G5} (h : ∀ g ∈ G, g.ok) (hx : x.ok) : (∀ g ∈ setG G x, g.ok) ∧ (setG G x).length = G.length := by
  unfold setG
  cases placeN G x.i with
  | none => exact ⟨h, rfl⟩
  | some k => exact ⟨fun g hg => by rcases List.mem_or_eq_of_mem_set hg with q | q; exact h g q; rw [q]; exact hx, by rw [List.length_set]⟩
theorem sgs_two {w : World} {s u1 u2 x y : Value} {G : List G5} {B : Nat} {ty : TypeId} (h : Sgs w s G) (r : w.heap[B]? = some (.cells #[x, y] ty (0, 0))) (hty : ty ≠ 126) (n1 : ∀ z, x ≠ .int .i64 z) (n2 : ∀ z, y ≠ .int .i64 z) :
    Sgs ((w.setCell ⟨B, 0, none⟩ u1).setCell ⟨B, 1, none⟩ u2) s G := by
  obtain ⟨p, h1, ⟨m1, a, cap, e, m2, m3, m4⟩, h3⟩ := h
  refine ⟨p, h1, ⟨m1, a, cap, e, m2, m3, ?_⟩, fun z hz => ?_⟩
  · rcases m4 with m4 | ⟨b, off, e2, mb, mc⟩
    · exact .inl m4
    · by_cases hx : (p.map Prod.fst) = []
      · exact .inl hx
      · refine .inr ⟨b, off, e2, by simpa using mb, fun j hj i u hu => ?_⟩
        have hne : b ≠ B := by
          intro q
          subst q
          have hz : 0 < (p.map Prod.fst).length := List.length_pos_iff.2 hx
          have hmem := List.getElem_mem hz
          obtain ⟨t, ht, et⟩ := List.mem_map.1 hmem
          obtain ⟨tp, sv, tv, ex, _⟩ := h3 t ht
          have := mc 0 hz 0 (.int .i64 t.2.i) (by rw [← et, ex]; rfl)
          rw [cell_of_row _ _ _ _ _ _ r] at this
          generalize off + 0 * 5 + 0 = o at this
          rcases o with _ | _ | o
          · exact n1 _ (Option.some.inj this)
          · exact n2 _ (Option.some.inj this)
          · simp at this
        rw [← mc j hj i u hu]
        unfold World.cell?
        rw [Below.heap_setCell _ _ _ _ hne, Below.heap_setCell _ _ _ _ hne]
  · obtain ⟨tp, sv, tv, e3, t2, s2, v2, e4, g1, g2, g3⟩ := h3 z hz
    injection e4 with e4
    simp only [Array.mk.injEq, List.cons.injEq, and_true, true_and] at e4
    obtain ⟨rfl, rfl, rfl⟩ := e4
    exact ⟨tp, sv, tv, e3, tp, sv, tv, rfl, rope_put (rope_put g1 r hty) (set_block (i := 0) (u := u1) r) hty, Fl.two g2 r n1 n2, Fl.two g3 r n1 n2⟩
set_option maxRecDepth 100000 in
set_option maxHeartbeats 64000000 in
theorem walk (w : World) (hT : Tabs w) {v : Value} {G : List G5} (hA : Args w v G) {u : Value} {x : G5} (hP : Pl w u x.i x.l x.L x.S x.T) (hG : x.good) (id : Int) (_ : -9223372036854775808 ≤ id) (_ : id ≤ 9223372036854775807) :
    Calls Tryd.prog 5 #[v, u, .int .i64 id] w fun e w' => e = .returned (.bool true) ∧ Below w.heap.size w w' := by
  have HT : Hid (∀ w', Below w.heap.size w w' → Con.Tabs w') := fun w' hb => hT.below hb
  have HAr : Hid (∀ w', Below w.heap.size w w' → Args w' v G) := fun w' hb => hA.below hb
  obtain ⟨la, lc, rfl⟩ := Rk.Rows.is_slice hA.1
  obtain ⟨a3, c3, a4, c4, rfl, _, _⟩ := hP.open_
  have HX : Hid (∀ w', Below w.heap.size w w' → Pl w' (.agg #[.int .i64 x.i, .int .i64 x.l, .string (Let.mk x.L), .slice a3 x.S.length c3, .slice a4 x.T.length c4]) x.i x.l x.L x.S x.T) := fun w' hb => hP.below hb (Nat.le_refl _)
  have HXG : Hid (x.good) := hG
  obtain ⟨B0, R0, L0⟩ := box1 w #[.int .i64 x.i, .int .i64 x.l, .string (Let.mk x.L), .slice a3 x.S.length c3, .slice a4 x.T.length c4] 25
  obtain ⟨W0, hW0⟩ : ∃ W0, W0 = w.alloc (.cells #[.int .i64 x.i, .int .i64 x.l, .string (Let.mk x.L), .slice a3 x.S.length c3, .slice a4 x.T.length c4] 25) := ⟨_, rfl⟩
  rw [← hW0] at B0 R0 L0
  have HW0 := Lib.hid hW0
  have HB0 := Lib.hid B0
  have XC : Hid (∀ w', Below W0.heap.size W0 w' → w'.cell? ⟨w.heap.size, 0, none⟩ = some (.int .i64 x.i) ∧ w'.cell? ⟨w.heap.size, 1, none⟩ = some (.int .i64 x.l) ∧ w'.cell? ⟨w.heap.size, 2, none⟩ = some (.string (Let.mk x.L)) ∧ w'.cell? ⟨w.heap.size, 3, none⟩ = some (.slice a3 x.S.length c3) ∧ w'.cell? ⟨w.heap.size, 4, none⟩ = some (.slice a4 x.T.length c4)) := fun w' hb => five_cells ((hb.block w.heap.size (by omega)).trans R0)
  have KF : Hid (∀ w', Below W0.heap.size W0 w' → Below w.heap.size w w') := fun w' hb => below_more HB0.out hb
  obtain ⟨n, hn⟩ : ∃ n, n = G.length := ⟨_, rfl⟩
  have HN := Lib.hid hn
  obtain ⟨xi, hxi⟩ : ∃ t, t = x.i := ⟨_, rfl⟩
  obtain ⟨xl, hxl⟩ : ∃ t, t = x.l := ⟨_, rfl⟩
  obtain ⟨xL, hxL⟩ : ∃ t, t = x.L := ⟨_, rfl⟩
  obtain ⟨n3, hn3⟩ : ∃ t, t = x.S.length := ⟨_, rfl⟩
  obtain ⟨n4, hn4⟩ : ∃ t, t = x.T.length := ⟨_, rfl⟩
  have HE := Lib.hid (And.intro hxi (And.intro hxl (And.intro hxL (And.intro hn3 hn4))))
  rw [← hn] at HAr ⊢
  rw [← hxi, ← hxl, ← hxL, ← hn3, ← hn4] at HX HW0 XC ⊢
  replace HX : Hid (∀ w', Below w.heap.size w w' → Pl w' (.agg #[.int .i64 xi, .int .i64 xl, .string (Let.mk xL), .slice a3 n3 c3, .slice a4 n4 c4]) x.i x.l x.L x.S x.T) := fun w' hb => by
    have := HX.out w' hb
    obtain ⟨f1, f2, f3, _, _⟩ := HE.out
    rw [f1, f2, f3] at this ⊢
    exact this
  clear hT hA hP hG hn hxi hxl hxL hn3 hn4 hW0 B0 R0 L0
  go_enter Tryd.func5, Tryd.ntmps5
  go_upto_region 1 with fail
  rw [← HW0.out]
  go_wp2_with fail
  refine (two_any _).mono ?_
  rintro e w1 ⟨u1, rfl, p1, b1⟩
  obtain ⟨ua, uc, rfl⟩ := Rk.Rows.is_slice p1
  have C1 := load_two false w1 p1 (HT.out _ (KF.out _ b1))
  have K1 := Lib.hid b1
  clear b1 p1
  go_wp2_with fail
  refine C1.mono ?_
  rintro e w2 ⟨ta, tc, rfl, h2, b2⟩
  have K2 := Lib.hid (below_more K1.out b2)
  clear b2 C1
  obtain ⟨B3, R3, L3⟩ := box1 w2 #[.bool false, .slice ta 2 tc] 50
  have HSh : Hid (Sh (w2.alloc (.cells #[.bool false, .slice ta 2 tc] 50)) (.agg #[.bool false, .slice ta 2 tc]) false twoG) := ⟨_, rfl, h2.below B3⟩
  have K3 : Hid (Below W0.heap.size W0 (w2.alloc (.cells #[.bool false, .slice ta 2 tc] 50))) := below_more K2.out B3
  -- the box of the sheet: its block is w2.heap.size
  obtain ⟨b7, hb7⟩ : ∃ b7, b7 = w2.heap.size := ⟨_, rfl⟩
  have HB7 : Hid (W0.heap.size ≤ b7) := by show _ ≤ _; rw [hb7]; exact K2.out.size
  have HR7 : Hid (∀ w', Below (b7 + 1) (w2.alloc (.cells #[.bool false, .slice ta 2 tc] 50)) w' → w'.heap[b7]? = some (.cells #[.bool false, .slice ta 2 tc] 50 (0, 0))) := fun w' hb => by rw [hb7]; exact (hb.block w2.heap.size (by omega)).trans R3
  have HL7 : Hid ((w2.alloc (.cells #[.bool false, .slice ta 2 tc] 50)).heap.size = b7 + 1) := by show _ = _; rw [hb7]; exact L3
  obtain ⟨z0, z1, _, _⟩ := two_cells R3
  rw [← hb7] at z0 z1
  obtain ⟨W3, hW3⟩ : ∃ W3, W3 = w2.alloc (.cells #[.bool false, .slice ta 2 tc] 50) := ⟨_, rfl⟩
  rw [← hW3] at HSh K3 HR7 HL7 z0 z1
  have HW3 := Lib.hid hW3
  have CF : Hid (Calls Tryd.prog 32 #[.agg #[.bool false, .slice ta 2 tc], .int .i64 2] W3 (GiveIns W3 true 2 0 [98] [] [])) := find_yes 2 1 W3 HSh.out (by decide) (find_two 2) (by decide) (by decide)
  clear hW3 B3 R3 L3 h2
  go_upto_region 2 with fail
  rw [← hb7, ← HW3.out]
  clear hb7
  go_wp2_with fail
  refine (CF.out).mono ?_
  rintro e w4 ⟨y4, rfl, h4, b4⟩
  obtain ⟨q4, a5, c5, a6, c6, rfl, hq4, _, _⟩ := h4.open_
  have K4 : Hid (Below W0.heap.size W0 w4) := below_more K3.out b4
  have M4 : Hid (Below (b7 + 1) W3 w4) := by show Below _ _ _; rw [← HL7.out]; exact b4
  obtain ⟨B5, R5, L5⟩ := box1 w4 #[.int .i64 2, .int .i64 0, .pointer q4, .slice a5 0 c5, .slice a6 0 c6] 33
  have HQ5 : Hid (Sg (w4.alloc (.cells #[.int .i64 2, .int .i64 0, .pointer q4, .slice a5 0 c5, .slice a6 0 c6] 33)) (.agg #[.int .i64 2, .int .i64 0, .pointer q4, .slice a5 0 c5, .slice a6 0 c6]) 2 0 [98] [] []) := h4.below B5 (Nat.le_refl _)
  have K5 : Hid (Below W0.heap.size W0 (w4.alloc (.cells #[.int .i64 2, .int .i64 0, .pointer q4, .slice a5 0 c5, .slice a6 0 c6] 33))) := below_more K4.out B5
  have M5 : Hid (Below (b7 + 1) W3 (w4.alloc (.cells #[.int .i64 2, .int .i64 0, .pointer q4, .slice a5 0 c5, .slice a6 0 c6] 33))) := M4.out.alloc (by rw [← HL7.out]; exact b4.size) _
  obtain ⟨e0, e1, e2, e3, e4⟩ := five_cells R5
  obtain ⟨W5, hW5⟩ : ∃ W5, W5 = w4.alloc (.cells #[.int .i64 2, .int .i64 0, .pointer q4, .slice a5 0 c5, .slice a6 0 c6] 33) := ⟨_, rfl⟩
  rw [← hW5] at HQ5 K5 M5 e0 e1 e2 e3 e4
  have HW5 := Lib.hid hW5
  have CR := Lib.hid (rope_any W5 HQ5.out)
  clear hW5 B5 R5 L5 h4 hq4 b4 z0 z1
  go_upto_region 3 with fail
  rw [← HW5.out]
  go_wp2_with fail
  refine (CR.out).mono ?_
  rintro e w6 ⟨q6, rfl, hq6, b6⟩
  have K6 : Hid (Below W0.heap.size W0 w6) := below_more K5.out b6
  have M6 : Hid (Below (b7 + 1) W3 w6) := M5.out.trans (b6.mono (by rw [← HL7.out]; exact M5.out.size |> fun h => by rw [HL7.out] at h ⊢; exact h))
  have CT := Con.text_is w6 hq6 (by decide)
  clear b6 hq6 e0 e1 e2 e3 e4
  go_wp2_with fail
  refine CT.mono ?_
  rintro e w7 ⟨rfl, b7'⟩
  have K7 : Hid (Below W0.heap.size W0 w7) := below_more K6.out b7'
  have M7 : Hid (Below (b7 + 1) W3 w7) := M6.out.trans (b7'.mono (by have := M6.out.size; rw [HL7.out] at this; exact this))
  have eL : (Let.mk [98]) = (ByteArray.mk #[98]) := rfl
  rw [eL]
  have es : ((ByteArray.mk #[98] : ByteArray) != ByteArray.mk #[98]) = false := by decide +kernel
  clear b7' CT
  go_wp2_with fail
  refine (hsmall_any _ (HAr.out _ (KF.out _ K7.out))).mono ?_
  rintro e w8 ⟨rfl, b8⟩
  have K8 : Hid (Below W0.heap.size W0 w8) := below_more K7.out b8
  have M8 : Hid (Below (b7 + 1) W3 w8) := M7.out.trans (b8.mono (by have := M7.out.size; rw [HL7.out] at this; exact this))
  clear b8
  cases hsm : smallG G with
  | false =>
    clear hsm
    go_wp2_with fail
    go_ret
    exact ⟨by simp, KF.out _ K8.out⟩
  | true =>
    obtain ⟨sz, s40, _⟩ := small_sz hsm
    have SZ := Lib.hid sz
    have S40 := Lib.hid s40
    have CRt := Lib.hid (hright_any w8 (HAr.out _ (KF.out _ K8.out)).1 sz (by omega))
    clear sz s40 hsm
    cases hok : okG G with
    | false =>
      rw [hok] at CRt
      go_wp2_with fail
      refine (CRt.out).mono ?_
      rintro e w9 ⟨rfl, b9⟩
      have K9 : Hid (Below W0.heap.size W0 w9) := below_more K8.out b9
      clear b9 hok
      go_wp2_with fail
      go_ret
      exact ⟨by simp, KF.out _ K9.out⟩
    | true =>
      rw [hok] at CRt
      have HOK : Hid (∀ g ∈ G, g.ok) := fun g hg => by
        obtain ⟨j, hj, rfl⟩ := List.getElem_of_mem hg
        exact r5_ok (okG_iff.1 hok j hj).1 (SZ.out _ hg)
      have OKG := Lib.hid hok
      go_wp2_with fail
      refine (CRt.out).mono ?_
      rintro e w9 ⟨rfl, b9⟩
      have K9 : Hid (Below W0.heap.size W0 w9) := below_more K8.out b9
      have M9 : Hid (Below (b7 + 1) W3 w9) := M8.out.trans (b9.mono (by have := M8.out.size; rw [HL7.out] at this; exact this))
      obtain ⟨x0, x1, x2, x3, x4⟩ := XC.out _ K9.out
      -- x alone
      have hpx : Hid (Args (w9.alloc (.cells #[.int .i64 xi, .int .i64 xl, .string (Let.mk xL), .slice a3 n3 c3, .slice a4 n4 c4] 25)) (.slice (some ⟨w9.heap.size, 0, none⟩) 1 1) [x]) := by
        obtain ⟨f1, f2, f3, f4, f5⟩ := HE.out
        refine ⟨?_, fun g hg => by simp at hg; rw [hg]; exact HXG.out⟩
        have hx9 := (HX.out _ (KF.out _ K9.out)).below ((Below.refl w9.heap.size w9).alloc (Nat.le_refl _) (.cells #[.int .i64 xi, .int .i64 xl, .string (Let.mk xL), .slice a3 n3 c3, .slice a4 n4 c4] 25)) (Nat.le_refl _)
        rw [f1, f2, f3, f4, f5] at hx9 ⊢
        exact row1 ⟨_, _, rfl, hx9⟩ (heap_alloc_new _ _)
      have K10 : Hid (Below W0.heap.size W0 (w9.alloc (.cells #[.int .i64 xi, .int .i64 xl, .string (Let.mk xL), .slice a3 n3 c3, .slice a4 n4 c4] 25))) := K9.out.alloc K9.out.size _
      have M10 : Hid (Below (b7 + 1) W3 (w9.alloc (.cells #[.int .i64 xi, .int .i64 xl, .string (Let.mk xL), .slice a3 n3 c3, .slice a4 n4 c4] 25))) := M9.out.alloc (by have := M9.out.size; rw [HL7.out] at this; exact this) _
      have CSx := Lib.hid (hsmall_any _ hpx.out)
      clear b9 CRt hok
      go_wp2_with fail
      refine (CSx.out).mono ?_
      rintro e w11 ⟨rfl, b11⟩
      have K11 : Hid (Below W0.heap.size W0 w11) := below_more K10.out b11
      have M11 : Hid (Below (b7 + 1) W3 w11) := M10.out.trans (b11.mono (by have := M10.out.size; rw [HL7.out] at this; exact this))
      clear b11 CSx x0 x1 x2 x3 x4
      cases hsx : smallG [x] with
      | false =>
        clear hsx
        go_wp2_with fail
        go_ret
        exact ⟨by simp, KF.out _ K11.out⟩
      | true =>
        have XZ : Hid (x.sz) := (small_sz hsx).1 x (by simp)
        obtain ⟨x0, x1, x2, x3, x4⟩ := XC.out _ K11.out
        have CR5 : Hid (Calls Tryd.prog 33 #[.agg #[.int .i64 xi, .int .i64 xl, .string (Let.mk xL), .slice a3 n3 c3, .slice a4 n4 c4]] w11 fun e w'' => e = .returned (.bool (r5 x)) ∧ Below w11.heap.size w11 w'') := by
          have := right5_any w11 (HX.out _ (KF.out _ K11.out)) XZ.out.1
          exact this
        clear hsx
        go_wp2_with fail
        refine (CR5.out).mono ?_
        rintro e w12 ⟨rfl, b12⟩
        have K12 : Hid (Below W0.heap.size W0 w12) := below_more K11.out b12
        have M12 : Hid (Below (b7 + 1) W3 w12) := M11.out.trans (b12.mono (by have := M11.out.size; rw [HL7.out] at this; exact this))
        clear b12 CR5 x0 x1 x2 x3 x4
        cases hrx : r5 x with
        | false =>
          clear hrx
          go_wp2_with fail
          go_ret
          exact ⟨by simp, KF.out _ K12.out⟩
        | true =>
          have RX := Lib.hid hrx
          have XOK : Hid (x.ok) := r5_ok hrx XZ.out
          have CL : Hid (Calls Tryd.prog 22 #[.bool false, .slice la n lc] w12 fun e w' => ∃ a c, e = .returned (.tuple #[.agg #[.bool false, .slice a n c], .bool true]) ∧ Sgs w' (.slice a n c) G ∧ Below w12.heap.size w12 w') := by
            have := load_ok false w12 (HAr.out _ (KF.out _ K12.out)).1 SZ.out (by have := S40.out; omega) OKG.out (HT.out _ (KF.out _ K12.out))
            rw [← HN.out] at this
            exact this
          clear hrx
          go_wp2_with fail
          refine (CL.out).mono ?_
          rintro e w13 ⟨sa, sc, rfl, h13, b13⟩
          have K13 : Hid (Below W0.heap.size W0 w13) := below_more K12.out b13
          have M13 : Hid (Below (b7 + 1) W3 w13) := M12.out.trans (b13.mono (by have := M12.out.size; rw [HL7.out] at this; exact this))
          have r7 := HR7.out _ M13.out
          obtain ⟨z0, z1, f0, f1⟩ := two_cells r7
          -- the sheet in its box
          obtain ⟨W14, hW14⟩ : ∃ W14, W14 = (w13.setCell ⟨b7, 0, none⟩ (.bool false)).setCell ⟨b7, 1, none⟩ (.slice sa n sc) := ⟨_, rfl⟩
          have r14 : W14.heap[b7]? = some (.cells #[.bool false, .slice sa n sc] 50 (0, 0)) := by rw [hW14]; exact two_put r7
          have K14 : Hid (Below W0.heap.size W0 W14) := by show Below _ _ _; rw [hW14]; exact below_put (below_put K13.out HB7.out _) HB7.out _
          have HW14 := Lib.hid hW14
          have R14 := Lib.hid r14
          have HS14 : Hid (Sgs W14 (.slice sa n sc) G) := by show Sgs _ _ _; rw [hW14]; exact sgs_two h13 r7 (by decide) (fun z h => by cases h) (fun z h => by cases h)
          have HShG : Hid (∀ w', Below W14.heap.size W14 w' → Sh w' (.agg #[.bool false, .slice sa n sc]) false G) := fun w' hb => ⟨_, rfl, HS14.out.below hb⟩
          obtain ⟨t0, t1, _, _⟩ := two_cells r14
          clear hW14 r14 r7 h13 b13 CL
          go_upto_region 8 with fail
          rw [← HW14.out]
          clear z0 z1 f0 f1
          cases hp : placeN G id with
          | some k =>
            obtain ⟨hk, hki, _⟩ := place_lt hp
            have CF2 := Lib.hid (find_yes id k W14 (HShG.out _ (Below.refl _ _)) hk hp (HOK.out _ (List.getElem_mem hk)).1 (by have := S40.out; omega))
            have HPI := placeI_yes hp
            have HGK : Hid (∀ w', Below w.heap.size w w' → ∃ b off sa sc ta tc, la = some ⟨b, off, none⟩ ∧ b < w'.heap.size ∧ Pl w' (.agg #[.int .i64 G[k].i, .int .i64 G[k].l, .string (Let.mk G[k].L), .slice sa G[k].S.length sc, .slice ta G[k].T.length tc]) G[k].i G[k].l G[k].L G[k].S G[k].T ∧
              w'.cell? ⟨b, off + k * 5, none⟩ = some (.int .i64 G[k].i) ∧ w'.cell? ⟨b, off + k * 5 + 1, none⟩ = some (.int .i64 G[k].l) ∧ w'.cell? ⟨b, off + k * 5 + 2, none⟩ = some (.string (Let.mk G[k].L)) ∧ w'.cell? ⟨b, off + k * 5 + 3, none⟩ = some (.slice sa G[k].S.length sc) ∧ w'.cell? ⟨b, off + k * 5 + 4, none⟩ = some (.slice ta G[k].T.length tc)) := fun w' hb => Pls.get (HAr.out w' hb).1 hk
            have GOK := Lib.hid (HOK.out _ (List.getElem_mem hk))
            have hkn : k < n := by rw [HN.out]; exact hk
            generalize G[k] = g at *
            obtain ⟨gi, gl, gL, gS, gT⟩ := g
            simp only at CF2 HGK GOK
            go_wp2_with fail
            refine (CF2.out).mono ?_
            rintro e w15 ⟨v15, rfl, h15, b15⟩
            obtain ⟨q15, a15, c15, d15, f15, rfl, _, _, _⟩ := h15.open_
            obtain ⟨B16, R16, L16⟩ := box1 w15 #[.int .i64 gi, .int .i64 gl, .pointer q15, .slice a15 gS.length c15, .slice d15 gT.length f15] 33
            have H16 := h15.below B16 (Nat.le_refl _)
            have KW16 := below_more b15 B16
            obtain ⟨b0, off, la1, lc1, la2, lc2, rfl, hb0, hv0, k0, k1, k2, k3, k4⟩ := HGK.out _ (KF.out _ (below_more K14.out KW16))
            obtain ⟨W16, hW16⟩ : ∃ W16, W16 = w15.alloc (.cells #[.int .i64 gi, .int .i64 gl, .pointer q15, .slice a15 gS.length c15, .slice d15 gT.length f15] 33) := ⟨_, rfl⟩
            rw [← hW16] at B16 R16 L16 H16 KW16 hb0 hv0 k0 k1 k2 k3 k4
            have HW16 := Lib.hid hW16
            have HKW16 := Lib.hid KW16
            have KZ : Hid (Below W16.heap.size W16 W16) := Below.refl _ _
            have CPx : Hid (∀ w', Below W16.heap.size W16 w' → Calls Tryd.prog 36 #[.agg #[.int .i64 gi, .int .i64 gl, .pointer q15, .slice a15 gS.length c15, .slice d15 gT.length f15]] w' (GivePl w' gi gl gL gS gT)) := fun w' hb => plain_any w' (H16.below hb (Nat.le_refl _)) GOK.out.1 (by have := GOK.out.2.1; show gL.length ≤ _; simp only at this; omega) (by have := GOK.out.2.2.1; show gS.length ≤ _; simp only at this; omega) (by have := GOK.out.2.2.2; show gT.length ≤ _; simp only at this; omega)
            have HV0 : Hid (∀ w', Below W16.heap.size W16 w' → Pl w' (.agg #[.int .i64 gi, .int .i64 gl, .string (Let.mk gL), .slice la1 gS.length lc1, .slice la2 gT.length lc2]) gi gl gL gS gT) := fun w' hb => hv0.below hb (Nat.le_refl _)
            have BX10 : Hid (∀ w', Below W16.heap.size W16 w' → Below W16.heap.size W16 w' ∧ (w'.cell? ⟨w15.heap.size, 0, none⟩ = some (.int .i64 gi) ∧ w'.cell? ⟨w15.heap.size, 1, none⟩ = some (.int .i64 gl) ∧ w'.cell? ⟨w15.heap.size, 2, none⟩ = some (.pointer q15) ∧ w'.cell? ⟨w15.heap.size, 3, none⟩ = some (.slice a15 gS.length c15) ∧ w'.cell? ⟨w15.heap.size, 4, none⟩ = some (.slice d15 gT.length f15)) ∧ (w'.cell? ⟨b0, off + k * 5, none⟩ = some (.int .i64 gi) ∧ w'.cell? ⟨b0, off + k * 5 + 1, none⟩ = some (.int .i64 gl) ∧ w'.cell? ⟨b0, off + k * 5 + 2, none⟩ = some (.string (Let.mk gL)) ∧ w'.cell? ⟨b0, off + k * 5 + 3, none⟩ = some (.slice la1 gS.length lc1) ∧ w'.cell? ⟨b0, off + k * 5 + 4, none⟩ = some (.slice la2 gT.length lc2))) := fun w' hb => ⟨hb, five_cells ((hb.block _ (Array.getElem?_eq_some_iff.1 R16).1).trans R16), cell5_below hb hb0 k0 k1 k2 k3 k4⟩
            have CPlc : Hid (∀ w', Below W14.heap.size W14 w' → Calls Tryd.prog 34 #[.slice (some ⟨b0, off, none⟩) n lc, .int .i64 id] w' fun e w'' => e = .returned (.int .i64 (k : Int)) ∧ w'' = w') := fun w' hb => by
              have := place_any id w' (HAr.out _ (KF.out _ (below_more K14.out hb))).1
              rwa [HPI] at this
            have i0 : (0 : Int) ≤ (k : Int) := by omega
            have i1 : (k : Int) < (n : Int) := by omega
            have i2 : ¬ ((k : Int) < 0) := by omega
            have j1 : decide ((0 : Int) ≤ (k : Int)) = true := decide_eq_true i0
            generalize gS.length = m1 at *
            generalize gT.length = m2 at *
            clear hp hk hki HPI hW16 B16 R16 L16 H16 KW16 hb0 hv0 k0 k1 k2 k3 k4 h15 b15 HGK CF2 t0 t1
            go_upto_region 9 with fail
            rw [← HW16.out]
            go_wp2_with fail
            refine (CPlc.out _ HKW16.out).mono ?_
            rintro e w17' ⟨rfl, hw17⟩
            rw [hw17]
            clear hw17
            go_upto_region 10 with fail
            refine wp_region_held_drew (S := fun w' => Below W16.heap.size W16 w' ∧ (w'.cell? ⟨w15.heap.size, 0, none⟩ = some (.int .i64 gi) ∧ w'.cell? ⟨w15.heap.size, 1, none⟩ = some (.int .i64 gl) ∧ w'.cell? ⟨w15.heap.size, 2, none⟩ = some (.pointer q15) ∧ w'.cell? ⟨w15.heap.size, 3, none⟩ = some (.slice a15 m1 c15) ∧ w'.cell? ⟨w15.heap.size, 4, none⟩ = some (.slice d15 m2 f15)) ∧ (w'.cell? ⟨b0, off + k * 5, none⟩ = some (.int .i64 gi) ∧ w'.cell? ⟨b0, off + k * 5 + 1, none⟩ = some (.int .i64 gl) ∧ w'.cell? ⟨b0, off + k * 5 + 2, none⟩ = some (.string (Let.mk gL)) ∧ w'.cell? ⟨b0, off + k * 5 + 3, none⟩ = some (.slice la1 m1 lc1) ∧ w'.cell? ⟨b0, off + k * 5 + 4, none⟩ = some (.slice la2 m2 lc2))) (by kernel_rfl) ?_ (fun hHeld => ?_)
            focus ((try dsimp only); (refine BX10.out _ ?_; (focus ((repeat first | with_reducible assumption | with_reducible exact KZ.out | with_reducible apply Below.drew | with_reducible apply below_drews); done))); done)
            refine' wpAnyH_take (i := 0) (v := _) rfl (by kernel_rfl) (by kernel_rfl) (by kernel_rfl) (fun _ _ _ h => h) (Or.inl ⟨by rfl, ?hy1⟩) (by assumption) ?rest1
            case hy1 => (intro w hSw; (try dsimp only at hSw); go_simp; try with_reducible rfl)
            try simp only [Act.put, List.getElem_toArray, List.getElem_cons_zero, List.getElem_cons_succ, List.setIfInBounds_toArray, List.set_cons_zero, List.set_cons_succ]
            refine' wpAnyH_take (i := 1) (v := _) rfl (by kernel_rfl) (by kernel_rfl) (by kernel_rfl) (fun _ _ _ h => h) (Or.inl ⟨by rfl, ?hy2⟩) (by assumption) ?rest2
            case hy2 => (intro w hSw; (try dsimp only at hSw); go_simp; try with_reducible rfl)
            try simp only [Act.put, List.getElem_toArray, List.getElem_cons_zero, List.getElem_cons_succ, List.setIfInBounds_toArray, List.set_cons_zero, List.set_cons_succ]
            refine' wpAnyH_take (i := 2) (v := _) rfl (by kernel_rfl) (by kernel_rfl) (by kernel_rfl) (fun _ _ _ h => h) (Or.inl ⟨by rfl, ?hy3⟩) (by assumption) ?rest3
            case hy3 => (intro w hSw; (try dsimp only at hSw); go_simp; try with_reducible rfl)
            try simp only [Act.put, List.getElem_toArray, List.getElem_cons_zero, List.getElem_cons_succ, List.setIfInBounds_toArray, List.set_cons_zero, List.set_cons_succ]
            refine' wpAnyH_take (i := 3) (v := _) rfl (by kernel_rfl) (by kernel_rfl) (by kernel_rfl) (fun _ _ _ h => h) (Or.inl ⟨by rfl, ?hy4⟩) (by assumption) ?rest4
            case hy4 => (intro w hSw; (try dsimp only at hSw); go_simp; try with_reducible rfl)
            try simp only [Act.put, List.getElem_toArray, List.getElem_cons_zero, List.getElem_cons_succ, List.setIfInBounds_toArray, List.set_cons_zero, List.set_cons_succ]
            refine' wpAnyH_take (i := 4) (v := _) rfl (by kernel_rfl) (by kernel_rfl) (by kernel_rfl) (fun _ _ _ h => h) (Or.inl ⟨by rfl, ?hy5⟩) (by assumption) ?rest5
            case hy5 => (intro w hSw; (try dsimp only at hSw); go_simp; try with_reducible rfl)
            try simp only [Act.put, List.getElem_toArray, List.getElem_cons_zero, List.getElem_cons_succ, List.setIfInBounds_toArray, List.set_cons_zero, List.set_cons_succ]
            refine' wpAnyH_take (i := 5) (v := _) rfl (by kernel_rfl) (by kernel_rfl) (by kernel_rfl) (fun _ _ _ h => h) (Or.inl ⟨by rfl, ?hy6⟩) (by assumption) ?rest6
            case hy6 => (intro w hSw; (try dsimp only at hSw); go_simp; try with_reducible rfl)
            try simp only [Act.put, List.getElem_toArray, List.getElem_cons_zero, List.getElem_cons_succ, List.setIfInBounds_toArray, List.set_cons_zero, List.set_cons_succ]
            refine' wpAnyH_take (i := 6) (v := _) rfl (by kernel_rfl) (by kernel_rfl) (by kernel_rfl) (fun _ _ _ h => h) (Or.inl ⟨by rfl, ?hy7⟩) (by assumption) ?rest7
            case hy7 => (intro w hSw; (try dsimp only at hSw); go_simp; try with_reducible rfl)
            try simp only [Act.put, List.getElem_toArray, List.getElem_cons_zero, List.getElem_cons_succ, List.setIfInBounds_toArray, List.set_cons_zero, List.set_cons_succ]
            refine' wpAnyH_take (i := 7) (v := _) rfl (by kernel_rfl) (by kernel_rfl) (by kernel_rfl) (fun _ _ _ h => h) (Or.inl ⟨by rfl, ?hy8⟩) (by assumption) ?rest8
            case hy8 => (intro w hSw; (try dsimp only at hSw); go_simp; try with_reducible rfl)
            try simp only [Act.put, List.getElem_toArray, List.getElem_cons_zero, List.getElem_cons_succ, List.setIfInBounds_toArray, List.set_cons_zero, List.set_cons_succ]
            refine' wpAnyH_take (i := 9) (v := _) rfl (by kernel_rfl) (by kernel_rfl) (by kernel_rfl) (fun _ _ _ h => h) (Or.inl ⟨by rfl, ?hy9⟩) (by assumption) ?rest9
            case hy9 => (intro w hSw; (try dsimp only at hSw); go_simp; try with_reducible rfl)
            try simp only [Act.put, List.getElem_toArray, List.getElem_cons_zero, List.getElem_cons_succ, List.setIfInBounds_toArray, List.set_cons_zero, List.set_cons_succ]
            refine' wpAnyH_take (i := 10) (v := _) rfl (by kernel_rfl) (by kernel_rfl) (by kernel_rfl) (fun _ _ _ h => h) (Or.inl ⟨by rfl, ?hy10⟩) (by assumption) ?rest10
            case hy10 => (intro w hSw; (try dsimp only at hSw); go_simp; try with_reducible rfl)
            try simp only [Act.put, List.getElem_toArray, List.getElem_cons_zero, List.getElem_cons_succ, List.setIfInBounds_toArray, List.set_cons_zero, List.set_cons_succ]
            refine' wpAnyH_take (i := 11) (v := _) rfl (by kernel_rfl) (by kernel_rfl) (by kernel_rfl) (fun _ _ _ h => h) (Or.inl ⟨by rfl, ?hy11⟩) (by assumption) ?rest11
            case hy11 => (intro w hSw; (try dsimp only at hSw); go_simp; try with_reducible rfl)
            try simp only [Act.put, List.getElem_toArray, List.getElem_cons_zero, List.getElem_cons_succ, List.setIfInBounds_toArray, List.set_cons_zero, List.set_cons_succ]
            refine' wpAnyH_take (i := 12) (v := _) rfl (by kernel_rfl) (by kernel_rfl) (by kernel_rfl) (fun _ _ _ h => h) (Or.inl ⟨by rfl, ?hy12⟩) (by assumption) ?rest12
            case hy12 => (intro w hSw; (try dsimp only at hSw); go_simp; try with_reducible rfl)
            try simp only [Act.put, List.getElem_toArray, List.getElem_cons_zero, List.getElem_cons_succ, List.setIfInBounds_toArray, List.set_cons_zero, List.set_cons_succ]
            refine' wpAnyH_take (i := 13) (v := _) rfl (by kernel_rfl) (by kernel_rfl) (by kernel_rfl) (fun _ _ _ h => h) (Or.inl ⟨by rfl, ?hy13⟩) (by assumption) ?rest13
            case hy13 => (intro w hSw; (try dsimp only at hSw); go_simp; try with_reducible rfl)
            try simp only [Act.put, List.getElem_toArray, List.getElem_cons_zero, List.getElem_cons_succ, List.setIfInBounds_toArray, List.set_cons_zero, List.set_cons_succ]
            refine wpAnyH_ready (rs := [8]) (by kernel_rfl) (by simp) ?_
            refine AllReadyH.cons rfl (fun K hK => ?_) ?_
            · go_simp
              (go_at_call 36; (with_reducible refine (CPx.out _ ?_).mono ?_); (focus ((repeat first | with_reducible assumption | with_reducible exact KZ.out | with_reducible apply Below.drew | with_reducible apply below_drews); done)); rintro e wp ⟨vp, rfl, hp1, bp⟩; have jj1 := fun h => below_more (B := W16.heap.size) (w := W16) h bp; replace jj1 := jj1 (by (repeat first | with_reducible assumption | with_reducible exact KZ.out | with_reducible apply Below.drew | with_reducible apply below_drews)); obtain ⟨pa1, pc1, pa2, pc2, rfl, _, _⟩ := hp1.open_; have HP1 := Lib.hid hp1; have KPP := Lib.hid (Below.refl wp.heap.size wp); clear bp hp1)
              go_wp2_with fail
              refine hK.out _ _ ?_ (fun hHeld => ?_)
              focus ((try dsimp only); (refine BX10.out _ ?_; (focus ((repeat first | with_reducible assumption | with_reducible exact KZ.out | with_reducible apply Below.drew | with_reducible apply below_drews); done))); done)
              clear hK K
              try simp only [Act.put, List.getElem_toArray, List.getElem_cons_zero, List.getElem_cons_succ, List.setIfInBounds_toArray, List.set_cons_zero, List.set_cons_succ]
              refine wpAnyH_ready (rs := [14]) (by kernel_rfl) (by simp) ?_
              refine AllReadyH.cons rfl (fun K hK => ?_) ?_
              · go_simp
                (go_at_call 35; (with_reducible refine (same5_any _ (Pl.below HP1.out (B := wp.heap.size) ?_ (Nat.le_refl _)) (HV0.out _ ?_)).mono ?_); (focus ((repeat first | with_reducible assumption | with_reducible exact KZ.out | with_reducible exact KPP.out | with_reducible apply Below.drew | with_reducible apply below_drews); done)); (focus ((repeat first | with_reducible assumption | with_reducible exact KZ.out | with_reducible apply Below.drew | with_reducible apply below_drews); done)); rintro e wq ⟨rfl, bq⟩; have jj2 := fun h => below_more (B := W16.heap.size) (w := W16) h bq; replace jj2 := jj2 (by (repeat first | with_reducible assumption | with_reducible exact KZ.out | with_reducible apply Below.drew | with_reducible apply below_drews)); clear bq)
                go_wp2_with fail
                refine hK.out _ _ ?_ (fun hHeld => ?_)
                focus ((try dsimp only); (refine BX10.out _ ?_; (focus ((repeat first | with_reducible assumption | with_reducible exact KZ.out | with_reducible apply Below.drew | with_reducible apply below_drews); done))); done)
                clear hK K
                try simp only [Act.put, List.getElem_toArray, List.getElem_cons_zero, List.getElem_cons_succ, List.setIfInBounds_toArray, List.set_cons_zero, List.set_cons_succ]
                refine' wpAnyH_take (i := 15) (v := _) rfl (by kernel_rfl) (by kernel_rfl) (by kernel_rfl) (fun _ _ _ h => h) (Or.inl ⟨by rfl, ?hy14⟩) (by assumption) ?rest14
                case hy14 => (intro w hSw; (try dsimp only at hSw); go_simp; try with_reducible rfl)
                try simp only [Act.put, List.getElem_toArray, List.getElem_cons_zero, List.getElem_cons_succ, List.setIfInBounds_toArray, List.set_cons_zero, List.set_cons_succ]
                refine' wpAnyH_take (i := 16) (v := _) rfl (by kernel_rfl) (by kernel_rfl) (by kernel_rfl) (fun _ _ _ h => h) (Or.inl ⟨by rfl, ?hy15⟩) (by assumption) ?rest15
                case hy15 => (intro w hSw; (try dsimp only at hSw); go_simp; try with_reducible rfl)
                try simp only [Act.put, List.getElem_toArray, List.getElem_cons_zero, List.getElem_cons_succ, List.setIfInBounds_toArray, List.set_cons_zero, List.set_cons_succ]
                refine' wpAnyH_take (i := 17) (v := _) rfl (by kernel_rfl) (by kernel_rfl) (by kernel_rfl) (fun _ _ _ h => h) (Or.inl ⟨by rfl, ?hy16⟩) (by assumption) ?rest16
                case hy16 => (intro w hSw; (try dsimp only at hSw); go_simp; try with_reducible rfl)
                try simp only [Act.put, List.getElem_toArray, List.getElem_cons_zero, List.getElem_cons_succ, List.setIfInBounds_toArray, List.set_cons_zero, List.set_cons_succ]
                refine' wpAnyH_take (i := 18) (v := _) rfl (by kernel_rfl) (by kernel_rfl) (by kernel_rfl) (fun _ _ _ h => h) (Or.inl ⟨by rfl, ?hy17⟩) (by assumption) ?rest17
                case hy17 => (intro w hSw; (try dsimp only at hSw); go_simp; try with_reducible rfl)
                try simp only [Act.put, List.getElem_toArray, List.getElem_cons_zero, List.getElem_cons_succ, List.setIfInBounds_toArray, List.set_cons_zero, List.set_cons_succ]
                refine' wpAnyH_take (i := 19) (v := _) rfl (by kernel_rfl) (by kernel_rfl) (by kernel_rfl) (fun _ _ _ h => h) (Or.inl ⟨by rfl, ?hy18⟩) (by assumption) ?rest18
                case hy18 => (intro w hSw; (try dsimp only at hSw); go_simp; try with_reducible rfl)
                try simp only [Act.put, List.getElem_toArray, List.getElem_cons_zero, List.getElem_cons_succ, List.setIfInBounds_toArray, List.set_cons_zero, List.set_cons_succ]
                refine' wpAnyH_take (i := 20) (v := _) rfl (by kernel_rfl) (by kernel_rfl) (by kernel_rfl) (fun _ _ _ h => h) (Or.inl ⟨by rfl, ?hy19⟩) (by assumption) ?rest19
                case hy19 => (intro w hSw; (try dsimp only at hSw); go_simp; try with_reducible rfl)
                try simp only [Act.put, List.getElem_toArray, List.getElem_cons_zero, List.getElem_cons_succ, List.setIfInBounds_toArray, List.set_cons_zero, List.set_cons_succ]
                refine' wpAnyH_take (i := 21) (v := _) rfl (by kernel_rfl) (by kernel_rfl) (by kernel_rfl) (fun _ _ _ h => h) (Or.inl ⟨by rfl, ?hy20⟩) (by assumption) ?rest20
                case hy20 => (intro w hSw; (try dsimp only at hSw); go_simp; try with_reducible rfl)
                try simp only [Act.put, List.getElem_toArray, List.getElem_cons_zero, List.getElem_cons_succ, List.setIfInBounds_toArray, List.set_cons_zero, List.set_cons_succ]
                refine wpAnyH_take (i := 22) (v := undef) rfl (by kernel_rfl) (by kernel_rfl) (by kernel_rfl) (fun _ _ _ h => h) (Or.inr ⟨by rfl, rfl⟩) (by assumption) ?_
                try simp only [Act.put, List.getElem_toArray, List.getElem_cons_zero, List.getElem_cons_succ, List.setIfInBounds_toArray, List.set_cons_zero, List.set_cons_succ]
                refine wpAnyH_take (i := 23) (v := undef) rfl (by kernel_rfl) (by kernel_rfl) (by kernel_rfl) (fun _ _ _ h => h) (Or.inr ⟨by rfl, rfl⟩) (by assumption) ?_
                try simp only [Act.put, List.getElem_toArray, List.getElem_cons_zero, List.getElem_cons_succ, List.setIfInBounds_toArray, List.set_cons_zero, List.set_cons_succ]
                refine wpAnyH_take (i := 24) (v := undef) rfl (by kernel_rfl) (by kernel_rfl) (by kernel_rfl) (fun _ _ _ h => h) (Or.inr ⟨by rfl, rfl⟩) (by assumption) ?_
                try simp only [Act.put, List.getElem_toArray, List.getElem_cons_zero, List.getElem_cons_succ, List.setIfInBounds_toArray, List.set_cons_zero, List.set_cons_succ]
                refine wpAnyH_take (i := 25) (v := undef) rfl (by kernel_rfl) (by kernel_rfl) (by kernel_rfl) (fun _ _ _ h => h) (Or.inr ⟨by rfl, rfl⟩) (by assumption) ?_
                try simp only [Act.put, List.getElem_toArray, List.getElem_cons_zero, List.getElem_cons_succ, List.setIfInBounds_toArray, List.set_cons_zero, List.set_cons_succ]
                refine wpAnyH_take (i := 26) (v := undef) rfl (by kernel_rfl) (by kernel_rfl) (by kernel_rfl) (fun _ _ _ h => h) (Or.inr ⟨by rfl, rfl⟩) (by assumption) ?_
                try simp only [Act.put, List.getElem_toArray, List.getElem_cons_zero, List.getElem_cons_succ, List.setIfInBounds_toArray, List.set_cons_zero, List.set_cons_succ]
                refine' wpAnyH_take (i := 27) (v := _) rfl (by kernel_rfl) (by kernel_rfl) (by kernel_rfl) (fun _ _ _ h => h) (Or.inl ⟨by rfl, ?hy21⟩) (by assumption) ?rest21
                case hy21 => (intro w hSw; (try dsimp only at hSw); go_simp; try with_reducible rfl)
                try simp only [Act.put, List.getElem_toArray, List.getElem_cons_zero, List.getElem_cons_succ, List.setIfInBounds_toArray, List.set_cons_zero, List.set_cons_succ]
                refine' wpAnyH_take (i := 28) (v := _) rfl (by kernel_rfl) (by kernel_rfl) (by kernel_rfl) (fun _ _ _ h => h) (Or.inl ⟨by rfl, ?hy22⟩) (by assumption) ?rest22
                case hy22 => (intro w hSw; (try dsimp only at hSw); go_simp; try with_reducible rfl)
                try simp only [Act.put, List.getElem_toArray, List.getElem_cons_zero, List.getElem_cons_succ, List.setIfInBounds_toArray, List.set_cons_zero, List.set_cons_succ]
                refine wpAnyH_done (by kernel_rfl) ?_ _
                have KW : Hid (Below W14.heap.size W14 wq) := below_more HKW16.out (by (repeat first | with_reducible assumption | with_reducible exact KZ.out | with_reducible apply Below.drew | with_reducible apply below_drews))
                obtain ⟨x0, x1, x2, x3, x4⟩ := XC.out _ (below_more K14.out KW.out)
                have CLx : Hid (Calls Tryd.prog 37 #[.agg #[.int .i64 xi, .int .i64 xl, .string (Let.mk xL), .slice a3 n3 c3, .slice a4 n4 c4]] wq (GiveIns wq true x.i x.l x.L x.S x.T)) := load5_yes (g := x) wq (HX.out _ (KF.out _ (below_more K14.out KW.out))) XZ.out RX.out (HT.out _ (KF.out _ (below_more K14.out KW.out)))
                go_wp2_with fail
                refine (CLx.out).mono ?_
                rintro e wz ⟨vz, rfl, hz, bz⟩
                obtain ⟨qz, az, cz, ez, dz, rfl, _, _, _⟩ := hz.open_
                obtain ⟨B17, R17, L17⟩ := box1 wz #[.int .i64 x.i, .int .i64 x.l, .pointer qz, .slice az x.S.length cz, .slice ez x.T.length dz] 33
                have HZ := hz.below B17 (Nat.le_refl _)
                obtain ⟨f1, f2, f3, f4, f5⟩ := HE.out
                rw [← f1, ← f2, ← f4, ← f5] at B17 R17 L17 HZ ⊢
                have K17 := below_more (below_more KW.out bz) B17
                have r7z := ((below_more KW.out bz).block b7 (Array.getElem?_eq_some_iff.1 R14.out).1).trans R14.out
                have r17 := (B17.block b7 (Array.getElem?_eq_some_iff.1 r7z).1).trans r7z
                obtain ⟨W17, hW17⟩ : ∃ W17, W17 = wz.alloc (.cells #[.int .i64 xi, .int .i64 xl, .pointer qz, .slice az n3 cz, .slice ez n4 dz] 33) := ⟨_, rfl⟩
                rw [← hW17] at B17 R17 L17 HZ K17 r17
                have HW17 := Lib.hid hW17
                have HK17 := Lib.hid K17
                have KV : Hid (Below W17.heap.size W17 W17) := Below.refl _ _
                have HZs : Hid (∀ w', Below W17.heap.size W17 w' → Sg w' (.agg #[.int .i64 xi, .int .i64 xl, .pointer qz, .slice az n3 cz, .slice ez n4 dz]) x.i x.l x.L x.S x.T) := fun w' hb => by rw [f1, f2] at HZ ⊢; exact HZ.below hb (Nat.le_refl _)
                have B17X : Hid (∀ w', Below W17.heap.size W17 w' → Below W17.heap.size W17 w' ∧ (w'.cell? ⟨b7, 0, none⟩ = some (.bool false) ∧ w'.cell? ⟨b7, 1, none⟩ = some (.slice sa n sc)) ∧ (w'.cell? ⟨wz.heap.size, 0, none⟩ = some (.int .i64 xi) ∧ w'.cell? ⟨wz.heap.size, 1, none⟩ = some (.int .i64 xl) ∧ w'.cell? ⟨wz.heap.size, 2, none⟩ = some (.pointer qz) ∧ w'.cell? ⟨wz.heap.size, 3, none⟩ = some (.slice az n3 cz) ∧ w'.cell? ⟨wz.heap.size, 4, none⟩ = some (.slice ez n4 dz)) ∧ (w'.cell? ⟨w.heap.size, 0, none⟩ = some (.int .i64 xi) ∧ w'.cell? ⟨w.heap.size, 1, none⟩ = some (.int .i64 xl) ∧ w'.cell? ⟨w.heap.size, 2, none⟩ = some (.string (Let.mk xL)) ∧ w'.cell? ⟨w.heap.size, 3, none⟩ = some (.slice a3 n3 c3) ∧ w'.cell? ⟨w.heap.size, 4, none⟩ = some (.slice a4 n4 c4))) := fun w' hb => ⟨hb, ⟨(two_cells ((hb.block b7 (Array.getElem?_eq_some_iff.1 r17).1).trans r17)).1, (two_cells ((hb.block b7 (Array.getElem?_eq_some_iff.1 r17).1).trans r17)).2.1⟩, five_cells ((hb.block _ (Array.getElem?_eq_some_iff.1 R17).1).trans R17), XC.out _ (below_more K14.out (below_more HK17.out hb))⟩
                have KF17 : Hid (∀ w', Below W17.heap.size W17 w' → Below w.heap.size w w') := fun w' hb => KF.out _ (below_more K14.out (below_more HK17.out hb))
                have CSet : Hid (∀ w', Below W17.heap.size W17 w' → Calls Tryd.prog 38 #[.agg #[.bool false, .slice sa n sc], .agg #[.int .i64 xi, .int .i64 xl, .pointer qz, .slice az n3 cz, .slice ez n4 dz]] w' (GiveSh false (setG G x) w')) := fun w' hb => sset_any w' (HShG.out _ (below_more HK17.out hb)) (HZs.out w' hb) (by have := S40.out; omega)
                have CRs : Hid (∀ w', Below W17.heap.size W17 w' → Calls Tryd.prog 39 #[.slice (some ⟨b0, off, none⟩) n lc, .agg #[.int .i64 xi, .int .i64 xl, .string (Let.mk xL), .slice a3 n3 c3, .slice a4 n4 c4]] w' (GivePls (setG G x) w')) := fun w' hb => rset_any w' (HAr.out _ (KF17.out _ hb)).1 (HX.out _ (KF17.out _ hb)) (by have := S40.out; omega)
                have CPl : Hid (∀ w', Below W17.heap.size W17 w' → Calls Tryd.prog 31 #[.agg #[.bool false, .slice sa n sc]] w' (GivePls G w')) := fun w' hb => hplain_any w' (HShG.out _ (below_more HK17.out hb)) HOK.out (by have := S40.out; omega)
                have HLp : Hid (∀ w', Below W17.heap.size W17 w' → Pls w' (.slice (some ⟨b0, off, none⟩) n lc) G) := fun w' hb => (HAr.out _ (KF17.out _ hb)).1
                have OK1 := Lib.hid (set_sz (x := x) HOK.out XOK.out)
                have KS : Hid True := trivial
                have KP : Hid True := trivial
                have KQ : Hid True := trivial
                have KT : Hid True := trivial
                clear hW17 B17 R17 L17 HZ K17 r17 r7z bz hz x0 x1 x2 x3 x4 f1 f2 f3 f4 f5 CLx
                go_upto_region 13 with fail
                rw [← HW17.out]
                go_region_held3 (fun w' => Below W17.heap.size W17 w' ∧ (w'.cell? ⟨b7, 0, none⟩ = some (.bool false) ∧ w'.cell? ⟨b7, 1, none⟩ = some (.slice sa n sc)) ∧ (w'.cell? ⟨wz.heap.size, 0, none⟩ = some (.int .i64 xi) ∧ w'.cell? ⟨wz.heap.size, 1, none⟩ = some (.int .i64 xl) ∧ w'.cell? ⟨wz.heap.size, 2, none⟩ = some (.pointer qz) ∧ w'.cell? ⟨wz.heap.size, 3, none⟩ = some (.slice az n3 cz) ∧ w'.cell? ⟨wz.heap.size, 4, none⟩ = some (.slice ez n4 dz)) ∧ (w'.cell? ⟨w.heap.size, 0, none⟩ = some (.int .i64 xi) ∧ w'.cell? ⟨w.heap.size, 1, none⟩ = some (.int .i64 xl) ∧ w'.cell? ⟨w.heap.size, 2, none⟩ = some (.string (Let.mk xL)) ∧ w'.cell? ⟨w.heap.size, 3, none⟩ = some (.slice a3 n3 c3) ∧ w'.cell? ⟨w.heap.size, 4, none⟩ = some (.slice a4 n4 c4)))
                  ((refine B17X.out _ ?_; (focus ((repeat first | with_reducible assumption | with_reducible exact KV.out | with_reducible exact KS.out | with_reducible exact KP.out | with_reducible exact KQ.out | with_reducible exact KT.out | with_reducible apply Below.drew | with_reducible apply below_drews); done))))
                  (first
                    | (go_at_call 38; (with_reducible refine (CSet.out _ ?_).mono ?_); (focus ((repeat first | with_reducible assumption | with_reducible exact KV.out | with_reducible exact KS.out | with_reducible exact KP.out | with_reducible exact KQ.out | with_reducible exact KT.out | with_reducible apply Below.drew | with_reducible apply below_drews); done)); rintro e ws ⟨vs, rfl, hs, bs⟩; have jj1 := fun h => below_more (B := W17.heap.size) (w := W17) h bs; replace jj1 := jj1 (by (repeat first | with_reducible assumption | with_reducible exact KV.out | with_reducible exact KS.out | with_reducible exact KP.out | with_reducible exact KQ.out | with_reducible exact KT.out | with_reducible apply Below.drew | with_reducible apply below_drews)); obtain ⟨sas, scs, rfl, _⟩ := hs.open_; have HSt := Lib.hid hs; have KS := Lib.hid (Below.refl ws.heap.size ws); clear bs hs)
                    | (go_at_call 31; (with_reducible refine (hplain_any _ (HSt.out.below ?_) OK1.out.1 (by rw [OK1.out.2]; have := S40.out; omega)).mono ?_); (focus ((repeat first | with_reducible assumption | with_reducible exact KV.out | with_reducible exact KS.out | with_reducible exact KP.out | with_reducible exact KQ.out | with_reducible exact KT.out | with_reducible apply Below.drew | with_reducible apply below_drews); done)); rintro e wp ⟨vp, rfl, hp1, bp⟩; have jj2 := fun h => below_more (B := W17.heap.size) (w := W17) h bp; replace jj2 := jj2 (by (repeat first | with_reducible assumption | with_reducible exact KV.out | with_reducible exact KS.out | with_reducible exact KP.out | with_reducible exact KQ.out | with_reducible exact KT.out | with_reducible apply Below.drew | with_reducible apply below_drews)); obtain ⟨pas, pcs, rfl⟩ := Rk.Rows.is_slice hp1; have HP1 := Lib.hid hp1; have KP := Lib.hid (Below.refl wp.heap.size wp); clear bp hp1)
                    | (go_at_call 39; (with_reducible refine (CRs.out _ ?_).mono ?_); (focus ((repeat first | with_reducible assumption | with_reducible exact KV.out | with_reducible exact KS.out | with_reducible exact KP.out | with_reducible exact KQ.out | with_reducible exact KT.out | with_reducible apply Below.drew | with_reducible apply below_drews); done)); rintro e wr ⟨vr, rfl, hr1, br⟩; have jj3 := fun h => below_more (B := W17.heap.size) (w := W17) h br; replace jj3 := jj3 (by (repeat first | with_reducible assumption | with_reducible exact KV.out | with_reducible exact KS.out | with_reducible exact KP.out | with_reducible exact KQ.out | with_reducible exact KT.out | with_reducible apply Below.drew | with_reducible apply below_drews)); obtain ⟨ras, rcs, rfl⟩ := Rk.Rows.is_slice hr1; have HR1 := Lib.hid hr1; have mr := fun h => below_more (B := wp.heap.size) (w := wp) h br; replace mr := mr (by (repeat first | with_reducible assumption | with_reducible exact KV.out | with_reducible exact KS.out | with_reducible exact KP.out | with_reducible exact KQ.out | with_reducible exact KT.out | with_reducible apply Below.drew | with_reducible apply below_drews)); have KQ := Lib.hid mr; have KT := Lib.hid (Below.refl wr.heap.size wr); clear br hr1 mr)
                    | (go_at_call 30; (with_reducible refine (hsame_any _ (Pls.below HP1.out ?_) (Pls.below HR1.out ?_)).mono ?_); (focus ((repeat first | with_reducible assumption | with_reducible exact KV.out | with_reducible exact KS.out | with_reducible exact KP.out | with_reducible exact KQ.out | with_reducible exact KT.out | with_reducible apply Below.drew | with_reducible apply below_drews); done)); (focus ((repeat first | with_reducible assumption | with_reducible exact KV.out | with_reducible exact KS.out | with_reducible exact KP.out | with_reducible exact KQ.out | with_reducible exact KT.out | with_reducible apply Below.drew | with_reducible apply below_drews); done)); rintro e wt ⟨rfl, bt⟩; have jj4 := fun h => below_more (B := W17.heap.size) (w := W17) h bt; replace jj4 := jj4 (by (repeat first | with_reducible assumption | with_reducible exact KV.out | with_reducible exact KS.out | with_reducible exact KP.out | with_reducible exact KQ.out | with_reducible exact KT.out | with_reducible apply Below.drew | with_reducible apply below_drews)); clear bt HP1 HR1)
                    | (go_at_call 31; (with_reducible refine (CPl.out _ ?_).mono ?_); (focus ((repeat first | with_reducible assumption | with_reducible exact KV.out | with_reducible exact KS.out | with_reducible exact KP.out | with_reducible exact KQ.out | with_reducible exact KT.out | with_reducible apply Below.drew | with_reducible apply below_drews); done)); rintro e wu ⟨vu, rfl, hu1, bu⟩; have jj5 := fun h => below_more (B := W17.heap.size) (w := W17) h bu; replace jj5 := jj5 (by (repeat first | with_reducible assumption | with_reducible exact KV.out | with_reducible exact KS.out | with_reducible exact KP.out | with_reducible exact KQ.out | with_reducible exact KT.out | with_reducible apply Below.drew | with_reducible apply below_drews)); obtain ⟨uas, ucs, rfl⟩ := Rk.Rows.is_slice hu1; have HU1 := Lib.hid hu1; have KQ := Lib.hid (Below.refl wu.heap.size wu); clear bu hu1)
                    | (go_at_call 30; (with_reducible refine (hsame_any (G := G) _ (Pls.below HU1.out ?_) (HLp.out _ ?_)).mono ?_); (focus ((repeat first | with_reducible assumption | with_reducible exact KV.out | with_reducible exact KS.out | with_reducible exact KP.out | with_reducible exact KQ.out | with_reducible exact KT.out | with_reducible apply Below.drew | with_reducible apply below_drews); done)); (focus ((repeat first | with_reducible assumption | with_reducible exact KV.out | with_reducible exact KS.out | with_reducible exact KP.out | with_reducible exact KQ.out | with_reducible exact KT.out | with_reducible apply Below.drew | with_reducible apply below_drews); done)); rintro e wv ⟨rfl, bv⟩; have jj6 := fun h => below_more (B := W17.heap.size) (w := W17) h bv; replace jj6 := jj6 (by (repeat first | with_reducible assumption | with_reducible exact KV.out | with_reducible exact KS.out | with_reducible exact KP.out | with_reducible exact KQ.out | with_reducible exact KT.out | with_reducible apply Below.drew | with_reducible apply below_drews)); clear bv))
                go_wp2_with fail
                go_ret
                exact ⟨by simp, KF17.out _ (by (repeat first | with_reducible assumption | with_reducible exact KV.out | with_reducible exact KS.out | with_reducible exact KP.out | with_reducible exact KQ.out | with_reducible exact KT.out | with_reducible apply Below.drew | with_reducible apply below_drews))⟩
              exact AllReadyH.nil
            exact AllReadyH.nil
          | none =>
            have CF2 := Lib.hid (find_no id W14 (HShG.out _ (Below.refl _ _)) hp)
            have HPI := placeI_no hp
            go_wp2_with fail
            refine (CF2.out).mono ?_
            rintro e w15 ⟨v15, rfl, h15, b15⟩
            obtain ⟨q15, a15, c15, d15, f15, rfl, _, _, _⟩ := h15.open_
            obtain ⟨B16, R16, L16⟩ := box1 w15 #[.int .i64 0, .int .i64 0, .pointer q15, .slice a15 0 c15, .slice d15 0 f15] 33
            have H16 : Sg (w15.alloc (.cells #[.int .i64 0, .int .i64 0, .pointer q15, .slice a15 0 c15, .slice d15 0 f15] 33)) (.agg #[.int .i64 0, .int .i64 0, .pointer q15, .slice a15 0 c15, .slice d15 0 f15]) 0 0 [] [] [] := h15.below B16 (Nat.le_refl _)
            have KW16 := below_more b15 B16
            obtain ⟨W16, hW16⟩ : ∃ W16, W16 = w15.alloc (.cells #[.int .i64 0, .int .i64 0, .pointer q15, .slice a15 0 c15, .slice d15 0 f15] 33) := ⟨_, rfl⟩
            rw [← hW16] at B16 R16 L16 H16 KW16
            have HW16 := Lib.hid hW16
            have HKW16 := Lib.hid KW16
            have KZ : Hid (Below W16.heap.size W16 W16) := Below.refl _ _
            have CPx : Hid (∀ w', Below W16.heap.size W16 w' → Calls Tryd.prog 36 #[.agg #[.int .i64 0, .int .i64 0, .pointer q15, .slice a15 0 c15, .slice d15 0 f15]] w' (GivePl w' 0 0 [] [] [])) := fun w' hb => plain_any w' (H16.below hb (Nat.le_refl _)) (by simp) (by simp) (by simp) (by simp)
            have HV0 : Hid (∀ w' : World, Pl w' (.agg #[.int .i64 0, .int .i64 0, .string (ByteArray.mk #[]), .slice none 0 0, .slice none 0 0]) 0 0 [] [] []) := fun w' => ⟨_, _, rfl, Spans.nil_ _, Sites.nil_ _⟩
            have BX10 : Hid (∀ w', Below W16.heap.size W16 w' → Below W16.heap.size W16 w' ∧ (w'.cell? ⟨w15.heap.size, 0, none⟩ = some (.int .i64 0) ∧ w'.cell? ⟨w15.heap.size, 1, none⟩ = some (.int .i64 0) ∧ w'.cell? ⟨w15.heap.size, 2, none⟩ = some (.pointer q15) ∧ w'.cell? ⟨w15.heap.size, 3, none⟩ = some (.slice a15 0 c15) ∧ w'.cell? ⟨w15.heap.size, 4, none⟩ = some (.slice d15 0 f15))) := fun w' hb => ⟨hb, five_cells ((hb.block _ (Array.getElem?_eq_some_iff.1 R16).1).trans R16)⟩
            have CPlc : Hid (∀ w', Below W14.heap.size W14 w' → Calls Tryd.prog 34 #[.slice la n lc, .int .i64 id] w' fun e w'' => e = .returned (.int .i64 (-1)) ∧ w'' = w') := fun w' hb => by
              have := place_any id w' (HAr.out _ (KF.out _ (below_more K14.out hb))).1
              rwa [HPI] at this
            have j1 : decide ((0 : Int) ≤ (-1 : Int)) = false := by decide
            clear hp HPI hW16 B16 R16 L16 H16 KW16 h15 b15 CF2 t0 t1
            go_upto_region 9 with fail
            rw [← HW16.out]
            go_wp2_with fail
            refine (CPlc.out _ HKW16.out).mono ?_
            rintro e w17' ⟨rfl, hw17⟩
            rw [hw17]
            clear hw17
            go_upto_region 10 with fail
            refine wp_region_held_drew (S := fun w' => Below W16.heap.size W16 w' ∧ (w'.cell? ⟨w15.heap.size, 0, none⟩ = some (.int .i64 0) ∧ w'.cell? ⟨w15.heap.size, 1, none⟩ = some (.int .i64 0) ∧ w'.cell? ⟨w15.heap.size, 2, none⟩ = some (.pointer q15) ∧ w'.cell? ⟨w15.heap.size, 3, none⟩ = some (.slice a15 0 c15) ∧ w'.cell? ⟨w15.heap.size, 4, none⟩ = some (.slice d15 0 f15))) (by kernel_rfl) ?_ (fun hHeld => ?_)
            focus ((try dsimp only); (refine BX10.out _ ?_; (focus ((repeat first | with_reducible assumption | with_reducible exact KZ.out | with_reducible apply Below.drew | with_reducible apply below_drews); done))); done)
            refine' wpAnyH_take (i := 0) (v := _) rfl (by kernel_rfl) (by kernel_rfl) (by kernel_rfl) (fun _ _ _ h => h) (Or.inl ⟨by rfl, ?hy23⟩) (by assumption) ?rest23
            case hy23 => (intro w hSw; (try dsimp only at hSw); go_simp; try with_reducible rfl)
            try simp only [Act.put, List.getElem_toArray, List.getElem_cons_zero, List.getElem_cons_succ, List.setIfInBounds_toArray, List.set_cons_zero, List.set_cons_succ]
            refine' wpAnyH_take (i := 1) (v := _) rfl (by kernel_rfl) (by kernel_rfl) (by kernel_rfl) (fun _ _ _ h => h) (Or.inl ⟨by rfl, ?hy24⟩) (by assumption) ?rest24
            case hy24 => (intro w hSw; (try dsimp only at hSw); go_simp; try with_reducible rfl)
            try simp only [Act.put, List.getElem_toArray, List.getElem_cons_zero, List.getElem_cons_succ, List.setIfInBounds_toArray, List.set_cons_zero, List.set_cons_succ]
            refine' wpAnyH_take (i := 2) (v := _) rfl (by kernel_rfl) (by kernel_rfl) (by kernel_rfl) (fun _ _ _ h => h) (Or.inl ⟨by rfl, ?hy25⟩) (by assumption) ?rest25
            case hy25 => (intro w hSw; (try dsimp only at hSw); go_simp; try with_reducible rfl)
            try simp only [Act.put, List.getElem_toArray, List.getElem_cons_zero, List.getElem_cons_succ, List.setIfInBounds_toArray, List.set_cons_zero, List.set_cons_succ]
            refine' wpAnyH_take (i := 3) (v := _) rfl (by kernel_rfl) (by kernel_rfl) (by kernel_rfl) (fun _ _ _ h => h) (Or.inl ⟨by rfl, ?hy26⟩) (by assumption) ?rest26
            case hy26 => (intro w hSw; (try dsimp only at hSw); go_simp; try with_reducible rfl)
            try simp only [Act.put, List.getElem_toArray, List.getElem_cons_zero, List.getElem_cons_succ, List.setIfInBounds_toArray, List.set_cons_zero, List.set_cons_succ]
            refine' wpAnyH_take (i := 4) (v := _) rfl (by kernel_rfl) (by kernel_rfl) (by kernel_rfl) (fun _ _ _ h => h) (Or.inl ⟨by rfl, ?hy27⟩) (by assumption) ?rest27
            case hy27 => (intro w hSw; (try dsimp only at hSw); go_simp; try with_reducible rfl)
            try simp only [Act.put, List.getElem_toArray, List.getElem_cons_zero, List.getElem_cons_succ, List.setIfInBounds_toArray, List.set_cons_zero, List.set_cons_succ]
            refine' wpAnyH_take (i := 5) (v := _) rfl (by kernel_rfl) (by kernel_rfl) (by kernel_rfl) (fun _ _ _ h => h) (Or.inl ⟨by rfl, ?hy28⟩) (by assumption) ?rest28
            case hy28 => (intro w hSw; (try dsimp only at hSw); go_simp; try with_reducible rfl)
            try simp only [Act.put, List.getElem_toArray, List.getElem_cons_zero, List.getElem_cons_succ, List.setIfInBounds_toArray, List.set_cons_zero, List.set_cons_succ]
            refine' wpAnyH_take (i := 6) (v := _) rfl (by kernel_rfl) (by kernel_rfl) (by kernel_rfl) (fun _ _ _ h => h) (Or.inl ⟨by rfl, ?hy29⟩) (by assumption) ?rest29
            case hy29 => (intro w hSw; (try dsimp only at hSw); go_simp; try with_reducible rfl)
            try simp only [Act.put, List.getElem_toArray, List.getElem_cons_zero, List.getElem_cons_succ, List.setIfInBounds_toArray, List.set_cons_zero, List.set_cons_succ]
            refine wpAnyH_take (i := 7) (v := undef) rfl (by kernel_rfl) (by kernel_rfl) (by kernel_rfl) (fun _ _ _ h => h) (Or.inr ⟨by rfl, rfl⟩) (by assumption) ?_
            try simp only [Act.put, List.getElem_toArray, List.getElem_cons_zero, List.getElem_cons_succ, List.setIfInBounds_toArray, List.set_cons_zero, List.set_cons_succ]
            refine wpAnyH_take (i := 8) (v := undef) rfl (by kernel_rfl) (by kernel_rfl) (by kernel_rfl) (fun _ _ _ h => h) (Or.inr ⟨by rfl, rfl⟩) (by assumption) ?_
            try simp only [Act.put, List.getElem_toArray, List.getElem_cons_zero, List.getElem_cons_succ, List.setIfInBounds_toArray, List.set_cons_zero, List.set_cons_succ]
            refine wpAnyH_take (i := 9) (v := undef) rfl (by kernel_rfl) (by kernel_rfl) (by kernel_rfl) (fun _ _ _ h => h) (Or.inr ⟨by rfl, rfl⟩) (by assumption) ?_
            try simp only [Act.put, List.getElem_toArray, List.getElem_cons_zero, List.getElem_cons_succ, List.setIfInBounds_toArray, List.set_cons_zero, List.set_cons_succ]
            refine wpAnyH_take (i := 10) (v := undef) rfl (by kernel_rfl) (by kernel_rfl) (by kernel_rfl) (fun _ _ _ h => h) (Or.inr ⟨by rfl, rfl⟩) (by assumption) ?_
            try simp only [Act.put, List.getElem_toArray, List.getElem_cons_zero, List.getElem_cons_succ, List.setIfInBounds_toArray, List.set_cons_zero, List.set_cons_succ]
            refine wpAnyH_take (i := 11) (v := undef) rfl (by kernel_rfl) (by kernel_rfl) (by kernel_rfl) (fun _ _ _ h => h) (Or.inr ⟨by rfl, rfl⟩) (by assumption) ?_
            try simp only [Act.put, List.getElem_toArray, List.getElem_cons_zero, List.getElem_cons_succ, List.setIfInBounds_toArray, List.set_cons_zero, List.set_cons_succ]
            refine wpAnyH_take (i := 12) (v := undef) rfl (by kernel_rfl) (by kernel_rfl) (by kernel_rfl) (fun _ _ _ h => h) (Or.inr ⟨by rfl, rfl⟩) (by assumption) ?_
            try simp only [Act.put, List.getElem_toArray, List.getElem_cons_zero, List.getElem_cons_succ, List.setIfInBounds_toArray, List.set_cons_zero, List.set_cons_succ]
            refine wpAnyH_take (i := 13) (v := undef) rfl (by kernel_rfl) (by kernel_rfl) (by kernel_rfl) (fun _ _ _ h => h) (Or.inr ⟨by rfl, rfl⟩) (by assumption) ?_
            try simp only [Act.put, List.getElem_toArray, List.getElem_cons_zero, List.getElem_cons_succ, List.setIfInBounds_toArray, List.set_cons_zero, List.set_cons_succ]
            refine wpAnyH_take (i := 14) (v := undef) rfl (by kernel_rfl) (by kernel_rfl) (by kernel_rfl) (fun _ _ _ h => h) (Or.inr ⟨by rfl, rfl⟩) (by assumption) ?_
            try simp only [Act.put, List.getElem_toArray, List.getElem_cons_zero, List.getElem_cons_succ, List.setIfInBounds_toArray, List.set_cons_zero, List.set_cons_succ]
            refine wpAnyH_take (i := 15) (v := undef) rfl (by kernel_rfl) (by kernel_rfl) (by kernel_rfl) (fun _ _ _ h => h) (Or.inr ⟨by rfl, rfl⟩) (by assumption) ?_
            try simp only [Act.put, List.getElem_toArray, List.getElem_cons_zero, List.getElem_cons_succ, List.setIfInBounds_toArray, List.set_cons_zero, List.set_cons_succ]
            refine' wpAnyH_take (i := 16) (v := _) rfl (by kernel_rfl) (by kernel_rfl) (by kernel_rfl) (fun _ _ _ h => h) (Or.inl ⟨by rfl, ?hy30⟩) (by assumption) ?rest30
            case hy30 => (intro w hSw; (try dsimp only at hSw); go_simp; try with_reducible rfl)
            try simp only [Act.put, List.getElem_toArray, List.getElem_cons_zero, List.getElem_cons_succ, List.setIfInBounds_toArray, List.set_cons_zero, List.set_cons_succ]
            refine' wpAnyH_take (i := 17) (v := _) rfl (by kernel_rfl) (by kernel_rfl) (by kernel_rfl) (fun _ _ _ h => h) (Or.inl ⟨by rfl, ?hy31⟩) (by assumption) ?rest31
            case hy31 => (intro w hSw; (try dsimp only at hSw); go_simp; try with_reducible rfl)
            try simp only [Act.put, List.getElem_toArray, List.getElem_cons_zero, List.getElem_cons_succ, List.setIfInBounds_toArray, List.set_cons_zero, List.set_cons_succ]
            refine' wpAnyH_take (i := 18) (v := _) rfl (by kernel_rfl) (by kernel_rfl) (by kernel_rfl) (fun _ _ _ h => h) (Or.inl ⟨by rfl, ?hy32⟩) (by assumption) ?rest32
            case hy32 => (intro w hSw; (try dsimp only at hSw); go_simp; try with_reducible rfl)
            try simp only [Act.put, List.getElem_toArray, List.getElem_cons_zero, List.getElem_cons_succ, List.setIfInBounds_toArray, List.set_cons_zero, List.set_cons_succ]
            refine' wpAnyH_take (i := 19) (v := _) rfl (by kernel_rfl) (by kernel_rfl) (by kernel_rfl) (fun _ _ _ h => h) (Or.inl ⟨by rfl, ?hy33⟩) (by assumption) ?rest33
            case hy33 => (intro w hSw; (try dsimp only at hSw); go_simp; try with_reducible rfl)
            try simp only [Act.put, List.getElem_toArray, List.getElem_cons_zero, List.getElem_cons_succ, List.setIfInBounds_toArray, List.set_cons_zero, List.set_cons_succ]
            refine' wpAnyH_take (i := 20) (v := _) rfl (by kernel_rfl) (by kernel_rfl) (by kernel_rfl) (fun _ _ _ h => h) (Or.inl ⟨by rfl, ?hy34⟩) (by assumption) ?rest34
            case hy34 => (intro w hSw; (try dsimp only at hSw); go_simp; try with_reducible rfl)
            try simp only [Act.put, List.getElem_toArray, List.getElem_cons_zero, List.getElem_cons_succ, List.setIfInBounds_toArray, List.set_cons_zero, List.set_cons_succ]
            refine' wpAnyH_take (i := 21) (v := _) rfl (by kernel_rfl) (by kernel_rfl) (by kernel_rfl) (fun _ _ _ h => h) (Or.inl ⟨by rfl, ?hy35⟩) (by assumption) ?rest35
            case hy35 => (intro w hSw; (try dsimp only at hSw); go_simp; try with_reducible rfl)
            try simp only [Act.put, List.getElem_toArray, List.getElem_cons_zero, List.getElem_cons_succ, List.setIfInBounds_toArray, List.set_cons_zero, List.set_cons_succ]
            refine' wpAnyH_take (i := 22) (v := _) rfl (by kernel_rfl) (by kernel_rfl) (by kernel_rfl) (fun _ _ _ h => h) (Or.inl ⟨by rfl, ?hy36⟩) (by assumption) ?rest36
            case hy36 => (intro w hSw; (try dsimp only at hSw); go_simp; try with_reducible rfl)
            try simp only [Act.put, List.getElem_toArray, List.getElem_cons_zero, List.getElem_cons_succ, List.setIfInBounds_toArray, List.set_cons_zero, List.set_cons_succ]
            refine' wpAnyH_take (i := 24) (v := _) rfl (by kernel_rfl) (by kernel_rfl) (by kernel_rfl) (fun _ _ _ h => h) (Or.inl ⟨by rfl, ?hy37⟩) (by assumption) ?rest37
            case hy37 => (intro w hSw; (try dsimp only at hSw); go_simp; try with_reducible rfl)
            try simp only [Act.put, List.getElem_toArray, List.getElem_cons_zero, List.getElem_cons_succ, List.setIfInBounds_toArray, List.set_cons_zero, List.set_cons_succ]
            refine wpAnyH_ready (rs := [23]) (by kernel_rfl) (by simp) ?_
            refine AllReadyH.cons rfl (fun K hK => ?_) ?_
            · go_simp
              (go_at_call 36; (with_reducible refine (CPx.out _ ?_).mono ?_); (focus ((repeat first | with_reducible assumption | with_reducible exact KZ.out | with_reducible apply Below.drew | with_reducible apply below_drews); done)); rintro e wp ⟨vp, rfl, hp1, bp⟩; have jj1 := fun h => below_more (B := W16.heap.size) (w := W16) h bp; replace jj1 := jj1 (by (repeat first | with_reducible assumption | with_reducible exact KZ.out | with_reducible apply Below.drew | with_reducible apply below_drews)); obtain ⟨pa1, pc1, pa2, pc2, rfl, _, _⟩ := hp1.open_; have HP1 : Hid (Pl wp (.agg #[.int .i64 0, .int .i64 0, .string (Let.mk []), .slice pa1 0 pc1, .slice pa2 0 pc2]) 0 0 [] [] []) := hp1; have KPP := Lib.hid (Below.refl wp.heap.size wp); clear bp hp1)
              go_wp2_with fail
              refine hK.out _ _ ?_ (fun hHeld => ?_)
              focus ((try dsimp only); (refine BX10.out _ ?_; (focus ((repeat first | with_reducible assumption | with_reducible exact KZ.out | with_reducible apply Below.drew | with_reducible apply below_drews); done))); done)
              clear hK K
              try simp only [Act.put, List.getElem_toArray, List.getElem_cons_zero, List.getElem_cons_succ, List.setIfInBounds_toArray, List.set_cons_zero, List.set_cons_succ]
              refine wpAnyH_ready (rs := [25]) (by kernel_rfl) (by simp) ?_
              refine AllReadyH.cons rfl (fun K hK => ?_) ?_
              · go_simp
                (go_at_call 35; (with_reducible refine (same5_any _ (Pl.below HP1.out (B := wp.heap.size) ?_ (Nat.le_refl _)) (HV0.out _)).mono ?_); (focus ((repeat first | with_reducible assumption | with_reducible exact KZ.out | with_reducible exact KPP.out | with_reducible apply Below.drew | with_reducible apply below_drews); done)); rintro e wq ⟨rfl, bq⟩; have jj2 := fun h => below_more (B := W16.heap.size) (w := W16) h bq; replace jj2 := jj2 (by (repeat first | with_reducible assumption | with_reducible exact KZ.out | with_reducible apply Below.drew | with_reducible apply below_drews)); clear bq)
                go_wp2_with fail
                refine hK.out _ _ ?_ (fun hHeld => ?_)
                focus ((try dsimp only); (refine BX10.out _ ?_; (focus ((repeat first | with_reducible assumption | with_reducible exact KZ.out | with_reducible apply Below.drew | with_reducible apply below_drews); done))); done)
                clear hK K
                try simp only [Act.put, List.getElem_toArray, List.getElem_cons_zero, List.getElem_cons_succ, List.setIfInBounds_toArray, List.set_cons_zero, List.set_cons_succ]
                refine' wpAnyH_take (i := 26) (v := _) rfl (by kernel_rfl) (by kernel_rfl) (by kernel_rfl) (fun _ _ _ h => h) (Or.inl ⟨by rfl, ?hy38⟩) (by assumption) ?rest38
                case hy38 => (intro w hSw; (try dsimp only at hSw); go_simp; try with_reducible rfl)
                try simp only [Act.put, List.getElem_toArray, List.getElem_cons_zero, List.getElem_cons_succ, List.setIfInBounds_toArray, List.set_cons_zero, List.set_cons_succ]
                refine' wpAnyH_take (i := 27) (v := _) rfl (by kernel_rfl) (by kernel_rfl) (by kernel_rfl) (fun _ _ _ h => h) (Or.inl ⟨by rfl, ?hy39⟩) (by assumption) ?rest39
                case hy39 => (intro w hSw; (try dsimp only at hSw); go_simp; try with_reducible rfl)
                try simp only [Act.put, List.getElem_toArray, List.getElem_cons_zero, List.getElem_cons_succ, List.setIfInBounds_toArray, List.set_cons_zero, List.set_cons_succ]
                refine' wpAnyH_take (i := 28) (v := _) rfl (by kernel_rfl) (by kernel_rfl) (by kernel_rfl) (fun _ _ _ h => h) (Or.inl ⟨by rfl, ?hy40⟩) (by assumption) ?rest40
                case hy40 => (intro w hSw; (try dsimp only at hSw); go_simp; try with_reducible rfl)
                try simp only [Act.put, List.getElem_toArray, List.getElem_cons_zero, List.getElem_cons_succ, List.setIfInBounds_toArray, List.set_cons_zero, List.set_cons_succ]
                refine wpAnyH_done (by kernel_rfl) ?_ _
                have KW : Hid (Below W14.heap.size W14 wq) := below_more HKW16.out (by (repeat first | with_reducible assumption | with_reducible exact KZ.out | with_reducible apply Below.drew | with_reducible apply below_drews))
                obtain ⟨x0, x1, x2, x3, x4⟩ := XC.out _ (below_more K14.out KW.out)
                have CLx : Hid (Calls Tryd.prog 37 #[.agg #[.int .i64 xi, .int .i64 xl, .string (Let.mk xL), .slice a3 n3 c3, .slice a4 n4 c4]] wq (GiveIns wq true x.i x.l x.L x.S x.T)) := load5_yes (g := x) wq (HX.out _ (KF.out _ (below_more K14.out KW.out))) XZ.out RX.out (HT.out _ (KF.out _ (below_more K14.out KW.out)))
                go_wp2_with fail
                refine (CLx.out).mono ?_
                rintro e wz ⟨vz, rfl, hz, bz⟩
                obtain ⟨qz, az, cz, ez, dz, rfl, _, _, _⟩ := hz.open_
                obtain ⟨B17, R17, L17⟩ := box1 wz #[.int .i64 x.i, .int .i64 x.l, .pointer qz, .slice az x.S.length cz, .slice ez x.T.length dz] 33
                have HZ := hz.below B17 (Nat.le_refl _)
                obtain ⟨f1, f2, f3, f4, f5⟩ := HE.out
                rw [← f1, ← f2, ← f4, ← f5] at B17 R17 L17 HZ ⊢
                have K17 := below_more (below_more KW.out bz) B17
                have r7z := ((below_more KW.out bz).block b7 (Array.getElem?_eq_some_iff.1 R14.out).1).trans R14.out
                have r17 := (B17.block b7 (Array.getElem?_eq_some_iff.1 r7z).1).trans r7z
                obtain ⟨W17, hW17⟩ : ∃ W17, W17 = wz.alloc (.cells #[.int .i64 xi, .int .i64 xl, .pointer qz, .slice az n3 cz, .slice ez n4 dz] 33) := ⟨_, rfl⟩
                rw [← hW17] at B17 R17 L17 HZ K17 r17
                have HW17 := Lib.hid hW17
                have HK17 := Lib.hid K17
                have KV : Hid (Below W17.heap.size W17 W17) := Below.refl _ _
                have HZs : Hid (∀ w', Below W17.heap.size W17 w' → Sg w' (.agg #[.int .i64 xi, .int .i64 xl, .pointer qz, .slice az n3 cz, .slice ez n4 dz]) x.i x.l x.L x.S x.T) := fun w' hb => by rw [f1, f2] at HZ ⊢; exact HZ.below hb (Nat.le_refl _)
                have B17X : Hid (∀ w', Below W17.heap.size W17 w' → Below W17.heap.size W17 w' ∧ (w'.cell? ⟨b7, 0, none⟩ = some (.bool false) ∧ w'.cell? ⟨b7, 1, none⟩ = some (.slice sa n sc)) ∧ (w'.cell? ⟨wz.heap.size, 0, none⟩ = some (.int .i64 xi) ∧ w'.cell? ⟨wz.heap.size, 1, none⟩ = some (.int .i64 xl) ∧ w'.cell? ⟨wz.heap.size, 2, none⟩ = some (.pointer qz) ∧ w'.cell? ⟨wz.heap.size, 3, none⟩ = some (.slice az n3 cz) ∧ w'.cell? ⟨wz.heap.size, 4, none⟩ = some (.slice ez n4 dz)) ∧ (w'.cell? ⟨w.heap.size, 0, none⟩ = some (.int .i64 xi) ∧ w'.cell? ⟨w.heap.size, 1, none⟩ = some (.int .i64 xl) ∧ w'.cell? ⟨w.heap.size, 2, none⟩ = some (.string (Let.mk xL)) ∧ w'.cell? ⟨w.heap.size, 3, none⟩ = some (.slice a3 n3 c3) ∧ w'.cell? ⟨w.heap.size, 4, none⟩ = some (.slice a4 n4 c4))) := fun w' hb => ⟨hb, ⟨(two_cells ((hb.block b7 (Array.getElem?_eq_some_iff.1 r17).1).trans r17)).1, (two_cells ((hb.block b7 (Array.getElem?_eq_some_iff.1 r17).1).trans r17)).2.1⟩, five_cells ((hb.block _ (Array.getElem?_eq_some_iff.1 R17).1).trans R17), XC.out _ (below_more K14.out (below_more HK17.out hb))⟩
                have KF17 : Hid (∀ w', Below W17.heap.size W17 w' → Below w.heap.size w w') := fun w' hb => KF.out _ (below_more K14.out (below_more HK17.out hb))
                have CSet : Hid (∀ w', Below W17.heap.size W17 w' → Calls Tryd.prog 38 #[.agg #[.bool false, .slice sa n sc], .agg #[.int .i64 xi, .int .i64 xl, .pointer qz, .slice az n3 cz, .slice ez n4 dz]] w' (GiveSh false (setG G x) w')) := fun w' hb => sset_any w' (HShG.out _ (below_more HK17.out hb)) (HZs.out w' hb) (by have := S40.out; omega)
                have CRs : Hid (∀ w', Below W17.heap.size W17 w' → Calls Tryd.prog 39 #[.slice la n lc, .agg #[.int .i64 xi, .int .i64 xl, .string (Let.mk xL), .slice a3 n3 c3, .slice a4 n4 c4]] w' (GivePls (setG G x) w')) := fun w' hb => rset_any w' (HAr.out _ (KF17.out _ hb)).1 (HX.out _ (KF17.out _ hb)) (by have := S40.out; omega)
                have CPl : Hid (∀ w', Below W17.heap.size W17 w' → Calls Tryd.prog 31 #[.agg #[.bool false, .slice sa n sc]] w' (GivePls G w')) := fun w' hb => hplain_any w' (HShG.out _ (below_more HK17.out hb)) HOK.out (by have := S40.out; omega)
                have HLp : Hid (∀ w', Below W17.heap.size W17 w' → Pls w' (.slice la n lc) G) := fun w' hb => (HAr.out _ (KF17.out _ hb)).1
                have OK1 := Lib.hid (set_sz (x := x) HOK.out XOK.out)
                have KS : Hid True := trivial
                have KP : Hid True := trivial
                have KQ : Hid True := trivial
                have KT : Hid True := trivial
                clear hW17 B17 R17 L17 HZ K17 r17 r7z bz hz x0 x1 x2 x3 x4 f1 f2 f3 f4 f5 CLx
                go_upto_region 13 with fail
                rw [← HW17.out]
                go_region_held3 (fun w' => Below W17.heap.size W17 w' ∧ (w'.cell? ⟨b7, 0, none⟩ = some (.bool false) ∧ w'.cell? ⟨b7, 1, none⟩ = some (.slice sa n sc)) ∧ (w'.cell? ⟨wz.heap.size, 0, none⟩ = some (.int .i64 xi) ∧ w'.cell? ⟨wz.heap.size, 1, none⟩ = some (.int .i64 xl) ∧ w'.cell? ⟨wz.heap.size, 2, none⟩ = some (.pointer qz) ∧ w'.cell? ⟨wz.heap.size, 3, none⟩ = some (.slice az n3 cz) ∧ w'.cell? ⟨wz.heap.size, 4, none⟩ = some (.slice ez n4 dz)) ∧ (w'.cell? ⟨w.heap.size, 0, none⟩ = some (.int .i64 xi) ∧ w'.cell? ⟨w.heap.size, 1, none⟩ = some (.int .i64 xl) ∧ w'.cell? ⟨w.heap.size, 2, none⟩ = some (.string (Let.mk xL)) ∧ w'.cell? ⟨w.heap.size, 3, none⟩ = some (.slice a3 n3 c3) ∧ w'.cell? ⟨w.heap.size, 4, none⟩ = some (.slice a4 n4 c4)))
                  ((refine B17X.out _ ?_; (focus ((repeat first | with_reducible assumption | with_reducible exact KV.out | with_reducible exact KS.out | with_reducible exact KP.out | with_reducible exact KQ.out | with_reducible exact KT.out | with_reducible apply Below.drew | with_reducible apply below_drews); done))))
                  (first
                    | (go_at_call 38; (with_reducible refine (CSet.out _ ?_).mono ?_); (focus ((repeat first | with_reducible assumption | with_reducible exact KV.out | with_reducible exact KS.out | with_reducible exact KP.out | with_reducible exact KQ.out | with_reducible exact KT.out | with_reducible apply Below.drew | with_reducible apply below_drews); done)); rintro e ws ⟨vs, rfl, hs, bs⟩; have jj1 := fun h => below_more (B := W17.heap.size) (w := W17) h bs; replace jj1 := jj1 (by (repeat first | with_reducible assumption | with_reducible exact KV.out | with_reducible exact KS.out | with_reducible exact KP.out | with_reducible exact KQ.out | with_reducible exact KT.out | with_reducible apply Below.drew | with_reducible apply below_drews)); obtain ⟨sas, scs, rfl, _⟩ := hs.open_; have HSt := Lib.hid hs; have KS := Lib.hid (Below.refl ws.heap.size ws); clear bs hs)
                    | (go_at_call 31; (with_reducible refine (hplain_any _ (HSt.out.below ?_) OK1.out.1 (by rw [OK1.out.2]; have := S40.out; omega)).mono ?_); (focus ((repeat first | with_reducible assumption | with_reducible exact KV.out | with_reducible exact KS.out | with_reducible exact KP.out | with_reducible exact KQ.out | with_reducible exact KT.out | with_reducible apply Below.drew | with_reducible apply below_drews); done)); rintro e wp ⟨vp, rfl, hp1, bp⟩; have jj2 := fun h => below_more (B := W17.heap.size) (w := W17) h bp; replace jj2 := jj2 (by (repeat first | with_reducible assumption | with_reducible exact KV.out | with_reducible exact KS.out | with_reducible exact KP.out | with_reducible exact KQ.out | with_reducible exact KT.out | with_reducible apply Below.drew | with_reducible apply below_drews)); obtain ⟨pas, pcs, rfl⟩ := Rk.Rows.is_slice hp1; have HP1 := Lib.hid hp1; have KP := Lib.hid (Below.refl wp.heap.size wp); clear bp hp1)
                    | (go_at_call 39; (with_reducible refine (CRs.out _ ?_).mono ?_); (focus ((repeat first | with_reducible assumption | with_reducible exact KV.out | with_reducible exact KS.out | with_reducible exact KP.out | with_reducible exact KQ.out | with_reducible exact KT.out | with_reducible apply Below.drew | with_reducible apply below_drews); done)); rintro e wr ⟨vr, rfl, hr1, br⟩; have jj3 := fun h => below_more (B := W17.heap.size) (w := W17) h br; replace jj3 := jj3 (by (repeat first | with_reducible assumption | with_reducible exact KV.out | with_reducible exact KS.out | with_reducible exact KP.out | with_reducible exact KQ.out | with_reducible exact KT.out | with_reducible apply Below.drew | with_reducible apply below_drews)); obtain ⟨ras, rcs, rfl⟩ := Rk.Rows.is_slice hr1; have HR1 := Lib.hid hr1; have mr := fun h => below_more (B := wp.heap.size) (w := wp) h br; replace mr := mr (by (repeat first | with_reducible assumption | with_reducible exact KV.out | with_reducible exact KS.out | with_reducible exact KP.out | with_reducible exact KQ.out | with_reducible exact KT.out | with_reducible apply Below.drew | with_reducible apply below_drews)); have KQ := Lib.hid mr; have KT := Lib.hid (Below.refl wr.heap.size wr); clear br hr1 mr)
                    | (go_at_call 30; (with_reducible refine (hsame_any _ (Pls.below HP1.out ?_) (Pls.below HR1.out ?_)).mono ?_); (focus ((repeat first | with_reducible assumption | with_reducible exact KV.out | with_reducible exact KS.out | with_reducible exact KP.out | with_reducible exact KQ.out | with_reducible exact KT.out | with_reducible apply Below.drew | with_reducible apply below_drews); done)); (focus ((repeat first | with_reducible assumption | with_reducible exact KV.out | with_reducible exact KS.out | with_reducible exact KP.out | with_reducible exact KQ.out | with_reducible exact KT.out | with_reducible apply Below.drew | with_reducible apply below_drews); done)); rintro e wt ⟨rfl, bt⟩; have jj4 := fun h => below_more (B := W17.heap.size) (w := W17) h bt; replace jj4 := jj4 (by (repeat first | with_reducible assumption | with_reducible exact KV.out | with_reducible exact KS.out | with_reducible exact KP.out | with_reducible exact KQ.out | with_reducible exact KT.out | with_reducible apply Below.drew | with_reducible apply below_drews)); clear bt HP1 HR1)
                    | (go_at_call 31; (with_reducible refine (CPl.out _ ?_).mono ?_); (focus ((repeat first | with_reducible assumption | with_reducible exact KV.out | with_reducible exact KS.out | with_reducible exact KP.out | with_reducible exact KQ.out | with_reducible exact KT.out | with_reducible apply Below.drew | with_reducible apply below_drews); done)); rintro e wu ⟨vu, rfl, hu1, bu⟩; have jj5 := fun h => below_more (B := W17.heap.size) (w := W17) h bu; replace jj5 := jj5 (by (repeat first | with_reducible assumption | with_reducible exact KV.out | with_reducible exact KS.out | with_reducible exact KP.out | with_reducible exact KQ.out | with_reducible exact KT.out | with_reducible apply Below.drew | with_reducible apply below_drews)); obtain ⟨uas, ucs, rfl⟩ := Rk.Rows.is_slice hu1; have HU1 := Lib.hid hu1; have KQ := Lib.hid (Below.refl wu.heap.size wu); clear bu hu1)
                    | (go_at_call 30; (with_reducible refine (hsame_any (G := G) _ (Pls.below HU1.out ?_) (HLp.out _ ?_)).mono ?_); (focus ((repeat first | with_reducible assumption | with_reducible exact KV.out | with_reducible exact KS.out | with_reducible exact KP.out | with_reducible exact KQ.out | with_reducible exact KT.out | with_reducible apply Below.drew | with_reducible apply below_drews); done)); (focus ((repeat first | with_reducible assumption | with_reducible exact KV.out | with_reducible exact KS.out | with_reducible exact KP.out | with_reducible exact KQ.out | with_reducible exact KT.out | with_reducible apply Below.drew | with_reducible apply below_drews); done)); rintro e wv ⟨rfl, bv⟩; have jj6 := fun h => below_more (B := W17.heap.size) (w := W17) h bv; replace jj6 := jj6 (by (repeat first | with_reducible assumption | with_reducible exact KV.out | with_reducible exact KS.out | with_reducible exact KP.out | with_reducible exact KQ.out | with_reducible exact KT.out | with_reducible apply Below.drew | with_reducible apply below_drews)); clear bv))
                go_wp2_with fail
                go_ret
                exact ⟨by simp, KF17.out _ (by (repeat first | with_reducible assumption | with_reducible exact KV.out | with_reducible exact KS.out | with_reducible exact KP.out | with_reducible exact KQ.out | with_reducible exact KT.out | with_reducible apply Below.drew | with_reducible apply below_drews))⟩
              exact AllReadyH.nil
            exact AllReadyH.nil

theorem acc_eq : Rows.laid_unicode_utf8_acceptRanges = Lib.acceptData := by kernel_rfl

set_option maxRecDepth 100000 in
theorem lifted (os : Os) (started : os.Started) (H : Type) (enc : TypeId × Value → H) :
    ReturnsInHanded {} Tryd.checked os 5 .any (fun w args => (Rows.sheetFindsSpec.pre enc Tryd.prog Tryd.f5 [] false w args ∧ laidMetH Tryd.prog Rows.sheetFindsRow.laid w) ∧ sizedMet enc Tryd.prog Tryd.f5 (OpenSpec.ofChange Rows.sheetFindsSpec) false w args) (Rows.sheetFindsSpec.post enc Tryd.prog Tryd.f5 false true false false) := by
  refine returnsInHanded_of_change_and (C := Tryd.checked) (X := fun w _ => laidMetH Tryd.prog Rows.sheetFindsRow.laid w) (fun _ _ _ hh h => h.of_heap hh) own started (by kernel_rfl) Tryd.func5
    (ChangeSpec.witness_shaped (enc := enc) (C := Tryd.checked) (os := os) (X := fun w _ => laidMetH Tryd.prog Rows.sheetFindsRow.laid w) false (World.laidAll Tryd.prog os Rows.sheetFindsRow.laid) #[.slice none 0 0, .agg #[.int .i64 0, .int .i64 0, .string ByteArray.empty, .slice none 0 0, .slice none 0 0], .int .i64 0] 8 (World.laidAll_os _ _ _)
      (World.shaped_of_ZipB (by kernel_rfl) (by kernel_rfl)) (by kernel_rfl) (by kernel_rfl) (by kernel_rfl)
      (by rw [MakeChecks.laidMetH_plain _ _ _ (by kernel_rfl)]; exact laidMet_laidAll _ (by kernel_rfl) (by kernel_rfl))) ?_
  intro W base args ds gs before hval0 hW _ hWt hL _
  have hval : ∀ (j : Nat) t v, Tryd.f5.params[j]? = some t → args[j]? = some v → Value.okWide Tryd.prog W .any base t v := hval0
  have hread : ∀ t ∈ Tryd.f5.params.toList, Tryd.prog.readableRec t = true ∧ t < Tryd.prog.types.size := by
    have : (Tryd.f5.params.toList.all fun t => Tryd.prog.readableRec t && decide (t < Tryd.prog.types.size)) = true := by kernel_rfl
    intro t ht
    have := List.all_eq_true.1 this t ht
    simpa using this
  rw [MakeChecks.laidMetH_plain _ _ _ (by kernel_rfl)] at hL
  have hT : Tabs W := utf8Tabs_of_readsT (U8Types.of196 Tryd.lays196) ⟨by kernel_rfl, by kernel_rfl, by kernel_rfl, by kernel_rfl, by kernel_rfl, by kernel_rfl, by kernel_rfl⟩ (Pinned.utf8First_eq ▸ Lib.laidMet.reads hL (.tail _ (.head _))) (acc_eq ▸ Lib.laidMet.reads hL (.head _))
  refine law_contract (P := Tryd.prog) (s := Rows.sheetFindsSpec) (fn := Tryd.f5) (tb := 4) laidOut rfl hread rfl Tryd.underlying4 (fun W' => okWide_bool_mk Tryd.underlying4 _) ?_ hW ?_
  · intro ds hds
    rw [Tryd.params5] at hds
    match ds, hds with
    | [d0, d1, d2], _ => rfl
  intro pl hA
  rw [Tryd.params5] at hA hval hWt
  obtain ⟨v0, vs0, d0, ds0, p0, q0, hargs, rfl, hp0, h0, r0⟩ := trodAll_cons hA
  obtain ⟨v1, vs1, d1, ds1, p1, q1, rfl, rfl, hp1, h1, r1⟩ := trodAll_cons r0
  obtain ⟨v2, vs2, d2, ds2, p2, q2, rfl, rfl, hp2, h2, r2⟩ := trodAll_cons r1
  obtain ⟨rfl, rfl, hpe⟩ := trodAll_nil r2
  obtain rfl : args = #[v0, v1, v2] := by cases args; simp_all
  have hwt0 : (d0.weights Tryd.prog 47).all (· ≤ reachBytes) = true := List.all_eq_true.2 fun n hn => List.all_eq_true.1 hWt n (DataW.weights_mem_each (j := 0) (t := 47) (d := d0) rfl rfl n hn)
  obtain ⟨Gl, hGl⟩ := She.open_segs (hval 0 47 v0 rfl rfl) h0 hwt0
  have hwt1 : (d1.weights Tryd.prog 25).all (· ≤ reachBytes) = true := List.all_eq_true.2 fun n hn => List.all_eq_true.1 hWt n (DataW.weights_mem_each (j := 1) (t := 25) (d := d1) rfl rfl n hn)
  obtain ⟨gx, hPx, hGx⟩ := She.open_seg1 (hval 1 25 v1 rfl rfl) h1 hwt1
  obtain ⟨id, rfl, rfl, _, hw2⟩ := open_int Tryd.underlying3 (hval 2 3 v2 rfl rfl) h2
  have hb2 : -9223372036854775808 ≤ id ∧ id ≤ 9223372036854775807 := by simpa [Lit.wf, IntKind.min, IntKind.max, IntKind.signed, IntKind.bits] using hw2
  exact walk W hT hGl hPx hGx id hb2.1 hb2.2 

theorem over : Rows.sheetFindsRow.holds Tryd.pinned (OpenSpec.ofChange Rows.sheetFindsSpec) :=
  OpenClaim.holds_of_wide 5 Tryd.f5 rfl rfl rfl rfl rfl rfl rfl ⟨rfl, rfl, rfl, rfl, rfl⟩ rfl rfl rfl rfl rfl (by kernel_rfl) Tryd.func5 (by kernel_rfl)
    (of_decide_eq_true (by kernel_rfl)) (by unfold Func.isWrapper; first | (rw [if_pos (by decide +kernel)]; kernel_rfl) | (rw [if_neg (by decide +kernel)]; exact ⟨rfl, rfl⟩))
    (fun os started H enc _ => lifted os started H enc)

/-- The statement. -/
theorem proved : Rows.SheetFindsCardSaid :=
  Claim7.holds_tied_plain_at .later [] [.data, .pinned] true (true, "0353ae2d0db4c87f21033a723c8aa8ede6146840b4536422d4bfe06a1c6aab85") false over (fun _ h => by cases h) (by kernel_rfl) (fun _ h => by cases h) sheetFinds_row_tie rfl ⟨rfl, rfl⟩ (by kernel_rfl) rfl
    (fun f fn hf hfn => by
      obtain rfl : f = 5 := Option.some.inj ((show Tryd.prog.funcNamed Rows.sheetFindsRow.func = some 5 by kernel_rfl).symm.trans hf) |>.symm
      obtain rfl : fn = Tryd.f5 := (Option.some.inj (Tryd.func5.symm.trans hfn)).symm
      exact ⟨by kernel_rfl, fun j t ht => by
        rw [Tryd.params5] at ht
        have hm : t ∈ [47, 25, 3] := by simpa using Array.mem_of_getElem? ht
        have hall : ([47, 25, 3].all fun u => !Tryd.prog.wantsStandIn u) = true := by kernel_rfl
        exact (show Tryd.prog.wantsStandIn t = false by simpa using List.all_eq_true.1 hall t hm)⟩)
    (by kernel_rfl)
#print axioms proved
end Go.Proofs.YtcpdoicbekcpeaaDoor.sheetFinds
