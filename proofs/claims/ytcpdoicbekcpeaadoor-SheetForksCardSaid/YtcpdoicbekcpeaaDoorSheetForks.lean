/- For every list of plain segments and all numbers: SheetForks answers true, and its arguments read behind the call as before. No condition. THE TIED CARD: unicode/utf8's two tables start as the program's text lays them. -/
import Derived.Test.YtcpdoicbekcpeaaDoorRows
import Derived.Test.YtcpdoicbekcpeaaDoorTie
import Derived.Test.YtcpdoicbekcpeaaDoorCards
import Derived.Test.YtcpdoicbekcpeaaDoorLift
import Derived.ProofKit
import Derived.Lib.LaidU8T
import Derived.PinnedBridge
import Derived.Lay
import Derived.LaidOnce
import Derived.SevenTiedAt
import Derived.Test.YtcpdoicbekcpeaaDoorHx
import Derived.SizedLaws
import Derived.Deep.RegionHeld3
import Derived.Deep.DeepCutAuto
import Derived.Deep.CutBlock
set_option linter.unusedVariables false
namespace Go.Proofs.YtcpdoicbekcpeaaDoor.sheetForks
open Go.ChangeShapes Go.WideShapes Go.ChangeAt Go.RowKit Go.Lib Go.Shelf Go.Proofs.YtcpdoicbekcpeaaDoor.Lift Go.Proofs.YtcpdoicbekcpeaaDoor.Rk Go.Proofs.YtcpdoicbekcpeaaDoor.Rt Go.Proofs.YtcpdoicbekcpeaaDoor.Rig Go.Proofs.YtcpdoicbekcpeaaDoor.Seg Go.Proofs.YtcpdoicbekcpeaaDoor.She
open Go.ChangeMaps (open_string shut_string)

theorem own : ownKnob Tryd.prog.godebug = none := by kernel_rfl
theorem laidOut : laidOutB Tryd.prog = true := by kernel_rfl

set_option linter.unusedSimpArgs false
theorem load_two {u : Value} (f : Bool) (w : World) (h : Pls w u twoG) (hT : Con.Tabs w) : Calls Tryd.prog 22 #[.bool f, u] w fun e w' => ∃ a c, e = .returned (.tuple #[.agg #[.bool f, .slice a 2 c], .bool true]) ∧ Sgs w' (.slice a 2 c) twoG ∧ Below w.heap.size w w' := by
  refine (sload_any f w h two_sz (by decide) hT).mono ?_
  rintro e w' ⟨s, rfl, hs, hb⟩
  rw [two_ok, if_pos rfl] at hs
  obtain ⟨a, c, rfl⟩ := Rk.Rows.is_slice hs
  exact ⟨a, c, by rw [two_ok, Bool.and_true]; rfl, hs, hb⟩
theorem load_ok {u : Value} {G : List G5} (f : Bool) (w : World) (h : Pls w u G) (hsz : ∀ g ∈ G, g.sz) (hn : G.length ≤ 10000) (hok : okG G = true) (hT : Con.Tabs w) : Calls Tryd.prog 22 #[.bool f, u] w fun e w' => ∃ a c, e = .returned (.tuple #[.agg #[.bool f, .slice a G.length c], .bool true]) ∧ Sgs w' (.slice a G.length c) G ∧ Below w.heap.size w w' := by
  refine (sload_any f w h hsz hn hT).mono ?_
  rintro e w' ⟨s, rfl, hs, hb⟩
  rw [hok, if_pos rfl] at hs
  obtain ⟨a, c, rfl⟩ := Rk.Rows.is_slice hs
  exact ⟨a, c, by rw [hok, Bool.and_true], hs, hb⟩
theorem sgs_two {w : World} {s u1 u2 x y : Value} {G : List G5} {B : Nat} {ty : TypeId} (h : Sgs w s G) (r : w.heap[B]? = some (.cells #[x, y] ty (0, 0))) (hty : ty ≠ 126) (n1 : ∀ z, x ≠ .int .i64 z) (n2 : ∀ z, y ≠ .int .i64 z) :
    Sgs ((w.setCell ⟨B, 0, none⟩ u1).setCell ⟨B, 1, none⟩ u2) s G := by
  obtain ⟨p, h1, ⟨m1, a, cap, e, m2, m3, m4⟩, h3⟩ := h
  refine ⟨p, h1, ⟨m1, a, cap, e, m2, m3, ?_⟩, fun z hz => ?_⟩
  · rcases m4 with m4 | ⟨b, off, e2, mb, mc⟩
    · exact .inl m4
    · by_cases hx : (p.map Prod.fst) = []
      · exact .inl hx
      · refine .inr ⟨b, off, e2, by simpa using mb, fun j hj i u hu => ?_⟩
        have hne : b ≠ B := by
          intro q
          subst q
          have hz : 0 < (p.map Prod.fst).length := List.length_pos_iff.2 hx
          have hmem := List.getElem_mem hz
          obtain ⟨t, ht, et⟩ := List.mem_map.1 hmem
          obtain ⟨tp, sv, tv, ex, _⟩ := h3 t ht
          have := mc 0 hz 0 (.int .i64 t.2.i) (by rw [← et, ex]; rfl)
          rw [cell_of_row _ _ _ _ _ _ r] at this
          generalize off + 0 * 5 + 0 = o at this
          rcases o with _ | _ | o
          · exact n1 _ (Option.some.inj this)
          · exact n2 _ (Option.some.inj this)
          · simp at this
        rw [← mc j hj i u hu]
        unfold World.cell?
        rw [Below.heap_setCell _ _ _ _ hne, Below.heap_setCell _ _ _ _ hne]
  · obtain ⟨tp, sv, tv, e3, t2, s2, v2, e4, g1, g2, g3⟩ := h3 z hz
    injection e4 with e4
    simp only [Array.mk.injEq, List.cons.injEq, and_true, true_and] at e4
    obtain ⟨rfl, rfl, rfl⟩ := e4
    exact ⟨tp, sv, tv, e3, tp, sv, tv, rfl, rope_put (rope_put g1 r hty) (set_block (i := 0) (u := u1) r) hty, Fl.two g2 r n1 n2, Fl.two g3 r n1 n2⟩
theorem seven_eight {w : World} {b : Nat} {e : TypeId} (hb : w.heap[b]? = some (.cells #[.int .i64 7, .int .i64 8] e (0, 0))) : iRow w (.slice (some ⟨b, 0, none⟩) 2 2) ((forkG twoG 7).map G5.i) := by
  refine ⟨fun x hx => ?_, some ⟨b, 0, none⟩, 2, rfl, by decide, by unfold maxLen; omega, .inr ⟨b, 0, rfl, (Array.getElem?_eq_some_iff.1 hb).1, fun j hj i u hu => ?_⟩⟩
  · simp [twoG, forkG] at hx
    rcases hx with rfl | rfl <;> rfl
  · rw [cell_of_row w b _ _ _ (0, 0) hb, Nat.zero_add]
    rcases j with _ | _ | j
    · rcases i with _ | i
      · exact hu
      · simp [twoG, forkG] at hu
    · rcases i with _ | i
      · exact hu
      · simp [twoG, forkG] at hu
    · simp [twoG, forkG] at hj; omega
theorem fork_oks (G : List G5) (a : Int) (hsz : ∀ g ∈ G, g.sz) : ∀ g ∈ forkG G a, g.ok := fun g hg => by
  obtain ⟨k, hk, rfl⟩ := List.getElem_of_mem hg
  rw [fork_len] at hk
  rw [fork_get G a hk]
  exact ⟨by simp, (hsz _ (List.getElem_mem hk)).1, by simp, by simp⟩
set_option maxRecDepth 100000 in
set_option maxHeartbeats 64000000 in
theorem walk (w : World) (hT : Tabs w) {v : Value} {G : List G5} (hA : Args w v G) (first : Int) (_ : -9223372036854775808 ≤ first) (_ : first ≤ 9223372036854775807) (mk : Int) (m1 : -9223372036854775808 ≤ mk) (m2 : mk ≤ 9223372036854775807) :
    Calls Tryd.prog 7 #[v, .int .i64 first, .int .i64 mk] w fun e w' => e = .returned (.bool true) ∧ Below w.heap.size w w' := by
  have HT : Hid (∀ w', Below w.heap.size w w' → Con.Tabs w') := fun w' hb => hT.below hb
  have HAr : Hid (∀ w', Below w.heap.size w w' → Args w' v G) := fun w' hb => hA.below hb
  have HMK : Hid (i64 mk) := ⟨m1, m2⟩
  obtain ⟨la, lc, rfl⟩ := Rk.Rows.is_slice hA.1
  obtain ⟨n, hn⟩ : ∃ n, n = G.length := ⟨_, rfl⟩
  have HN := Lib.hid hn
  rw [← hn] at HAr ⊢
  clear hT hA hn m1 m2
  go_enter Tryd.func7, Tryd.ntmps7
  go_wp2_with fail
  refine (two_any _).mono ?_
  rintro e w1 ⟨u1, rfl, p1, b1⟩
  obtain ⟨ua, uc, rfl⟩ := Rk.Rows.is_slice p1
  have C1 := load_two false w1 p1 (HT.out _ b1)
  have K1 := Lib.hid b1
  clear b1 p1
  go_wp2_with fail
  refine C1.mono ?_
  rintro e w2 ⟨ta, tc, rfl, h2, b2⟩
  have K2 := Lib.hid (below_more K1.out b2)
  clear b2 C1
  obtain ⟨B3, R3, L3⟩ := box1 w2 #[.bool false, .slice ta 2 tc] 50
  have HSh : Hid (Sh (w2.alloc (.cells #[.bool false, .slice ta 2 tc] 50)) (.agg #[.bool false, .slice ta 2 tc]) false twoG) := ⟨_, rfl, h2.below B3⟩
  have K3 : Hid (Below w.heap.size w (w2.alloc (.cells #[.bool false, .slice ta 2 tc] 50))) := below_more K2.out B3
  obtain ⟨b7, hb7⟩ : ∃ b7, b7 = w2.heap.size := ⟨_, rfl⟩
  have HB7 : Hid (w.heap.size ≤ b7) := by show _ ≤ _; rw [hb7]; exact K2.out.size
  have HR7 : Hid (∀ w', Below (b7 + 1) (w2.alloc (.cells #[.bool false, .slice ta 2 tc] 50)) w' → w'.heap[b7]? = some (.cells #[.bool false, .slice ta 2 tc] 50 (0, 0))) := fun w' hb => by rw [hb7]; exact (hb.block w2.heap.size (by omega)).trans R3
  have HL7 : Hid ((w2.alloc (.cells #[.bool false, .slice ta 2 tc] 50)).heap.size = b7 + 1) := by show _ = _; rw [hb7]; exact L3
  obtain ⟨z0, z1, _, _⟩ := two_cells R3
  rw [← hb7] at z0 z1
  obtain ⟨W3, hW3⟩ : ∃ W3, W3 = w2.alloc (.cells #[.bool false, .slice ta 2 tc] 50) := ⟨_, rfl⟩
  rw [← hW3] at HSh K3 HR7 HL7 z0 z1
  have HW3 := Lib.hid hW3
  have CF := Lib.hid (sfork_any true 7 W3 HSh.out (by decide) (by decide) (by decide))
  clear hW3 B3 R3 L3 h2
  go_upto_region 2 with fail
  rw [← hb7, ← HW3.out]
  clear hb7
  go_wp2_with fail
  refine (CF.out).mono ?_
  rintro e w4 ⟨y4, rfl, h4, b4⟩
  obtain ⟨fa, fc, rfl, _⟩ := h4.open_
  have K4 : Hid (Below w.heap.size w w4) := below_more K3.out b4
  have M4 : Hid (Below (b7 + 1) W3 w4) := by show Below _ _ _; rw [← HL7.out]; exact b4
  have CI := Lib.hid (ids_any w4 h4 (by decide))
  clear b4 h4 z0 z1
  go_wp2_with fail
  refine (CI.out).mono ?_
  rintro e w5 ⟨i5, rfl, h5, b5⟩
  obtain ⟨ia, ic, rfl, _⟩ := h5.open_
  have K5 : Hid (Below w.heap.size w w5) := below_more K4.out b5
  have M5 : Hid (Below (b7 + 1) W3 w5) := M4.out.trans (b5.mono (by have := M4.out.size; rw [HL7.out] at this; exact this))
  have H5 : Hid (iRow (w5.alloc (.cells #[.int .i64 7, .int .i64 8] 3)) (.slice ia ((forkG twoG 7).map G5.i).length ic) ((forkG twoG 7).map G5.i)) := h5.below ((Below.refl _ _).alloc (Nat.le_refl _) _)
  have K6 : Hid (Below w.heap.size w (w5.alloc (.cells #[.int .i64 7, .int .i64 8] 3))) := K5.out.alloc K5.out.size _
  have M6 : Hid (Below (b7 + 1) W3 (w5.alloc (.cells #[.int .i64 7, .int .i64 8] 3))) := M5.out.alloc (by have := M5.out.size; rw [HL7.out] at this; exact this) _
  have CI2 := Lib.hid (hints_any _ H5.out (seven_eight (heap_alloc_new w5 _)))
  clear b5 h5
  go_wp2_with fail
  refine (CI2.out).mono ?_
  rintro e w7 ⟨rfl, b7'⟩
  have K7 : Hid (Below w.heap.size w w7) := below_more K6.out b7'
  have M7 : Hid (Below (b7 + 1) W3 w7) := M6.out.trans (b7'.mono (by have := M6.out.size; rw [HL7.out] at this; exact this))
  clear b7'
  go_wp2_with fail
  refine (hsmall_any _ (HAr.out _ K7.out)).mono ?_
  rintro e w8 ⟨rfl, b8⟩
  have K8 : Hid (Below w.heap.size w w8) := below_more K7.out b8
  have M8 : Hid (Below (b7 + 1) W3 w8) := M7.out.trans (b8.mono (by have := M7.out.size; rw [HL7.out] at this; exact this))
  clear b8
  cases hsm : smallG G with
  | false =>
    clear hsm
    go_wp2_with fail
    go_ret
    exact ⟨by simp, K8.out⟩
  | true =>
    obtain ⟨sz, s40, _⟩ := small_sz hsm
    have SZ := Lib.hid sz
    have S40 := Lib.hid s40
    have CRt := Lib.hid (hright_any w8 (HAr.out _ K8.out).1 sz (by omega))
    clear sz s40 hsm
    cases hok : okG G with
    | false =>
      rw [hok] at CRt
      go_wp2_with fail
      refine (CRt.out).mono ?_
      rintro e w9 ⟨rfl, b9⟩
      have K9 : Hid (Below w.heap.size w w9) := below_more K8.out b9
      clear b9 hok
      go_wp2_with fail
      go_ret
      exact ⟨by simp, K9.out⟩
    | true =>
      rw [hok] at CRt
      have HOK : Hid (∀ g ∈ G, g.ok) := fun g hg => by
        obtain ⟨j, hj, rfl⟩ := List.getElem_of_mem hg
        exact r5_ok (okG_iff.1 hok j hj).1 (SZ.out _ hg)
      have OKG := Lib.hid hok
      go_wp2_with fail
      refine (CRt.out).mono ?_
      rintro e w9 ⟨rfl, b9⟩
      have K9 : Hid (Below w.heap.size w w9) := below_more K8.out b9
      have M9 : Hid (Below (b7 + 1) W3 w9) := M8.out.trans (b9.mono (by have := M8.out.size; rw [HL7.out] at this; exact this))
      clear b9 CRt hok
      by_cases hf1 : first < 0
      · have j1 : decide (first < 0) = true := decide_eq_true hf1
        go_wp2_with fail
        go_ret
        exact ⟨by simp, K9.out⟩
      · have j1 : decide (first < 0) = false := decide_eq_false hf1
        by_cases hf2 : 1099511627776 < first
        · have j2 : decide (1099511627776 < first) = true := decide_eq_true hf2
          go_wp2_with fail
          go_ret
          exact ⟨by simp, K9.out⟩
        · have j2 : decide (1099511627776 < first) = false := decide_eq_false hf2
          have CL : Hid (Calls Tryd.prog 22 #[.bool false, .slice la n lc] w9 fun e w' => ∃ a c, e = .returned (.tuple #[.agg #[.bool false, .slice a n c], .bool true]) ∧ Sgs w' (.slice a n c) G ∧ Below w9.heap.size w9 w') := by
            have := load_ok false w9 (HAr.out _ K9.out).1 SZ.out (by have := S40.out; omega) OKG.out (HT.out _ K9.out)
            rw [← HN.out] at this
            exact this
          go_wp2_with fail
          refine (CL.out).mono ?_
          rintro e w13 ⟨sa, sc, rfl, h13, b13⟩
          have K13 : Hid (Below w.heap.size w w13) := below_more K9.out b13
          have M13 : Hid (Below (b7 + 1) W3 w13) := M9.out.trans (b13.mono (by have := M9.out.size; rw [HL7.out] at this; exact this))
          have r7 := HR7.out _ M13.out
          obtain ⟨z0, z1, f0, f1⟩ := two_cells r7
          obtain ⟨W14, hW14⟩ : ∃ W14, W14 = (w13.setCell ⟨b7, 0, none⟩ (.bool false)).setCell ⟨b7, 1, none⟩ (.slice sa n sc) := ⟨_, rfl⟩
          have r14 : W14.heap[b7]? = some (.cells #[.bool false, .slice sa n sc] 50 (0, 0)) := by rw [hW14]; exact two_put r7
          have K14 : Hid (Below w.heap.size w W14) := by show Below _ _ _; rw [hW14]; exact below_put (below_put K13.out HB7.out _) HB7.out _
          have HW14 := Lib.hid hW14
          have R14 := Lib.hid r14
          have HS14 : Hid (Sgs W14 (.slice sa n sc) G) := by show Sgs _ _ _; rw [hW14]; exact sgs_two h13 r7 (by decide) (fun z h => by cases h) (fun z h => by cases h)
          have HShG : Hid (∀ w', Below W14.heap.size W14 w' → Sh w' (.agg #[.bool false, .slice sa n sc]) false G) := fun w' hb => ⟨_, rfl, HS14.out.below hb⟩
          have T14 : Hid (∀ w', Below W14.heap.size W14 w' → w'.cell? ⟨b7, 0, none⟩ = some (.bool false) ∧ w'.cell? ⟨b7, 1, none⟩ = some (.slice sa n sc)) := fun w' hb => by
            have := (hb.block b7 (Array.getElem?_eq_some_iff.1 R14.out).1).trans R14.out
            exact ⟨(two_cells this).1, (two_cells this).2.1⟩
          have KW : Hid (∀ w', Below W14.heap.size W14 w' → Below w.heap.size w w') := fun w' hb => below_more K14.out hb
          obtain ⟨t0, t1⟩ := T14.out _ (Below.refl _ _)
          clear hW14 r14 r7 h13 b13 CL
          go_upto_region 7 with fail
          rw [← HW14.out]
          clear z0 z1 f0 f1
          have CFk := Lib.hid (sfork_any true first W14 (HShG.out _ (Below.refl _ _)) (by omega) (by omega) (by have := S40.out; omega))
          go_wp2_with fail
          refine (CFk.out).mono ?_
          rintro e w15 ⟨v15, rfl, h15, b15⟩
          obtain ⟨ga, gc, rfl, _⟩ := h15.open_
          obtain ⟨B16, R16, L16⟩ := box1 w15 #[.bool true, .slice ga (forkG G first).length gc] 50
          have HF16 : Hid (∀ w', Below (w15.alloc (.cells #[.bool true, .slice ga (forkG G first).length gc] 50)).heap.size (w15.alloc (.cells #[.bool true, .slice ga (forkG G first).length gc] 50)) w' → Sh w' (.agg #[.bool true, .slice ga (forkG G first).length gc]) true (forkG G first)) := fun w' hb => (h15.below B16).below hb
          have T16 : Hid (∀ w', Below (w15.alloc (.cells #[.bool true, .slice ga (forkG G first).length gc] 50)).heap.size (w15.alloc (.cells #[.bool true, .slice ga (forkG G first).length gc] 50)) w' → w'.cell? ⟨w15.heap.size, 0, none⟩ = some (.bool true) ∧ w'.cell? ⟨w15.heap.size, 1, none⟩ = some (.slice ga (forkG G first).length gc)) := fun w' hb => by
            have := (hb.block w15.heap.size (by rw [L16]; omega)).trans R16
            exact ⟨(two_cells this).1, (two_cells this).2.1⟩
          obtain ⟨W16, hW16⟩ : ∃ W16, W16 = w15.alloc (.cells #[.bool true, .slice ga (forkG G first).length gc] 50) := ⟨_, rfl⟩
          have HK16 := Lib.hid (below_more b15 B16)
          rw [← hW16] at HF16 T16 HK16
          have hfl : (forkG G first).length = n := by rw [fork_len, HN.out]
          rw [hfl] at HF16 T16 hW16 ⊢
          have HW16 := Lib.hid hW16
          have K16 : Hid (∀ w', Below W16.heap.size W16 w' → Below W14.heap.size W14 w') := fun w' hb => below_more HK16.out hb
          obtain ⟨t0, t1⟩ := T14.out _ HK16.out
          clear hW16 B16 R16 L16 h15 b15 hfl CFk
          go_upto_region 8 with fail
          rw [← HW16.out]
          have CW := Lib.hid (swith_any mk W16 (HShG.out _ HK16.out) HMK.out SZ.out (by have := S40.out; omega))
          go_wp2_with fail
          refine (CW.out).mono ?_
          rintro e w17 ⟨s17, rfl, h17, b17⟩
          obtain ⟨ha, hc, rfl⟩ := Rk.Rows.is_slice h17
          obtain ⟨_, hcap, hmax⟩ := Rk.Rows.len h17
          obtain ⟨m, hm⟩ : ∃ m, m = (G.filter (hasG mk)).length := ⟨_, rfl⟩
          have HM := Lib.hid hm
          have hm40 : m ≤ 40 := by rw [hm]; exact Nat.le_trans (List.length_filter_le _ _) S40.out
          have HRW : Hid (∀ w', Below w17.heap.size w17 w' → Sgs w' (.slice ha m hc) (G.filter (hasG mk))) := fun w' hb => by rw [hm]; exact h17.below hb
          rw [← hm] at hcap ⊢
          unfold maxLen at hmax
          have K17 := Lib.hid b17
          clear b17 h17 CW hm t0 t1
          go_wp2_with fail
          go_loopg [10, 52] m (fun g t i wr => ∃ k : Nat, k ≤ m ∧ m - k ≤ g ∧ i = .int .i64 k ∧ Hid (OwnK 3 1 w17.heap.size wr t ((((G.filter (hasG mk)).take k).map G5.i).map fun x => [Value.int .i64 x])) ∧ Below w17.heap.size w17 wr)
          case atStart => exact ⟨0, Nat.zero_le _, by omega, rfl, OwnK.nil_ _ _ _ _, Below.refl _ _⟩
          case round =>
            obtain ⟨k, hk, hg, rfl, HO, hbel⟩ := hrel
            have HB := Lib.hid hbel
            by_cases hlt : k < m
            · have hkl : k < (G.filter (hasG mk)).length := by rw [← HM.out]; exact hlt
              obtain ⟨b, off, q, a1, d1, a2, d2, rfl, hb, hv, c0, c1, c2, c3, c4⟩ := (HRW.out _ hbel).get hkl
              generalize G.filter (hasG mk) = F at *
              have EQ : Hid ((((F.take (k + 1)).map G5.i).map fun x => [Value.int .i64 x]) = (((F.take k).map G5.i).map fun x => [Value.int .i64 x]) ++ [[Value.int .i64 F[k].i]]) := by
                show _ = _
                rw [List.take_succ_eq_append_getElem hkl, List.map_append, List.map_append]; rfl
              have RL : Hid ((((F.take k).map G5.i).map fun x => [Value.int .i64 x]).length = k) := by show _ = _; rw [List.length_map, List.length_map, List.length_take]; omega
              generalize F[k] = y at *
              obtain ⟨yi, yl, yL, yS, yT⟩ := y
              simp only at c0 c1 c2 c3 c4 hv EQ
              generalize (((F.take k).map G5.i).map fun x => [Value.int .i64 x]) = R at *
              obtain ⟨B1, R1, L1⟩ := box1 wr #[.int .i64 yi, .int .i64 yl, .pointer q, .slice a1 yS.length d1, .slice a2 yT.length d2] 33
              have CI : Hid (∀ w', Below wr.heap.size wr w' → Calls Tryd.prog 45 #[.agg #[.int .i64 yi, .int .i64 yl, .pointer q, .slice a1 yS.length d1, .slice a2 yT.length d2]] w' fun e w'' => e = .returned (.int .i64 yi) ∧ Below w'.heap.size w' w'') := fun w' hb => id_any w' (hv.below hb (Nat.le_refl _))
              generalize yS.length = n1 at *
              generalize yT.length = n2 at *
              obtain ⟨W1, hW1⟩ : ∃ W1, W1 = wr.alloc (.cells #[.int .i64 yi, .int .i64 yl, .pointer q, .slice a1 n1 d1, .slice a2 n2 d2] 33) := ⟨_, rfl⟩
              rw [← hW1] at B1 R1 L1
              have HW1 := Lib.hid hW1
              have HBx := Lib.hid B1
              have HC1 := Lib.hid (below_more HB.out B1)
              have HO1 := Lib.hid (HO.out.below B1)
              obtain ⟨d0, d1', d2', d3', d4'⟩ := five_cells R1
              have i1 : (k : Int) < (m : Int) := by omega
              obtain ⟨ao, co, rfl⟩ := HO.out.is_slice
              clear hbel hv hW1 B1 R1 L1 HO
              go_upto_region 12 with fail
              rw [← HW1.out]
              clear c0 c1 c2 c3 c4
              go_wp2_with fail
              refine (CI.out _ HBx.out).mono ?_
              rintro e w22 ⟨rfl, b1⟩
              have A1 : Hid (OwnK 3 1 w17.heap.size (w22.alloc (.cells #[.int .i64 yi] 3)) (.slice ao R.length co) R) := (HO1.out.below b1).below ((Below.refl _ _).alloc (Nat.le_refl _) _)
              have A2 : Hid (Rk.RowK 1 (w22.alloc (.cells #[.int .i64 yi] 3)) (.slice (some ⟨w22.heap.size, 0, none⟩) 1 1) [[.int .i64 yi]]) := Rk.row_one (e := 3) (heap_alloc_new _ _) rfl
              have HBY : Hid (Below w17.heap.size w17 (w22.alloc (.cells #[.int .i64 yi] 3))) := (below_more HC1.out b1).alloc (Nat.le_trans HC1.out.size b1.size) _
              have A4 : Hid (w17.heap.size ≤ (w22.alloc (.cells #[.int .i64 yi] 3)).heap.size) := HBY.out.size
              have A3 : Hid (R.length + 1 ≤ 100000) := by show _ ≤ _; rw [RL.out]; omega
              have HYO : Hid (∀ y ∈ [[Value.int .i64 yi]], ∀ q ∈ y, q.oneCell' = true) := fun y hy q hq => by simp at hy; subst hy; simp at hq; subst hq; rfl
              clear b1 d0 d1' d2' d3' d4'
              go_wp2_with (at_builtin; refine wpList_append_rowk rfl _ _ 56 3 1 8 _ Tryd.underlying56 infoInt1 rfl (by decide) (by decide) rfl w17.heap.size _ _ R [[.int .i64 yi]] rfl rfl A1.out A2.out HYO.out A3.out A4.out ?_)
              intro v6 w6 h5 g5 _
              have K6 : Hid (OwnK 3 1 w17.heap.size w6 v6 (((F.take (k + 1)).map G5.i).map fun x => [Value.int .i64 x])) := by show OwnK _ _ _ _ _ _; rw [EQ.out]; exact h5
              obtain ⟨a6, c6, rfl⟩ := K6.out.is_slice
              have HB6 := Lib.hid (A1.out.belowOf HBY.out (Nat.le_refl _) A4.out g5)
              clear h5 g5 A1 A2 A3 A4 HBY EQ
              go_wp2_with fail
              go_roundg (m - (k + 1))
              case measure => omega
              case rel => exact ⟨k + 1, by omega, Nat.le_refl _, by go_num, K6.out, HB6.out⟩
            · obtain rfl : k = m := by omega
              have i1 : ¬ ((k : Int) < (k : Int)) := by omega
              have et : (G.filter (hasG mk)).take k = G.filter (hasG mk) := by rw [HM.out, List.take_length]
              rw [et] at HO
              obtain ⟨ao, co, rfl⟩ := HO.out.is_slice
              obtain ⟨m9, hm9⟩ : ∃ m9, m9 = (((G.filter (hasG mk)).map G5.i).map fun x => [Value.int .i64 x]).length := ⟨_, rfl⟩
              have HI : Hid (∀ w', Below wr.heap.size wr w' → iRow w' (.slice ao m9 co) ((G.filter (hasG mk)).map G5.i)) := fun w' hb => by rw [hm9]; exact Rk.RowK.below HO.out.row hb (Nat.le_refl _)
              have KR : Hid (Below W16.heap.size W16 wr) := below_more K17.out HB.out
              obtain ⟨y0, y1⟩ := T16.out _ KR.out
              rw [← hm9]
              have CPf := Lib.hid (hplain_any wr (HF16.out _ KR.out) (fork_oks G first SZ.out) (by rw [fork_len]; have := S40.out; omega))
              clear hbel HO HRW et hm9
              go_wp2_with fail
              refine (CPf.out).mono ?_
              rintro e w30 ⟨v30, rfl, h30, b30⟩
              obtain ⟨pa, pc, rfl⟩ := Rk.Rows.is_slice h30
              have H30 : Hid (∀ w', Below w30.heap.size w30 w' → Pls w' (.slice pa (forkG G first).length pc) (forkG G first)) := fun w' hb => h30.below hb
              have N30 := Lib.hid b30
              have CRf := Lib.hid (rfork_any first w30 (HAr.out _ (KW.out _ (K16.out _ (below_more KR.out b30)))).1 (by omega) (by omega) (by have := S40.out; omega))
              clear h30 b30 y0 y1 CPf
              go_wp2_with fail
              refine (CRf.out).mono ?_
              rintro e w31 ⟨v31, rfl, h31, b31⟩
              obtain ⟨ra, rc, rfl⟩ := Rk.Rows.is_slice h31
              have CSm := Lib.hid (hsame_any w31 (H30.out _ b31) h31)
              have N31 := Lib.hid (below_more N30.out b31)
              clear h31 b31 CRf
              go_wp2_with fail
              refine (CSm.out).mono ?_
              rintro e w32 ⟨rfl, b32⟩
              have N32 := Lib.hid (below_more N31.out b32)
              obtain ⟨y0, y1⟩ := T16.out _ (below_more KR.out N32.out)
              have CFz := Lib.hid (sfrozen_any w32 (HF16.out _ (below_more KR.out N32.out)))
              clear b32 CSm
              go_wp2_with fail
              refine (CFz.out).mono ?_
              rintro e w33 ⟨rfl, b33⟩
              have N33 := Lib.hid (below_more N32.out b33)
              obtain ⟨y0', y1'⟩ := T14.out _ (K16.out _ (below_more KR.out N33.out))
              have CF2 := Lib.hid (sfork_any false first w33 (HShG.out _ (K16.out _ (below_more KR.out N33.out))) (by omega) (by omega) (by have := S40.out; omega))
              clear b33 CFz y0 y1
              go_wp2_with fail
              refine (CF2.out).mono ?_
              rintro e w34 ⟨v34, rfl, h34, b34⟩
              obtain ⟨fa4, fc4, rfl, _⟩ := h34.open_
              have N34 := Lib.hid (below_more N33.out b34)
              have CFz2 := Lib.hid (sfrozen_any w34 h34)
              clear h34 b34 CF2 y0' y1'
              go_wp2_with fail
              refine (CFz2.out).mono ?_
              rintro e w35 ⟨rfl, b35⟩
              have N35 := Lib.hid (below_more N34.out b35)
              have CRw := Lib.hid (rwith_any mk w35 (HAr.out _ (KW.out _ (K16.out _ (below_more KR.out N35.out)))).1 HMK.out SZ.out (by have := S40.out; omega))
              clear b35 CFz2
              go_wp2_with fail
              refine (CRw.out).mono ?_
              rintro e w36 ⟨v36, rfl, h36, b36⟩
              obtain ⟨wa, wc, rfl, _⟩ := h36.open_
              obtain ⟨m8, hm8⟩ : ∃ m8, m8 = ((G.filter (hasG mk)).map G5.i).length := ⟨_, rfl⟩
              rw [← hm8] at h36 ⊢
              have N36 := Lib.hid (below_more N35.out b36)
              have CIn := Lib.hid (hints_any w36 (HI.out _ N36.out) h36)
              clear h36 b36 CRw hm8
              go_wp2_with fail
              refine (CIn.out).mono ?_
              rintro e w37 ⟨rfl, b37⟩
              have N37 := Lib.hid (below_more N36.out b37)
              obtain ⟨y0, y1⟩ := T14.out _ (K16.out _ (below_more KR.out N37.out))
              have CP2 := Lib.hid (hplain_any w37 (HShG.out _ (K16.out _ (below_more KR.out N37.out))) HOK.out (by have := S40.out; omega))
              clear b37 CIn
              go_wp2_with fail
              refine (CP2.out).mono ?_
              rintro e w38 ⟨v38, rfl, h38, b38⟩
              obtain ⟨pa8, pc8, rfl⟩ := Rk.Rows.is_slice h38
              have N38 := Lib.hid (below_more N37.out b38)
              have CS2 := Lib.hid (hsame_any w38 h38 (HAr.out _ (KW.out _ (K16.out _ (below_more KR.out N38.out)))).1)
              clear h38 b38 CP2 y0 y1
              go_wp2_with fail
              refine (CS2.out).mono ?_
              rintro e w39 ⟨rfl, b39⟩
              have N39 := Lib.hid (below_more N38.out b39)
              clear b39 CS2
              go_wp2_with fail
              go_ret
              exact ⟨by simp, KW.out _ (K16.out _ (below_more KR.out N39.out))⟩

theorem acc_eq : Rows.laid_unicode_utf8_acceptRanges = Lib.acceptData := by kernel_rfl

set_option maxRecDepth 100000 in
theorem lifted (os : Os) (started : os.Started) (H : Type) (enc : TypeId × Value → H) :
    ReturnsInHanded {} Tryd.checked os 7 .any (fun w args => (Rows.sheetForksSpec.pre enc Tryd.prog Tryd.f7 [] false w args ∧ laidMetH Tryd.prog Rows.sheetForksRow.laid w) ∧ sizedMet enc Tryd.prog Tryd.f7 (OpenSpec.ofChange Rows.sheetForksSpec) false w args) (Rows.sheetForksSpec.post enc Tryd.prog Tryd.f7 false true false false) := by
  refine returnsInHanded_of_change_and (C := Tryd.checked) (X := fun w _ => laidMetH Tryd.prog Rows.sheetForksRow.laid w) (fun _ _ _ hh h => h.of_heap hh) own started (by kernel_rfl) Tryd.func7
    (ChangeSpec.witness_shaped (enc := enc) (C := Tryd.checked) (os := os) (X := fun w _ => laidMetH Tryd.prog Rows.sheetForksRow.laid w) false (World.laidAll Tryd.prog os Rows.sheetForksRow.laid) #[.slice none 0 0, .int .i64 0, .int .i64 0] 8 (World.laidAll_os _ _ _)
      (World.shaped_of_ZipB (by kernel_rfl) (by kernel_rfl)) (by kernel_rfl) (by kernel_rfl) (by kernel_rfl)
      (by rw [MakeChecks.laidMetH_plain _ _ _ (by kernel_rfl)]; exact laidMet_laidAll _ (by kernel_rfl) (by kernel_rfl))) ?_
  intro W base args ds gs before hval0 hW _ hWt hL _
  have hval : ∀ (j : Nat) t v, Tryd.f7.params[j]? = some t → args[j]? = some v → Value.okWide Tryd.prog W .any base t v := hval0
  have hread : ∀ t ∈ Tryd.f7.params.toList, Tryd.prog.readableRec t = true ∧ t < Tryd.prog.types.size := by
    have : (Tryd.f7.params.toList.all fun t => Tryd.prog.readableRec t && decide (t < Tryd.prog.types.size)) = true := by kernel_rfl
    intro t ht
    have := List.all_eq_true.1 this t ht
    simpa using this
  rw [MakeChecks.laidMetH_plain _ _ _ (by kernel_rfl)] at hL
  have hT : Tabs W := utf8Tabs_of_readsT (U8Types.of196 Tryd.lays196) ⟨by kernel_rfl, by kernel_rfl, by kernel_rfl, by kernel_rfl, by kernel_rfl, by kernel_rfl, by kernel_rfl⟩ (Pinned.utf8First_eq ▸ Lib.laidMet.reads hL (.tail _ (.head _))) (acc_eq ▸ Lib.laidMet.reads hL (.head _))
  refine law_contract (P := Tryd.prog) (s := Rows.sheetForksSpec) (fn := Tryd.f7) (tb := 4) laidOut rfl hread rfl Tryd.underlying4 (fun W' => okWide_bool_mk Tryd.underlying4 _) ?_ hW ?_
  · intro ds hds
    rw [Tryd.params7] at hds
    match ds, hds with
    | [d0, d1, d2], _ => rfl
  intro pl hA
  rw [Tryd.params7] at hA hval hWt
  obtain ⟨v0, vs0, d0, ds0, p0, q0, hargs, rfl, hp0, h0, r0⟩ := trodAll_cons hA
  obtain ⟨v1, vs1, d1, ds1, p1, q1, rfl, rfl, hp1, h1, r1⟩ := trodAll_cons r0
  obtain ⟨v2, vs2, d2, ds2, p2, q2, rfl, rfl, hp2, h2, r2⟩ := trodAll_cons r1
  obtain ⟨rfl, rfl, hpe⟩ := trodAll_nil r2
  obtain rfl : args = #[v0, v1, v2] := by cases args; simp_all
  have hwt0 : (d0.weights Tryd.prog 47).all (· ≤ reachBytes) = true := List.all_eq_true.2 fun n hn => List.all_eq_true.1 hWt n (DataW.weights_mem_each (j := 0) (t := 47) (d := d0) rfl rfl n hn)
  obtain ⟨Gl, hGl⟩ := She.open_segs (hval 0 47 v0 rfl rfl) h0 hwt0
  obtain ⟨first, rfl, rfl, _, hw1⟩ := open_int Tryd.underlying3 (hval 1 3 v1 rfl rfl) h1
  have hb1 : -9223372036854775808 ≤ first ∧ first ≤ 9223372036854775807 := by simpa [Lit.wf, IntKind.min, IntKind.max, IntKind.signed, IntKind.bits] using hw1
  obtain ⟨mark, rfl, rfl, _, hw2⟩ := open_int Tryd.underlying3 (hval 2 3 v2 rfl rfl) h2
  have hb2 : -9223372036854775808 ≤ mark ∧ mark ≤ 9223372036854775807 := by simpa [Lit.wf, IntKind.min, IntKind.max, IntKind.signed, IntKind.bits] using hw2
  exact walk W hT hGl first hb1.1 hb1.2 mark hb2.1 hb2.2 

theorem over : Rows.sheetForksRow.holds Tryd.pinned (OpenSpec.ofChange Rows.sheetForksSpec) :=
  OpenClaim.holds_of_wide 7 Tryd.f7 rfl rfl rfl rfl rfl rfl rfl ⟨rfl, rfl, rfl, rfl, rfl⟩ rfl rfl rfl rfl rfl (by kernel_rfl) Tryd.func7 (by kernel_rfl)
    (of_decide_eq_true (by kernel_rfl)) (by unfold Func.isWrapper; first | (rw [if_pos (by decide +kernel)]; kernel_rfl) | (rw [if_neg (by decide +kernel)]; exact ⟨rfl, rfl⟩))
    (fun os started H enc _ => lifted os started H enc)

/-- The statement. -/
theorem proved : Rows.SheetForksCardSaid :=
  Claim7.holds_tied_plain_at .later [] [.data, .pinned] true (true, "0353ae2d0db4c87f21033a723c8aa8ede6146840b4536422d4bfe06a1c6aab85") false over (fun _ h => by cases h) (by kernel_rfl) (fun _ h => by cases h) sheetForks_row_tie rfl ⟨rfl, rfl⟩ (by kernel_rfl) rfl
    (fun f fn hf hfn => by
      obtain rfl : f = 7 := Option.some.inj ((show Tryd.prog.funcNamed Rows.sheetForksRow.func = some 7 by kernel_rfl).symm.trans hf) |>.symm
      obtain rfl : fn = Tryd.f7 := (Option.some.inj (Tryd.func7.symm.trans hfn)).symm
      exact ⟨by kernel_rfl, fun j t ht => by
        rw [Tryd.params7] at ht
        have hm : t ∈ [47, 3, 3] := by simpa using Array.mem_of_getElem? ht
        have hall : ([47, 3, 3].all fun u => !Tryd.prog.wantsStandIn u) = true := by kernel_rfl
        exact (show Tryd.prog.wantsStandIn t = false by simpa using List.all_eq_true.1 hall t hm)⟩)
    (by kernel_rfl)
#print axioms proved
end Go.Proofs.YtcpdoicbekcpeaaDoor.sheetForks
