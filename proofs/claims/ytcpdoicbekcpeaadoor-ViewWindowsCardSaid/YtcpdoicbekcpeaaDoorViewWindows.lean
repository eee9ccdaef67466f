/- For all lists of plain segments and of bools and for each number: ViewWindows answers true, and its arguments read behind the call as before. No condition. THE TIED CARD: unicode/utf8's two tables start as the program's text lays them. -/
import Derived.Test.YtcpdoicbekcpeaaDoorRows
import Derived.Test.YtcpdoicbekcpeaaDoorTie
import Derived.Test.YtcpdoicbekcpeaaDoorCards
import Derived.Test.YtcpdoicbekcpeaaDoorLift
import Derived.ProofKit
import Derived.Lib.LaidU8T
import Derived.PinnedBridge
import Derived.Lay
import Derived.LaidOnce
import Derived.SevenTiedAt
import Derived.Test.YtcpdoicbekcpeaaDoorVr
import Derived.Test.YtcpdoicbekcpeaaDoorHs
import Derived.SizedLaws
import Derived.Deep.RegionHeld3
import Derived.Deep.DeepCutAuto
import Derived.Deep.CutBlock
import Derived.Deep.RegionHeld
import Derived.OrdersHeld
set_option linter.unusedVariables false
namespace Go.Proofs.YtcpdoicbekcpeaaDoor.viewWindows
open Go.ChangeShapes Go.WideShapes Go.ChangeAt Go.RowKit Go.Lib Go.Shelf Go.Proofs.YtcpdoicbekcpeaaDoor.Lift Go.Proofs.YtcpdoicbekcpeaaDoor.Rk Go.Proofs.YtcpdoicbekcpeaaDoor.Rt Go.Proofs.YtcpdoicbekcpeaaDoor.Rig Go.Proofs.YtcpdoicbekcpeaaDoor.Seg Go.Proofs.YtcpdoicbekcpeaaDoor.She Go.Proofs.YtcpdoicbekcpeaaDoor.Vi
open Go.ChangeMaps (open_string shut_string)

theorem own : ownKnob Tryd.prog.godebug = none := by kernel_rfl
theorem laidOut : laidOutB Tryd.prog = true := by kernel_rfl

set_option linter.unusedSimpArgs false
def oneG : List G5 := [⟨1, 0, [97, 98], [], []⟩]
theorem one_ok : okG oneG = true := by decide +kernel
theorem one_sz : ∀ g ∈ oneG, g.sz := fun g hg => by simp [oneG] at hg; subst hg; exact ⟨by decide, by decide, by decide⟩
theorem one_vok : ∀ g ∈ oneG, G5.vok g := fun g hg => by simp [oneG] at hg; subst hg; exact ⟨⟨by decide, by decide⟩, ⟨by decide, by decide⟩, by decide⟩
theorem load_ok {u : Value} {G : List G5} (f : Bool) (w : World) (h : Pls w u G) (hsz : ∀ g ∈ G, g.sz) (hn : G.length ≤ 10000) (hok : okG G = true) (hT : Con.Tabs w) : Calls Tryd.prog 22 #[.bool f, u] w fun e w' => ∃ a c, e = .returned (.tuple #[.agg #[.bool f, .slice a G.length c], .bool true]) ∧ Sgs w' (.slice a G.length c) G ∧ Below w.heap.size w w' := by
  refine (sload_any f w h hsz hn hT).mono ?_
  rintro e w' ⟨s, rfl, hs, hb⟩
  rw [hok, if_pos rfl] at hs
  obtain ⟨a, c, rfl⟩ := Rk.Rows.is_slice hs
  exact ⟨a, c, by rw [hok, Bool.and_true], hs, hb⟩
theorem one_pls {w : World} {b : Nat} (hb : w.heap[b]? = some (.cells #[.int .i64 1, .int .i64 0, .string (ByteArray.mk #[97, 98]), .slice none 0 0, .slice none 0 0] 25 (0, 0))) : Pls w (.slice (some ⟨b, 0, none⟩) 1 1) oneG :=
  ⟨[([.int .i64 1, .int .i64 0, .string (ByteArray.mk #[97, 98]), .slice none 0 0, .slice none 0 0], ⟨1, 0, [97, 98], [], []⟩)], rfl, Rk.row_one (e := 25) hb rfl, fun x hx => by
    simp at hx
    subst hx
    exact ⟨_, _, rfl, _, _, rfl, Spans.nil_ _, Sites.nil_ _⟩⟩
theorem load_one {b : Nat} (w : World) (hb : w.heap[b]? = some (.cells #[.int .i64 1, .int .i64 0, .string (ByteArray.mk #[97, 98]), .slice none 0 0, .slice none 0 0] 25 (0, 0))) (hT : Con.Tabs w) :
    Calls Tryd.prog 22 #[.bool false, .slice (some ⟨b, 0, none⟩) 1 1] w fun e w' => ∃ a c, e = .returned (.tuple #[.agg #[.bool false, .slice a 1 c], .bool true]) ∧ Sgs w' (.slice a 1 c) oneG ∧ Below w.heap.size w w' :=
  load_ok false w (one_pls hb) one_sz (by decide) one_ok hT
theorem opens_call {w : World} {f : FuncId} {cap : Array Value} {o : Int → Bool} (h : Opens w (.func (.func f) #[] cap) o) (n : Int) (w' : World) (hb : Below w.heap.size w w') : Calls Tryd.prog f (#[.int .i64 n] ++ cap) w' fun e w'' => e = .returned (.bool (o n)) ∧ w'' = w' := by
  obtain ⟨f', cap', e, _, h⟩ := h
  injection e with e1 _ e2
  injection e1 with e1
  subst e1 e2
  exact h n w' hb
theorem runs_one {a : Option Addr} {c : Nat} (w : World) (h : Sgs w (.slice a 1 c) oneG) : Calls Tryd.prog 48 #[.agg #[.bool false, .slice a 1 c], .func (.func 58) #[] #[], .int .i64 1, .int .i64 1] w fun e w' => ∃ a c, e = .returned (.slice a 1 c) ∧ Below w.heap.size w w' := by
  refine (runs_any 1 1 w (v := .agg #[.bool false, .slice a 1 c]) (f := false) (G := oneG) ⟨_, rfl, h⟩ (yes58 w) one_vok (by decide) ⟨by decide, by decide⟩ ⟨by decide, by decide⟩).mono ?_
  rintro e w' ⟨s, rfl, hs, hb⟩
  obtain ⟨a, c, rfl, _⟩ := hs.is_slice
  have e1 : (runs (oneG.map (vw fun _ => true)) 1 1).length = 1 := by decide +kernel
  rw [e1]
  exact ⟨a, c, rfl, hb⟩
theorem small_vok {w : World} {v : Value} {G : List G5} (h : Args w v G) (hs : ∀ g ∈ G, g.sz) : ∀ g ∈ G, G5.vok g := fun g hg => ⟨(h.2 g hg).1, (h.2 g hg).2.1, (hs g hg).1⟩
theorem add_run {s t : List UInt8} (h : s.length + t.length ≤ 1000000) (w : World) : (Op.stringOp .add (Let.mk s) (Let.mk t)).run Tryd.prog w = .ok (.string (Let.mk (s ++ t))) w := by
  rw [run_string_add_sum w _ _ (by rw [Let.mk_size, Let.mk_size]; omega), Let.mk_append, Let.mk_data, Let.mk_data]
set_option maxRecDepth 100000 in
set_option maxHeartbeats 64000000 in
theorem walk (w : World) (hT : Tabs w) {v : Value} {G : List G5} (hA : Args w v G) {u : Value} {B : List Bool} (hB : Bls w u B) (x : Int) (x1 : -9223372036854775808 ≤ x) (x2 : x ≤ 9223372036854775807) :
    Calls Tryd.prog 10 #[v, u, .int .i64 x] w fun e w' => e = .returned (.bool true) ∧ Below w.heap.size w w' := by
  have hmf : ∀ (fn : Fn) (first cap : Array Value) (w : World), (Instr.makeFunc fn first cap).run Tryd.prog w = .ok (.func fn first cap) w := fun _ _ _ _ => rfl
  obtain ⟨la, lc, rfl⟩ := Rk.Rows.is_slice hA.1
  obtain ⟨_, hlc, hlm⟩ := Rk.Rows.len hA.1
  obtain ⟨ua, uc, rfl, huc, hum, _⟩ := hB.open_
  unfold maxLen at hlm hum
  obtain ⟨B0, R0, L0⟩ := box1 w #[.slice ua B.length uc] 81
  obtain ⟨W0, hW0⟩ : ∃ W0, W0 = w.alloc (.cells #[.slice ua B.length uc] 81) := ⟨_, rfl⟩
  rw [← hW0] at B0 R0 L0
  have HT : Hid (∀ w', Below W0.heap.size W0 w' → Con.Tabs w') := fun w' hb => hT.below (below_more B0 hb)
  have HAr : Hid (∀ w', Below W0.heap.size W0 w' → Args w' (.slice la G.length lc) G) := fun w' hb => hA.below (below_more B0 hb)
  have HOP : Hid (∀ w', Below W0.heap.size W0 w' → Opens w' (.func (.func 59) #[] #[.pointer (some ⟨w.heap.size, 0, none⟩)]) (told B)) := fun w' hb =>
    (tells_ViewWindows W0 (by omega) (by rw [cell_of_row _ _ _ _ _ _ R0]; rfl) (hB.below B0)).below hb
  obtain ⟨n, hn⟩ : ∃ n, n = G.length := ⟨_, rfl⟩
  obtain ⟨mb, hmb⟩ : ∃ mb, mb = B.length := ⟨_, rfl⟩
  have HN := Lib.hid hn
  rw [← hn] at HAr hlc ⊢
  rw [← hmb] at huc R0 hW0 ⊢
  obtain ⟨b4, hb4⟩ : ∃ b4, b4 = w.heap.size := ⟨_, rfl⟩
  rw [← hb4] at HOP R0 L0
  have HL4 : Hid (b4 < W0.heap.size) := by show _ < _; omega
  have HC4 : Hid (∀ w', Below W0.heap.size W0 w' → w'.cell? ⟨b4, 0, none⟩ = some (.slice ua mb uc)) := fun w' hb => by rw [cell_of_row _ _ _ _ _ _ ((hb.block _ HL4.out).trans R0)]; rfl
  have HW0 := Lib.hid hW0
  have HB0 := Lib.hid B0
  have K0 : Hid (Below W0.heap.size W0 W0) := Below.refl _ _
  have CTl : Hid (∀ nn w', Below W0.heap.size W0 w' → Calls Tryd.prog 59 #[.int .i64 nn, .pointer (some ⟨b4, 0, none⟩)] w' fun e w'' => e = .returned (.bool (told B nn)) ∧ w'' = w') := fun nn w' hb => opens_call (HOP.out W0 K0.out) nn w' hb
  clear hT hA hB hn hmb B0 R0 L0 hW0
  go_enter Tryd.func10, Tryd.ntmps10
  go_upto_region 1 with fail
  rw [← hb4, ← HW0.out]
  clear hb4
  go_wp2_with fail
  refine (load_one _ (heap_alloc_new _ _) (HT.out _ (below_al K0.out _))).mono ?_
  rintro e w2 ⟨ta, tc, rfl, h2, b2⟩
  have K2 := Lib.hid (below_more (below_al K0.out _) b2)
  clear b2
  obtain ⟨B3, R3, L3⟩ := box1 w2 #[.bool false, .slice ta 1 tc] 50
  obtain ⟨W3, hW3⟩ : ∃ W3, W3 = w2.alloc (.cells #[.bool false, .slice ta 1 tc] 50) := ⟨_, rfl⟩
  rw [← hW3] at B3 R3 L3
  have HW3 := Lib.hid hW3
  obtain ⟨z0, z1, _, _⟩ := two_cells R3
  have K3 := Lib.hid (below_more K2.out B3)
  have CK := Lib.hid (runs_one W3 (h2.below B3))
  clear hW3 B3 R3 L3 h2
  go_upto_region 2 with fail
  rw [← HW3.out]
  go_wp2_with fail
  refine (CK.out).mono ?_
  rintro e w5 ⟨pa, pc, rfl, b5⟩
  have K5 := Lib.hid (below_more K3.out b5)
  clear b5 z0 z1
  go_wp2_with fail
  refine (hsmall_any _ (HAr.out _ K5.out)).mono ?_
  rintro e w6 ⟨rfl, b6⟩
  have K6 := Lib.hid (below_more K5.out b6)
  clear b6
  cases hsm : smallG G with
  | false =>
    clear hsm
    go_wp2_with fail
    go_ret
    exact ⟨by simp, below_more HB0.out K6.out⟩
  | true =>
    obtain ⟨sz, s40, _⟩ := small_sz hsm
    have SZ := Lib.hid sz
    have S40 : Hid (n ≤ 40) := by show _ ≤ _; rw [HN.out]; exact s40
    have HVK := Lib.hid (small_vok (HAr.out _ K6.out) sz)
    have CRt := Lib.hid (hright_any w6 (HAr.out _ K6.out).1 sz (by omega))
    clear sz s40 hsm
    cases hok : okG G with
    | false =>
      rw [hok] at CRt
      go_wp2_with fail
      refine (CRt.out).mono ?_
      rintro e w7 ⟨rfl, b7⟩
      have K7 := Lib.hid (below_more K6.out b7)
      clear b7 hok
      go_wp2_with fail
      go_ret
      exact ⟨by simp, below_more HB0.out K7.out⟩
    | true =>
      rw [hok] at CRt
      have HR5 : Hid (∀ g ∈ G, r5 g = true) := fun g hg => by
        obtain ⟨j, hj, rfl⟩ := List.getElem_of_mem hg
        exact (okG_iff.1 hok j hj).1
      have OKG := Lib.hid hok
      go_wp2_with fail
      refine (CRt.out).mono ?_
      rintro e w7 ⟨rfl, b7⟩
      have K7 := Lib.hid (below_more K6.out b7)
      have c4 := HC4.out _ K7.out
      clear b7 hok CRt
      by_cases hm20 : mb ≤ 20
      · have j20 : decide ((20 : Int) < (mb : Int)) = false := decide_eq_false (by omega)
        have k20 : ¬ ((20 : Int) < (mb : Int)) := by omega
        obtain ⟨o, ho⟩ : ∃ o, o = told B := ⟨_, rfl⟩
        rw [← ho] at CTl HOP
        clear ho
        have CL6 : Hid (∀ w', Below W0.heap.size W0 w' → Calls Tryd.prog 22 #[.bool false, .slice la n lc] w' fun e w'' => ∃ a c, e = .returned (.tuple #[.agg #[.bool false, .slice a n c], .bool true]) ∧ Sgs w'' (.slice a n c) G ∧ Below w'.heap.size w' w'') := fun w' hb => by
          have := load_ok false w' (HAr.out w' hb).1 SZ.out (by rw [← HN.out]; have := S40.out; omega) OKG.out (HT.out w' hb)
          rw [← HN.out] at this
          exact this
        obtain ⟨A, hA⟩ : ∃ A, A = Lk o G := ⟨_, rfl⟩
        obtain ⟨V, hV⟩ : ∃ V, V = G.map (vw o) := ⟨_, rfl⟩
        have HAE := Lib.hid hA
        have HVE := Lib.hid hV
        have hAV : A = V.map Vw.pc := by rw [hA, hV]; rfl
        have HAL : Hid (A.length = n) := by show _ = _; rw [hA, HN.out]; unfold Lk; rw [List.length_map, List.length_map]
        have HVL : Hid (V.length = n) := by show _ = _; rw [hV, HN.out, List.length_map]
        have HRT : Hid (rightPc A) := by show rightPc A; rw [hA]; exact lk_right o HVK.out (by rw [← HN.out]; have := S40.out; omega)
        obtain ⟨F, hF⟩ : ∃ F, F = flat V := ⟨_, rfl⟩
        obtain ⟨q, hq⟩ : ∃ q, q = shutV V := ⟨_, rfl⟩
        have HF := Lib.hid hF
        have HQ := Lib.hid hq
        have HFL : Hid (F.length ≤ 400000) := by
          show _ ≤ _
          have h1 := flat_len o (N := 10000) (G := G) fun g hg => (HVK.out g hg).2.2
          rw [← hV, ← hF, ← HN.out] at h1
          have := S40.out
          omega
        have HQ40 : Hid (q ≤ 40) := by
          show _ ≤ _
          rw [hq]
          have h1 : shutV V ≤ V.length := List.length_filter_le _ _
          have := HVL.out
          have := S40.out
          omega
        obtain ⟨wb1, wb2⟩ := wid_all HRT.out
        obtain ⟨ww, hww⟩ : ∃ ww, ww = wid A := ⟨_, rfl⟩
        rw [← hww] at wb1 wb2
        have HWV : Hid (ww = wid (V.map Vw.pc)) := by show _ = _; rw [hww, hAV]
        have CWA : Hid (∀ w' a c, Pcs w' (.slice a n c) A → Calls Tryd.prog 55 #[.slice a n c] w' fun e w'' => e = .returned (.int .i64 ww) ∧ Below w'.heap.size w' w'') := fun w' a c hp => by rw [hww]; exact Width_any w' hp HRT.out
        clear hA hV hAV hF hq hww
        go_wp2_with fail
        refine (CL6.out _ K7.out).mono ?_
        rintro e w9 ⟨sa, sc, rfl, h9, b9⟩
        obtain ⟨B9, R9, L9⟩ := box1 w9 #[.bool false, .slice sa n sc] 50
        obtain ⟨W9, hW9⟩ : ∃ W9, W9 = w9.alloc (.cells #[.bool false, .slice sa n sc] 50) := ⟨_, rfl⟩
        rw [← hW9] at B9 R9 L9
        have HW9 := Lib.hid hW9
        have K9 := Lib.hid (below_more K7.out (below_more b9 B9))
        have HS9 : Hid (∀ w', Below W9.heap.size W9 w' → Sh w' (.agg #[.bool false, .slice sa n sc]) false G) := fun w' hb => ⟨_, rfl, (h9.below B9).below hb⟩
        obtain ⟨p9, hp9⟩ : ∃ p9, p9 = w9.heap.size := ⟨_, rfl⟩
        rw [← hp9] at R9 L9
        have HL9 : Hid (p9 < W9.heap.size) := by show _ < _; omega
        have BX : Hid (∀ w', Below W9.heap.size W9 w' → w'.cell? ⟨p9, 0, none⟩ = some (.bool false) ∧ w'.cell? ⟨p9, 1, none⟩ = some (.slice sa n sc)) := fun w' hb =>
          ⟨(two_cells ((hb.block _ HL9.out).trans R9)).1, (two_cells ((hb.block _ HL9.out).trans R9)).2.1⟩
        have CLA : Hid (∀ w', Below W9.heap.size W9 w' → Calls Tryd.prog 51 #[.agg #[.bool false, .slice sa n sc], .func (.func 59) #[] #[.pointer (some ⟨b4, 0, none⟩)]] w' fun e w'' => ∃ a c, e = .returned (.slice a n c) ∧ Pcs w'' (.slice a n c) A ∧ Below w'.heap.size w' w'') := fun w' hb => by
          refine (look_any w' (HS9.out w' hb) (HOP.out w' (below_more K9.out hb)) HVK.out (by rw [← HN.out]; have := S40.out; omega)).mono ?_
          rintro e w'' ⟨s, rfl, hs', hb'⟩
          rw [← HAE.out] at hs'
          obtain ⟨a, c, rfl, _⟩ := hs'.open_
          have := HAL.out
          rw [this] at hs' ⊢
          exact ⟨a, c, rfl, hs', hb'⟩
        have CRA : Hid (∀ c d : Int, in64 c → in64 d → ∀ w', Below W9.heap.size W9 w' → Calls Tryd.prog 48 #[.agg #[.bool false, .slice sa n sc], .func (.func 59) #[] #[.pointer (some ⟨b4, 0, none⟩)], .int .i64 c, .int .i64 d] w' (GiveRs (runs V c d) w')) := fun c d hc hd w' hb => by
          rw [HVE.out]
          exact runs_any c d w' (HS9.out w' hb) (HOP.out w' (below_more K9.out hb)) HVK.out (by rw [← HN.out]; have := S40.out; omega) hc hd
        clear b9 h9 B9 R9 L9 hW9 CL6
        go_upto_region 8 with fail
        rw [← hp9, ← HW9.out]
        clear hp9
        obtain ⟨z0, z1⟩ := BX.out W9 (Below.refl _ _)
        go_wp2_with fail
        refine (CLA.out _ (Below.refl _ _)).mono ?_
        rintro e w10 ⟨pa, pc, rfl, h10, b10⟩
        have CW1 := Lib.hid (CWA.out _ _ _ h10)
        have K10 := Lib.hid b10
        clear b10 h10 z0 z1 CLA CWA
        go_wp2_with fail
        refine (CW1.out).mono ?_
        rintro e w11 ⟨rfl, b11⟩
        have K11 := Lib.hid (below_more K10.out b11)
        clear b11 CW1
        by_cases h200 : ww ≤ 200
        · have j200 : decide ((200 : Int) < ww) = false := decide_eq_false (by omega)
          have k200 : ¬ ((200 : Int) < ww) := by omega
          obtain ⟨a2, ha2⟩ : ∃ a2, a2 = clampI x ww := ⟨_, rfl⟩
          have ⟨ab1, ab2⟩ : 0 ≤ a2 ∧ a2 ≤ ww := by rw [ha2]; exact clampI_in _ wb1
          have n0 : ¬ ww < 0 := by omega
          have HC : Hid (min (max x 0) ww = a2) := by show _ = _; rw [ha2]; rfl
          have hRA := runs_all V (by rw [← HWV.out]; exact h200)
          have hRT := runs_two V (by rw [← HWV.out]; exact h200) ab1 (by rw [← HWV.out]; exact ab2)
          rw [← HWV.out, ← HF.out, ← HQ.out] at hRA
          rw [← HWV.out, ← HF.out] at hRT
          obtain ⟨R1, hR1⟩ : ∃ R, R = runs V 0 ww := ⟨_, rfl⟩
          obtain ⟨R2, hR2⟩ : ∃ R, R = runs V 0 a2 := ⟨_, rfl⟩
          obtain ⟨R3, hR3⟩ : ∃ R, R = runs V a2 (ww - a2) := ⟨_, rfl⟩
          have HRL1 : Hid ((cat R1).length ≤ 400000) := by show _ ≤ _; rw [hR1]; exact Nat.le_trans (runs_short V _ _) (by rw [← HF.out]; exact HFL.out)
          have HRL2 : Hid ((cat R2).length ≤ 400000) := by show _ ≤ _; rw [hR2]; exact Nat.le_trans (runs_short V _ _) (by rw [← HF.out]; exact HFL.out)
          have HRL3 : Hid ((cat R3).length ≤ 400000) := by show _ ≤ _; rw [hR3]; exact Nat.le_trans (runs_short V _ _) (by rw [← HF.out]; exact HFL.out)
          have HRF1 : Hid (R1.length ≤ 40) := by show _ ≤ _; rw [hR1]; exact Nat.le_trans (runs_few V _ _) (by rw [HVL.out]; exact S40.out)
          rw [← hR1] at hRA
          rw [← hR2, ← hR3] at hRT
          obtain ⟨hRC, hRS⟩ := hRA
          have HRC1 := Lib.hid hRC
          have HRS := Lib.hid hRS
          obtain ⟨x1t, hx1⟩ : ∃ x1t, cat R2 = x1t := ⟨_, rfl⟩
          obtain ⟨x2t, hx2⟩ : ∃ x2t, cat R3 = x2t := ⟨_, rfl⟩
          rw [hx1, hx2] at hRT
          have HX := Lib.hid hRT
          have HRC2 := Lib.hid hx1
          have HRC3 := Lib.hid hx2
          have HR2 := Lib.hid hR2
          have HR3 := Lib.hid hR3
          have HR1 := Lib.hid hR1
          clear ha2 hRC hRS hRT hx1 hx2 hR1 hR2 hR3
          go_upto_region 11 with fail
          go_cut [2] from 61 to 64 (fun x wx => x = .int .i64 a2 ∧ Hid (Below w11.heap.size w11 wx))
          case first =>
            clear j200
            go_wp2_with fail
            go_meet
            exact ⟨by rw [HC.out], Lib.hid (Below.refl _ _)⟩
          case rest =>
            obtain ⟨rfl, K12⟩ := hcut
            have KC0 := Lib.hid (below_more K11.out K12.out)
            obtain ⟨z0, z1⟩ := BX.out wc KC0.out
            have CR1 := Lib.hid (CRA.out 0 ww (by unfold in64; omega) (by unfold in64; omega) wc KC0.out)
            rw [← HR1.out] at CR1
            clear HC n0 j200 k200
            go_wp2_with fail
            refine (CR1.out).mono ?_
            rintro e w14 ⟨s1, rfl, hw14, b14⟩
            have Kw14 := Lib.hid (below_more KC0.out b14)
            clear b14 CR1 z0 z1 HR1
            obtain ⟨ra1, rc1, rfl, rl1, rm1, E1⟩ := hw14.open_
            have HE1 := Lib.hid E1
            obtain ⟨m1, hm1⟩ : ∃ m1, m1 = R1.length := ⟨_, rfl⟩
            rw [← hm1] at rl1 ⊢
            have HM1 := Lib.hid hm1
            unfold maxLen at rm1
            clear E1 hm1 hw14
            go_wp2_with fail
            go_loopg [13, 16, 70] m1 (fun g t h i wr => ∃ k : Nat, k ≤ m1 ∧ m1 - k ≤ g ∧ i = .int .i64 k ∧ t = .string (Let.mk (cat (R1.take k))) ∧ h = .int .i64 (shut (R1.take k) : Nat) ∧ Below w14.heap.size w14 wr)
            case atStart => exact ⟨0, Nat.zero_le _, by omega, rfl, rfl, rfl, Below.refl _ _⟩
            case round =>
              obtain ⟨k, hk, hg, rfl, rfl, rfl, hbel⟩ := hrel
              have HB := Lib.hid hbel
              by_cases hlt : k < m1
              · have hkl : k < R1.length := by rw [← HM1.out]; exact hlt
                obtain ⟨b, off, rfl, lt1, c0, c1, c2, c3⟩ := HE1.out k hkl
                have CT : Hid (cat (R1.take (k + 1)) = cat (R1.take k) ++ R1[k].t) := cat_take R1 hkl
                have CL : (cat (R1.take (k + 1))).length ≤ 400000 := Nat.le_trans (cat_take_le R1 (k + 1)) HRL1.out
                have ST : Hid (shut (R1.take (k + 1)) = shut (R1.take k) + (if R1[k].o = true then 0 else 1)) := shut_take R1 hkl
                generalize R1[k] = y at *
                obtain ⟨yi, yl, yo, yt⟩ := y
                simp only at c0 c1 c2 c3 CT ST
                rw [CT.out, List.length_append] at CL
                obtain ⟨tt, htt⟩ : ∃ tt, tt = cat (R1.take k) := ⟨_, rfl⟩
                rw [← htt] at CT CL ⊢
                have AD := fun w => add_run (s := tt) (t := yt) (by omega) w
                have SH : shut (R1.take k) ≤ 40 := by
                  have := shut_len (R1.take k)
                  rw [List.length_take] at this
                  have := HRF1.out
                  have := HM1.out
                  omega
                obtain ⟨sh, hsh⟩ : ∃ sh, sh = shut (R1.take k) := ⟨_, rfl⟩
                rw [← hsh] at ST SH ⊢
                clear hsh
                replace c0 := vcell hbel lt1 c0
                replace c1 := vcell hbel lt1 c1
                replace c2 := vcell hbel lt1 c2
                replace c3 := vcell hbel lt1 c3
                obtain ⟨B1, R1', L1⟩ := box1 wr #[Value.int .i64 yi, .int .i64 yl, .bool yo, .string (Let.mk yt)] 97
                obtain ⟨W1, hW1⟩ : ∃ W1, W1 = wr.alloc (.cells #[Value.int .i64 yi, .int .i64 yl, .bool yo, .string (Let.mk yt)] 97) := ⟨_, rfl⟩
                rw [← hW1] at B1 R1' L1
                have HW1 := Lib.hid hW1
                have HB1 := Lib.hid (below_more HB.out B1)
                obtain ⟨d0, d1, d2, d3, _, _, _, _⟩ := four_cells R1'
                obtain ⟨b12, hb12⟩ : ∃ b12, b12 = wr.heap.size := ⟨_, rfl⟩
                rw [← hb12] at d0 d1 d2 d3
                have i1 : (k : Int) < (m1 : Int) := by omega
                clear hbel hW1 B1 R1' L1 htt CL HE1
                go_upto_region 17 with fail
                rw [← hb12, ← HW1.out]
                clear c0 c1 c2 c3 hb12
                cases yo with
                | true =>
                  have ST2 : Hid (shut (R1.take (k + 1)) = sh) := by show _ = _; rw [ST.out]; rfl
                  clear ST
                  go_wp2_with fail
                  go_roundg (m1 - (k + 1))
                  case measure => omega
                  case rel => exact ⟨k + 1, by omega, Nat.le_refl _, by go_num, by rw [CT.out], by rw [ST2.out] <;> go_num, HB1.out⟩
                | false =>
                  have ST2 : Hid (shut (R1.take (k + 1)) = sh + 1) := by show _ = _; rw [ST.out]; rfl
                  clear ST
                  go_wp2_with fail
                  go_roundg (m1 - (k + 1))
                  case measure => omega
                  case rel => exact ⟨k + 1, by omega, Nat.le_refl _, by go_num, by rw [CT.out], by rw [ST2.out] <;> go_num, HB1.out⟩
              · obtain rfl : m1 = k := by omega
                have i1 : ¬ ((m1 : Int) < (m1 : Int)) := by omega
                have et : R1.take m1 = R1 := by rw [HM1.out, List.take_length]
                rw [et, HRC1.out, HRS.out]
                have KC1 : Hid (Below W9.heap.size W9 wr) := below_more Kw14.out hbel
                obtain ⟨wo1, hwo⟩ : ∃ wo, wo = wr := ⟨_, rfl⟩
                rw [← hwo] at KC1 ⊢
                clear hbel HB HE1 HM1 hwo et rl1 rm1 i1 hk hg hlt
                have i11 : ¬ ((m1 : Int) < (m1 : Int)) := by omega
                obtain ⟨z0, z1⟩ := BX.out wo1 KC1.out
                have CR2 := Lib.hid (CRA.out 0 a2 (by unfold in64; omega) (by unfold in64; omega) wo1 KC1.out)
                rw [← HR2.out] at CR2
                go_wp2_with fail
                refine (CR2.out).mono ?_
                rintro e w21 ⟨s2, rfl, hw21, b21⟩
                have Kw21 := Lib.hid (below_more KC1.out b21)
                clear b21 CR2 z0 z1 i11
                obtain ⟨ra2, rc2, rfl, rl2, rm2, E2⟩ := hw21.open_
                have HE2 := Lib.hid E2
                obtain ⟨m2, hm2⟩ : ∃ m2, m2 = R2.length := ⟨_, rfl⟩
                rw [← hm2] at rl2 ⊢
                have HM2 := Lib.hid hm2
                unfold maxLen at rm2
                clear E2 hm2 hw21
                go_wp2_with fail
                go_loopg [14, 89] m2 (fun g t i wr => ∃ k : Nat, k ≤ m2 ∧ m2 - k ≤ g ∧ i = .int .i64 k ∧ t = .string (Let.mk (cat (R2.take k))) ∧ Below w21.heap.size w21 wr)
                case atStart => exact ⟨0, Nat.zero_le _, by omega, rfl, rfl, Below.refl _ _⟩
                case round =>
                  obtain ⟨k, hk, hg, rfl, rfl, hbel⟩ := hrel
                  have HB := Lib.hid hbel
                  by_cases hlt : k < m2
                  · have hkl : k < R2.length := by rw [← HM2.out]; exact hlt
                    obtain ⟨b, off, rfl, lt1, c0, c1, c2, c3⟩ := HE2.out k hkl
                    have CT : Hid (cat (R2.take (k + 1)) = cat (R2.take k) ++ R2[k].t) := cat_take R2 hkl
                    have CL : (cat (R2.take (k + 1))).length ≤ 400000 := Nat.le_trans (cat_take_le R2 (k + 1)) HRL2.out
                    generalize R2[k] = y at *
                    obtain ⟨yi, yl, yo, yt⟩ := y
                    simp only at c0 c1 c2 c3 CT
                    rw [CT.out, List.length_append] at CL
                    obtain ⟨tt, htt⟩ : ∃ tt, tt = cat (R2.take k) := ⟨_, rfl⟩
                    rw [← htt] at CT CL ⊢
                    have AD := fun w => add_run (s := tt) (t := yt) (by omega) w
                    replace c0 := vcell hbel lt1 c0
                    replace c1 := vcell hbel lt1 c1
                    replace c2 := vcell hbel lt1 c2
                    replace c3 := vcell hbel lt1 c3
                    obtain ⟨B1, R1', L1⟩ := box1 wr #[Value.int .i64 yi, .int .i64 yl, .bool yo, .string (Let.mk yt)] 97
                    obtain ⟨W1, hW1⟩ : ∃ W1, W1 = wr.alloc (.cells #[Value.int .i64 yi, .int .i64 yl, .bool yo, .string (Let.mk yt)] 97) := ⟨_, rfl⟩
                    rw [← hW1] at B1 R1' L1
                    have HW1 := Lib.hid hW1
                    have HB1 := Lib.hid (below_more HB.out B1)
                    obtain ⟨d0, d1, d2, d3, _, _, _, _⟩ := four_cells R1'
                    obtain ⟨b12, hb12⟩ : ∃ b12, b12 = wr.heap.size := ⟨_, rfl⟩
                    rw [← hb12] at d0 d1 d2 d3
                    have i1 : (k : Int) < (m2 : Int) := by omega
                    clear hbel hW1 B1 R1' L1 htt CL HE2
                    go_upto_region 24 with fail
                    rw [← hb12, ← HW1.out]
                    clear c0 c1 c2 c3 hb12
                    go_wp2_with fail
                    go_roundg (m2 - (k + 1))
                    case measure => omega
                    case rel => exact ⟨k + 1, by omega, Nat.le_refl _, by go_num, by rw [CT.out], HB1.out⟩
                  · obtain rfl : m2 = k := by omega
                    have i1 : ¬ ((m2 : Int) < (m2 : Int)) := by omega
                    have et : R2.take m2 = R2 := by rw [HM2.out, List.take_length]
                    rw [et, HRC2.out]
                    have KC2 : Hid (Below W9.heap.size W9 wr) := below_more Kw21.out hbel
                    obtain ⟨wo2, hwo⟩ : ∃ wo, wo = wr := ⟨_, rfl⟩
                    rw [← hwo] at KC2 ⊢
                    clear hbel HB HE2 HM2 hwo et rl2 rm2 i1 hk hg hlt
                    have i21 : ¬ ((m2 : Int) < (m2 : Int)) := by omega
                    obtain ⟨z0, z1⟩ := BX.out wo2 KC2.out
                    have zs : IntKind.i64.wrap (ww - a2) = ww - a2 := IntWalk.i64_in _ (by omega)
                    have CR3 := Lib.hid (CRA.out a2 (ww - a2) (by unfold in64; omega) (by unfold in64; omega) wo2 KC2.out)
                    rw [← HR3.out] at CR3
                    go_wp2_with fail
                    refine (CR3.out).mono ?_
                    rintro e w26 ⟨s3, rfl, hw26, b26⟩
                    have Kw26 := Lib.hid (below_more KC2.out b26)
                    clear b26 CR3 z0 z1 zs i21 CRA
                    obtain ⟨ra3, rc3, rfl, rl3, rm3, E3⟩ := hw26.open_
                    have HE3 := Lib.hid E3
                    obtain ⟨m3, hm3⟩ : ∃ m3, m3 = R3.length := ⟨_, rfl⟩
                    rw [← hm3] at rl3 ⊢
                    have HM3 := Lib.hid hm3
                    unfold maxLen at rm3
                    clear E3 hm3 hw26
                    go_wp2_with fail
                    go_loopg [15, 106] m3 (fun g t i wr => ∃ k : Nat, k ≤ m3 ∧ m3 - k ≤ g ∧ i = .int .i64 k ∧ t = .string (Let.mk (cat (R3.take k))) ∧ Below w26.heap.size w26 wr)
                    case atStart => exact ⟨0, Nat.zero_le _, by omega, rfl, rfl, Below.refl _ _⟩
                    case round =>
                      obtain ⟨k, hk, hg, rfl, rfl, hbel⟩ := hrel
                      have HB := Lib.hid hbel
                      by_cases hlt : k < m3
                      · have hkl : k < R3.length := by rw [← HM3.out]; exact hlt
                        obtain ⟨b, off, rfl, lt1, c0, c1, c2, c3⟩ := HE3.out k hkl
                        have CT : Hid (cat (R3.take (k + 1)) = cat (R3.take k) ++ R3[k].t) := cat_take R3 hkl
                        have CL : (cat (R3.take (k + 1))).length ≤ 400000 := Nat.le_trans (cat_take_le R3 (k + 1)) HRL3.out
                        generalize R3[k] = y at *
                        obtain ⟨yi, yl, yo, yt⟩ := y
                        simp only at c0 c1 c2 c3 CT
                        rw [CT.out, List.length_append] at CL
                        obtain ⟨tt, htt⟩ : ∃ tt, tt = cat (R3.take k) := ⟨_, rfl⟩
                        rw [← htt] at CT CL ⊢
                        have AD := fun w => add_run (s := tt) (t := yt) (by omega) w
                        replace c0 := vcell hbel lt1 c0
                        replace c1 := vcell hbel lt1 c1
                        replace c2 := vcell hbel lt1 c2
                        replace c3 := vcell hbel lt1 c3
                        obtain ⟨B1, R1', L1⟩ := box1 wr #[Value.int .i64 yi, .int .i64 yl, .bool yo, .string (Let.mk yt)] 97
                        obtain ⟨W1, hW1⟩ : ∃ W1, W1 = wr.alloc (.cells #[Value.int .i64 yi, .int .i64 yl, .bool yo, .string (Let.mk yt)] 97) := ⟨_, rfl⟩
                        rw [← hW1] at B1 R1' L1
                        have HW1 := Lib.hid hW1
                        have HB1 := Lib.hid (below_more HB.out B1)
                        obtain ⟨d0, d1, d2, d3, _, _, _, _⟩ := four_cells R1'
                        obtain ⟨b12, hb12⟩ : ∃ b12, b12 = wr.heap.size := ⟨_, rfl⟩
                        rw [← hb12] at d0 d1 d2 d3
                        have i1 : (k : Int) < (m3 : Int) := by omega
                        clear hbel hW1 B1 R1' L1 htt CL HE3
                        go_upto_region 29 with fail
                        rw [← hb12, ← HW1.out]
                        clear c0 c1 c2 c3 hb12
                        go_wp2_with fail
                        go_roundg (m3 - (k + 1))
                        case measure => omega
                        case rel => exact ⟨k + 1, by omega, Nat.le_refl _, by go_num, by rw [CT.out], HB1.out⟩
                      · obtain rfl : m3 = k := by omega
                        have i1 : ¬ ((m3 : Int) < (m3 : Int)) := by omega
                        have et : R3.take m3 = R3 := by rw [HM3.out, List.take_length]
                        rw [et, HRC3.out]
                        have KC3 : Hid (Below W9.heap.size W9 wr) := below_more Kw26.out hbel
                        obtain ⟨wo3, hwo⟩ : ∃ wo, wo = wr := ⟨_, rfl⟩
                        rw [← hwo] at KC3 ⊢
                        clear hbel HB HE3 HM3 hwo et rl3 rm3 i1 hk hg hlt
                        have i31 : ¬ ((m3 : Int) < (m3 : Int)) := by omega
                        have KO := Lib.hid (below_more K9.out KC3.out)
                        have AF : ∀ w, (Op.stringOp .add (Let.mk x1t) (Let.mk x2t)).run Tryd.prog w = .ok (.string (Let.mk F)) w := fun w => by
                          have h1 := HX.out
                          have h2 := HFL.out
                          rw [← h1, List.length_append] at h2
                          rw [← h1]
                          exact add_run (by omega) w
                        obtain ⟨wp, hwp⟩ : ∃ wp, wp = wo3 := ⟨_, rfl⟩
                        rw [← hwp] at KO KC3 ⊢
                        clear hwp HRC1 HRC2 HRC3 HRS HRL1 HRL2 HRL3 HRF1 HR2 HR3 HX BX
                        go_wp2_with fail
                        go_loopg [23, 16, 117] n (fun g t h i wr => ∃ k : Nat, k ≤ n ∧ n - k ≤ g ∧ i = .int .i64 k ∧ t = .string (Let.mk (flat (V.take k))) ∧ h = .int .i64 ((q - shutV (V.take k) : Nat)) ∧ Below wp.heap.size wp wr)
                        case atStart => exact ⟨0, Nat.zero_le _, by omega, rfl, rfl, rfl, Below.refl _ _⟩
                        case round =>
                          obtain ⟨k, hk, hg, rfl, rfl, rfl, hbel⟩ := hrel
                          have HB := Lib.hid hbel
                          have HBw := Lib.hid (below_more KO.out hbel)
                          by_cases hlt : k < n
                          · have hkl : k < G.length := by rw [← HN.out]; exact hlt
                            have hkv : k < V.length := by rw [HVL.out]; exact hlt
                            obtain ⟨b, off, a1, e1, a3, e2, rfl, hb, hv, c0, c1, c2, c3, c4⟩ := (HAr.out _ HBw.out).1.get hkl
                            have VE : V[k] = vw o G[k] := by
                              have h2 := HVE.out
                              subst h2
                              simp
                            have FT : Hid (flat (V.take (k + 1)) = flat (V.take k) ++ (if (vw o G[k]).o = true then (vw o G[k]).L else [])) := by show _ = _; rw [flat_take V hkv, VE]
                            have ST : Hid (shutV (V.take (k + 1)) = shutV (V.take k) + (if (vw o G[k]).o = true then 0 else 1)) := by show _ = _; rw [shutV_take V hkv, VE]
                            have SQ : shutV (V.take (k + 1)) ≤ q := by rw [HQ.out]; exact shutV_take_le V (k + 1)
                            have CL : (flat (V.take (k + 1))).length ≤ 400000 := Nat.le_trans (flat_take_le V (k + 1)) (by rw [← HF.out]; exact HFL.out)
                            have Q40 : q ≤ 40 := HQ40.out
                            clear VE
                            generalize G[k] = y at *
                            obtain ⟨yi, yl, yL, yS, yT⟩ := y
                            simp only at c0 c1 c2 c3 c4
                            generalize yS.length = n1 at *
                            generalize yT.length = n2 at *
                            obtain ⟨B1, R1', L1⟩ := box1 wr #[Value.int .i64 yi, .int .i64 yl, .string (Let.mk yL), .slice a1 n1 e1, .slice a3 n2 e2] 25
                            obtain ⟨W1, hW1⟩ : ∃ W1, W1 = wr.alloc (.cells #[Value.int .i64 yi, .int .i64 yl, .string (Let.mk yL), .slice a1 n1 e1, .slice a3 n2 e2] 25) := ⟨_, rfl⟩
                            rw [← hW1] at B1 R1' L1
                            have HW1 := Lib.hid hW1
                            have HB1 := Lib.hid (below_more HB.out B1)
                            have KZ := Lib.hid (below_more HBw.out B1)
                            obtain ⟨d0, d1, d2, d3, d4⟩ := five_cells R1'
                            obtain ⟨b12, hb12⟩ : ∃ b12, b12 = wr.heap.size := ⟨_, rfl⟩
                            rw [← hb12] at d0 d1 d2 d3 d4
                            have i1 : (k : Int) < (n : Int) := by omega
                            have CT1 := Lib.hid (CTl.out yl W1 KZ.out)
                            clear hbel hv hW1 B1 R1' L1
                            go_upto_region 35 with fail
                            rw [← hb12, ← HW1.out]
                            clear c0 c1 c2 c3 c4 hb12
                            obtain ⟨tt, htt⟩ : ∃ tt, tt = flat (V.take k) := ⟨_, rfl⟩
                            rw [← htt] at FT ⊢
                            obtain ⟨st, hst⟩ : ∃ st, st = shutV (V.take k) := ⟨_, rfl⟩
                            rw [← hst] at ST ⊢
                            clear htt hst
                            cases hoy : o yl with
                            | true =>
                              rw [hoy] at CT1
                              have FT2 : Hid (flat (V.take (k + 1)) = tt ++ yL) := by show _ = _; rw [FT.out]; simp [vw, hoy]
                              have ST2 : Hid (shutV (V.take (k + 1)) = st) := by show _ = _; rw [ST.out]; simp [vw, hoy]
                              rw [FT2.out, List.length_append] at CL
                              have AD := fun w => add_run (s := tt) (t := yL) (by omega) w
                              obtain ⟨qs, hqs⟩ : ∃ qs, qs = q - st := ⟨_, rfl⟩
                              rw [← hqs]
                              have HQS := Lib.hid hqs
                              clear FT ST CL SQ hoy hqs Q40
                              go_wp2_with fail
                              refine (CT1.out).mono ?_
                              rintro e w8 ⟨rfl, hw8⟩
                              rw [hw8]
                              clear hw8 CT1
                              go_wp2_with fail
                              go_roundg (n - (k + 1))
                              case measure => omega
                              case rel => exact ⟨k + 1, by omega, Nat.le_refl _, by go_num, by rw [FT2.out], by rw [ST2.out, ← HQS.out], HB1.out⟩
                            | false =>
                              rw [hoy] at CT1
                              have FT2 : Hid (flat (V.take (k + 1)) = tt) := by show _ = _; rw [FT.out]; simp [vw, hoy]
                              have ST2 : Hid (shutV (V.take (k + 1)) = st + 1) := by show _ = _; rw [ST.out]; simp [vw, hoy]
                              rw [ST2.out] at SQ
                              obtain ⟨qs, hqs⟩ : ∃ qs, qs = q - st := ⟨_, rfl⟩
                              rw [← hqs]
                              have q1 : 1 ≤ qs := by omega
                              have q2 : qs ≤ 40 := by omega
                              have EQS : Hid (q - (st + 1) = qs - 1) := by show _ = _; omega
                              have zs : IntKind.i64.wrap ((qs : Int) - 1) = ((qs - 1 : Nat) : Int) := by rw [IntWalk.i64_in _ (by omega)]; omega
                              clear FT ST CL SQ hoy hqs Q40
                              go_wp2_with fail
                              refine (CT1.out).mono ?_
                              rintro e w8 ⟨rfl, hw8⟩
                              rw [hw8]
                              clear hw8 CT1
                              go_wp2_with fail
                              go_roundg (n - (k + 1))
                              case measure => omega
                              case rel => exact ⟨k + 1, by omega, Nat.le_refl _, by go_num, by rw [FT2.out], by rw [ST2.out, EQS.out], HB1.out⟩
                          · obtain rfl : n = k := by omega
                            have i1 : ¬ ((n : Int) < (n : Int)) := by omega
                            have et : V.take n = V := by rw [← HVL.out, List.take_length]
                            rw [et, ← HF.out, ← HQ.out, Nat.sub_self]
                            clear hbel et
                            go_wp2_with fail
                            go_ret
                            exact ⟨by simp, below_more HB0.out HBw.out⟩
        · have j200 : decide ((200 : Int) < ww) = true := decide_eq_true (by omega)
          have k200 : (200 : Int) < ww := by omega
          go_wp2_with fail
          go_ret
          exact ⟨by simp, below_more HB0.out (below_more K9.out K11.out)⟩
      · have j20 : decide ((20 : Int) < (mb : Int)) = true := decide_eq_true (by omega)
        have k20 : (20 : Int) < (mb : Int) := by omega
        go_wp2_with fail
        go_ret
        exact ⟨by simp, below_more HB0.out K7.out⟩

theorem acc_eq : Rows.laid_unicode_utf8_acceptRanges = Lib.acceptData := by kernel_rfl

set_option maxRecDepth 100000 in
theorem lifted (os : Os) (started : os.Started) (H : Type) (enc : TypeId × Value → H) :
    ReturnsInHanded {} Tryd.checked os 10 .any (fun w args => (Rows.viewWindowsSpec.pre enc Tryd.prog Tryd.f10 [] false w args ∧ laidMetH Tryd.prog Rows.viewWindowsRow.laid w) ∧ sizedMet enc Tryd.prog Tryd.f10 (OpenSpec.ofChange Rows.viewWindowsSpec) false w args) (Rows.viewWindowsSpec.post enc Tryd.prog Tryd.f10 false true false false) := by
  refine returnsInHanded_of_change_and (C := Tryd.checked) (X := fun w _ => laidMetH Tryd.prog Rows.viewWindowsRow.laid w) (fun _ _ _ hh h => h.of_heap hh) own started (by kernel_rfl) Tryd.func10
    (ChangeSpec.witness_shaped (enc := enc) (C := Tryd.checked) (os := os) (X := fun w _ => laidMetH Tryd.prog Rows.viewWindowsRow.laid w) false (World.laidAll Tryd.prog os Rows.viewWindowsRow.laid) #[.slice none 0 0, .slice none 0 0, .int .i64 0] 8 (World.laidAll_os _ _ _)
      (World.shaped_of_ZipB (by kernel_rfl) (by kernel_rfl)) (by kernel_rfl) (by kernel_rfl) (by kernel_rfl)
      (by rw [MakeChecks.laidMetH_plain _ _ _ (by kernel_rfl)]; exact laidMet_laidAll _ (by kernel_rfl) (by kernel_rfl))) ?_
  intro W base args ds gs before hval0 hW _ hWt hL _
  have hval : ∀ (j : Nat) t v, Tryd.f10.params[j]? = some t → args[j]? = some v → Value.okWide Tryd.prog W .any base t v := hval0
  have hread : ∀ t ∈ Tryd.f10.params.toList, Tryd.prog.readableRec t = true ∧ t < Tryd.prog.types.size := by
    have : (Tryd.f10.params.toList.all fun t => Tryd.prog.readableRec t && decide (t < Tryd.prog.types.size)) = true := by kernel_rfl
    intro t ht
    have := List.all_eq_true.1 this t ht
    simpa using this
  rw [MakeChecks.laidMetH_plain _ _ _ (by kernel_rfl)] at hL
  have hT : Tabs W := utf8Tabs_of_readsT (U8Types.of196 Tryd.lays196) ⟨by kernel_rfl, by kernel_rfl, by kernel_rfl, by kernel_rfl, by kernel_rfl, by kernel_rfl, by kernel_rfl⟩ (Pinned.utf8First_eq ▸ Lib.laidMet.reads hL (.tail _ (.head _))) (acc_eq ▸ Lib.laidMet.reads hL (.head _))
  refine law_contract (P := Tryd.prog) (s := Rows.viewWindowsSpec) (fn := Tryd.f10) (tb := 4) laidOut rfl hread rfl Tryd.underlying4 (fun W' => okWide_bool_mk Tryd.underlying4 _) ?_ hW ?_
  · intro ds hds
    rw [Tryd.params10] at hds
    match ds, hds with
    | [d0, d1, d2], _ => rfl
  intro pl hA
  rw [Tryd.params10] at hA hval hWt
  obtain ⟨v0, vs0, d0, ds0, p0, q0, hargs, rfl, hp0, h0, r0⟩ := trodAll_cons hA
  obtain ⟨v1, vs1, d1, ds1, p1, q1, rfl, rfl, hp1, h1, r1⟩ := trodAll_cons r0
  obtain ⟨v2, vs2, d2, ds2, p2, q2, rfl, rfl, hp2, h2, r2⟩ := trodAll_cons r1
  obtain ⟨rfl, rfl, hpe⟩ := trodAll_nil r2
  obtain rfl : args = #[v0, v1, v2] := by cases args; simp_all
  have hwt0 : (d0.weights Tryd.prog 47).all (· ≤ reachBytes) = true := List.all_eq_true.2 fun n hn => List.all_eq_true.1 hWt n (DataW.weights_mem_each (j := 0) (t := 47) (d := d0) rfl rfl n hn)
  obtain ⟨Gl, hGl⟩ := She.open_segs (hval 0 47 v0 rfl rfl) h0 hwt0
  obtain ⟨Bopen, hGopen⟩ := Vi.open_bools (hval 1 81 v1 rfl rfl) h1
  obtain ⟨x, rfl, rfl, _, hw2⟩ := open_int Tryd.underlying3 (hval 2 3 v2 rfl rfl) h2
  have hb2 : -9223372036854775808 ≤ x ∧ x ≤ 9223372036854775807 := by simpa [Lit.wf, IntKind.min, IntKind.max, IntKind.signed, IntKind.bits] using hw2
  exact walk W hT hGl hGopen x hb2.1 hb2.2 

theorem over : Rows.viewWindowsRow.holds Tryd.pinned (OpenSpec.ofChange Rows.viewWindowsSpec) :=
  OpenClaim.holds_of_wide 10 Tryd.f10 rfl rfl rfl rfl rfl rfl rfl ⟨rfl, rfl, rfl, rfl, rfl⟩ rfl rfl rfl rfl rfl (by kernel_rfl) Tryd.func10 (by kernel_rfl)
    (of_decide_eq_true (by kernel_rfl)) (by unfold Func.isWrapper; first | (rw [if_pos (by decide +kernel)]; kernel_rfl) | (rw [if_neg (by decide +kernel)]; exact ⟨rfl, rfl⟩))
    (fun os started H enc _ => lifted os started H enc)

/-- The statement. -/
theorem proved : Rows.ViewWindowsCardSaid :=
  Claim7.holds_tied_plain_at .later [] [.data, .pinned] true (true, "0353ae2d0db4c87f21033a723c8aa8ede6146840b4536422d4bfe06a1c6aab85") false over (fun _ h => by cases h) (by kernel_rfl) (fun _ h => by cases h) viewWindows_row_tie rfl ⟨rfl, rfl⟩ (by kernel_rfl) rfl
    (fun f fn hf hfn => by
      obtain rfl : f = 10 := Option.some.inj ((show Tryd.prog.funcNamed Rows.viewWindowsRow.func = some 10 by kernel_rfl).symm.trans hf) |>.symm
      obtain rfl : fn = Tryd.f10 := (Option.some.inj (Tryd.func10.symm.trans hfn)).symm
      exact ⟨by kernel_rfl, fun j t ht => by
        rw [Tryd.params10] at ht
        have hm : t ∈ [47, 81, 3] := by simpa using Array.mem_of_getElem? ht
        have hall : ([47, 81, 3].all fun u => !Tryd.prog.wantsStandIn u) = true := by kernel_rfl
        exact (show Tryd.prog.wantsStandIn t = false by simpa using List.all_eq_true.1 hall t hm)⟩)
    (by kernel_rfl)
#print axioms proved
end Go.Proofs.YtcpdoicbekcpeaaDoor.viewWindows
