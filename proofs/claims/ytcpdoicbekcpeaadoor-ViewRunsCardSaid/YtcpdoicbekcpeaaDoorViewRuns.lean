/- For all lists of plain segments and of bools and for every two numbers: ViewRuns answers true, and its arguments read behind the call as before. No condition. THE TIED CARD: unicode/utf8's two tables start as the program's text lays them. -/
import Derived.Test.YtcpdoicbekcpeaaDoorRows
import Derived.Test.YtcpdoicbekcpeaaDoorTie
import Derived.Test.YtcpdoicbekcpeaaDoorCards
import Derived.Test.YtcpdoicbekcpeaaDoorLift
import Derived.ProofKit
import Derived.Lib.LaidU8T
import Derived.PinnedBridge
import Derived.Lay
import Derived.LaidOnce
import Derived.SevenTiedAt
import Derived.Test.YtcpdoicbekcpeaaDoorVt
import Derived.Test.YtcpdoicbekcpeaaDoorHs
import Derived.SizedLaws
import Derived.Deep.RegionHeld3
import Derived.Deep.DeepCutAuto
import Derived.Deep.CutBlock
import Derived.Deep.RegionHeld
import Derived.OrdersHeld
set_option linter.unusedVariables false
namespace Go.Proofs.YtcpdoicbekcpeaaDoor.viewRuns
open Go.ChangeShapes Go.WideShapes Go.ChangeAt Go.RowKit Go.Lib Go.Shelf Go.Proofs.YtcpdoicbekcpeaaDoor.Lift Go.Proofs.YtcpdoicbekcpeaaDoor.Rk Go.Proofs.YtcpdoicbekcpeaaDoor.Rt Go.Proofs.YtcpdoicbekcpeaaDoor.Rig Go.Proofs.YtcpdoicbekcpeaaDoor.Seg Go.Proofs.YtcpdoicbekcpeaaDoor.She Go.Proofs.YtcpdoicbekcpeaaDoor.Vi
open Go.ChangeMaps (open_string shut_string)

theorem own : ownKnob Tryd.prog.godebug = none := by kernel_rfl
theorem laidOut : laidOutB Tryd.prog = true := by kernel_rfl

set_option linter.unusedSimpArgs false
def oneG : List G5 := [⟨1, 0, [97, 98], [], []⟩]
theorem one_ok : okG oneG = true := by decide +kernel
theorem one_sz : ∀ g ∈ oneG, g.sz := fun g hg => by simp [oneG] at hg; subst hg; exact ⟨by decide, by decide, by decide⟩
theorem one_vok : ∀ g ∈ oneG, G5.vok g := fun g hg => by simp [oneG] at hg; subst hg; exact ⟨⟨by decide, by decide⟩, ⟨by decide, by decide⟩, by decide⟩
theorem load_ok {u : Value} {G : List G5} (f : Bool) (w : World) (h : Pls w u G) (hsz : ∀ g ∈ G, g.sz) (hn : G.length ≤ 10000) (hok : okG G = true) (hT : Con.Tabs w) : Calls Tryd.prog 22 #[.bool f, u] w fun e w' => ∃ a c, e = .returned (.tuple #[.agg #[.bool f, .slice a G.length c], .bool true]) ∧ Sgs w' (.slice a G.length c) G ∧ Below w.heap.size w w' := by
  refine (sload_any f w h hsz hn hT).mono ?_
  rintro e w' ⟨s, rfl, hs, hb⟩
  rw [hok, if_pos rfl] at hs
  obtain ⟨a, c, rfl⟩ := Rk.Rows.is_slice hs
  exact ⟨a, c, by rw [hok, Bool.and_true], hs, hb⟩
theorem one_pls {w : World} {b : Nat} (hb : w.heap[b]? = some (.cells #[.int .i64 1, .int .i64 0, .string (ByteArray.mk #[97, 98]), .slice none 0 0, .slice none 0 0] 25 (0, 0))) : Pls w (.slice (some ⟨b, 0, none⟩) 1 1) oneG :=
  ⟨[([.int .i64 1, .int .i64 0, .string (ByteArray.mk #[97, 98]), .slice none 0 0, .slice none 0 0], ⟨1, 0, [97, 98], [], []⟩)], rfl, Rk.row_one (e := 25) hb rfl, fun x hx => by
    simp at hx
    subst hx
    exact ⟨_, _, rfl, _, _, rfl, Spans.nil_ _, Sites.nil_ _⟩⟩
theorem load_one {b : Nat} (w : World) (hb : w.heap[b]? = some (.cells #[.int .i64 1, .int .i64 0, .string (ByteArray.mk #[97, 98]), .slice none 0 0, .slice none 0 0] 25 (0, 0))) (hT : Con.Tabs w) :
    Calls Tryd.prog 22 #[.bool false, .slice (some ⟨b, 0, none⟩) 1 1] w fun e w' => ∃ a c, e = .returned (.tuple #[.agg #[.bool false, .slice a 1 c], .bool true]) ∧ Sgs w' (.slice a 1 c) oneG ∧ Below w.heap.size w w' :=
  load_ok false w (one_pls hb) one_sz (by decide) one_ok hT
theorem opens_call {w : World} {f : FuncId} {cap : Array Value} {o : Int → Bool} (h : Opens w (.func (.func f) #[] cap) o) (n : Int) (w' : World) (hb : Below w.heap.size w w') : Calls Tryd.prog f (#[.int .i64 n] ++ cap) w' fun e w'' => e = .returned (.bool (o n)) ∧ w'' = w' := by
  obtain ⟨f', cap', e, _, h⟩ := h
  injection e with e1 _ e2
  injection e1 with e1
  subst e1 e2
  exact h n w' hb
theorem runs_one {a : Option Addr} {c : Nat} (w : World) (h : Sgs w (.slice a 1 c) oneG) : Calls Tryd.prog 48 #[.agg #[.bool false, .slice a 1 c], .func (.func 49) #[] #[], .int .i64 1, .int .i64 1] w fun e w' => ∃ a c, e = .returned (.slice a 1 c) ∧ Below w.heap.size w w' := by
  refine (runs_any 1 1 w (v := .agg #[.bool false, .slice a 1 c]) (f := false) (G := oneG) ⟨_, rfl, h⟩ (yes49 w) one_vok (by decide) ⟨by decide, by decide⟩ ⟨by decide, by decide⟩).mono ?_
  rintro e w' ⟨s, rfl, hs, hb⟩
  obtain ⟨a, c, rfl, _⟩ := hs.is_slice
  have e1 : (runs (oneG.map (vw fun _ => true)) 1 1).length = 1 := by decide +kernel
  rw [e1]
  exact ⟨a, c, rfl, hb⟩
theorem small_vok {w : World} {v : Value} {G : List G5} (h : Args w v G) (hs : ∀ g ∈ G, g.sz) : ∀ g ∈ G, G5.vok g := fun g hg => ⟨(h.2 g hg).1, (h.2 g hg).2.1, (hs g hg).1⟩
theorem r5_right {g : G5} (h : r5 g = true) : Let.right g.L = true := by
  unfold r5 right5 at h
  rw [Bool.and_eq_true] at h
  exact h.1
set_option maxRecDepth 100000 in
set_option maxHeartbeats 64000000 in
theorem walk (w : World) (hT : Tabs w) {v : Value} {G : List G5} (hA : Args w v G) {u : Value} {B : List Bool} (hB : Bls w u B) (x z : Int) (hx : -9223372036854775808 ≤ x ∧ x ≤ 9223372036854775807) (hz : -9223372036854775808 ≤ z ∧ z ≤ 9223372036854775807) :
    Calls Tryd.prog 8 #[v, u, .agg #[.int .i64 x, .int .i64 z]] w fun e w' => e = .returned (.bool true) ∧ Below w.heap.size w w' := by
  have hmf : ∀ (fn : Fn) (first cap : Array Value) (w : World), (Instr.makeFunc fn first cap).run Tryd.prog w = .ok (.func fn first cap) w := fun _ _ _ _ => rfl
  obtain ⟨la, lc, rfl⟩ := Rk.Rows.is_slice hA.1
  obtain ⟨_, hlc, hlm⟩ := Rk.Rows.len hA.1
  obtain ⟨ua, uc, rfl, huc, hum, _⟩ := hB.open_
  unfold maxLen at hlm hum
  obtain ⟨Bz, Rz, Lz⟩ := box1 w #[.slice ua B.length uc] 81
  obtain ⟨Wz, hWz⟩ : ∃ Wz, Wz = w.alloc (.cells #[.slice ua B.length uc] 81) := ⟨_, rfl⟩
  rw [← hWz] at Bz Rz Lz
  obtain ⟨B0', R1, L1⟩ := box1 Wz #[.int .i64 x, .int .i64 z] 82
  obtain ⟨W0, hW0⟩ : ∃ W0, W0 = Wz.alloc (.cells #[.int .i64 x, .int .i64 z] 82) := ⟨_, rfl⟩
  rw [← hW0] at B0' R1 L1
  have B0 : Below w.heap.size w W0 := below_more Bz B0'
  have R0 := (B0'.block _ (show w.heap.size < Wz.heap.size by omega)).trans Rz
  have L0 : w.heap.size < W0.heap.size := by omega
  have hxz : in64 x ∧ in64 z := ⟨hx, hz⟩
  have HXZ := Lib.hid hxz
  clear hx hz hxz
  have HT : Hid (∀ w', Below W0.heap.size W0 w' → Con.Tabs w') := fun w' hb => hT.below (below_more B0 hb)
  have HAr : Hid (∀ w', Below W0.heap.size W0 w' → Args w' (.slice la G.length lc) G) := fun w' hb => hA.below (below_more B0 hb)
  have HOP : Hid (∀ w', Below W0.heap.size W0 w' → Opens w' (.func (.func 50) #[] #[.pointer (some ⟨w.heap.size, 0, none⟩)]) (told B)) := fun w' hb =>
    (tells_ViewRuns W0 L0 (by rw [cell_of_row _ _ _ _ _ _ R0]; rfl) (hB.below B0)).below hb
  obtain ⟨n, hn⟩ : ∃ n, n = G.length := ⟨_, rfl⟩
  obtain ⟨mb, hmb⟩ : ∃ mb, mb = B.length := ⟨_, rfl⟩
  have HN := Lib.hid hn
  rw [← hn] at HAr hlc ⊢
  have HBl : Hid (∀ w', Below W0.heap.size W0 w' → Bls w' (.slice ua B.length uc) B) := fun w' hb => hB.below (below_more B0 hb)
  rw [← hmb] at huc R0 hWz HBl ⊢
  obtain ⟨b4, hb4⟩ : ∃ b4, b4 = w.heap.size := ⟨_, rfl⟩
  rw [← hb4] at HOP R0 L0
  obtain ⟨b5, hb5⟩ : ∃ b5, b5 = Wz.heap.size := ⟨_, rfl⟩
  rw [← hb5] at R1 L1
  have HL5 : Hid (b5 < W0.heap.size) := by show _ < _; omega
  have HC5 : Hid (∀ w', Below W0.heap.size W0 w' → w'.cell? ⟨b5, 0, none⟩ = some (.int .i64 x) ∧ w'.cell? ⟨b5, 1, none⟩ = some (.int .i64 z)) := fun w' hb => ⟨by rw [cell_of_row _ _ _ _ _ _ ((hb.block _ HL5.out).trans R1)]; rfl, by rw [cell_of_row _ _ _ _ _ _ ((hb.block _ HL5.out).trans R1)]; rfl⟩
  have EB5 : Hid (b4 + 1 = b5) := by show _ = _; omega
  have HWz := Lib.hid hWz
  have HL4 : Hid (b4 < W0.heap.size) := by show _ < _; omega
  have HC4 : Hid (∀ w', Below W0.heap.size W0 w' → w'.cell? ⟨b4, 0, none⟩ = some (.slice ua mb uc)) := fun w' hb => by rw [cell_of_row _ _ _ _ _ _ ((hb.block _ HL4.out).trans R0)]; rfl
  have HW0 := Lib.hid hW0
  have HB0 := Lib.hid B0
  have K0 : Hid (Below W0.heap.size W0 W0) := Below.refl _ _
  have CTl : Hid (∀ nn w', Below W0.heap.size W0 w' → Calls Tryd.prog 50 #[.int .i64 nn, .pointer (some ⟨b4, 0, none⟩)] w' fun e w'' => e = .returned (.bool (told B nn)) ∧ w'' = w') := fun nn w' hb => opens_call (HOP.out W0 K0.out) nn w' hb
  clear hT hA hB hn hmb B0 R0 L0 hW0 hWz Bz Rz Lz B0' R1 L1
  go_enter Tryd.func8, Tryd.ntmps8
  go_upto_region 1 with fail
  rw [← HWz.out, ← hb4, EB5.out, ← HW0.out]
  clear hb4 hb5 EB5
  go_wp2_with fail
  refine (load_one _ (heap_alloc_new _ _) (HT.out _ (below_al K0.out _))).mono ?_
  rintro e w2 ⟨ta, tc, rfl, h2, b2⟩
  have K2 := Lib.hid (below_more (below_al K0.out _) b2)
  clear b2
  obtain ⟨B3, R3, L3⟩ := box1 w2 #[.bool false, .slice ta 1 tc] 50
  obtain ⟨W3, hW3⟩ : ∃ W3, W3 = w2.alloc (.cells #[.bool false, .slice ta 1 tc] 50) := ⟨_, rfl⟩
  rw [← hW3] at B3 R3 L3
  have HW3 := Lib.hid hW3
  obtain ⟨z0, z1, _, _⟩ := two_cells R3
  have K3 := Lib.hid (below_more K2.out B3)
  have CK := Lib.hid (runs_one W3 (h2.below B3))
  clear hW3 B3 R3 L3 h2
  go_upto_region 2 with fail
  rw [← HW3.out]
  go_wp2_with fail
  refine (CK.out).mono ?_
  rintro e w5 ⟨pa, pc, rfl, b5⟩
  have K5 := Lib.hid (below_more K3.out b5)
  clear b5 z0 z1
  go_wp2_with fail
  refine (hsmall_any _ (HAr.out _ K5.out)).mono ?_
  rintro e w6 ⟨rfl, b6⟩
  have K6 := Lib.hid (below_more K5.out b6)
  clear b6
  cases hsm : smallG G with
  | false =>
    clear hsm
    go_wp2_with fail
    go_ret
    exact ⟨by simp, below_more HB0.out K6.out⟩
  | true =>
    obtain ⟨sz, s40, _⟩ := small_sz hsm
    have SZ := Lib.hid sz
    have S40 : Hid (n ≤ 40) := by show _ ≤ _; rw [HN.out]; exact s40
    have HVK := Lib.hid (small_vok (HAr.out _ K6.out) sz)
    have CRt := Lib.hid (hright_any w6 (HAr.out _ K6.out).1 sz (by omega))
    clear sz s40 hsm
    cases hok : okG G with
    | false =>
      rw [hok] at CRt
      go_wp2_with fail
      refine (CRt.out).mono ?_
      rintro e w7 ⟨rfl, b7⟩
      have K7 := Lib.hid (below_more K6.out b7)
      clear b7 hok
      go_wp2_with fail
      go_ret
      exact ⟨by simp, below_more HB0.out K7.out⟩
    | true =>
      rw [hok] at CRt
      have HR5 : Hid (∀ g ∈ G, r5 g = true) := fun g hg => by
        obtain ⟨j, hj, rfl⟩ := List.getElem_of_mem hg
        exact (okG_iff.1 hok j hj).1
      have OKG := Lib.hid hok
      go_wp2_with fail
      refine (CRt.out).mono ?_
      rintro e w7 ⟨rfl, b7⟩
      have K7 := Lib.hid (below_more K6.out b7)
      have c4 := HC4.out _ K7.out
      clear b7 hok CRt
      by_cases hm20 : mb ≤ 20
      · have j20 : decide ((20 : Int) < (mb : Int)) = false := decide_eq_false (by omega)
        have k20 : ¬ ((20 : Int) < (mb : Int)) := by omega
        obtain ⟨o, ho⟩ : ∃ o, o = told B := ⟨_, rfl⟩
        rw [← ho] at CTl HOP
        have HO := Lib.hid ho
        clear ho
        have CL6 : Hid (∀ w', Below W0.heap.size W0 w' → Calls Tryd.prog 22 #[.bool false, .slice la n lc] w' fun e w'' => ∃ a c, e = .returned (.tuple #[.agg #[.bool false, .slice a n c], .bool true]) ∧ Sgs w'' (.slice a n c) G ∧ Below w'.heap.size w' w'') := fun w' hb => by
          have := load_ok false w' (HAr.out w' hb).1 SZ.out (by rw [← HN.out]; have := S40.out; omega) OKG.out (HT.out w' hb)
          rw [← HN.out] at this
          exact this
        obtain ⟨A, hA⟩ : ∃ A, A = Lk o G := ⟨_, rfl⟩
        obtain ⟨V, hV⟩ : ∃ V, V = G.map (vw o) := ⟨_, rfl⟩
        have HAE := Lib.hid hA
        have HVE := Lib.hid hV
        have HAL : Hid (A.length = n) := by show _ = _; rw [hA, HN.out]; unfold Lk; rw [List.length_map, List.length_map]
        have HRG : Hid (∀ g ∈ G, Let.right g.L = true) := fun g hg => r5_right (HR5.out g hg)
        clear hA hV
        go_wp2_with fail
        refine (CL6.out _ K7.out).mono ?_
        rintro e w9 ⟨sa, sc, rfl, h9, b9⟩
        obtain ⟨B9, R9, L9⟩ := box1 w9 #[.bool false, .slice sa n sc] 50
        obtain ⟨W9, hW9⟩ : ∃ W9, W9 = w9.alloc (.cells #[.bool false, .slice sa n sc] 50) := ⟨_, rfl⟩
        rw [← hW9] at B9 R9 L9
        have HW9 := Lib.hid hW9
        have K9 := Lib.hid (below_more K7.out (below_more b9 B9))
        have HS9 : Hid (∀ w', Below W9.heap.size W9 w' → Sh w' (.agg #[.bool false, .slice sa n sc]) false G) := fun w' hb => ⟨_, rfl, (h9.below B9).below hb⟩
        obtain ⟨p9, hp9⟩ : ∃ p9, p9 = w9.heap.size := ⟨_, rfl⟩
        rw [← hp9] at R9 L9
        have HL9 : Hid (p9 < W9.heap.size) := by show _ < _; omega
        have BX : Hid (∀ w', Below W9.heap.size W9 w' → Below W9.heap.size W9 w' ∧ w'.cell? ⟨p9, 0, none⟩ = some (.bool false) ∧ w'.cell? ⟨p9, 1, none⟩ = some (.slice sa n sc) ∧ w'.cell? ⟨b4, 0, none⟩ = some (.slice ua mb uc) ∧ w'.cell? ⟨b5, 0, none⟩ = some (.int .i64 x) ∧ w'.cell? ⟨b5, 1, none⟩ = some (.int .i64 z)) := fun w' hb =>
          ⟨hb, (two_cells ((hb.block _ HL9.out).trans R9)).1, (two_cells ((hb.block _ HL9.out).trans R9)).2.1, HC4.out w' (below_more K9.out hb), HC5.out w' (below_more K9.out hb)⟩
        have KZ : Hid (Below W9.heap.size W9 W9) := Below.refl _ _
        have CLA : Hid (∀ w', Below W9.heap.size W9 w' → Calls Tryd.prog 51 #[.agg #[.bool false, .slice sa n sc], .func (.func 50) #[] #[.pointer (some ⟨b4, 0, none⟩)]] w' fun e w'' => ∃ a c, e = .returned (.slice a n c) ∧ Pcs w'' (.slice a n c) A ∧ Below w'.heap.size w' w'') := fun w' hb => by
          refine (look_any w' (HS9.out w' hb) (HOP.out w' (below_more K9.out hb)) HVK.out (by rw [← HN.out]; have := S40.out; omega)).mono ?_
          rintro e w'' ⟨s, rfl, hs', hb'⟩
          rw [← HAE.out] at hs'
          obtain ⟨a, c, rfl, _⟩ := hs'.open_
          have := HAL.out
          rw [this] at hs' ⊢
          exact ⟨a, c, rfl, hs', hb'⟩
        have CLB : Hid (∀ w', Below W9.heap.size W9 w' → Calls Tryd.prog 52 #[.slice la n lc, .slice ua mb uc] w' fun e w'' => ∃ a c, e = .returned (.slice a n c) ∧ Pcs w'' (.slice a n c) A ∧ Below w'.heap.size w' w'') := fun w' hb => by
          refine (rlook_any w' (HAr.out w' (below_more K9.out hb)).1 (HBl.out w' (below_more K9.out hb)) HVK.out (by rw [← HN.out]; have := S40.out; omega)).mono ?_
          rintro e w'' ⟨s, rfl, hs', hb'⟩
          rw [← HO.out, ← HAE.out] at hs'
          obtain ⟨a, c, rfl, _⟩ := hs'.open_
          have := HAL.out
          rw [this] at hs' ⊢
          exact ⟨a, c, rfl, hs', hb'⟩
        obtain ⟨R, hR⟩ : ∃ R, R = runs V x z := ⟨_, rfl⟩
        have CRA : Hid (∀ w', Below W9.heap.size W9 w' → Calls Tryd.prog 48 #[.agg #[.bool false, .slice sa n sc], .func (.func 50) #[] #[.pointer (some ⟨b4, 0, none⟩)], .int .i64 x, .int .i64 z] w' (GiveRs R w')) := fun w' hb => by
          rw [hR, HVE.out]
          exact runs_any x z w' (HS9.out w' hb) (HOP.out w' (below_more K9.out hb)) HVK.out (by rw [← HN.out]; have := S40.out; omega) HXZ.out.1 HXZ.out.2
        have CRB : Hid (∀ w', Below W9.heap.size W9 w' → Calls Tryd.prog 54 #[.slice la n lc, .slice ua mb uc, .int .i64 x, .int .i64 z] w' (GiveRs R w')) := fun w' hb => by
          rw [hR, HVE.out, HO.out]
          exact rruns_any x z w' (HAr.out w' (below_more K9.out hb)).1 (HBl.out w' (below_more K9.out hb)) HVK.out HRG.out (by rw [← HN.out]; have := S40.out; omega) HXZ.out.1 HXZ.out.2
        have CSm : Hid (∀ w' s1 s2, Rns w' s1 R → Rns w' s2 R → Calls Tryd.prog 53 #[s1, s2] w' fun e w'' => e = .returned (.bool true) ∧ Below w'.heap.size w' w'') := fun w' s1 s2 h1 h2 => same_any w' h1 h2
        clear b9 h9 B9 R9 L9 hW9 CL6 hR
        go_upto_region 8 with fail
        rw [← hp9, ← HW9.out]
        clear hp9
        go_cut [12, 13] from 44 to 50 (fun x y wx => ∃ (pa1 : Option Addr) (pc1 : Nat) (pb1 : Option Addr) (pd1 : Nat), x = .slice pa1 n pc1 ∧ y = .slice pb1 n pd1 ∧ Hid (Pcs wx (.slice pa1 n pc1) A ∧ Pcs wx (.slice pb1 n pd1) A ∧ Below W9.heap.size W9 wx))
        case first =>
          go_region_held3 (fun w' => Below W9.heap.size W9 w' ∧ w'.cell? ⟨p9, 0, none⟩ = some (.bool false) ∧ w'.cell? ⟨p9, 1, none⟩ = some (.slice sa n sc) ∧ w'.cell? ⟨b4, 0, none⟩ = some (.slice ua mb uc) ∧ w'.cell? ⟨b5, 0, none⟩ = some (.int .i64 x) ∧ w'.cell? ⟨b5, 1, none⟩ = some (.int .i64 z))
            ((refine BX.out _ ?_; focus ((repeat first | with_reducible assumption | with_reducible exact KZ.out | with_reducible apply Below.drew | with_reducible apply below_drews | with_reducible apply below_al); done)))
            (first
              | (go_at_call 51; (with_reducible refine (CLA.out _ ?_).mono ?_); (focus ((repeat first | with_reducible assumption | with_reducible exact KZ.out | with_reducible apply Below.drew | with_reducible apply below_drews | with_reducible apply below_al); done)); rintro e wi ⟨ia, ic, rfl, hi, bi⟩; have ki := fun h => below_more (w := W9) h bi; replace ki := ki (by (repeat first | with_reducible assumption | with_reducible exact KZ.out | with_reducible apply Below.drew | with_reducible apply below_drews | with_reducible apply below_al)); have HI : Hid (∀ w', Below wi.heap.size wi w' → Pcs w' (.slice ia n ic) A) := (fun w' hb => hi.below hb (Nat.le_refl _)); have KI := Lib.hid (Below.refl wi.heap.size wi); clear bi hi)
              | (go_at_call 52; (with_reducible refine (CLB.out _ ?_).mono ?_); (focus ((repeat first | with_reducible assumption | with_reducible exact KZ.out | with_reducible apply Below.drew | with_reducible apply below_drews | with_reducible apply below_al); done)); rintro e wl ⟨pl, pd, rfl, hl, bl⟩; have kl := fun h => below_more (w := W9) h bl; replace kl := kl (by (repeat first | with_reducible assumption | with_reducible exact KZ.out | with_reducible apply Below.drew | with_reducible apply below_drews | with_reducible apply below_al)); have kI := fun h => below_more (w := wi) h bl; replace kI := kI (by (repeat first | with_reducible assumption | with_reducible exact KI.out | with_reducible apply Below.drew | with_reducible apply below_drews | with_reducible apply below_al)); have FN := Lib.hid (And.intro (HI.out _ kI) (And.intro hl kl)); clear bl hl))
          all_goals go_wp2_with fail
          all_goals go_meet
          all_goals exact ⟨_, _, _, _, rfl, rfl, FN⟩
        case rest =>
          obtain ⟨pa1, pc1, pb1, pd1, rfl, rfl, HF⟩ := hcut
          obtain ⟨hp1, hp2, k1⟩ := HF.out
          have K18 := Lib.hid k1
          obtain ⟨q1, q2, e1, l1, m1, E1⟩ := hp1.open_
          obtain ⟨q3, q4, e2, l2, m2, E2⟩ := hp2.open_
          injection e1 with e11 e12 e13
          injection e2 with e21 e22 e23
          rw [HAL.out, ← e13] at l1
          rw [HAL.out, ← e23] at l2
          rw [← e13] at m1
          rw [← e23] at m2
          rw [← e11] at E1
          rw [← e21] at E2
          have HE1 := Lib.hid E1
          have HE2 := Lib.hid E2
          have GP := guard_piece
          unfold maxLen at m1 m2
          clear HF hp1 hp2 k1 e11 e12 e13 e21 e22 e23 E1 E2 CLA CLB
          have jn : ((n : Int) != (n : Int)) = false := by simp
          go_wp2_with fail
          go_loopg [57] n (fun g i wr => ∃ k : Nat, k ≤ n ∧ n - k ≤ g ∧ i = .int .i64 k ∧ Below wc.heap.size wc wr)
          case atStart => exact ⟨0, Nat.zero_le _, by omega, rfl, Below.refl _ _⟩
          case round =>
            obtain ⟨k, hk, hg, rfl, hbel⟩ := hrel
            have HB := Lib.hid hbel
            by_cases hlt : k < n
            · have hkl : k < A.length := by rw [HAL.out]; exact hlt
              obtain ⟨b1, o1, rfl, lt1, _, c0, c1, c2, c3⟩ := HE1.out k hkl
              obtain ⟨b2, o2, rfl, lt2, _, d0, d1, d2, d3⟩ := HE2.out k hkl
              generalize A[k] = y at *
              obtain ⟨yi, yl, yn, yo⟩ := y
              simp only at c0 c1 c2 c3 d0 d1 d2 d3
              replace c0 := vcell hbel lt1 c0
              replace c1 := vcell hbel lt1 c1
              replace c2 := vcell hbel lt1 c2
              replace c3 := vcell hbel lt1 c3
              replace d0 := vcell hbel lt2 d0
              replace d1 := vcell hbel lt2 d1
              replace d2 := vcell hbel lt2 d2
              replace d3 := vcell hbel lt2 d3
              have NE := fun w => neq_piece yi yl yn yo w
              have i0 : (0 : Int) ≤ (k : Int) := by omega
              have i1 : (k : Int) < (n : Int) := by omega
              clear hbel HE1 HE2
              go_upto_region 14 with fail
              go_quiet (fail)
              go_wp2_with fail
              go_roundg (n - (k + 1))
              case measure => omega
              case rel => exact ⟨k + 1, by omega, Nat.le_refl _, by go_num, by first | exact HB.out | exact HB.out.drew | exact below_drews HB.out _⟩
            · obtain rfl : n = k := by omega
              have i1 : ¬ ((n : Int) < (n : Int)) := by omega
              have KY : Hid (Below W9.heap.size W9 wr) := below_more K18.out hbel
              obtain ⟨wo, hwo⟩ : ∃ wo, wo = wr := ⟨_, rfl⟩
              rw [← hwo] at KY ⊢
              clear hbel HE1 HE2 HB hwo l1 l2 m1 m2
              go_upto_region 17 with fail
              go_cut [6] from 70 to 85 (fun x wx => x = .bool true ∧ Hid (Below W9.heap.size W9 wx))
              case first =>
                go_region_held3 (fun w' => Below W9.heap.size W9 w' ∧ w'.cell? ⟨p9, 0, none⟩ = some (.bool false) ∧ w'.cell? ⟨p9, 1, none⟩ = some (.slice sa n sc) ∧ w'.cell? ⟨b4, 0, none⟩ = some (.slice ua mb uc) ∧ w'.cell? ⟨b5, 0, none⟩ = some (.int .i64 x) ∧ w'.cell? ⟨b5, 1, none⟩ = some (.int .i64 z))
                  ((refine BX.out _ ?_; focus ((repeat first | with_reducible assumption | with_reducible exact KY.out | with_reducible apply Below.drew | with_reducible apply below_drews | with_reducible apply below_al); done)))
                  (first
                    | (go_at_call 48; (with_reducible refine (CRA.out _ ?_).mono ?_); (focus ((repeat first | with_reducible assumption | with_reducible exact KY.out | with_reducible apply Below.drew | with_reducible apply below_drews | with_reducible apply below_al); done)); rintro e wi ⟨s1, rfl, hi, bi⟩; have ki := fun h => below_more (w := W9) h bi; replace ki := ki (by (repeat first | with_reducible assumption | with_reducible exact KY.out | with_reducible apply Below.drew | with_reducible apply below_drews | with_reducible apply below_al)); have HI : Hid (∀ w', Below wi.heap.size wi w' → Rns w' s1 R) := (fun w' hb => hi.below hb); have KI := Lib.hid (Below.refl wi.heap.size wi); clear bi hi)
                    | (go_at_call 54; (with_reducible refine (CRB.out _ ?_).mono ?_); (focus ((repeat first | with_reducible assumption | with_reducible exact KY.out | with_reducible apply Below.drew | with_reducible apply below_drews | with_reducible apply below_al); done)); rintro e wj ⟨s2, rfl, hj, bj⟩; have kj := fun h => below_more (w := W9) h bj; replace kj := kj (by (repeat first | with_reducible assumption | with_reducible exact KY.out | with_reducible apply Below.drew | with_reducible apply below_drews | with_reducible apply below_al)); have kI := fun h => below_more (w := wi) h bj; replace kI := kI (by (repeat first | with_reducible assumption | with_reducible exact KI.out | with_reducible apply Below.drew | with_reducible apply below_drews | with_reducible apply below_al)); have HJ : Hid (∀ w', Below wj.heap.size wj w' → Rns w' s2 R) := (fun w' hb => hj.below hb); have KJ := Lib.hid (Below.refl wj.heap.size wj); clear bj hj)
                    | (go_at_call 53; (with_reducible refine (CSm.out _ _ _ (HI.out _ ?_) (HJ.out _ ?_)).mono ?_); (focus ((repeat first | with_reducible assumption | with_reducible exact KI.out | with_reducible apply Below.drew | with_reducible apply below_drews | with_reducible apply below_al); done)); (focus ((repeat first | with_reducible assumption | with_reducible exact KJ.out | with_reducible apply Below.drew | with_reducible apply below_drews | with_reducible apply below_al); done)); rintro e wk ⟨rfl, bk⟩; have kk := fun h => below_more (w := W9) h bk; replace kk := kk (by (repeat first | with_reducible assumption | with_reducible exact KY.out | with_reducible apply Below.drew | with_reducible apply below_drews | with_reducible apply below_al)); clear bk))
                all_goals go_wp2_with fail
                all_goals go_meet
                all_goals (refine ⟨rfl, Lib.hid ?_⟩; (repeat first | with_reducible assumption | with_reducible exact KY.out | with_reducible apply Below.drew | with_reducible apply below_drews | with_reducible apply below_al))
              case rest =>
                obtain ⟨rfl, K30⟩ := hcut
                go_wp2_with fail
                go_ret
                exact ⟨by simp, below_more HB0.out (below_more K9.out K30.out)⟩
      · have j20 : decide ((20 : Int) < (mb : Int)) = true := decide_eq_true (by omega)
        have k20 : (20 : Int) < (mb : Int) := by omega
        go_wp2_with fail
        go_ret
        exact ⟨by simp, below_more HB0.out K7.out⟩

theorem acc_eq : Rows.laid_unicode_utf8_acceptRanges = Lib.acceptData := by kernel_rfl

set_option maxRecDepth 100000 in
theorem lifted (os : Os) (started : os.Started) (H : Type) (enc : TypeId × Value → H) :
    ReturnsInHanded {} Tryd.checked os 8 .any (fun w args => (Rows.viewRunsSpec.pre enc Tryd.prog Tryd.f8 [] false w args ∧ laidMetH Tryd.prog Rows.viewRunsRow.laid w) ∧ sizedMet enc Tryd.prog Tryd.f8 (OpenSpec.ofChange Rows.viewRunsSpec) false w args) (Rows.viewRunsSpec.post enc Tryd.prog Tryd.f8 false true false false) := by
  refine returnsInHanded_of_change_and (C := Tryd.checked) (X := fun w _ => laidMetH Tryd.prog Rows.viewRunsRow.laid w) (fun _ _ _ hh h => h.of_heap hh) own started (by kernel_rfl) Tryd.func8
    (ChangeSpec.witness_shaped (enc := enc) (C := Tryd.checked) (os := os) (X := fun w _ => laidMetH Tryd.prog Rows.viewRunsRow.laid w) false (World.laidAll Tryd.prog os Rows.viewRunsRow.laid) #[.slice none 0 0, .slice none 0 0, .agg #[.int .i64 0, .int .i64 0]] 8 (World.laidAll_os _ _ _)
      (World.shaped_of_ZipB (by kernel_rfl) (by kernel_rfl)) (by kernel_rfl) (by kernel_rfl) (by kernel_rfl)
      (by rw [MakeChecks.laidMetH_plain _ _ _ (by kernel_rfl)]; exact laidMet_laidAll _ (by kernel_rfl) (by kernel_rfl))) ?_
  intro W base args ds gs before hval0 hW _ hWt hL _
  have hval : ∀ (j : Nat) t v, Tryd.f8.params[j]? = some t → args[j]? = some v → Value.okWide Tryd.prog W .any base t v := hval0
  have hread : ∀ t ∈ Tryd.f8.params.toList, Tryd.prog.readableRec t = true ∧ t < Tryd.prog.types.size := by
    have : (Tryd.f8.params.toList.all fun t => Tryd.prog.readableRec t && decide (t < Tryd.prog.types.size)) = true := by kernel_rfl
    intro t ht
    have := List.all_eq_true.1 this t ht
    simpa using this
  rw [MakeChecks.laidMetH_plain _ _ _ (by kernel_rfl)] at hL
  have hT : Tabs W := utf8Tabs_of_readsT (U8Types.of196 Tryd.lays196) ⟨by kernel_rfl, by kernel_rfl, by kernel_rfl, by kernel_rfl, by kernel_rfl, by kernel_rfl, by kernel_rfl⟩ (Pinned.utf8First_eq ▸ Lib.laidMet.reads hL (.tail _ (.head _))) (acc_eq ▸ Lib.laidMet.reads hL (.head _))
  refine law_contract (P := Tryd.prog) (s := Rows.viewRunsSpec) (fn := Tryd.f8) (tb := 4) laidOut rfl hread rfl Tryd.underlying4 (fun W' => okWide_bool_mk Tryd.underlying4 _) ?_ hW ?_
  · intro ds hds
    rw [Tryd.params8] at hds
    match ds, hds with
    | [d0, d1, d2], _ => rfl
  intro pl hA
  rw [Tryd.params8] at hA hval hWt
  obtain ⟨v0, vs0, d0, ds0, p0, q0, hargs, rfl, hp0, h0, r0⟩ := trodAll_cons hA
  obtain ⟨v1, vs1, d1, ds1, p1, q1, rfl, rfl, hp1, h1, r1⟩ := trodAll_cons r0
  obtain ⟨v2, vs2, d2, ds2, p2, q2, rfl, rfl, hp2, h2, r2⟩ := trodAll_cons r1
  obtain ⟨rfl, rfl, hpe⟩ := trodAll_nil r2
  obtain rfl : args = #[v0, v1, v2] := by cases args; simp_all
  have hwt0 : (d0.weights Tryd.prog 47).all (· ≤ reachBytes) = true := List.all_eq_true.2 fun n hn => List.all_eq_true.1 hWt n (DataW.weights_mem_each (j := 0) (t := 47) (d := d0) rfl rfl n hn)
  obtain ⟨Gl, hGl⟩ := She.open_segs (hval 0 47 v0 rfl rfl) h0 hwt0
  obtain ⟨Bopen, hGopen⟩ := Vi.open_bools (hval 1 81 v1 rfl rfl) h1
  obtain ⟨x, z, rfl, hb2⟩ := Vi.open_int2 Tryd.underlying82 Tryd.underlying3 (by kernel_rfl) (by kernel_rfl) (hval 2 82 v2 rfl rfl) h2
  exact walk W hT hGl hGopen x z hb2.1 hb2.2 

theorem over : Rows.viewRunsRow.holds Tryd.pinned (OpenSpec.ofChange Rows.viewRunsSpec) :=
  OpenClaim.holds_of_wide 8 Tryd.f8 rfl rfl rfl rfl rfl rfl rfl ⟨rfl, rfl, rfl, rfl, rfl⟩ rfl rfl rfl rfl rfl (by kernel_rfl) Tryd.func8 (by kernel_rfl)
    (of_decide_eq_true (by kernel_rfl)) (by unfold Func.isWrapper; first | (rw [if_pos (by decide +kernel)]; kernel_rfl) | (rw [if_neg (by decide +kernel)]; exact ⟨rfl, rfl⟩))
    (fun os started H enc _ => lifted os started H enc)

/-- The statement. -/
theorem proved : Rows.ViewRunsCardSaid :=
  Claim7.holds_tied_plain_at .later [] [.data, .pinned] true (true, "0353ae2d0db4c87f21033a723c8aa8ede6146840b4536422d4bfe06a1c6aab85") false over (fun _ h => by cases h) (by kernel_rfl) (fun _ h => by cases h) viewRuns_row_tie rfl ⟨rfl, rfl⟩ (by kernel_rfl) rfl
    (fun f fn hf hfn => by
      obtain rfl : f = 8 := Option.some.inj ((show Tryd.prog.funcNamed Rows.viewRunsRow.func = some 8 by kernel_rfl).symm.trans hf) |>.symm
      obtain rfl : fn = Tryd.f8 := (Option.some.inj (Tryd.func8.symm.trans hfn)).symm
      exact ⟨by kernel_rfl, fun j t ht => by
        rw [Tryd.params8] at ht
        have hm : t ∈ [47, 81, 82] := by simpa using Array.mem_of_getElem? ht
        have hall : ([47, 81, 82].all fun u => !Tryd.prog.wantsStandIn u) = true := by kernel_rfl
        exact (show Tryd.prog.wantsStandIn t = false by simpa using List.all_eq_true.1 hall t hm)⟩)
    (by kernel_rfl)
#print axioms proved
end Go.Proofs.YtcpdoicbekcpeaaDoor.viewRuns
