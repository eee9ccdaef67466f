/- For all lists of plain segments and every number: SheetAfter answers true, and its arguments read behind the call as before. No condition. THE TIED CARD: unicode/utf8's two tables start as the program's text lays them. -/
import Derived.Test.YtcpdoicbekcpeaaDoorRows
import Derived.Test.YtcpdoicbekcpeaaDoorTie
import Derived.Test.YtcpdoicbekcpeaaDoorCards
import Derived.Test.YtcpdoicbekcpeaaDoorLift
import Derived.ProofKit
import Derived.Lib.LaidU8T
import Derived.PinnedBridge
import Derived.Lay
import Derived.LaidOnce
import Derived.SevenTiedAt
import Derived.Test.YtcpdoicbekcpeaaDoorHz
import Derived.SizedLaws
import Derived.Deep.RegionHeld3
import Derived.Deep.DeepCutAuto
import Derived.Deep.CutBlock
set_option linter.unusedVariables false
namespace Go.Proofs.YtcpdoicbekcpeaaDoor.sheetAfter
open Go.ChangeShapes Go.WideShapes Go.ChangeAt Go.RowKit Go.Lib Go.Shelf Go.Proofs.YtcpdoicbekcpeaaDoor.Lift Go.Proofs.YtcpdoicbekcpeaaDoor.Rk Go.Proofs.YtcpdoicbekcpeaaDoor.Rt Go.Proofs.YtcpdoicbekcpeaaDoor.Rig Go.Proofs.YtcpdoicbekcpeaaDoor.Seg Go.Proofs.YtcpdoicbekcpeaaDoor.She
open Go.ChangeMaps (open_string shut_string)

theorem own : ownKnob Tryd.prog.godebug = none := by kernel_rfl
theorem laidOut : laidOutB Tryd.prog = true := by kernel_rfl

set_option linter.unusedSimpArgs false
theorem load_two {u : Value} (f : Bool) (w : World) (h : Pls w u twoG) (hT : Con.Tabs w) : Calls Tryd.prog 22 #[.bool f, u] w fun e w' => ∃ a c, e = .returned (.tuple #[.agg #[.bool f, .slice a 2 c], .bool true]) ∧ Sgs w' (.slice a 2 c) twoG ∧ Below w.heap.size w w' := by
  refine (sload_any f w h two_sz (by decide) hT).mono ?_
  rintro e w' ⟨s, rfl, hs, hb⟩
  rw [two_ok, if_pos rfl] at hs
  obtain ⟨a, c, rfl⟩ := Rk.Rows.is_slice hs
  exact ⟨a, c, by rw [two_ok, Bool.and_true]; rfl, hs, hb⟩
theorem load_ok {u : Value} {G : List G5} (f : Bool) (w : World) (h : Pls w u G) (hsz : ∀ g ∈ G, g.sz) (hn : G.length ≤ 10000) (hok : okG G = true) (hT : Con.Tabs w) : Calls Tryd.prog 22 #[.bool f, u] w fun e w' => ∃ a c, e = .returned (.tuple #[.agg #[.bool f, .slice a G.length c], .bool true]) ∧ Sgs w' (.slice a G.length c) G ∧ Below w.heap.size w w' := by
  refine (sload_any f w h hsz hn hT).mono ?_
  rintro e w' ⟨s, rfl, hs, hb⟩
  rw [hok, if_pos rfl] at hs
  obtain ⟨a, c, rfl⟩ := Rk.Rows.is_slice hs
  exact ⟨a, c, by rw [hok, Bool.and_true], hs, hb⟩
def fiveG : List G5 := [⟨5, 0, [], [], []⟩]
theorem aft_two : aftB twoG fiveG 1 = true ∧ aftG twoG fiveG 1 = [⟨1, 0, [97], [], []⟩, ⟨5, 0, [], [], []⟩, ⟨2, 0, [98], [], []⟩] := by
  have h1 : placeN twoG 1 = some 0 := by decide +kernel
  have h2 : newM twoG fiveG := by
    intro j hj
    have : j = 0 := by simp [fiveG] at hj; omega
    subst this
    have a1 : placeN twoG 5 = none := by decide +kernel
    have a2 : Go.Proofs.YtcpdoicbekcpeaaDoor.She.placeI fiveG 5 = ((0 : Nat) : Int) := by decide +kernel
    exact ⟨a1, a2⟩
  obtain ⟨h3, h4⟩ := aft_yes h1 h2
  exact ⟨h3, by rw [h4]; rfl⟩
theorem new_five (w : World) : Calls Tryd.prog 41 #[.int .i64 5, .int .i64 0] w fun e w' => ∃ q a c d f, e = .returned (.agg #[.int .i64 5, .int .i64 0, .pointer q, .slice a 0 c, .slice d 0 f]) ∧ SgC w' [.int .i64 5, .int .i64 0, .pointer q, .slice a 0 c, .slice d 0 f] ⟨5, 0, [], [], []⟩ ∧ Below w.heap.size w w' := by
  refine (new_any 5 0 w).mono ?_
  rintro e w' ⟨v, rfl, hv, hb⟩
  obtain ⟨q, a, c, d, f, rfl, _, _, _⟩ := hv.open_
  exact ⟨q, a, c, d, f, rfl, ⟨_, _, _, rfl, hv⟩, hb⟩
theorem sgs_one {w : World} {b : Nat} {x : List Value} {g : G5} (hg : SgC w x g) (hb : w.heap[b]? = some (.cells x.toArray 33 (0, 0))) : Sgs w (.slice (some ⟨b, 0, none⟩) 1 1) [g] :=
  ⟨[(x, g)], rfl, Rk.row_one (e := 33) hb (SgC.five hg).1, fun y hy => by simp at hy; subst hy; exact hg⟩
theorem after_two {ta : Option Addr} {tc b : Nat} {q a3 a4 : Option Addr} {c3 c4 : Nat} (w : World) (h : Sh w (.agg #[.bool false, .slice ta 2 tc]) false twoG) (hg : SgC w [.int .i64 5, .int .i64 0, .pointer q, .slice a3 0 c3, .slice a4 0 c4] ⟨5, 0, [], [], []⟩) (hb : w.heap[b]? = some (.cells #[.int .i64 5, .int .i64 0, .pointer q, .slice a3 0 c3, .slice a4 0 c4] 33 (0, 0))) :
    Calls Tryd.prog 40 #[.agg #[.bool false, .slice ta 2 tc], .int .i64 1, .slice (some ⟨b, 0, none⟩) 1 1] w fun e w' => ∃ a c, e = .returned (.tuple #[.agg #[.bool false, .slice a 3 c], .bool true]) ∧ Sgs w' (.slice a 3 c) [⟨1, 0, [97], [], []⟩, ⟨5, 0, [], [], []⟩, ⟨2, 0, [98], [], []⟩] ∧ Below w.heap.size w w' := by
  refine (safter_any (M := fiveG) 1 w h (sgs_one hg hb) (by decide) (by decide) (by decide)).mono ?_
  rintro e w' ⟨s, rfl, hs, hb⟩
  obtain ⟨h1, h2⟩ := aft_two
  rw [h2] at hs
  obtain ⟨a, c, rfl⟩ := Rk.Rows.is_slice hs
  exact ⟨a, c, by rw [h1]; rfl, hs, hb⟩
theorem ids_three {w : World} {b : Nat} {e : TypeId} (hb : w.heap[b]? = some (.cells #[.int .i64 1, .int .i64 5, .int .i64 2] e (0, 0))) : iRow w (.slice (some ⟨b, 0, none⟩) 3 3) (([⟨1, 0, [97], [], []⟩, ⟨5, 0, [], [], []⟩, ⟨2, 0, [98], [], []⟩] : List G5).map G5.i) := row_three hb
theorem aft_ok {G M : List G5} (id : Int) (h : ∀ g ∈ G, g.ok) (h' : ∀ g ∈ M, g.ok) : (∀ g ∈ aftG G M id, g.ok) ∧ (aftG G M id).length ≤ G.length + M.length := by
  cases hp : placeN G id with
  | none => obtain ⟨_, e⟩ := aft_no (M := M) (.inl hp); rw [e]; exact ⟨h, by omega⟩
  | some k =>
    by_cases hn : newM G M
    · obtain ⟨_, e⟩ := aft_yes hp hn
      rw [e]
      refine ⟨fun g hg => ?_, by rw [put_len]; exact Nat.le_refl _⟩
      have := (put_perm G M k).mem_iff.1 hg
      rcases List.mem_append.1 this with q | q
      · exact h g q
      · exact h' g q
    · obtain ⟨_, e⟩ := aft_no (G := G) (id := id) (.inr hn); rw [e]; exact ⟨h, by omega⟩
abbrev ZC : Obj := .cells #[.bool false, .slice none 0 0] 50
/-- A box of a region's own: made, not yet filled. -/
structure ZB (W w : World) (NB : Nat) : Prop where
  z : w.heap[NB]? = some (.cells #[.bool false, .slice none 0 0] 50 (0, 0))
  s : W.heap.size ≤ NB
theorem ZB.below {W w w' : World} {NB : Nat} (h : ZB W w NB) (hb : Below w.heap.size w w') : ZB W w' NB := ⟨(hb.block NB (Array.getElem?_eq_some_iff.1 h.z).1).trans h.z, h.s⟩
theorem ZB.alloc {W w : World} {NB : Nat} (h : ZB W w NB) (o : Obj) : ZB W (w.alloc o) NB := h.below ((Below.refl _ _).alloc (Nat.le_refl _) o)
theorem ZB.drew {W w : World} {NB : Nat} (h : ZB W w NB) : ZB W w.drew NB := ⟨h.z, h.s⟩
theorem ZB.drews {W w : World} {NB : Nat} (h : ZB W w NB) (n : Nat) : ZB W (w.drewN n) NB := h.below (below_drews (Below.refl _ _) n)
theorem zb_base {W w : World} (hk : Below W.heap.size W w) : ZB W (w.alloc (.cells #[.bool false, .slice none 0 0] 50)) w.heap.size := ⟨heap_alloc_new _ _, hk.size⟩
theorem zb_at {W w : World} {NB : Nat} (hk : Below W.heap.size W w) (e : NB = w.heap.size) : ZB W (w.alloc (.cells #[.bool false, .slice none 0 0] 50)) NB := e ▸ zb_base hk
theorem cutP {p q r : Prop} (f : p → q) (hp : p) (k : q → r) : r := k (f hp)
def FilledA (W w : World) (NB : Nat) (a : Option Addr) (c : Nat) : Prop := w.heap[NB]? = some (.cells #[.bool false, .slice a 3 c] 50 (0, 0)) ∧ Sgs w (.slice a 3 c) [⟨1, 0, [97], [], []⟩, ⟨5, 0, [], [], []⟩, ⟨2, 0, [98], [], []⟩] ∧ Below W.heap.size W w
theorem fin_b {W w : World} {NB : Nat} {a : Option Addr} {c : Nat} (z : ZB W w NB) (hs : Sgs w (.slice a 3 c) [⟨1, 0, [97], [], []⟩, ⟨5, 0, [], [], []⟩, ⟨2, 0, [98], [], []⟩]) (k : Below W.heap.size W w) : Hid (FilledA W ((w.setCell ⟨NB, 0, none⟩ (.bool false)).setCell ⟨NB, 1, none⟩ (.slice a 3 c)) NB a c) :=
  ⟨two_put z.z, sgs_two hs z.z (by decide) (fun z h => by cases h) (fun z h => by cases h), below_put (below_put k z.s _) z.s _⟩
theorem fin_a {W w : World} {a : Option Addr} {c : Nat} (hs : Sgs w (.slice a 3 c) [⟨1, 0, [97], [], []⟩, ⟨5, 0, [], [], []⟩, ⟨2, 0, [98], [], []⟩]) (k : Below W.heap.size W w) : Hid (FilledA W (w.alloc (.cells #[.bool false, .slice a 3 c] 50)) w.heap.size a c) :=
  ⟨heap_alloc_new _ _, hs.below ((Below.refl _ _).alloc (Nat.le_refl _) _), k.alloc k.size _⟩
set_option maxRecDepth 100000 in
set_option maxHeartbeats 64000000 in
theorem walk (w : World) (hT : Tabs w) {v : Value} {G : List G5} (hA : Args w v G) (id : Int) (_ : -9223372036854775808 ≤ id) (_ : id ≤ 9223372036854775807) {v' : Value} {M : List G5} (hA' : Args w v' M) :
    Calls Tryd.prog 6 #[v, .int .i64 id, v'] w fun e w' => e = .returned (.bool true) ∧ Below w.heap.size w w' := by
  have HT : Hid (∀ w', Below w.heap.size w w' → Con.Tabs w') := fun w' hb => hT.below hb
  have HAr : Hid (∀ w', Below w.heap.size w w' → Args w' v G) := fun w' hb => hA.below hb
  have HAm : Hid (∀ w', Below w.heap.size w w' → Args w' v' M) := fun w' hb => hA'.below hb
  obtain ⟨la, lc, rfl⟩ := Rk.Rows.is_slice hA.1
  obtain ⟨ma, mc, rfl⟩ := Rk.Rows.is_slice hA'.1
  obtain ⟨_, hcapm, hmaxm⟩ := Rk.Rows.len hA'.1
  obtain ⟨n, hn⟩ : ∃ n, n = G.length := ⟨_, rfl⟩
  obtain ⟨m, hm⟩ : ∃ m, m = M.length := ⟨_, rfl⟩
  have HN := Lib.hid hn
  have HM := Lib.hid hm
  unfold maxLen at hmaxm
  rw [← hn] at HAr ⊢
  rw [← hm] at HAm hcapm ⊢
  clear hT hA hA' hn hm
  go_enter Tryd.func6, Tryd.ntmps6
  go_wp2_with fail
  refine (two_any _).mono ?_
  rintro e w1 ⟨u1, rfl, p1, b1⟩
  obtain ⟨ua, uc, rfl⟩ := Rk.Rows.is_slice p1
  have C1 := load_two false w1 p1 (HT.out _ b1)
  have K1 := Lib.hid b1
  clear b1 p1
  go_wp2_with fail
  refine C1.mono ?_
  rintro e w2 ⟨ta, tc, rfl, h2, b2⟩
  have K2 := Lib.hid (below_more K1.out b2)
  clear b2 C1
  obtain ⟨B3, R3, L3⟩ := box1 w2 #[.bool false, .slice ta 2 tc] 50
  have HSh : Hid (Sh (w2.alloc (.cells #[.bool false, .slice ta 2 tc] 50)) (.agg #[.bool false, .slice ta 2 tc]) false twoG) := ⟨_, rfl, h2.below B3⟩
  have K3 : Hid (Below w.heap.size w (w2.alloc (.cells #[.bool false, .slice ta 2 tc] 50))) := below_more K2.out B3
  obtain ⟨b7, hb7⟩ : ∃ b7, b7 = w2.heap.size := ⟨_, rfl⟩
  have HB7 : Hid (w.heap.size ≤ b7) := by show _ ≤ _; rw [hb7]; exact K2.out.size
  have HR7 : Hid (∀ w', Below (b7 + 1) (w2.alloc (.cells #[.bool false, .slice ta 2 tc] 50)) w' → w'.heap[b7]? = some (.cells #[.bool false, .slice ta 2 tc] 50 (0, 0))) := fun w' hb => by rw [hb7]; exact (hb.block w2.heap.size (by omega)).trans R3
  have HL7 : Hid ((w2.alloc (.cells #[.bool false, .slice ta 2 tc] 50)).heap.size = b7 + 1) := by show _ = _; rw [hb7]; exact L3
  obtain ⟨z0, z1, _, _⟩ := two_cells R3
  rw [← hb7] at z0 z1
  obtain ⟨W3, hW3⟩ : ∃ W3, W3 = w2.alloc (.cells #[.bool false, .slice ta 2 tc] 50) := ⟨_, rfl⟩
  rw [← hW3] at HSh K3 HR7 HL7 z0 z1
  have HW3 := Lib.hid hW3
  have HSk : Hid (∀ w', Below W3.heap.size W3 w' → Sh w' (.agg #[.bool false, .slice ta 2 tc]) false twoG) := fun w' hb => HSh.out.below hb
  have KZ : Hid (Below W3.heap.size W3 W3) := Below.refl _ _
  have BX : Hid (∀ w', Below W3.heap.size W3 w' → Below W3.heap.size W3 w' ∧ w'.cell? ⟨b7, 0, none⟩ = some (.bool false) ∧ w'.cell? ⟨b7, 1, none⟩ = some (.slice ta 2 tc)) := fun w' hb => by
    have r := HR7.out w' (by rw [← HL7.out]; exact hb)
    exact ⟨hb, (two_cells r).1, (two_cells r).2.1⟩
  clear hW3 B3 R3 L3 h2
  go_upto_region 2 with fail
  rw [← hb7, ← HW3.out]
  clear hb7
  go_cut [9, 10] from 25 to 31 (fun x y wx => ∃ (NB : Nat) (aa : Option Addr) (ac : Nat), x = .pointer (some ⟨NB, 0, none⟩) ∧ y = .bool true ∧ Hid (FilledA W3 wx NB aa ac))
  case first =>
    go_region_held3 (fun w' => Below W3.heap.size W3 w' ∧ w'.cell? ⟨b7, 0, none⟩ = some (.bool false) ∧ w'.cell? ⟨b7, 1, none⟩ = some (.slice ta 2 tc))
      ((refine BX.out _ ?_; focus ((repeat first | with_reducible assumption | with_reducible exact KZ.out | with_reducible apply Below.drew | with_reducible apply below_drews | with_reducible apply below_al | (with_reducible refine below_put ?_ (by first | assumption | omega) _)); done)))
      (first
        | (go_at_call 41; (with_reducible refine (new_five _).mono ?_); rintro e wn ⟨qn, an, cn, dn, fn, rfl, hn, bn⟩; have kn := fun h => below_more (w := W3) h bn; replace kn := kn (by (repeat first | with_reducible assumption | with_reducible exact KZ.out | with_reducible apply Below.drew | with_reducible apply below_drews | with_reducible apply below_al)); have HNw := Lib.hid hn; have KNw := Lib.hid (Below.refl wn.heap.size wn); (first | (refine cutP (fun h => ZB.below (W := W3) (NB := W3.heap.size) h bn) ?_ ?_; (focus ((repeat first | with_reducible exact zN | with_reducible apply ZB.drew | with_reducible apply ZB.drews | (with_reducible refine zb_at ?_ ?_; (focus ((repeat first | with_reducible assumption | with_reducible exact KZ.out | with_reducible apply Below.drew | with_reducible apply below_drews | with_reducible apply below_al); done)); (focus (simp [drew_sz]; done))) | with_reducible apply ZB.alloc); done)); intro zN) | skip); clear hn bn)
        | (go_at_call 40; (with_reducible refine (after_two _ (HSk.out _ ?_) (SgC.below HNw.out ?_) ?_).mono ?_); (focus ((repeat first | with_reducible assumption | with_reducible exact KZ.out | with_reducible apply Below.drew | with_reducible apply below_drews | with_reducible apply below_al); done)); (focus ((repeat first | with_reducible assumption | with_reducible exact KNw.out | with_reducible apply Below.drew | with_reducible apply below_drews | with_reducible apply below_al); done)); (focus (first | (refine al_newx _ ?_; simp [drew_sz]; done) | (refine (Below.heap_alloc _ _ _ ?_).trans (al_newx _ ?_); (focus (simp [drew_sz]; done)); (focus (simp [drew_sz]; done))))); rintro e wa ⟨aa, ac, rfl, ha, ba⟩; have ka := fun h => below_more (w := W3) h ba; replace ka := ka (by (repeat first | with_reducible assumption | with_reducible exact KZ.out | with_reducible apply Below.drew | with_reducible apply below_drews | with_reducible apply below_al)); (first | (refine cutP (fun h => ZB.below (W := W3) (NB := W3.heap.size) h ba) ?_ ?_; (focus ((repeat first | with_reducible exact zN | with_reducible apply ZB.drew | with_reducible apply ZB.drews | (with_reducible refine zb_at ?_ ?_; (focus ((repeat first | with_reducible assumption | with_reducible exact KZ.out | with_reducible apply Below.drew | with_reducible apply below_drews | with_reducible apply below_al); done)); (focus (simp [drew_sz]; done))) | with_reducible apply ZB.alloc); done)); intro zN2; have FN := fin_b zN2 ha ka; obtain ⟨z0, z1, f0, f1⟩ := two_cells zN2.z; have s6 := zN2.s) | (refine cutP (fun h => ZB.below (W := W3) (NB := wn.heap.size) h ba) ?_ ?_; (focus ((repeat first | with_reducible exact zN | with_reducible apply ZB.drew | with_reducible apply ZB.drews | (with_reducible refine zb_at ?_ ?_; (focus ((repeat first | with_reducible assumption | with_reducible exact KZ.out | with_reducible apply Below.drew | with_reducible apply below_drews | with_reducible apply below_al); done)); (focus (simp [drew_sz]; done))) | with_reducible apply ZB.alloc); done)); intro zN2; have FN := fin_b zN2 ha ka; obtain ⟨z0, z1, f0, f1⟩ := two_cells zN2.z; have s6 := zN2.s) | (refine cutP (fun h => ZB.below (W := W3) (NB := (wn.heap.size + 1)) h ba) ?_ ?_; (focus ((repeat first | with_reducible exact zN | with_reducible apply ZB.drew | with_reducible apply ZB.drews | (with_reducible refine zb_at ?_ ?_; (focus ((repeat first | with_reducible assumption | with_reducible exact KZ.out | with_reducible apply Below.drew | with_reducible apply below_drews | with_reducible apply below_al); done)); (focus (simp [drew_sz]; done))) | with_reducible apply ZB.alloc); done)); intro zN2; have FN := fin_b zN2 ha ka; obtain ⟨z0, z1, f0, f1⟩ := two_cells zN2.z; have s6 := zN2.s) | (have FN := fin_a ha ka)); clear ha ba))
    all_goals go_wp2_with fail
    all_goals go_meet
    all_goals exact ⟨_, _, _, rfl, rfl, FN⟩
  case rest =>
    obtain ⟨NB, aa, ac, rfl, rfl, HF⟩ := hcut
    obtain ⟨R9, hS9, hK9⟩ := HF.out
    have K9 := Lib.hid (below_more K3.out hK9)
    have M9 : Hid (Below (b7 + 1) W3 wc) := by show Below _ _ _; rw [← HL7.out]; exact hK9
    have HSh9 : Hid (Sh wc (.agg #[.bool false, .slice aa 3 ac]) false [⟨1, 0, [97], [], []⟩, ⟨5, 0, [], [], []⟩, ⟨2, 0, [98], [], []⟩]) := ⟨_, rfl, hS9⟩
    obtain ⟨y0, y1, _, _⟩ := two_cells R9
    have CI := Lib.hid (ids_any wc HSh9.out (by decide))
    clear R9 hS9 hK9 HF
    go_wp2_with fail
    refine (CI.out).mono ?_
    rintro e w5 ⟨i5, rfl, h5, b5⟩
    obtain ⟨ia, ic, rfl, _⟩ := h5.open_
    have K5 : Hid (Below w.heap.size w w5) := below_more K9.out b5
    have M5 : Hid (Below (b7 + 1) W3 w5) := M9.out.trans (b5.mono (by have := M9.out.size; rw [HL7.out] at this; exact this))
    have H5 : Hid (iRow (w5.alloc (.cells #[.int .i64 1, .int .i64 5, .int .i64 2] 3)) (.slice ia 3 ic) (([⟨1, 0, [97], [], []⟩, ⟨5, 0, [], [], []⟩, ⟨2, 0, [98], [], []⟩] : List G5).map G5.i)) := h5.below ((Below.refl _ _).alloc (Nat.le_refl _) _)
    have K6 : Hid (Below w.heap.size w (w5.alloc (.cells #[.int .i64 1, .int .i64 5, .int .i64 2] 3))) := K5.out.alloc K5.out.size _
    have M6 : Hid (Below (b7 + 1) W3 (w5.alloc (.cells #[.int .i64 1, .int .i64 5, .int .i64 2] 3))) := M5.out.alloc (by have := M5.out.size; rw [HL7.out] at this; exact this) _
    have CI2 := Lib.hid (hints_any _ H5.out (ids_three (heap_alloc_new w5 _)))
    clear b5 h5 y0 y1
    go_wp2_with fail
    refine (CI2.out).mono ?_
    rintro e w7 ⟨rfl, b7'⟩
    have K7 : Hid (Below w.heap.size w w7) := below_more K6.out b7'
    have M7 : Hid (Below (b7 + 1) W3 w7) := M6.out.trans (b7'.mono (by have := M6.out.size; rw [HL7.out] at this; exact this))
    clear b7'
    go_wp2_with fail
    refine (hsmall_any _ (HAr.out _ K7.out)).mono ?_
    rintro e w8 ⟨rfl, b8⟩
    have K8 : Hid (Below w.heap.size w w8) := below_more K7.out b8
    have M8 : Hid (Below (b7 + 1) W3 w8) := M7.out.trans (b8.mono (by have := M7.out.size; rw [HL7.out] at this; exact this))
    clear b8
    cases hsm : smallG G with
    | false =>
      clear hsm
      go_wp2_with fail
      go_ret
      exact ⟨by simp, K8.out⟩
    | true =>
      obtain ⟨sz, s40, _⟩ := small_sz hsm
      have SZ := Lib.hid sz
      have S40 := Lib.hid s40
      have CRt := Lib.hid (hright_any w8 (HAr.out _ K8.out).1 sz (by omega))
      clear sz s40 hsm
      cases hok : okG G with
      | false =>
        rw [hok] at CRt
        go_wp2_with fail
        refine (CRt.out).mono ?_
        rintro e w9 ⟨rfl, b9⟩
        have KA : Hid (Below w.heap.size w w9) := below_more K8.out b9
        clear b9 hok
        go_wp2_with fail
        go_ret
        exact ⟨by simp, KA.out⟩
      | true =>
        rw [hok] at CRt
        have HOK : Hid (∀ g ∈ G, g.ok) := fun g hg => by
          obtain ⟨j, hj, rfl⟩ := List.getElem_of_mem hg
          exact r5_ok (okG_iff.1 hok j hj).1 (SZ.out _ hg)
        have OKG := Lib.hid hok
        have HND : Hid ((G.map G5.i).Nodup) := nodup_place.1 fun k hk => (okG_iff.1 hok k hk).2
        go_wp2_with fail
        refine (CRt.out).mono ?_
        rintro e w9 ⟨rfl, b9⟩
        have KA : Hid (Below w.heap.size w w9) := below_more K8.out b9
        have MA : Hid (Below (b7 + 1) W3 w9) := M8.out.trans (b9.mono (by have := M8.out.size; rw [HL7.out] at this; exact this))
        clear b9 CRt hok
        go_wp2_with fail
        refine (hsmall_any _ (HAm.out _ KA.out)).mono ?_
        rintro e w10 ⟨rfl, b10⟩
        have KB : Hid (Below w.heap.size w w10) := below_more KA.out b10
        have MB : Hid (Below (b7 + 1) W3 w10) := MA.out.trans (b10.mono (by have := MA.out.size; rw [HL7.out] at this; exact this))
        clear b10
        cases hsq : smallG M with
        | false =>
          clear hsq
          go_wp2_with fail
          go_ret
          exact ⟨by simp, KB.out⟩
        | true =>
          obtain ⟨szm, s40m, _⟩ := small_sz hsq
          have SZm := Lib.hid szm
          have S40m := Lib.hid s40m
          have hm40 : m ≤ 40 := by rw [HM.out]; exact s40m
          have hm : m ≤ 10000 := by omega
          have HRm : Hid (∀ w', Below w.heap.size w w' → Pls w' (.slice ma m mc) M) := fun w' hb => (HAm.out w' hb).1
          have CL : Hid (Calls Tryd.prog 22 #[.bool true, .slice la n lc] w10 fun e w' => ∃ a c, e = .returned (.tuple #[.agg #[.bool true, .slice a n c], .bool true]) ∧ Sgs w' (.slice a n c) G ∧ Below w10.heap.size w10 w') := by
            have := load_ok true w10 (HAr.out _ KB.out).1 SZ.out (by have := S40.out; omega) OKG.out (HT.out _ KB.out)
            rw [← HN.out] at this
            exact this
          clear szm s40m hsq
          go_wp2_with fail
          refine (CL.out).mono ?_
          rintro e w13 ⟨sa, sc, rfl, h13, b13⟩
          have K13 : Hid (Below w.heap.size w w13) := below_more KB.out b13
          have M13 : Hid (Below (b7 + 1) W3 w13) := MB.out.trans (b13.mono (by have := MB.out.size; rw [HL7.out] at this; exact this))
          have r7 := HR7.out _ M13.out
          obtain ⟨z0, z1, f0, f1⟩ := two_cells r7
          obtain ⟨W14, hW14⟩ : ∃ W14, W14 = (w13.setCell ⟨b7, 0, none⟩ (.bool true)).setCell ⟨b7, 1, none⟩ (.slice sa n sc) := ⟨_, rfl⟩
          have r14 : W14.heap[b7]? = some (.cells #[.bool true, .slice sa n sc] 50 (0, 0)) := by rw [hW14]; exact two_put r7
          have K14 : Hid (Below w.heap.size w W14) := by show Below _ _ _; rw [hW14]; exact below_put (below_put K13.out HB7.out _) HB7.out _
          have HW14 := Lib.hid hW14
          have R14 := Lib.hid r14
          have HS14 : Hid (Sgs W14 (.slice sa n sc) G) := by show Sgs _ _ _; rw [hW14]; exact sgs_two h13 r7 (by decide) (fun z h => by cases h) (fun z h => by cases h)
          have HShG : Hid (∀ w', Below W14.heap.size W14 w' → Sh w' (.agg #[.bool true, .slice sa n sc]) true G) := fun w' hb => ⟨_, rfl, HS14.out.below hb⟩
          have T14 : Hid (∀ w', Below W14.heap.size W14 w' → w'.cell? ⟨b7, 0, none⟩ = some (.bool true) ∧ w'.cell? ⟨b7, 1, none⟩ = some (.slice sa n sc)) := fun w' hb => by
            have := (hb.block b7 (Array.getElem?_eq_some_iff.1 R14.out).1).trans R14.out
            exact ⟨(two_cells this).1, (two_cells this).2.1⟩
          have KW : Hid (∀ w', Below W14.heap.size W14 w' → Below w.heap.size w w') := fun w' hb => below_more K14.out hb
          clear hW14 r14 r7 h13 b13 CL
          go_upto_region 8 with fail
          rw [← HW14.out]
          clear z0 z1 f0 f1
          go_wp2_with fail
          go_loopg [11, 61] m (fun g t i wr => ∃ k : Nat, k ≤ m ∧ m - k ≤ g ∧ i = .int .i64 k ∧ Hid (OSg W14.heap.size wr t (M.take k)) ∧ Hid (∀ j (hj : j < M.length), j < k → r5 M[j] = true) ∧ Below W14.heap.size W14 wr)
          case atStart => exact ⟨0, Nat.zero_le _, by omega, rfl, OSg.nil_ _ _, fun j hj h => by omega, Below.refl _ _⟩
          case round =>
            obtain ⟨k, hk, hg, rfl, HO, HA, hbel⟩ := hrel
            have HB := Lib.hid hbel
            by_cases hlt : k < m
            · have hkl : k < M.length := by rw [← HM.out]; exact hlt
              obtain ⟨b, off, a1, e1, a2, e2, rfl, hb, hv, c0, c1, c2, c3, c4⟩ := (HRm.out _ (below_more K14.out HB.out)).get hkl
              have EQ : Hid (M.take (k + 1) = M.take k ++ [M[k]]) := List.take_succ_eq_append_getElem hkl
              have RL : Hid ((M.take k).length = k) := by show _ = _; rw [List.length_take]; omega
              have HZ : Hid (r5 M[k] = true → ∀ j (hj : j < M.length), j < k + 1 → r5 M[j] = true) := fun e j hj hjk => by
                by_cases q : j = k
                · subst q; exact e
                · exact HA.out j hj (by omega)
              have hz := SZm.out _ (List.getElem_mem hkl)
              have CY := fun w' hb hr => load5_yes w' (hv.below (B := wr.heap.size) hb (Nat.le_refl _)) hz hr (HT.out w' (below_more (below_more K14.out HB.out) hb))
              have CN := fun w' hb hr => load5_no w' (hv.below (B := wr.heap.size) hb (Nat.le_refl _)) hz hr (HT.out w' (below_more (below_more K14.out HB.out) hb))
              have HPS : Hid (r5 M[k] = true → ∀ s ∈ M[k].T, 0 < s.m) := fun e => r5_pos e
              obtain ⟨rk, hrk⟩ : ∃ rk, rk = r5 M[k] := ⟨_, rfl⟩
              rw [← hrk] at HZ CY CN HPS
              generalize M[k] = y at *
              obtain ⟨yi, yl, yL, yS, yT⟩ := y
              simp only at c0 c1 c2 c3 c4 EQ CY CN HPS
              replace CY := Lib.hid CY
              replace CN := Lib.hid CN
              obtain ⟨B1, R1, L1⟩ := box1 wr #[.int .i64 yi, .int .i64 yl, .string (Let.mk yL), .slice a1 yS.length e1, .slice a2 yT.length e2] 25
              generalize yS.length = j1n at *
              generalize yT.length = j2n at *
              obtain ⟨W1, hW1⟩ : ∃ W1, W1 = wr.alloc (.cells #[.int .i64 yi, .int .i64 yl, .string (Let.mk yL), .slice a1 j1n e1, .slice a2 j2n e2] 25) := ⟨_, rfl⟩
              rw [← hW1] at B1 R1 L1
              have HW1 := Lib.hid hW1
              have HB1 := Lib.hid B1
              have HC1 := Lib.hid (below_more HB.out B1)
              have HO1 := Lib.hid (HO.out.below B1)
              obtain ⟨d0, d1', d2', d3', d4'⟩ := five_cells R1
              have i1 : (k : Int) < (m : Int) := by omega
              obtain ⟨ao, co, rfl⟩ := HO.out.is_slice
              rw [RL.out] at HO1 ⊢
              clear hbel hv hW1 B1 R1 L1 HO HA hz hrk
              cases rk with
              | false =>
                go_upto_region 12 with fail
                rw [← HW1.out]
                clear c0 c1 c2 c3 c4
                go_wp2_with fail
                refine (CN.out _ HB1.out (by first | rfl | trivial)).mono ?_
                rintro e w1 ⟨u, rfl, hu, b1⟩
                obtain ⟨q, a3, c3, a4, c4, rfl, hu1, hu3, hu4⟩ := hu.open_
                have FIN : Hid (Below w.heap.size w (w1.alloc (.cells #[.int .i64 0, .int .i64 0, .pointer q, .slice a3 0 c3, .slice a4 0 c4] 33))) := below_more K14.out ((below_more HC1.out b1).alloc (Nat.le_trans HC1.out.size b1.size) _)
                clear b1 hu hu1 hu3 hu4 d0 d1' d2' d3' d4' HZ HPS
                go_wp2_with fail
                go_ret
                exact ⟨by simp, FIN.out⟩
              | true =>
                have HZ2 := Lib.hid (HZ.out rfl)
                have HP := Lib.hid (HPS.out rfl)
                go_upto_region 12 with fail
                rw [← HW1.out]
                clear c0 c1 c2 c3 c4
                go_wp2_with fail
                refine (CY.out _ HB1.out (by first | rfl | trivial)).mono ?_
                rintro e w1 ⟨u, rfl, hu, b1⟩
                obtain ⟨q, a3, c3, a4, c4, rfl, hu1, hu3, hu4⟩ := hu.open_
                obtain ⟨B2, R2, L2⟩ := box1 w1 #[.int .i64 yi, .int .i64 yl, .pointer q, .slice a3 yS.length c3, .slice a4 yT.length c4] 33
                have hu2 := hu.below B2 (Nat.le_refl _)
                have HB2 := Lib.hid (below_more HC1.out (below_more b1 B2))
                have HO2 := Lib.hid (HO1.out.below (below_more b1 B2))
                have HS1 : Hid (yS.length = yS.length) := rfl
                have HU0 : Hid (SgP (w1.alloc (.cells #[.int .i64 yi, .int .i64 yl, .pointer q, .slice a3 yS.length c3, .slice a4 yT.length c4] 33)) [.int .i64 yi, .int .i64 yl, .pointer q, .slice a3 yS.length c3, .slice a4 yT.length c4] ⟨yi, yl, yL, yS, yT⟩) := ⟨⟨_, _, _, rfl, hu2⟩, HP.out⟩
                generalize yS.length = k1m at *
                generalize yT.length = k2m at *
                obtain ⟨W2, hW2⟩ : ∃ W2, W2 = w1.alloc (.cells #[.int .i64 yi, .int .i64 yl, .pointer q, .slice a3 k1m c3, .slice a4 k2m c4] 33) := ⟨_, rfl⟩
                rw [← hW2] at HB2 HO2 HU0 R2 B2 L2
                have HW2 := Lib.hid hW2
                obtain ⟨g0, g1, g2, g3, g4⟩ := five_cells R2
                have HU : Hid (SgP (W2.alloc (.cells #[.int .i64 yi, .int .i64 yl, .pointer q, .slice a3 k1m c3, .slice a4 k2m c4] 33)) [.int .i64 yi, .int .i64 yl, .pointer q, .slice a3 k1m c3, .slice a4 k2m c4] ⟨yi, yl, yL, yS, yT⟩) := HU0.out.below ((Below.refl _ _).alloc (Nat.le_refl _) _)
                obtain ⟨xs, hxl, A1, K0⟩ := (HO2.out.below ((Below.refl _ _).alloc (Nat.le_refl _) (.cells #[.int .i64 yi, .int .i64 yl, .pointer q, .slice a3 k1m c3, .slice a4 k2m c4] 33))).row
                replace A1 := Lib.hid A1
                have K := Lib.hid K0
                have A2 : Hid (Rk.RowK 5 (W2.alloc (.cells #[.int .i64 yi, .int .i64 yl, .pointer q, .slice a3 k1m c3, .slice a4 k2m c4] 33)) (.slice (some ⟨W2.heap.size, 0, none⟩) 1 1) [[.int .i64 yi, .int .i64 yl, .pointer q, .slice a3 k1m c3, .slice a4 k2m c4]]) := Rk.row_one (e := 33) (heap_alloc_new _ _) rfl
                have HBY : Hid (Below W14.heap.size W14 (W2.alloc (.cells #[.int .i64 yi, .int .i64 yl, .pointer q, .slice a3 k1m c3, .slice a4 k2m c4] 33))) := HB2.out.alloc HB2.out.size _
                have A4 : Hid (W14.heap.size ≤ (W2.alloc (.cells #[.int .i64 yi, .int .i64 yl, .pointer q, .slice a3 k1m c3, .slice a4 k2m c4] 33)).heap.size) := HBY.out.size
                have hxk : xs.length = k := by rw [hxl, RL.out]
                have A3 : Hid (xs.length + 1 ≤ 100000) := by show _ ≤ _; rw [hxk]; omega
                have HYO : Hid (∀ y ∈ [[Value.int .i64 yi, .int .i64 yl, .pointer q, .slice a3 k1m c3, .slice a4 k2m c4]], Five y) := fun y hy => by
                  simp only [List.mem_singleton] at hy
                  subst hy
                  exact SgC.five HU.out.1
                clear b1 hu hu1 hu2 hu3 hu4 K0 hxl d0 d1' d2' d3' d4' R2 B2 L2 hW2 HZ HPS
                go_upto_region 15 with fail
                rw [← HW2.out]
                go_wp2_with (at_builtin; refine wpList_append_five rfl _ _ 48 33 72 _ Tryd.underlying48 infoSeg rfl rfl rfl znSeg (by decide) rfl W14.heap.size _ _ xs _ rfl rfl A1.out A2.out HYO.out A3.out A4.out ?_)
                intro v6 w6 h5 g5 k5
                have K6 : Hid (OSg W14.heap.size w6 v6 (M.take (k + 1))) := by show OSg _ _ _ _; rw [EQ.out]; exact K.out _ _ _ _ h5 g5 (by first | exact k5 | (rw [hxk]; exact k5)) HU.out
                obtain ⟨a6, c6, rfl⟩ := K6.out.is_slice
                have HB6 := Lib.hid (A1.out.own.belowOf HBY.out (Nat.le_refl _) A4.out g5)
                clear h5 g5 k5 A1 A2 A3 A4 HBY EQ K HU g0 g1 g2 g3 g4
                go_wp2_with fail
                go_roundg (m - (k + 1))
                case measure => omega
                case rel => exact ⟨k + 1, by omega, Nat.le_refl _, by go_num, K6.out, HZ2, HB6.out⟩
            · obtain rfl : k = m := by omega
              have i1 : ¬ ((k : Int) < (k : Int)) := by omega
              have et : M.take k = M := by rw [HM.out, List.take_length]
              rw [et] at HO
              obtain ⟨ao, co, rfl⟩ := HO.out.is_slice
              have HMk : Hid (∀ g ∈ M, g.ok) := fun g hg => by
                obtain ⟨j, hj, rfl⟩ := List.getElem_of_mem hg
                exact r5_ok (HA.out j hj (by rw [HM.out]; exact hj)) (SZm.out _ hg)
              have HAO := Lib.hid (aft_ok id HOK.out HMk.out)
              have CAf := Lib.hid (safter_any (f := true) id wr (HShG.out _ HB.out) HO.out.sgs HND.out (by have := S40.out; omega) (by rw [← HM.out]; omega))
              rw [← HM.out] at CAf ⊢
              obtain ⟨t0, t1⟩ := T14.out _ HB.out
              clear hbel HO HA HRm et
              go_wp2_with fail
              refine (CAf.out).mono ?_
              rintro e w15 ⟨v15, rfl, h15, b15⟩
              obtain ⟨ga, gc, rfl⟩ := Rk.Rows.is_slice h15
              obtain ⟨bb, hbb⟩ : ∃ bb, bb = aftB G M id := ⟨_, rfl⟩
              have CRa := fun w' (hb : Below w.heap.size w w') => rafter_any id w' (HAr.out _ hb).1 (HAm.out _ hb).1 (by have := S40.out; omega) (by rw [← HM.out]; omega)
              obtain ⟨F, hF⟩ : ∃ F, F = aftG G M id := ⟨_, rfl⟩
              have CRb : Hid (∀ w', Below w.heap.size w w' → Calls Tryd.prog 42 #[.slice la n lc, .int .i64 id, .slice ma k mc] w' fun e w'' => ∃ s, e = .returned (.tuple #[s, .bool bb]) ∧ Pls w'' s F ∧ Below w'.heap.size w' w'') := fun w' hb => by rw [hbb, hF]; exact CRa w' hb
              rw [← hF] at h15 HAO ⊢
              obtain ⟨mm, hmm⟩ : ∃ mm, mm = F.length := ⟨_, rfl⟩
              rw [← hmm] at h15 ⊢
              rw [← hbb]
              obtain ⟨B16, R16, L16⟩ := box1 w15 #[.bool true, .slice ga mm gc] 50
              have HF16 : Hid (∀ w', Below (w15.alloc (.cells #[.bool true, .slice ga mm gc] 50)).heap.size (w15.alloc (.cells #[.bool true, .slice ga mm gc] 50)) w' → Sh w' (.agg #[.bool true, .slice ga mm gc]) true F) := fun w' hb => ⟨_, rfl, (h15.below B16).below hb⟩
              have T16 : Hid (∀ w', Below (w15.alloc (.cells #[.bool true, .slice ga mm gc] 50)).heap.size (w15.alloc (.cells #[.bool true, .slice ga mm gc] 50)) w' → w'.cell? ⟨w15.heap.size, 0, none⟩ = some (.bool true) ∧ w'.cell? ⟨w15.heap.size, 1, none⟩ = some (.slice ga mm gc)) := fun w' hb => by
                have := (hb.block w15.heap.size (by rw [L16]; omega)).trans R16
                exact ⟨(two_cells this).1, (two_cells this).2.1⟩
              obtain ⟨W16, hW16⟩ : ∃ W16, W16 = w15.alloc (.cells #[.bool true, .slice ga mm gc] 50) := ⟨_, rfl⟩
              have HK16 := Lib.hid (below_more HB.out (below_more b15 B16))
              rw [← hW16] at HF16 T16 HK16
              have HW16 := Lib.hid hW16
              have K16 : Hid (∀ w', Below W16.heap.size W16 w' → Below W14.heap.size W14 w') := fun w' hb => below_more HK16.out hb
              have HFL : Hid (F.length ≤ 10000) := by show _ ≤ _; have := HAO.out.2; have := S40.out; have := S40m.out; omega
              clear hW16 B16 R16 L16 h15 b15 CAf CRa hbb hF hmm t0 t1
              go_upto_region 18 with fail
              rw [← HW16.out]
              go_wp2_with fail
              refine (CRb.out _ (KW.out _ HK16.out)).mono ?_
              rintro e w17 ⟨v17, rfl, h17, b17⟩
              obtain ⟨ra, rc, rfl⟩ := Rk.Rows.is_slice h17
              obtain ⟨m7, hm7⟩ : ∃ m7, m7 = F.length := ⟨_, rfl⟩
              rw [← hm7] at h17 ⊢
              have H17 : Hid (∀ w', Below w17.heap.size w17 w' → Pls w' (.slice ra m7 rc) F) := fun w' hb => h17.below hb
              have N17 := Lib.hid b17
              obtain ⟨y0, y1⟩ := T16.out _ N17.out
              have CPf := Lib.hid (hplain_any w17 (HF16.out _ N17.out) HAO.out.1 HFL.out)
              have eb : (bb == bb) = true := by simp
              clear h17 b17 CRb hm7
              go_wp2_with fail
              refine (CPf.out).mono ?_
              rintro e w30 ⟨v30, rfl, h30, b30⟩
              obtain ⟨pa, pc, rfl⟩ := Rk.Rows.is_slice h30
              obtain ⟨m8, hm8⟩ : ∃ m8, m8 = F.length := ⟨_, rfl⟩
              rw [← hm8] at h30 ⊢
              have N30 := Lib.hid (below_more N17.out b30)
              have CSm := Lib.hid (hsame_any w30 h30 (H17.out _ b30))
              clear h30 b30 y0 y1 CPf hm8
              go_wp2_with fail
              refine (CSm.out).mono ?_
              rintro e w32 ⟨rfl, b32⟩
              have N32 := Lib.hid (below_more N30.out b32)
              obtain ⟨y0, y1⟩ := T16.out _ N32.out
              have CFz := Lib.hid (sfrozen_any w32 (HF16.out _ N32.out))
              clear b32 CSm
              go_wp2_with fail
              refine (CFz.out).mono ?_
              rintro e w33 ⟨rfl, b33⟩
              have N33 := Lib.hid (below_more N32.out b33)
              obtain ⟨y0', y1'⟩ := T14.out _ (K16.out _ N33.out)
              have CP2 := Lib.hid (hplain_any w33 (HShG.out _ (K16.out _ N33.out)) HOK.out (by have := S40.out; omega))
              clear b33 CFz y0 y1
              go_wp2_with fail
              refine (CP2.out).mono ?_
              rintro e w38 ⟨v38, rfl, h38, b38⟩
              obtain ⟨pa8, pc8, rfl⟩ := Rk.Rows.is_slice h38
              have N38 := Lib.hid (below_more N33.out b38)
              have CS2 := Lib.hid (hsame_any w38 h38 (HAr.out _ (KW.out _ (K16.out _ N38.out))).1)
              clear h38 b38 CP2 y0' y1'
              go_wp2_with fail
              refine (CS2.out).mono ?_
              rintro e w39 ⟨rfl, b39⟩
              have N39 := Lib.hid (below_more N38.out b39)
              clear b39 CS2
              go_wp2_with fail
              go_ret
              exact ⟨by simp, KW.out _ (K16.out _ N39.out)⟩

theorem acc_eq : Rows.laid_unicode_utf8_acceptRanges = Lib.acceptData := by kernel_rfl

set_option maxRecDepth 100000 in
theorem lifted (os : Os) (started : os.Started) (H : Type) (enc : TypeId × Value → H) :
    ReturnsInHanded {} Tryd.checked os 6 .any (fun w args => (Rows.sheetAfterSpec.pre enc Tryd.prog Tryd.f6 [] false w args ∧ laidMetH Tryd.prog Rows.sheetAfterRow.laid w) ∧ sizedMet enc Tryd.prog Tryd.f6 (OpenSpec.ofChange Rows.sheetAfterSpec) false w args) (Rows.sheetAfterSpec.post enc Tryd.prog Tryd.f6 false true false false) := by
  refine returnsInHanded_of_change_and (C := Tryd.checked) (X := fun w _ => laidMetH Tryd.prog Rows.sheetAfterRow.laid w) (fun _ _ _ hh h => h.of_heap hh) own started (by kernel_rfl) Tryd.func6
    (ChangeSpec.witness_shaped (enc := enc) (C := Tryd.checked) (os := os) (X := fun w _ => laidMetH Tryd.prog Rows.sheetAfterRow.laid w) false (World.laidAll Tryd.prog os Rows.sheetAfterRow.laid) #[.slice none 0 0, .int .i64 0, .slice none 0 0] 8 (World.laidAll_os _ _ _)
      (World.shaped_of_ZipB (by kernel_rfl) (by kernel_rfl)) (by kernel_rfl) (by kernel_rfl) (by kernel_rfl)
      (by rw [MakeChecks.laidMetH_plain _ _ _ (by kernel_rfl)]; exact laidMet_laidAll _ (by kernel_rfl) (by kernel_rfl))) ?_
  intro W base args ds gs before hval0 hW _ hWt hL _
  have hval : ∀ (j : Nat) t v, Tryd.f6.params[j]? = some t → args[j]? = some v → Value.okWide Tryd.prog W .any base t v := hval0
  have hread : ∀ t ∈ Tryd.f6.params.toList, Tryd.prog.readableRec t = true ∧ t < Tryd.prog.types.size := by
    have : (Tryd.f6.params.toList.all fun t => Tryd.prog.readableRec t && decide (t < Tryd.prog.types.size)) = true := by kernel_rfl
    intro t ht
    have := List.all_eq_true.1 this t ht
    simpa using this
  rw [MakeChecks.laidMetH_plain _ _ _ (by kernel_rfl)] at hL
  have hT : Tabs W := utf8Tabs_of_readsT (U8Types.of196 Tryd.lays196) ⟨by kernel_rfl, by kernel_rfl, by kernel_rfl, by kernel_rfl, by kernel_rfl, by kernel_rfl, by kernel_rfl⟩ (Pinned.utf8First_eq ▸ Lib.laidMet.reads hL (.tail _ (.head _))) (acc_eq ▸ Lib.laidMet.reads hL (.head _))
  refine law_contract (P := Tryd.prog) (s := Rows.sheetAfterSpec) (fn := Tryd.f6) (tb := 4) laidOut rfl hread rfl Tryd.underlying4 (fun W' => okWide_bool_mk Tryd.underlying4 _) ?_ hW ?_
  · intro ds hds
    rw [Tryd.params6] at hds
    match ds, hds with
    | [d0, d1, d2], _ => rfl
  intro pl hA
  rw [Tryd.params6] at hA hval hWt
  obtain ⟨v0, vs0, d0, ds0, p0, q0, hargs, rfl, hp0, h0, r0⟩ := trodAll_cons hA
  obtain ⟨v1, vs1, d1, ds1, p1, q1, rfl, rfl, hp1, h1, r1⟩ := trodAll_cons r0
  obtain ⟨v2, vs2, d2, ds2, p2, q2, rfl, rfl, hp2, h2, r2⟩ := trodAll_cons r1
  obtain ⟨rfl, rfl, hpe⟩ := trodAll_nil r2
  obtain rfl : args = #[v0, v1, v2] := by cases args; simp_all
  have hwt0 : (d0.weights Tryd.prog 47).all (· ≤ reachBytes) = true := List.all_eq_true.2 fun n hn => List.all_eq_true.1 hWt n (DataW.weights_mem_each (j := 0) (t := 47) (d := d0) rfl rfl n hn)
  obtain ⟨Gl, hGl⟩ := She.open_segs (hval 0 47 v0 rfl rfl) h0 hwt0
  obtain ⟨id, rfl, rfl, _, hw1⟩ := open_int Tryd.underlying3 (hval 1 3 v1 rfl rfl) h1
  have hb1 : -9223372036854775808 ≤ id ∧ id ≤ 9223372036854775807 := by simpa [Lit.wf, IntKind.min, IntKind.max, IntKind.signed, IntKind.bits] using hw1
  have hwt2 : (d2.weights Tryd.prog 47).all (· ≤ reachBytes) = true := List.all_eq_true.2 fun n hn => List.all_eq_true.1 hWt n (DataW.weights_mem_each (j := 2) (t := 47) (d := d2) rfl rfl n hn)
  obtain ⟨Gmore, hGmore⟩ := She.open_segs (hval 2 47 v2 rfl rfl) h2 hwt2
  exact walk W hT hGl id hb1.1 hb1.2 hGmore 

theorem over : Rows.sheetAfterRow.holds Tryd.pinned (OpenSpec.ofChange Rows.sheetAfterSpec) :=
  OpenClaim.holds_of_wide 6 Tryd.f6 rfl rfl rfl rfl rfl rfl rfl ⟨rfl, rfl, rfl, rfl, rfl⟩ rfl rfl rfl rfl rfl (by kernel_rfl) Tryd.func6 (by kernel_rfl)
    (of_decide_eq_true (by kernel_rfl)) (by unfold Func.isWrapper; first | (rw [if_pos (by decide +kernel)]; kernel_rfl) | (rw [if_neg (by decide +kernel)]; exact ⟨rfl, rfl⟩))
    (fun os started H enc _ => lifted os started H enc)

/-- The statement. -/
theorem proved : Rows.SheetAfterCardSaid :=
  Claim7.holds_tied_plain_at .later [] [.data, .pinned] true (true, "0353ae2d0db4c87f21033a723c8aa8ede6146840b4536422d4bfe06a1c6aab85") false over (fun _ h => by cases h) (by kernel_rfl) (fun _ h => by cases h) sheetAfter_row_tie rfl ⟨rfl, rfl⟩ (by kernel_rfl) rfl
    (fun f fn hf hfn => by
      obtain rfl : f = 6 := Option.some.inj ((show Tryd.prog.funcNamed Rows.sheetAfterRow.func = some 6 by kernel_rfl).symm.trans hf) |>.symm
      obtain rfl : fn = Tryd.f6 := (Option.some.inj (Tryd.func6.symm.trans hfn)).symm
      exact ⟨by kernel_rfl, fun j t ht => by
        rw [Tryd.params6] at ht
        have hm : t ∈ [47, 3, 47] := by simpa using Array.mem_of_getElem? ht
        have hall : ([47, 3, 47].all fun u => !Tryd.prog.wantsStandIn u) = true := by kernel_rfl
        exact (show Tryd.prog.wantsStandIn t = false by simpa using List.all_eq_true.1 hall t hm)⟩)
    (by kernel_rfl)
#print axioms proved
end Go.Proofs.YtcpdoicbekcpeaaDoor.sheetAfter
