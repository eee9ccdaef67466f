/- For all lists of plain segments, of bools and of texts: ViewHides answers true, and its arguments read behind the call as before. No condition. THE TIED CARD: unicode/utf8's two tables start as the program's text lays them. -/
import Derived.Test.YtcpdoicbekcpeaaDoorRows
import Derived.Test.YtcpdoicbekcpeaaDoorTie
import Derived.Test.YtcpdoicbekcpeaaDoorCards
import Derived.Test.YtcpdoicbekcpeaaDoorLift
import Derived.ProofKit
import Derived.Lib.LaidU8T
import Derived.PinnedBridge
import Derived.Lay
import Derived.LaidOnce
import Derived.SevenTiedAt
import Derived.Test.YtcpdoicbekcpeaaDoorVq
import Derived.Test.YtcpdoicbekcpeaaDoorHs
import Derived.SizedLaws
import Derived.Deep.RegionHeld3
import Derived.Deep.DeepCutAuto
import Derived.Deep.CutBlock
import Derived.Deep.RegionHeld
import Derived.OrdersHeld
set_option linter.unusedVariables false
namespace Go.Proofs.YtcpdoicbekcpeaaDoor.viewHides
open Go.ChangeShapes Go.WideShapes Go.ChangeAt Go.RowKit Go.Lib Go.Shelf Go.Proofs.YtcpdoicbekcpeaaDoor.Lift Go.Proofs.YtcpdoicbekcpeaaDoor.Rk Go.Proofs.YtcpdoicbekcpeaaDoor.Rt Go.Proofs.YtcpdoicbekcpeaaDoor.Rig Go.Proofs.YtcpdoicbekcpeaaDoor.Seg Go.Proofs.YtcpdoicbekcpeaaDoor.She Go.Proofs.YtcpdoicbekcpeaaDoor.Vi
open Go.ChangeMaps (open_string shut_string)

theorem own : ownKnob Tryd.prog.godebug = none := by kernel_rfl
theorem laidOut : laidOutB Tryd.prog = true := by kernel_rfl

set_option linter.unusedSimpArgs false
def oneG : List G5 := [⟨1, 0, [97, 98], [], []⟩]
theorem one_ok : okG oneG = true := by decide +kernel
theorem one_sz : ∀ g ∈ oneG, g.sz := fun g hg => by simp [oneG] at hg; subst hg; exact ⟨by decide, by decide, by decide⟩
theorem one_vok : ∀ g ∈ oneG, G5.vok g := fun g hg => by simp [oneG] at hg; subst hg; exact ⟨⟨by decide, by decide⟩, ⟨by decide, by decide⟩, by decide⟩
theorem load_ok {u : Value} {G : List G5} (f : Bool) (w : World) (h : Pls w u G) (hsz : ∀ g ∈ G, g.sz) (hn : G.length ≤ 10000) (hok : okG G = true) (hT : Con.Tabs w) : Calls Tryd.prog 22 #[.bool f, u] w fun e w' => ∃ a c, e = .returned (.tuple #[.agg #[.bool f, .slice a G.length c], .bool true]) ∧ Sgs w' (.slice a G.length c) G ∧ Below w.heap.size w w' := by
  refine (sload_any f w h hsz hn hT).mono ?_
  rintro e w' ⟨s, rfl, hs, hb⟩
  rw [hok, if_pos rfl] at hs
  obtain ⟨a, c, rfl⟩ := Rk.Rows.is_slice hs
  exact ⟨a, c, by rw [hok, Bool.and_true], hs, hb⟩
theorem one_pls {w : World} {b : Nat} (hb : w.heap[b]? = some (.cells #[.int .i64 1, .int .i64 0, .string (ByteArray.mk #[97, 98]), .slice none 0 0, .slice none 0 0] 25 (0, 0))) : Pls w (.slice (some ⟨b, 0, none⟩) 1 1) oneG :=
  ⟨[([.int .i64 1, .int .i64 0, .string (ByteArray.mk #[97, 98]), .slice none 0 0, .slice none 0 0], ⟨1, 0, [97, 98], [], []⟩)], rfl, Rk.row_one (e := 25) hb rfl, fun x hx => by
    simp at hx
    subst hx
    exact ⟨_, _, rfl, _, _, rfl, Spans.nil_ _, Sites.nil_ _⟩⟩
theorem load_one {b : Nat} (w : World) (hb : w.heap[b]? = some (.cells #[.int .i64 1, .int .i64 0, .string (ByteArray.mk #[97, 98]), .slice none 0 0, .slice none 0 0] 25 (0, 0))) (hT : Con.Tabs w) :
    Calls Tryd.prog 22 #[.bool false, .slice (some ⟨b, 0, none⟩) 1 1] w fun e w' => ∃ a c, e = .returned (.tuple #[.agg #[.bool false, .slice a 1 c], .bool true]) ∧ Sgs w' (.slice a 1 c) oneG ∧ Below w.heap.size w w' :=
  load_ok false w (one_pls hb) one_sz (by decide) one_ok hT
theorem opens_call {w : World} {f : FuncId} {cap : Array Value} {o : Int → Bool} (h : Opens w (.func (.func f) #[] cap) o) (n : Int) (w' : World) (hb : Below w.heap.size w w') : Calls Tryd.prog f (#[.int .i64 n] ++ cap) w' fun e w'' => e = .returned (.bool (o n)) ∧ w'' = w' := by
  obtain ⟨f', cap', e, _, h⟩ := h
  injection e with e1 _ e2
  injection e1 with e1
  subst e1 e2
  exact h n w' hb
theorem look_one {a : Option Addr} {c : Nat} (w : World) (h : Sgs w (.slice a 1 c) oneG) : Calls Tryd.prog 51 #[.agg #[.bool false, .slice a 1 c], .func (.func 56) #[] #[]] w fun e w' => ∃ a c, e = .returned (.slice a 1 c) ∧ Pcs w' (.slice a 1 c) [⟨1, 0, 0, false⟩] ∧ Below w.heap.size w w' := by
  refine (look_any w (v := .agg #[.bool false, .slice a 1 c]) (f := false) (G := oneG) ⟨_, rfl, h⟩ (no56 w) one_vok (by decide)).mono ?_
  rintro e w' ⟨s, rfl, hs, hb⟩
  have e1 : Lk (fun _ => false) oneG = [⟨1, 0, 0, false⟩] := rfl
  rw [e1] at hs
  obtain ⟨a, c, rfl, _⟩ := hs.open_
  exact ⟨a, c, rfl, hs, hb⟩
theorem width_one {a : Option Addr} {c : Nat} (w : World) (h : Pcs w (.slice a 1 c) [⟨1, 0, 0, false⟩]) : Calls Tryd.prog 55 #[.slice a 1 c] w fun e w' => e = .returned (.int .i64 1) ∧ Below w.heap.size w w' :=
  Width_any w h ⟨fun y hy => by simp at hy; subst hy; exact ⟨by decide, by decide⟩, by decide⟩
/-- The other list. -/
def mixAt (o : Int → Bool) (X : List (List UInt8)) (k : Nat) (g : G5) : G5 := match X[k]? with
  | some t => if o g.l = false ∧ t.length ≤ 500 ∧ Let.right t = true then ⟨g.i, g.l, t, [], []⟩ else g
  | none => g
def mixG (o : Int → Bool) (X : List (List UInt8)) (G : List G5) : List G5 := G.mapIdx (mixAt o X)
theorem mix_il (o : Int → Bool) (X : List (List UInt8)) (k : Nat) (g : G5) : (mixAt o X k g).i = g.i ∧ (mixAt o X k g).l = g.l ∧ vw o (mixAt o X k g) = vw o g := by
  unfold mixAt
  cases X[k]? with
  | none => exact ⟨rfl, rfl, rfl⟩
  | some t =>
    simp only
    split
    · rename_i h
      refine ⟨rfl, rfl, ?_⟩
      unfold vw
      simp only [h.1]
      simp
    · exact ⟨rfl, rfl, rfl⟩
theorem mix_len (o : Int → Bool) (X : List (List UInt8)) (G : List G5) : (mixG o X G).length = G.length := by unfold mixG; rw [List.length_mapIdx]
theorem mix_get (o : Int → Bool) (X : List (List UInt8)) (G : List G5) {k : Nat} (hk : k < (mixG o X G).length) : (mixG o X G)[k] = mixAt o X k (G[k]'(by rw [mix_len] at hk; exact hk)) := by simp [mixG]
theorem mix_take (o : Int → Bool) (X : List (List UInt8)) (G : List G5) {k : Nat} (hk : k < G.length) : (mixG o X G).take (k + 1) = (mixG o X G).take k ++ [mixAt o X k G[k]] := by
  have h := hk
  rw [← mix_len o X G] at h
  rw [List.take_succ_eq_append_getElem h, mix_get]
theorem mix_map {α : Type} (f : G5 → α) (o : Int → Bool) (X : List (List UInt8)) (G : List G5) (hf : ∀ k g, f (mixAt o X k g) = f g) : (mixG o X G).map f = G.map f := by
  apply List.ext_getElem
  · rw [List.length_map, List.length_map, mix_len]
  · intro i h1 h2
    rw [List.getElem_map, List.getElem_map, mix_get, hf]
theorem mix_mem {o : Int → Bool} {X : List (List UInt8)} {G : List G5} {x : G5} (h : x ∈ mixG o X G) : x ∈ G ∨ ∃ g ∈ G, ∃ t : List UInt8, t.length ≤ 500 ∧ Let.right t = true ∧ x = ⟨g.i, g.l, t, [], []⟩ := by
  obtain ⟨k, hk, rfl⟩ := List.getElem_of_mem h
  rw [mix_get]
  have hk' : k < G.length := by rw [mix_len] at hk; exact hk
  unfold mixAt
  cases X[k]? with
  | none => exact .inl (List.getElem_mem hk')
  | some t =>
    simp only
    split
    · rename_i q
      exact .inr ⟨_, List.getElem_mem hk', t, q.2.1, q.2.2, rfl⟩
    · exact .inl (List.getElem_mem hk')
theorem r5_bare (i l : Int) {t : List UInt8} (h : Let.right t = true) : r5 ⟨i, l, t, [], []⟩ = true := by
  unfold r5 right5
  rw [h, Bool.true_and]
  unfold mrightB
  rw [decide_eq_true_iff]
  exact ⟨fun j hj => absurd hj (Nat.not_lt_zero _), fun j hj => absurd hj (Nat.not_lt_zero _)⟩
theorem mix_ok {o : Int → Bool} {X : List (List UInt8)} {G : List G5} (h : okG G = true) : okG (mixG o X G) = true := by
  unfold okG at h ⊢
  rw [Bool.and_eq_true] at h ⊢
  obtain ⟨h1, h2⟩ := h
  refine ⟨?_, by rw [mix_map G5.i o X G (fun k g => (mix_il o X k g).1)]; exact h2⟩
  rw [List.all_eq_true] at h1 ⊢
  intro x hx
  rcases mix_mem hx with q | ⟨g, _, t, _, q, rfl⟩
  · exact h1 x q
  · exact r5_bare _ _ q
theorem mix_sz {o : Int → Bool} {X : List (List UInt8)} {G : List G5} (h : ∀ g ∈ G, g.sz) : ∀ g ∈ mixG o X G, g.sz := fun x hx => by
  rcases mix_mem hx with q | ⟨g, _, t, q, _, rfl⟩
  · exact h x q
  · exact ⟨by show t.length ≤ 10000; omega, by show (0 : Nat) ≤ _; omega, by show (0 : Nat) ≤ _; omega⟩
theorem mix_vok {o : Int → Bool} {X : List (List UInt8)} {G : List G5} (h : ∀ g ∈ G, G5.vok g) : ∀ g ∈ mixG o X G, G5.vok g := fun x hx => by
  rcases mix_mem hx with q | ⟨g, hg, t, q, _, rfl⟩
  · exact h x q
  · exact ⟨(h g hg).1, (h g hg).2.1, by show t.length ≤ 10000; omega⟩
theorem mix_yes {o : Int → Bool} {X : List (List UInt8)} {k : Nat} {g : G5} (hk : k < X.length) (h1 : o g.l = false) (h2 : X[k].length ≤ 500) (h3 : Let.right X[k] = true) : mixAt o X k g = ⟨g.i, g.l, X[k], [], []⟩ := by
  unfold mixAt
  rw [List.getElem?_eq_getElem hk]
  simp only
  rw [if_pos ⟨h1, h2, h3⟩]
theorem mix_no {o : Int → Bool} {X : List (List UInt8)} {k : Nat} {g : G5} (h : o g.l = true ∨ X.length ≤ k ∨ ∃ hk : k < X.length, 500 < X[k].length ∨ Let.right X[k] = false) : mixAt o X k g = g := by
  unfold mixAt
  rcases h with h | h | ⟨hk, h⟩
  · cases X[k]? with
    | none => rfl
    | some t => simp only; rw [if_neg (fun q => by rw [h] at q; cases q.1)]
  · rw [List.getElem?_eq_none h]
  · rw [List.getElem?_eq_getElem hk]
    simp only
    rw [if_neg]
    rintro ⟨_, q1, q2⟩
    rcases h with h | h
    · omega
    · rw [h] at q2; cases q2
theorem small_vok {w : World} {v : Value} {G : List G5} (h : Args w v G) (hs : ∀ g ∈ G, g.sz) : ∀ g ∈ G, G5.vok g := fun g hg => ⟨(h.2 g hg).1, (h.2 g hg).2.1, (hs g hg).1⟩
set_option maxRecDepth 100000 in
set_option maxHeartbeats 64000000 in
theorem walk (w : World) (hT : Tabs w) {v : Value} {G : List G5} (hA : Args w v G) {u : Value} {B : List Bool} (hB : Bls w u B) {xv : Value} {X : List (List UInt8)} (hX : Sts w xv X) :
    Calls Tryd.prog 9 #[v, u, xv] w fun e w' => e = .returned (.bool true) ∧ Below w.heap.size w w' := by
  have hmf : ∀ (fn : Fn) (first cap : Array Value) (w : World), (Instr.makeFunc fn first cap).run Tryd.prog w = .ok (.func fn first cap) w := fun _ _ _ _ => rfl
  obtain ⟨la, lc, rfl⟩ := Rk.Rows.is_slice hA.1
  obtain ⟨_, hlc, hlm⟩ := Rk.Rows.len hA.1
  obtain ⟨ua, uc, rfl, huc, hum, _⟩ := hB.open_
  obtain ⟨xa, xc, rfl, hxc, hxm, _⟩ := hX.open_
  unfold maxLen at hlm hum hxm
  obtain ⟨B0, R0, L0⟩ := box1 w #[.slice ua B.length uc] 81
  obtain ⟨W0, hW0⟩ : ∃ W0, W0 = w.alloc (.cells #[.slice ua B.length uc] 81) := ⟨_, rfl⟩
  rw [← hW0] at B0 R0 L0
  have HT : Hid (∀ w', Below W0.heap.size W0 w' → Con.Tabs w') := fun w' hb => hT.below (below_more B0 hb)
  have HAr : Hid (∀ w', Below W0.heap.size W0 w' → Args w' (.slice la G.length lc) G) := fun w' hb => hA.below (below_more B0 hb)
  have HXr : Hid (∀ w', Below W0.heap.size W0 w' → Sts w' (.slice xa X.length xc) X) := fun w' hb => hX.below (below_more B0 hb)
  have HOP : Hid (∀ w', Below W0.heap.size W0 w' → Opens w' (.func (.func 57) #[] #[.pointer (some ⟨w.heap.size, 0, none⟩)]) (told B)) := fun w' hb =>
    (tells_ViewHides W0 (by omega) (by rw [cell_of_row _ _ _ _ _ _ R0]; rfl) (hB.below B0)).below hb
  obtain ⟨n, hn⟩ : ∃ n, n = G.length := ⟨_, rfl⟩
  obtain ⟨mb, hmb⟩ : ∃ mb, mb = B.length := ⟨_, rfl⟩
  obtain ⟨nx, hnx⟩ : ∃ nx, nx = X.length := ⟨_, rfl⟩
  have HN := Lib.hid hn
  have HNX := Lib.hid hnx
  rw [← hn] at HAr hlc ⊢
  rw [← hnx] at HXr hxc ⊢
  rw [← hmb] at huc R0 hW0 ⊢
  obtain ⟨b4, hb4⟩ : ∃ b4, b4 = w.heap.size := ⟨_, rfl⟩
  rw [← hb4] at HOP R0 L0
  have HL4 : Hid (b4 < W0.heap.size) := by show _ < _; omega
  have HC4 : Hid (∀ w', Below W0.heap.size W0 w' → w'.cell? ⟨b4, 0, none⟩ = some (.slice ua mb uc)) := fun w' hb => by rw [cell_of_row _ _ _ _ _ _ ((hb.block _ HL4.out).trans R0)]; rfl
  have HW0 := Lib.hid hW0
  have HB0 := Lib.hid B0
  have K0 : Hid (Below W0.heap.size W0 W0) := Below.refl _ _
  have CTl : Hid (∀ nn w', Below W0.heap.size W0 w' → Calls Tryd.prog 57 #[.int .i64 nn, .pointer (some ⟨b4, 0, none⟩)] w' fun e w'' => e = .returned (.bool (told B nn)) ∧ w'' = w') := fun nn w' hb => opens_call (HOP.out W0 K0.out) nn w' hb
  clear hT hA hB hX hn hmb hnx B0 R0 L0 hW0
  go_enter Tryd.func9, Tryd.ntmps9
  go_upto_region 1 with fail
  rw [← hb4, ← HW0.out]
  clear hb4
  go_wp2_with fail
  refine (load_one _ (heap_alloc_new _ _) (HT.out _ (below_al K0.out _))).mono ?_
  rintro e w2 ⟨ta, tc, rfl, h2, b2⟩
  have K2 := Lib.hid (below_more (below_al K0.out _) b2)
  clear b2
  obtain ⟨B3, R3, L3⟩ := box1 w2 #[.bool false, .slice ta 1 tc] 50
  obtain ⟨W3, hW3⟩ : ∃ W3, W3 = w2.alloc (.cells #[.bool false, .slice ta 1 tc] 50) := ⟨_, rfl⟩
  rw [← hW3] at B3 R3 L3
  have HW3 := Lib.hid hW3
  obtain ⟨z0, z1, _, _⟩ := two_cells R3
  have K3 := Lib.hid (below_more K2.out B3)
  have CK := Lib.hid (look_one W3 (h2.below B3))
  clear hW3 B3 R3 L3 h2
  go_upto_region 2 with fail
  rw [← HW3.out]
  go_wp2_with fail
  refine (CK.out).mono ?_
  rintro e w4 ⟨pa, pc, rfl, h4, b4'⟩
  have K4 := Lib.hid (below_more K3.out b4')
  have CW4 := Lib.hid (width_one w4 h4)
  clear b4' h4 z0 z1
  go_wp2_with fail
  refine (CW4.out).mono ?_
  rintro e w5 ⟨rfl, b5⟩
  have K5 := Lib.hid (below_more K4.out b5)
  clear b5 CW4
  go_wp2_with fail
  refine (hsmall_any _ (HAr.out _ K5.out)).mono ?_
  rintro e w6 ⟨rfl, b6⟩
  have K6 := Lib.hid (below_more K5.out b6)
  clear b6
  cases hsm : smallG G with
  | false =>
    clear hsm
    go_wp2_with fail
    go_ret
    exact ⟨by simp, below_more HB0.out K6.out⟩
  | true =>
    obtain ⟨sz, s40, _⟩ := small_sz hsm
    have SZ := Lib.hid sz
    have S40 : Hid (n ≤ 40) := by show _ ≤ _; rw [HN.out]; exact s40
    have HVK := Lib.hid (small_vok (HAr.out _ K6.out) sz)
    have CRt := Lib.hid (hright_any w6 (HAr.out _ K6.out).1 sz (by omega))
    clear sz s40 hsm
    cases hok : okG G with
    | false =>
      rw [hok] at CRt
      go_wp2_with fail
      refine (CRt.out).mono ?_
      rintro e w7 ⟨rfl, b7⟩
      have K7 := Lib.hid (below_more K6.out b7)
      clear b7 hok
      go_wp2_with fail
      go_ret
      exact ⟨by simp, below_more HB0.out K7.out⟩
    | true =>
      rw [hok] at CRt
      have HR5 : Hid (∀ g ∈ G, r5 g = true) := fun g hg => by
        obtain ⟨j, hj, rfl⟩ := List.getElem_of_mem hg
        exact (okG_iff.1 hok j hj).1
      have OKG := Lib.hid hok
      go_wp2_with fail
      refine (CRt.out).mono ?_
      rintro e w7 ⟨rfl, b7⟩
      have K7 := Lib.hid (below_more K6.out b7)
      have c4 := HC4.out _ K7.out
      clear b7 hok CRt
      by_cases hm20 : mb ≤ 20
      · have j20 : decide ((20 : Int) < (mb : Int)) = false := decide_eq_false (by omega)
        have k20 : ¬ ((20 : Int) < (mb : Int)) := by omega
        obtain ⟨o, ho⟩ : ∃ o, o = told B := ⟨_, rfl⟩
        rw [← ho] at CTl HOP
        clear ho
        have CRr : Hid (∀ t : List UInt8, t.length ≤ maxLen → ∀ w', Calls Tryd.prog 19 #[.string (Let.mk t)] w' fun e w'' => e = .returned (.bool (Let.right t)) ∧ w'' = w') := fun t ht w' => (right1_any t w' ht).mono fun e w'' h => ⟨h.1, h.2.symm⟩
        have HXE : Hid (∀ w', Below W0.heap.size W0 w' → ∀ j (hj : j < X.length), ∃ b off, xa = some ⟨b, off, none⟩ ∧ w'.cell? ⟨b, off + j, none⟩ = some (.string (Let.mk X[j])) ∧ X[j].length ≤ maxLen) := fun w' hb j hj => by
          obtain ⟨a, c, e, _, _, h⟩ := (HXr.out w' hb).open_
          injection e with e1 _ _
          obtain ⟨b, off, h1, _, h2, h3⟩ := h j hj
          exact ⟨b, off, by rw [e1, h1], h2, h3⟩
        obtain ⟨M, hM⟩ : ∃ M, M = mixG o X G := ⟨_, rfl⟩
        have HM := Lib.hid hM
        have HML : Hid (M.length = n) := by show _ = _; rw [hM, mix_len, HN.out]
        clear hM
        go_wp2_with fail
        go_loopg [10, 47] n (fun g t i wr => ∃ k : Nat, k ≤ n ∧ n - k ≤ g ∧ i = .int .i64 k ∧ Hid (OPl w7.heap.size wr t (M.take k)) ∧ Below w7.heap.size w7 wr)
        case atStart => exact ⟨0, Nat.zero_le _, by omega, rfl, OPl.nil_ _ _, Below.refl _ _⟩
        case round =>
          obtain ⟨k, hk, hg, rfl, HO, hbel⟩ := hrel
          have HB := Lib.hid hbel
          have HBw := Lib.hid (below_more K7.out hbel)
          have RL : Hid ((M.take k).length = k) := by show _ = _; rw [List.length_take, HML.out]; omega
          by_cases hlt : k < n
          · have hkl : k < G.length := by rw [← HN.out]; exact hlt
            have RL6 : Hid ((M.take (k + 1)).length = k + 1) := by show _ = _; rw [List.length_take, HML.out]; omega
            obtain ⟨b, off, a1, e1, a2, e2, rfl, hb, hv, c0, c1, c2, c3, c4⟩ := (HAr.out _ HBw.out).1.get hkl
            have EQ : Hid (M.take (k + 1) = M.take k ++ [mixAt o X k G[k]]) := by show _ = _; rw [HM.out]; exact mix_take o X G hkl
            have HP := Lib.hid (r5_pos (HR5.out _ (List.getElem_mem hkl)))
            have MY : Hid (∀ hk : k < X.length, o G[k].l = false → X[k].length ≤ 500 → Let.right X[k] = true → mixAt o X k G[k] = ⟨G[k].i, G[k].l, X[k], [], []⟩) := fun hk h1 h2 h3 => mix_yes hk h1 h2 h3
            have MN : Hid ((o G[k].l = true ∨ X.length ≤ k ∨ ∃ hk : k < X.length, 500 < X[k].length ∨ Let.right X[k] = false) → mixAt o X k G[k] = G[k]) := fun h => mix_no h
            generalize G[k] = y at *
            obtain ⟨yi, yl, yL, yS, yT⟩ := y
            simp only at c0 c1 c2 c3 c4 hv HP MY MN
            obtain ⟨B1, R1, L1⟩ := box1 wr #[.int .i64 yi, .int .i64 yl, .string (Let.mk yL), .slice a1 yS.length e1, .slice a2 yT.length e2] 25
            have HVW : Hid (∀ w', Below wr.heap.size wr w' → PlP w' [.int .i64 yi, .int .i64 yl, .string (Let.mk yL), .slice a1 yS.length e1, .slice a2 yT.length e2] ⟨yi, yl, yL, yS, yT⟩) := fun w' hb => ⟨⟨_, _, rfl, hv.below hb (Nat.le_refl _)⟩, HP.out⟩
            generalize yS.length = n1 at *
            generalize yT.length = n2 at *
            obtain ⟨W1, hW1⟩ : ∃ W1, W1 = wr.alloc (.cells #[.int .i64 yi, .int .i64 yl, .string (Let.mk yL), .slice a1 n1 e1, .slice a2 n2 e2] 25) := ⟨_, rfl⟩
            rw [← hW1] at B1 R1 L1
            have HW1 := Lib.hid hW1
            have HB1 := Lib.hid B1
            have KZ := Lib.hid (below_more HBw.out B1)
            obtain ⟨d0, d1, d2, d3, d4⟩ := five_cells R1
            obtain ⟨b12, hb12⟩ : ∃ b12, b12 = wr.heap.size := ⟨_, rfl⟩
            rw [← hb12] at R1 L1 d0 d1 d2 d3 d4
            have HL12 : Hid (b12 < W1.heap.size) := by show _ < _; omega
            have HR12 := Lib.hid R1
            have HG12 : Hid (wr.heap.size ≤ b12) := by show _ ≤ _; omega
            have i1 : (k : Int) < (n : Int) := by omega
            obtain ⟨ao, co, rfl⟩ := HO.out.is_slice
            have HO0 := HO
            rw [RL.out] at HO0 ⊢
            have CT1 := Lib.hid (CTl.out yl W1 KZ.out)
            clear hbel hv hW1 B1 R1 L1 HO
            go_upto_region 11 with fail
            rw [← hb12, ← HW1.out]
            clear c0 c1 c2 c3 c4 hb12
            cases hoy : o yl with
            | true =>
              rw [hoy] at CT1
              have EQx : Hid (M.take (k + 1) = M.take k ++ [⟨yi, yl, yL, yS, yT⟩]) := by show _ = _; rw [EQ.out, MN.out (.inl hoy)]
              clear EQ MY MN hoy
              go_wp2_with fail
              refine (CT1.out).mono ?_
              rintro e w8 ⟨rfl, hw8⟩
              rw [hw8]
              clear hw8 CT1
              obtain ⟨xs, hxl, A1, K0'⟩ := (HO0.out.below (below_al HB1.out (.cells #[Value.int .i64 yi, .int .i64 yl, .string (Let.mk yL), .slice a1 n1 e1, .slice a2 n2 e2] 25))).row
              replace A1 := Lib.hid A1
              have K := Lib.hid K0'
              have HU : Hid (PlP (W1.alloc (.cells #[Value.int .i64 yi, .int .i64 yl, .string (Let.mk yL), .slice a1 n1 e1, .slice a2 n2 e2] 25)) [Value.int .i64 yi, .int .i64 yl, .string (Let.mk yL), .slice a1 n1 e1, .slice a2 n2 e2] ⟨yi, yl, yL, yS, yT⟩) := HVW.out _ (below_al HB1.out _)
              have A2 : Hid (Rk.RowK 5 (W1.alloc (.cells #[Value.int .i64 yi, .int .i64 yl, .string (Let.mk yL), .slice a1 n1 e1, .slice a2 n2 e2] 25)) (.slice (some ⟨W1.heap.size, 0, none⟩) 1 1) [[Value.int .i64 yi, .int .i64 yl, .string (Let.mk yL), .slice a1 n1 e1, .slice a2 n2 e2]]) := Rk.row_one (e := 25) (heap_alloc_new _ _) rfl
              have HBY : Hid (Below w7.heap.size w7 (W1.alloc (.cells #[Value.int .i64 yi, .int .i64 yl, .string (Let.mk yL), .slice a1 n1 e1, .slice a2 n2 e2] 25))) := below_more HB.out (below_al HB1.out _)
              have A4 : Hid (w7.heap.size ≤ (W1.alloc (.cells #[Value.int .i64 yi, .int .i64 yl, .string (Let.mk yL), .slice a1 n1 e1, .slice a2 n2 e2] 25)).heap.size) := HBY.out.size
              have hxk : xs.length = k := by rw [hxl, RL.out]
              have A3 : Hid (xs.length + 1 ≤ 100000) := by show _ ≤ _; rw [hxk]; have := S40.out; omega
              have HXK := Lib.hid hxk
              have HYO : Hid (∀ z ∈ [[Value.int .i64 yi, .int .i64 yl, .string (Let.mk yL), .slice a1 n1 e1, .slice a2 n2 e2]], Five z) := fun z hz => by
                simp only [List.mem_singleton] at hz
                subst hz
                exact PlC.five HU.out.1
              clear K0' hxl hxk
              go_wp2_with (at_builtin; refine wpList_append_five rfl _ _ 47 25 80 _ Tryd.underlying47 infoPl rfl rfl rfl znPl (by decide) rfl w7.heap.size _ _ xs _ rfl rfl A1.out A2.out HYO.out A3.out A4.out ?_)
              intro v6 w9 h5 g5 k5
              have K9 : Hid (OPl w7.heap.size w9 v6 (M.take (k + 1))) := by show OPl _ _ _ _; rw [EQx.out]; exact K.out _ _ _ _ h5 g5 (by first | exact k5 | (rw [HXK.out]; exact k5)) HU.out
              obtain ⟨a6, c6, rfl⟩ := K9.out.is_slice
              have HB6 := Lib.hid (A1.out.own.belowOf HBY.out (Nat.le_refl _) A4.out g5)
              clear h5 g5 k5 A1 A2 A3 A4 HBY EQx K HU HYO
              rw [RL6.out] at K9 ⊢
              go_wp2_with fail
              go_roundg (n - (k + 1))
              case measure => omega
              case rel => exact ⟨k + 1, by omega, Nat.le_refl _, by go_num, K9.out, HB6.out⟩
            | false =>
              rw [hoy] at CT1
              by_cases hkx : k < nx
              · have hkX : k < X.length := by rw [← HNX.out]; exact hkx
                obtain ⟨xb, xo, rfl, cx, hxm1⟩ := HXE.out W1 KZ.out k hkX
                have MY1 := Lib.hid (MY.out hkX hoy)
                have MN1 : Hid (500 < X[k].length ∨ Let.right X[k] = false → mixAt o X k ⟨yi, yl, yL, yS, yT⟩ = ⟨yi, yl, yL, yS, yT⟩) := fun h => MN.out (.inr (.inr ⟨hkX, h⟩))
                clear MY MN hoy
                generalize X[k] = tx at *
                have hsz : (Let.mk tx).size = tx.length := Let.mk_size tx
                obtain ⟨ln, hln⟩ : ∃ ln, ln = tx.length := ⟨_, rfl⟩
                rw [← hln] at hsz hxm1
                have HLN := Lib.hid hln
                have CR1 : Hid (∀ w', Calls Tryd.prog 19 #[.string (Let.mk tx)] w' fun e w'' => e = .returned (.bool (Let.right tx)) ∧ w'' = w') := CRr.out tx (by rw [← hln]; exact hxm1)
                clear hln
                unfold maxLen at hxm1
                have i2 : (k : Int) < (nx : Int) := by omega
                have j2 : decide ((k : Int) < (nx : Int)) = true := decide_eq_true i2
                by_cases h500 : ln ≤ 500
                · have i3 : (ln : Int) ≤ 500 := by omega
                  have j3 : decide ((ln : Int) ≤ 500) = true := decide_eq_true i3
                  cases hrt : Let.right tx with
                  | true =>
                    rw [hrt] at CR1
                    have EQx : Hid (M.take (k + 1) = M.take k ++ [⟨yi, yl, tx, [], []⟩]) := by show _ = _; rw [EQ.out, MY1.out (by rw [← HLN.out]; exact h500) hrt]
                    have h1 := set_block (i := 2) (u := .string (Let.mk tx)) HR12.out
                    have h2 := set_block (i := 3) (u := .slice none 0 0) h1
                    have h3 := set_block (i := 4) (u := .slice none 0 0) h2
                    obtain ⟨W12, hW12⟩ : ∃ W12, W12 = ((W1.setCell ⟨b12, 2, none⟩ (.string (Let.mk tx))).setCell ⟨b12, 3, none⟩ (.slice none 0 0)).setCell ⟨b12, 4, none⟩ (.slice none 0 0) := ⟨_, rfl⟩
                    have K12 : Hid (Below wr.heap.size wr W12) := by show Below _ _ _; rw [hW12]; exact below_put (below_put (below_put HB1.out HG12.out _) HG12.out _) HG12.out _
                    rw [← hW12] at h3
                    simp at h3
                    have HW12 := Lib.hid hW12
                    have HR13 : Hid (W12.heap[b12]? = some (.cells #[.int .i64 yi, .int .i64 yl, .string (Let.mk tx), .slice none 0 0, .slice none 0 0] 25 (0, 0))) := h3
                    have f0 : W1.frozen? ⟨b12, 2, none⟩ = false ∧ W1.frozen? ⟨b12, 3, none⟩ = false ∧ W1.frozen? ⟨b12, 4, none⟩ = false := by
                      have := HR12.out
                      unfold World.frozen?
                      simp [this]
                    obtain ⟨f2, f3, f4⟩ := f0
                    clear EQ MY1 MN1 hrt h1 h2 h3 hW12
                    go_wp2_with fail
                    refine (CT1.out).mono ?_
                    rintro e w8 ⟨rfl, hw8⟩
                    rw [hw8]
                    clear hw8 CT1
                    go_wp2_with fail
                    refine (CR1.out _).mono ?_
                    rintro e w8 ⟨rfl, hw8⟩
                    rw [hw8]
                    clear hw8 CR1
                    go_upto_region 13 with fail
                    rw [← HW12.out]
                    clear d0 d1 d2 d3 d4 cx hsz f2 f3 f4
                    obtain ⟨d0, d1, d2, d3, d4⟩ := five_cells HR13.out
                    obtain ⟨xs, hxl, A1, K0'⟩ := (HO0.out.below (below_al K12.out (.cells #[Value.int .i64 yi, .int .i64 yl, .string (Let.mk tx), .slice none 0 0, .slice none 0 0] 25))).row
                    replace A1 := Lib.hid A1
                    have K := Lib.hid K0'
                    have HU : Hid (PlP (W12.alloc (.cells #[Value.int .i64 yi, .int .i64 yl, .string (Let.mk tx), .slice none 0 0, .slice none 0 0] 25)) [Value.int .i64 yi, .int .i64 yl, .string (Let.mk tx), .slice none 0 0, .slice none 0 0] ⟨yi, yl, tx, [], []⟩) := ⟨⟨.slice none 0 0, .slice none 0 0, rfl, _, _, rfl, Spans.nil_ _, Sites.nil_ _⟩, fun s h => by cases h⟩
                    have A2 : Hid (Rk.RowK 5 (W12.alloc (.cells #[Value.int .i64 yi, .int .i64 yl, .string (Let.mk tx), .slice none 0 0, .slice none 0 0] 25)) (.slice (some ⟨W12.heap.size, 0, none⟩) 1 1) [[Value.int .i64 yi, .int .i64 yl, .string (Let.mk tx), .slice none 0 0, .slice none 0 0]]) := Rk.row_one (e := 25) (heap_alloc_new _ _) rfl
                    have HBY : Hid (Below w7.heap.size w7 (W12.alloc (.cells #[Value.int .i64 yi, .int .i64 yl, .string (Let.mk tx), .slice none 0 0, .slice none 0 0] 25))) := below_more HB.out (below_al K12.out _)
                    have A4 : Hid (w7.heap.size ≤ (W12.alloc (.cells #[Value.int .i64 yi, .int .i64 yl, .string (Let.mk tx), .slice none 0 0, .slice none 0 0] 25)).heap.size) := HBY.out.size
                    have hxk : xs.length = k := by rw [hxl, RL.out]
                    have A3 : Hid (xs.length + 1 ≤ 100000) := by show _ ≤ _; rw [hxk]; have := S40.out; omega
                    have HXK := Lib.hid hxk
                    have HYO : Hid (∀ z ∈ [[Value.int .i64 yi, .int .i64 yl, .string (Let.mk tx), .slice none 0 0, .slice none 0 0]], Five z) := fun z hz => by
                      simp only [List.mem_singleton] at hz
                      subst hz
                      exact PlC.five HU.out.1
                    clear K0' hxl hxk
                    go_wp2_with (at_builtin; refine wpList_append_five rfl _ _ 47 25 80 _ Tryd.underlying47 infoPl rfl rfl rfl znPl (by decide) rfl w7.heap.size _ _ xs _ rfl rfl A1.out A2.out HYO.out A3.out A4.out ?_)
                    intro v6 w9 h5 g5 k5
                    have K9 : Hid (OPl w7.heap.size w9 v6 (M.take (k + 1))) := by show OPl _ _ _ _; rw [EQx.out]; exact K.out _ _ _ _ h5 g5 (by first | exact k5 | (rw [HXK.out]; exact k5)) HU.out
                    obtain ⟨a6, c6, rfl⟩ := K9.out.is_slice
                    have HB6 := Lib.hid (A1.out.own.belowOf HBY.out (Nat.le_refl _) A4.out g5)
                    clear h5 g5 k5 A1 A2 A3 A4 HBY EQx K HU HYO
                    rw [RL6.out] at K9 ⊢
                    go_wp2_with fail
                    go_roundg (n - (k + 1))
                    case measure => omega
                    case rel => exact ⟨k + 1, by omega, Nat.le_refl _, by go_num, K9.out, HB6.out⟩
                  | false =>
                    rw [hrt] at CR1
                    have EQx : Hid (M.take (k + 1) = M.take k ++ [⟨yi, yl, yL, yS, yT⟩]) := by show _ = _; rw [EQ.out, MN1.out (.inr hrt)]
                    clear EQ MY1 MN1 hrt
                    go_wp2_with fail
                    refine (CT1.out).mono ?_
                    rintro e w8 ⟨rfl, hw8⟩
                    rw [hw8]
                    clear hw8 CT1
                    go_wp2_with fail
                    refine (CR1.out _).mono ?_
                    rintro e w8 ⟨rfl, hw8⟩
                    rw [hw8]
                    clear hw8 CR1 cx hsz
                    obtain ⟨xs, hxl, A1, K0'⟩ := (HO0.out.below (below_al HB1.out (.cells #[Value.int .i64 yi, .int .i64 yl, .string (Let.mk yL), .slice a1 n1 e1, .slice a2 n2 e2] 25))).row
                    replace A1 := Lib.hid A1
                    have K := Lib.hid K0'
                    have HU : Hid (PlP (W1.alloc (.cells #[Value.int .i64 yi, .int .i64 yl, .string (Let.mk yL), .slice a1 n1 e1, .slice a2 n2 e2] 25)) [Value.int .i64 yi, .int .i64 yl, .string (Let.mk yL), .slice a1 n1 e1, .slice a2 n2 e2] ⟨yi, yl, yL, yS, yT⟩) := HVW.out _ (below_al HB1.out _)
                    have A2 : Hid (Rk.RowK 5 (W1.alloc (.cells #[Value.int .i64 yi, .int .i64 yl, .string (Let.mk yL), .slice a1 n1 e1, .slice a2 n2 e2] 25)) (.slice (some ⟨W1.heap.size, 0, none⟩) 1 1) [[Value.int .i64 yi, .int .i64 yl, .string (Let.mk yL), .slice a1 n1 e1, .slice a2 n2 e2]]) := Rk.row_one (e := 25) (heap_alloc_new _ _) rfl
                    have HBY : Hid (Below w7.heap.size w7 (W1.alloc (.cells #[Value.int .i64 yi, .int .i64 yl, .string (Let.mk yL), .slice a1 n1 e1, .slice a2 n2 e2] 25))) := below_more HB.out (below_al HB1.out _)
                    have A4 : Hid (w7.heap.size ≤ (W1.alloc (.cells #[Value.int .i64 yi, .int .i64 yl, .string (Let.mk yL), .slice a1 n1 e1, .slice a2 n2 e2] 25)).heap.size) := HBY.out.size
                    have hxk : xs.length = k := by rw [hxl, RL.out]
                    have A3 : Hid (xs.length + 1 ≤ 100000) := by show _ ≤ _; rw [hxk]; have := S40.out; omega
                    have HXK := Lib.hid hxk
                    have HYO : Hid (∀ z ∈ [[Value.int .i64 yi, .int .i64 yl, .string (Let.mk yL), .slice a1 n1 e1, .slice a2 n2 e2]], Five z) := fun z hz => by
                      simp only [List.mem_singleton] at hz
                      subst hz
                      exact PlC.five HU.out.1
                    clear K0' hxl hxk
                    go_wp2_with (at_builtin; refine wpList_append_five rfl _ _ 47 25 80 _ Tryd.underlying47 infoPl rfl rfl rfl znPl (by decide) rfl w7.heap.size _ _ xs _ rfl rfl A1.out A2.out HYO.out A3.out A4.out ?_)
                    intro v6 w9 h5 g5 k5
                    have K9 : Hid (OPl w7.heap.size w9 v6 (M.take (k + 1))) := by show OPl _ _ _ _; rw [EQx.out]; exact K.out _ _ _ _ h5 g5 (by first | exact k5 | (rw [HXK.out]; exact k5)) HU.out
                    obtain ⟨a6, c6, rfl⟩ := K9.out.is_slice
                    have HB6 := Lib.hid (A1.out.own.belowOf HBY.out (Nat.le_refl _) A4.out g5)
                    clear h5 g5 k5 A1 A2 A3 A4 HBY EQx K HU HYO
                    rw [RL6.out] at K9 ⊢
                    go_wp2_with fail
                    go_roundg (n - (k + 1))
                    case measure => omega
                    case rel => exact ⟨k + 1, by omega, Nat.le_refl _, by go_num, K9.out, HB6.out⟩
                · have i3 : ¬ (ln : Int) ≤ 500 := by omega
                  have j3 : decide ((ln : Int) ≤ 500) = false := decide_eq_false i3
                  have EQx : Hid (M.take (k + 1) = M.take k ++ [⟨yi, yl, yL, yS, yT⟩]) := by show _ = _; rw [EQ.out, MN1.out (.inl (by rw [← HLN.out]; omega))]
                  clear EQ MY1 MN1
                  go_wp2_with fail
                  refine (CT1.out).mono ?_
                  rintro e w8 ⟨rfl, hw8⟩
                  rw [hw8]
                  clear hw8 CT1
                  obtain ⟨xs, hxl, A1, K0'⟩ := (HO0.out.below (below_al HB1.out (.cells #[Value.int .i64 yi, .int .i64 yl, .string (Let.mk yL), .slice a1 n1 e1, .slice a2 n2 e2] 25))).row
                  replace A1 := Lib.hid A1
                  have K := Lib.hid K0'
                  have HU : Hid (PlP (W1.alloc (.cells #[Value.int .i64 yi, .int .i64 yl, .string (Let.mk yL), .slice a1 n1 e1, .slice a2 n2 e2] 25)) [Value.int .i64 yi, .int .i64 yl, .string (Let.mk yL), .slice a1 n1 e1, .slice a2 n2 e2] ⟨yi, yl, yL, yS, yT⟩) := HVW.out _ (below_al HB1.out _)
                  have A2 : Hid (Rk.RowK 5 (W1.alloc (.cells #[Value.int .i64 yi, .int .i64 yl, .string (Let.mk yL), .slice a1 n1 e1, .slice a2 n2 e2] 25)) (.slice (some ⟨W1.heap.size, 0, none⟩) 1 1) [[Value.int .i64 yi, .int .i64 yl, .string (Let.mk yL), .slice a1 n1 e1, .slice a2 n2 e2]]) := Rk.row_one (e := 25) (heap_alloc_new _ _) rfl
                  have HBY : Hid (Below w7.heap.size w7 (W1.alloc (.cells #[Value.int .i64 yi, .int .i64 yl, .string (Let.mk yL), .slice a1 n1 e1, .slice a2 n2 e2] 25))) := below_more HB.out (below_al HB1.out _)
                  have A4 : Hid (w7.heap.size ≤ (W1.alloc (.cells #[Value.int .i64 yi, .int .i64 yl, .string (Let.mk yL), .slice a1 n1 e1, .slice a2 n2 e2] 25)).heap.size) := HBY.out.size
                  have hxk : xs.length = k := by rw [hxl, RL.out]
                  have A3 : Hid (xs.length + 1 ≤ 100000) := by show _ ≤ _; rw [hxk]; have := S40.out; omega
                  have HXK := Lib.hid hxk
                  have HYO : Hid (∀ z ∈ [[Value.int .i64 yi, .int .i64 yl, .string (Let.mk yL), .slice a1 n1 e1, .slice a2 n2 e2]], Five z) := fun z hz => by
                    simp only [List.mem_singleton] at hz
                    subst hz
                    exact PlC.five HU.out.1
                  clear K0' hxl hxk
                  go_wp2_with (at_builtin; refine wpList_append_five rfl _ _ 47 25 80 _ Tryd.underlying47 infoPl rfl rfl rfl znPl (by decide) rfl w7.heap.size _ _ xs _ rfl rfl A1.out A2.out HYO.out A3.out A4.out ?_)
                  intro v6 w9 h5 g5 k5
                  have K9 : Hid (OPl w7.heap.size w9 v6 (M.take (k + 1))) := by show OPl _ _ _ _; rw [EQx.out]; exact K.out _ _ _ _ h5 g5 (by first | exact k5 | (rw [HXK.out]; exact k5)) HU.out
                  obtain ⟨a6, c6, rfl⟩ := K9.out.is_slice
                  have HB6 := Lib.hid (A1.out.own.belowOf HBY.out (Nat.le_refl _) A4.out g5)
                  clear h5 g5 k5 A1 A2 A3 A4 HBY EQx K HU HYO
                  rw [RL6.out] at K9 ⊢
                  go_wp2_with fail
                  go_roundg (n - (k + 1))
                  case measure => omega
                  case rel => exact ⟨k + 1, by omega, Nat.le_refl _, by go_num, K9.out, HB6.out⟩
              · have i2 : ¬ (k : Int) < (nx : Int) := by omega
                have j2 : decide ((k : Int) < (nx : Int)) = false := decide_eq_false i2
                have EQx : Hid (M.take (k + 1) = M.take k ++ [⟨yi, yl, yL, yS, yT⟩]) := by show _ = _; rw [EQ.out, MN.out (.inr (.inl (by rw [← HNX.out]; omega)))]
                clear EQ MY MN hoy
                go_wp2_with fail
                refine (CT1.out).mono ?_
                rintro e w8 ⟨rfl, hw8⟩
                rw [hw8]
                clear hw8 CT1
                obtain ⟨xs, hxl, A1, K0'⟩ := (HO0.out.below (below_al HB1.out (.cells #[Value.int .i64 yi, .int .i64 yl, .string (Let.mk yL), .slice a1 n1 e1, .slice a2 n2 e2] 25))).row
                replace A1 := Lib.hid A1
                have K := Lib.hid K0'
                have HU : Hid (PlP (W1.alloc (.cells #[Value.int .i64 yi, .int .i64 yl, .string (Let.mk yL), .slice a1 n1 e1, .slice a2 n2 e2] 25)) [Value.int .i64 yi, .int .i64 yl, .string (Let.mk yL), .slice a1 n1 e1, .slice a2 n2 e2] ⟨yi, yl, yL, yS, yT⟩) := HVW.out _ (below_al HB1.out _)
                have A2 : Hid (Rk.RowK 5 (W1.alloc (.cells #[Value.int .i64 yi, .int .i64 yl, .string (Let.mk yL), .slice a1 n1 e1, .slice a2 n2 e2] 25)) (.slice (some ⟨W1.heap.size, 0, none⟩) 1 1) [[Value.int .i64 yi, .int .i64 yl, .string (Let.mk yL), .slice a1 n1 e1, .slice a2 n2 e2]]) := Rk.row_one (e := 25) (heap_alloc_new _ _) rfl
                have HBY : Hid (Below w7.heap.size w7 (W1.alloc (.cells #[Value.int .i64 yi, .int .i64 yl, .string (Let.mk yL), .slice a1 n1 e1, .slice a2 n2 e2] 25))) := below_more HB.out (below_al HB1.out _)
                have A4 : Hid (w7.heap.size ≤ (W1.alloc (.cells #[Value.int .i64 yi, .int .i64 yl, .string (Let.mk yL), .slice a1 n1 e1, .slice a2 n2 e2] 25)).heap.size) := HBY.out.size
                have hxk : xs.length = k := by rw [hxl, RL.out]
                have A3 : Hid (xs.length + 1 ≤ 100000) := by show _ ≤ _; rw [hxk]; have := S40.out; omega
                have HXK := Lib.hid hxk
                have HYO : Hid (∀ z ∈ [[Value.int .i64 yi, .int .i64 yl, .string (Let.mk yL), .slice a1 n1 e1, .slice a2 n2 e2]], Five z) := fun z hz => by
                  simp only [List.mem_singleton] at hz
                  subst hz
                  exact PlC.five HU.out.1
                clear K0' hxl hxk
                go_wp2_with (at_builtin; refine wpList_append_five rfl _ _ 47 25 80 _ Tryd.underlying47 infoPl rfl rfl rfl znPl (by decide) rfl w7.heap.size _ _ xs _ rfl rfl A1.out A2.out HYO.out A3.out A4.out ?_)
                intro v6 w9 h5 g5 k5
                have K9 : Hid (OPl w7.heap.size w9 v6 (M.take (k + 1))) := by show OPl _ _ _ _; rw [EQx.out]; exact K.out _ _ _ _ h5 g5 (by first | exact k5 | (rw [HXK.out]; exact k5)) HU.out
                obtain ⟨a6, c6, rfl⟩ := K9.out.is_slice
                have HB6 := Lib.hid (A1.out.own.belowOf HBY.out (Nat.le_refl _) A4.out g5)
                clear h5 g5 k5 A1 A2 A3 A4 HBY EQx K HU HYO
                rw [RL6.out] at K9 ⊢
                go_wp2_with fail
                go_roundg (n - (k + 1))
                case measure => omega
                case rel => exact ⟨k + 1, by omega, Nat.le_refl _, by go_num, K9.out, HB6.out⟩
          · obtain rfl : n = k := by omega
            have i1 : ¬ ((n : Int) < (n : Int)) := by omega
            have et : M.take n = M := by rw [← HML.out, List.take_length]
            rw [et] at HO
            obtain ⟨ma, mc, rfl⟩ := HO.out.is_slice
            have HMm := Lib.hid HO.out.pls
            rw [HML.out] at HMm ⊢
            clear hbel HO et
            have CL13 : Hid (∀ w', Below W0.heap.size W0 w' → Calls Tryd.prog 22 #[.bool false, .slice la n lc] w' fun e w'' => ∃ a c, e = .returned (.tuple #[.agg #[.bool false, .slice a n c], .bool true]) ∧ Sgs w'' (.slice a n c) G ∧ Below w'.heap.size w' w'') := fun w' hb => by
              have := load_ok false w' (HAr.out w' hb).1 SZ.out (by rw [← HN.out]; have := S40.out; omega) OKG.out (HT.out w' hb)
              rw [← HN.out] at this
              exact this
            have CL16 : Hid (∀ w', Below wr.heap.size wr w' → Calls Tryd.prog 22 #[.bool false, .slice ma n mc] w' fun e w'' => ∃ a c, e = .returned (.tuple #[.agg #[.bool false, .slice a n c], .bool true]) ∧ Sgs w'' (.slice a n c) M ∧ Below w'.heap.size w' w'') := fun w' hb => by
              have := load_ok false w' (HMm.out.below hb) (by rw [HM.out]; exact mix_sz SZ.out) (by rw [HML.out]; have := S40.out; omega) (by rw [HM.out]; exact mix_ok OKG.out) (HT.out w' (below_more HBw.out hb))
              rw [HML.out] at this
              exact this
            have HMV : Hid (∀ g ∈ M, G5.vok g) := by show ∀ g ∈ M, G5.vok g; rw [HM.out]; exact mix_vok HVK.out
            have HVV : Hid (M.map (vw o) = G.map (vw o)) := by show _ = _; rw [HM.out]; exact mix_map (vw o) o X G (fun k g => (mix_il o X k g).2.2)
            have HLK : Hid (Lk o M = Lk o G) := by show _ = _; unfold Lk; rw [HVV.out]
            obtain ⟨A, hA⟩ : ∃ A, A = Lk o G := ⟨_, rfl⟩
            obtain ⟨V, hV⟩ : ∃ V, V = G.map (vw o) := ⟨_, rfl⟩
            rw [← hA] at HLK
            rw [← hV] at HVV
            have HAE := Lib.hid hA
            have HVE := Lib.hid hV
            have HAL : Hid (A.length = n) := by show _ = _; rw [hA, HN.out]; unfold Lk; rw [List.length_map, List.length_map]
            have HRT : Hid (rightPc A) := by show rightPc A; rw [hA]; exact lk_right o HVK.out (by rw [← HN.out]; have := S40.out; omega)
            clear hA hV HMm c4
            go_wp2_with fail
            refine (CL13.out _ HBw.out).mono ?_
            rintro e w13 ⟨sa, sc, rfl, h13, b13⟩
            obtain ⟨B13, R13, L13⟩ := box1 w13 #[.bool false, .slice sa n sc] 50
            obtain ⟨W13, hW13⟩ : ∃ W13, W13 = w13.alloc (.cells #[.bool false, .slice sa n sc] 50) := ⟨_, rfl⟩
            rw [← hW13] at B13 R13 L13
            have HW13 := Lib.hid hW13
            have K13 := Lib.hid (below_more b13 B13)
            have HS13 := Lib.hid (h13.below B13)
            obtain ⟨p13, hp13⟩ : ∃ p13, p13 = w13.heap.size := ⟨_, rfl⟩
            rw [← hp13] at R13 L13
            have HL13 : Hid (p13 < W13.heap.size) := by show _ < _; omega
            have HR13 := Lib.hid R13
            clear b13 h13 B13 R13 L13 hW13 CL13
            go_upto_region 16 with fail
            rw [← hp13, ← HW13.out]
            clear hp13
            go_wp2_with fail
            refine (CL16.out _ K13.out).mono ?_
            rintro e w16 ⟨sb, sd, rfl, h16, b16⟩
            obtain ⟨B16, R16, L16⟩ := box1 w16 #[.bool false, .slice sb n sd] 50
            obtain ⟨W16, hW16⟩ : ∃ W16, W16 = w16.alloc (.cells #[.bool false, .slice sb n sd] 50) := ⟨_, rfl⟩
            rw [← hW16] at B16 R16 L16
            have HW16 := Lib.hid hW16
            have K16' := below_more b16 B16
            have KW := Lib.hid (below_more HBw.out (below_more K13.out K16'))
            have SA16 : Hid (∀ w', Below W16.heap.size W16 w' → Sh w' (.agg #[.bool false, .slice sa n sc]) false G) := fun w' hb => ⟨_, rfl, (HS13.out.below K16').below hb⟩
            have SB16 : Hid (∀ w', Below W16.heap.size W16 w' → Sh w' (.agg #[.bool false, .slice sb n sd]) false M) := fun w' hb => ⟨_, rfl, (h16.below B16).below hb⟩
            have R13' := (K16'.block _ HL13.out).trans HR13.out
            obtain ⟨p15, hp15⟩ : ∃ p15, p15 = w16.heap.size := ⟨_, rfl⟩
            rw [← hp15] at R16 L16
            have HL15 : Hid (p15 < W16.heap.size) := by show _ < _; omega
            have HLp : Hid (p13 < W16.heap.size) := by show _ < _; have := HL13.out; have := K16'.size; omega
            have BX : Hid (∀ w', Below W16.heap.size W16 w' → Below W16.heap.size W16 w' ∧ w'.cell? ⟨p13, 0, none⟩ = some (.bool false) ∧ w'.cell? ⟨p13, 1, none⟩ = some (.slice sa n sc) ∧ w'.cell? ⟨p15, 0, none⟩ = some (.bool false) ∧ w'.cell? ⟨p15, 1, none⟩ = some (.slice sb n sd)) := fun w' hb => by
              obtain ⟨h1, h2, _, _⟩ := two_cells ((hb.block _ HLp.out).trans R13')
              obtain ⟨h3, h4, _, _⟩ := two_cells ((hb.block _ HL15.out).trans R16)
              exact ⟨hb, h1, h2, h3, h4⟩
            have KZ : Hid (Below W16.heap.size W16 W16) := Below.refl _ _
            have CLA : Hid (∀ w', Below W16.heap.size W16 w' → Calls Tryd.prog 51 #[.agg #[.bool false, .slice sa n sc], .func (.func 57) #[] #[.pointer (some ⟨b4, 0, none⟩)]] w' fun e w'' => ∃ a c, e = .returned (.slice a n c) ∧ Pcs w'' (.slice a n c) A ∧ Below w'.heap.size w' w'') := fun w' hb => by
              refine (look_any w' (SA16.out w' hb) (HOP.out w' (below_more KW.out hb)) HVK.out (by rw [← HN.out]; have := S40.out; omega)).mono ?_
              rintro e w'' ⟨s, rfl, hs', hb'⟩
              rw [← HAE.out] at hs'
              obtain ⟨a, c, rfl, _⟩ := hs'.open_
              have := HAL.out
              rw [this] at hs' ⊢
              exact ⟨a, c, rfl, hs', hb'⟩
            have CLB : Hid (∀ w', Below W16.heap.size W16 w' → Calls Tryd.prog 51 #[.agg #[.bool false, .slice sb n sd], .func (.func 57) #[] #[.pointer (some ⟨b4, 0, none⟩)]] w' fun e w'' => ∃ a c, e = .returned (.slice a n c) ∧ Pcs w'' (.slice a n c) A ∧ Below w'.heap.size w' w'') := fun w' hb => by
              refine (look_any w' (SB16.out w' hb) (HOP.out w' (below_more KW.out hb)) HMV.out (by rw [HML.out]; have := S40.out; omega)).mono ?_
              rintro e w'' ⟨s, rfl, hs', hb'⟩
              rw [HLK.out] at hs'
              obtain ⟨a, c, rfl, _⟩ := hs'.open_
              have := HAL.out
              rw [this] at hs' ⊢
              exact ⟨a, c, rfl, hs', hb'⟩
            have CRA : Hid (∀ c : Int, in64 c → ∀ w', Below W16.heap.size W16 w' → Calls Tryd.prog 48 #[.agg #[.bool false, .slice sa n sc], .func (.func 57) #[] #[.pointer (some ⟨b4, 0, none⟩)], .int .i64 c, .int .i64 150] w' (GiveRs (runs V c 150) w')) := fun c hc w' hb => by
              rw [HVE.out]
              exact runs_any c 150 w' (SA16.out w' hb) (HOP.out w' (below_more KW.out hb)) HVK.out (by rw [← HN.out]; have := S40.out; omega) hc (by unfold in64; omega)
            have CRB : Hid (∀ c : Int, in64 c → ∀ w', Below W16.heap.size W16 w' → Calls Tryd.prog 48 #[.agg #[.bool false, .slice sb n sd], .func (.func 57) #[] #[.pointer (some ⟨b4, 0, none⟩)], .int .i64 c, .int .i64 150] w' (GiveRs (runs V c 150) w')) := fun c hc w' hb => by
              rw [← HVV.out]
              exact runs_any c 150 w' (SB16.out w' hb) (HOP.out w' (below_more KW.out hb)) HMV.out (by rw [HML.out]; have := S40.out; omega) hc (by unfold in64; omega)
            clear b16 h16 B16 R16 L16 hW16 CL16 K16' R13'
            go_upto_region 17 with fail
            rw [← hp15, ← HW16.out]
            clear hp15
            go_cut [17, 18] from 100 to 106 (fun x y wx => ∃ (pa1 : Option Addr) (pc1 : Nat) (pb1 : Option Addr) (pd1 : Nat), x = .slice pa1 n pc1 ∧ y = .slice pb1 n pd1 ∧ Hid (Pcs wx (.slice pa1 n pc1) A ∧ Pcs wx (.slice pb1 n pd1) A ∧ Below W16.heap.size W16 wx))
            case first =>
              go_region_held3 (fun w' => Below W16.heap.size W16 w' ∧ w'.cell? ⟨p13, 0, none⟩ = some (.bool false) ∧ w'.cell? ⟨p13, 1, none⟩ = some (.slice sa n sc) ∧ w'.cell? ⟨p15, 0, none⟩ = some (.bool false) ∧ w'.cell? ⟨p15, 1, none⟩ = some (.slice sb n sd))
                ((refine BX.out _ ?_; focus ((repeat first | with_reducible assumption | with_reducible exact KZ.out | with_reducible apply Below.drew | with_reducible apply below_drews | with_reducible apply below_al); done)))
                (first
                  | (go_at_call 51; (with_reducible refine (CLA.out _ ?_).mono ?_); (focus ((repeat first | with_reducible assumption | with_reducible exact KZ.out | with_reducible apply Below.drew | with_reducible apply below_drews | with_reducible apply below_al); done)); rintro e wi ⟨ia, ic, rfl, hi, bi⟩; have ki := fun h => below_more (w := W16) h bi; replace ki := ki (by (repeat first | with_reducible assumption | with_reducible exact KZ.out | with_reducible apply Below.drew | with_reducible apply below_drews | with_reducible apply below_al)); have HI : Hid (∀ w', Below wi.heap.size wi w' → Pcs w' (.slice ia n ic) A) := (fun w' hb => hi.below hb (Nat.le_refl _)); have KI := Lib.hid (Below.refl wi.heap.size wi); clear bi hi)
                  | (go_at_call 51; (with_reducible refine (CLB.out _ ?_).mono ?_); (focus ((repeat first | with_reducible assumption | with_reducible exact KZ.out | with_reducible apply Below.drew | with_reducible apply below_drews | with_reducible apply below_al); done)); rintro e wl ⟨pl, pd, rfl, hl, bl⟩; have kl := fun h => below_more (w := W16) h bl; replace kl := kl (by (repeat first | with_reducible assumption | with_reducible exact KZ.out | with_reducible apply Below.drew | with_reducible apply below_drews | with_reducible apply below_al)); have kI := fun h => below_more (w := wi) h bl; replace kI := kI (by (repeat first | with_reducible assumption | with_reducible exact KI.out | with_reducible apply Below.drew | with_reducible apply below_drews | with_reducible apply below_al)); have FN := Lib.hid (And.intro (HI.out _ kI) (And.intro hl kl)); clear bl hl))
              all_goals go_wp2_with fail
              all_goals go_meet
              all_goals exact ⟨_, _, _, _, rfl, rfl, FN⟩
            case rest =>
              obtain ⟨pa1, pc1, pb1, pd1, rfl, rfl, HF⟩ := hcut
              obtain ⟨hp1, hp2, k1⟩ := HF.out
              have K18 := Lib.hid k1
              have CW : Hid (∀ w', Below wc.heap.size wc w' → Calls Tryd.prog 55 #[.slice pa1 n pc1] w' fun e w'' => e = .returned (.int .i64 (wid A)) ∧ Below w'.heap.size w' w'') := fun w' hb => Width_any w' (hp1.below hb (Nat.le_refl _)) HRT.out
              obtain ⟨q1, q2, e1, l1, m1, E1⟩ := hp1.open_
              obtain ⟨q3, q4, e2, l2, m2, E2⟩ := hp2.open_
              injection e1 with e11 e12 e13
              injection e2 with e21 e22 e23
              rw [HAL.out, ← e13] at l1
              rw [HAL.out, ← e23] at l2
              rw [← e13] at m1
              rw [← e23] at m2
              rw [← e11] at E1
              rw [← e21] at E2
              have HE1 := Lib.hid E1
              have HE2 := Lib.hid E2
              have GP := guard_piece
              unfold maxLen at m1 m2
              clear HF hp1 hp2 k1 e11 e12 e13 e21 e22 e23 E1 E2 CLA CLB
              have jn : ((n : Int) != (n : Int)) = false := by simp
              go_wp2_with fail
              go_loopg [113] n (fun g i wr => ∃ k : Nat, k ≤ n ∧ n - k ≤ g ∧ i = .int .i64 k ∧ Below wc.heap.size wc wr)
              case atStart => exact ⟨0, Nat.zero_le _, by omega, rfl, Below.refl _ _⟩
              case round =>
                obtain ⟨k, hk, hg, rfl, hbel⟩ := hrel
                have HB := Lib.hid hbel
                by_cases hlt : k < n
                · have hkl : k < A.length := by rw [HAL.out]; exact hlt
                  obtain ⟨b1, o1, rfl, lt1, _, c0, c1, c2, c3⟩ := HE1.out k hkl
                  obtain ⟨b2, o2, rfl, lt2, _, d0, d1, d2, d3⟩ := HE2.out k hkl
                  generalize A[k] = y at *
                  obtain ⟨yi, yl, yn, yo⟩ := y
                  simp only at c0 c1 c2 c3 d0 d1 d2 d3
                  replace c0 := vcell hbel lt1 c0
                  replace c1 := vcell hbel lt1 c1
                  replace c2 := vcell hbel lt1 c2
                  replace c3 := vcell hbel lt1 c3
                  replace d0 := vcell hbel lt2 d0
                  replace d1 := vcell hbel lt2 d1
                  replace d2 := vcell hbel lt2 d2
                  replace d3 := vcell hbel lt2 d3
                  have NE := fun w => neq_piece yi yl yn yo w
                  have i0 : (0 : Int) ≤ (k : Int) := by omega
                  have i1 : (k : Int) < (n : Int) := by omega
                  clear hbel HE1 HE2
                  go_upto_region 23 with fail
                  go_quiet (fail)
                  go_wp2_with fail
                  go_roundg (n - (k + 1))
                  case measure => omega
                  case rel => exact ⟨k + 1, by omega, Nat.le_refl _, by go_num, by first | exact HB.out | exact HB.out.drew | exact below_drews HB.out _⟩
                · obtain rfl : n = k := by omega
                  have i1 : ¬ ((n : Int) < (n : Int)) := by omega
                  obtain ⟨wa, hwa⟩ : ∃ wa, wa = wid A := ⟨_, rfl⟩
                  obtain ⟨wb1, wb2⟩ := wid_all HRT.out
                  rw [← hwa] at CW wb1 wb2
                  have KC : Hid (Below wc.heap.size wc wr) := HB
                  have CSm : Hid (∀ w' s1 s2 c, Rns w' s1 (runs V c 150) → Rns w' s2 (runs V c 150) → Calls Tryd.prog 53 #[s1, s2] w' fun e w'' => e = .returned (.bool true) ∧ Below w'.heap.size w' w'') := fun w' s1 s2 c h1 h2 => same_any w' h1 h2
                  obtain ⟨wo, hwo⟩ : ∃ wo, wo = wr := ⟨_, rfl⟩
                  rw [← hwo] at KC ⊢
                  clear hbel HE1 HE2 hwa HB hwo l1 l2 m1 m2
                  go_wp2_with fail
                  go_loopg [20] wa.toNat (fun g s wr => ∃ c : Int, s = .int .i64 c ∧ 0 ≤ c ∧ c ≤ wa + 150 ∧ (wa - c).toNat ≤ g ∧ Below wc.heap.size wc wr)
                  case atStart => exact ⟨0, rfl, by omega, by omega, by omega, KC.out⟩
                  case round =>
                    obtain ⟨c, rfl, hc0, hc1, hg, hbel⟩ := hrel
                    have CW1 := Lib.hid (CW.out _ hbel)
                    have HB := Lib.hid hbel
                    clear hbel
                    by_cases hcw : c < wa
                    · have jc : decide (c < wa) = true := decide_eq_true hcw
                      go_wp2_with fail
                      refine (CW1.out).mono ?_
                      rintro e w28 ⟨rfl, b28⟩
                      have K28 := Lib.hid (below_more K18.out (below_more HB.out b28))
                      have K29 := Lib.hid (below_more HB.out b28)
                      have CRA1 := Lib.hid (CRA.out c (by unfold in64; omega))
                      have CRB1 := Lib.hid (CRB.out c (by unfold in64; omega))
                      have CSm1 := Lib.hid (fun w' s1 s2 => CSm.out w' s1 s2 c)
                      have BX1 : Hid (∀ w', Below w28.heap.size w28 w' → Below w28.heap.size w28 w' ∧ w'.cell? ⟨p13, 0, none⟩ = some (.bool false) ∧ w'.cell? ⟨p13, 1, none⟩ = some (.slice sa n sc) ∧ w'.cell? ⟨p15, 0, none⟩ = some (.bool false) ∧ w'.cell? ⟨p15, 1, none⟩ = some (.slice sb n sd)) := fun w' hb => ⟨hb, (BX.out w' (below_more K28.out hb)).2⟩
                      have CRA2 : Hid (∀ w', Below w28.heap.size w28 w' → Calls Tryd.prog 48 #[.agg #[.bool false, .slice sa n sc], .func (.func 57) #[] #[.pointer (some ⟨b4, 0, none⟩)], .int .i64 c, .int .i64 150] w' (GiveRs (runs V c 150) w')) := fun w' hb => CRA1.out w' (below_more K28.out hb)
                      have CRB2 : Hid (∀ w', Below w28.heap.size w28 w' → Calls Tryd.prog 48 #[.agg #[.bool false, .slice sb n sd], .func (.func 57) #[] #[.pointer (some ⟨b4, 0, none⟩)], .int .i64 c, .int .i64 150] w' (GiveRs (runs V c 150) w')) := fun w' hb => CRB1.out w' (below_more K28.out hb)
                      have KY : Hid (Below w28.heap.size w28 w28) := Below.refl _ _
                      have zc : IntKind.i64.wrap (c + 150) = c + 150 := IntWalk.i64_in _ (by omega)
                      clear b28 CW1 CRA1 CRB1 CRA CRB CSm BX
                      go_upto_region 29 with fail
                      go_cut [141] from 132 to 141 (fun x wx => x = .bool false ∧ Hid (Below w28.heap.size w28 wx))
                      case first =>
                        go_region_held3 (fun w' => Below w28.heap.size w28 w' ∧ w'.cell? ⟨p13, 0, none⟩ = some (.bool false) ∧ w'.cell? ⟨p13, 1, none⟩ = some (.slice sa n sc) ∧ w'.cell? ⟨p15, 0, none⟩ = some (.bool false) ∧ w'.cell? ⟨p15, 1, none⟩ = some (.slice sb n sd))
                          ((refine BX1.out _ ?_; focus ((repeat first | with_reducible assumption | with_reducible exact KY.out | with_reducible apply Below.drew | with_reducible apply below_drews | with_reducible apply below_al); done)))
                          (first
                            | (go_at_call 48; (with_reducible refine (CRA2.out _ ?_).mono ?_); (focus ((repeat first | with_reducible assumption | with_reducible exact KY.out | with_reducible apply Below.drew | with_reducible apply below_drews | with_reducible apply below_al); done)); rintro e wi ⟨s1, rfl, hi, bi⟩; have ki := fun h => below_more (w := w28) h bi; replace ki := ki (by (repeat first | with_reducible assumption | with_reducible exact KY.out | with_reducible apply Below.drew | with_reducible apply below_drews | with_reducible apply below_al)); have HI : Hid (∀ w', Below wi.heap.size wi w' → Rns w' s1 (runs V c 150)) := (fun w' hb => hi.below hb); have KI := Lib.hid (Below.refl wi.heap.size wi); clear bi hi)
                            | (go_at_call 48; (with_reducible refine (CRB2.out _ ?_).mono ?_); (focus ((repeat first | with_reducible assumption | with_reducible exact KY.out | with_reducible apply Below.drew | with_reducible apply below_drews | with_reducible apply below_al); done)); rintro e wj ⟨s2, rfl, hj, bj⟩; have kj := fun h => below_more (w := w28) h bj; replace kj := kj (by (repeat first | with_reducible assumption | with_reducible exact KY.out | with_reducible apply Below.drew | with_reducible apply below_drews | with_reducible apply below_al)); have kI := fun h => below_more (w := wi) h bj; replace kI := kI (by (repeat first | with_reducible assumption | with_reducible exact KI.out | with_reducible apply Below.drew | with_reducible apply below_drews | with_reducible apply below_al)); have HJ : Hid (∀ w', Below wj.heap.size wj w' → Rns w' s2 (runs V c 150)) := (fun w' hb => hj.below hb); have KJ := Lib.hid (Below.refl wj.heap.size wj); clear bj hj)
                            | (go_at_call 53; (with_reducible refine (CSm1.out _ _ _ (HI.out _ ?_) (HJ.out _ ?_)).mono ?_); (focus ((repeat first | with_reducible assumption | with_reducible exact KI.out | with_reducible apply Below.drew | with_reducible apply below_drews | with_reducible apply below_al); done)); (focus ((repeat first | with_reducible assumption | with_reducible exact KJ.out | with_reducible apply Below.drew | with_reducible apply below_drews | with_reducible apply below_al); done)); rintro e wk ⟨rfl, bk⟩; have kk := fun h => below_more (w := w28) h bk; replace kk := kk (by (repeat first | with_reducible assumption | with_reducible exact KY.out | with_reducible apply Below.drew | with_reducible apply below_drews | with_reducible apply below_al)); clear bk))
                        all_goals go_wp2_with fail
                        all_goals go_meet
                        all_goals (refine ⟨rfl, Lib.hid ?_⟩; (repeat first | with_reducible assumption | with_reducible exact KY.out | with_reducible apply Below.drew | with_reducible apply below_drews | with_reducible apply below_al))
                      case rest =>
                        obtain ⟨rfl, K30⟩ := hcut
                        go_wp2_with fail
                        go_roundg ((wa - (c + 150)).toNat)
                        case measure => omega
                        case rel => exact ⟨c + 150, by go_num, by omega, by omega, Nat.le_refl _, below_more K29.out K30.out⟩
                    · have jc : decide (c < wa) = false := decide_eq_false hcw
                      go_wp2_with fail
                      refine (CW1.out).mono ?_
                      rintro e w28 ⟨rfl, b28⟩
                      have K28 := Lib.hid (below_more KW.out (below_more K18.out (below_more HB.out b28)))
                      clear b28 CW1
                      go_wp2_with fail
                      go_ret
                      exact ⟨by simp, below_more HB0.out K28.out⟩
      · have j20 : decide ((20 : Int) < (mb : Int)) = true := decide_eq_true (by omega)
        have k20 : (20 : Int) < (mb : Int) := by omega
        go_wp2_with fail
        go_ret
        exact ⟨by simp, below_more HB0.out K7.out⟩

theorem acc_eq : Rows.laid_unicode_utf8_acceptRanges = Lib.acceptData := by kernel_rfl

set_option maxRecDepth 100000 in
theorem lifted (os : Os) (started : os.Started) (H : Type) (enc : TypeId × Value → H) :
    ReturnsInHanded {} Tryd.checked os 9 .any (fun w args => (Rows.viewHidesSpec.pre enc Tryd.prog Tryd.f9 [] false w args ∧ laidMetH Tryd.prog Rows.viewHidesRow.laid w) ∧ sizedMet enc Tryd.prog Tryd.f9 (OpenSpec.ofChange Rows.viewHidesSpec) false w args) (Rows.viewHidesSpec.post enc Tryd.prog Tryd.f9 false true false false) := by
  refine returnsInHanded_of_change_and (C := Tryd.checked) (X := fun w _ => laidMetH Tryd.prog Rows.viewHidesRow.laid w) (fun _ _ _ hh h => h.of_heap hh) own started (by kernel_rfl) Tryd.func9
    (ChangeSpec.witness_shaped (enc := enc) (C := Tryd.checked) (os := os) (X := fun w _ => laidMetH Tryd.prog Rows.viewHidesRow.laid w) false (World.laidAll Tryd.prog os Rows.viewHidesRow.laid) #[.slice none 0 0, .slice none 0 0, .slice none 0 0] 8 (World.laidAll_os _ _ _)
      (World.shaped_of_ZipB (by kernel_rfl) (by kernel_rfl)) (by kernel_rfl) (by kernel_rfl) (by kernel_rfl)
      (by rw [MakeChecks.laidMetH_plain _ _ _ (by kernel_rfl)]; exact laidMet_laidAll _ (by kernel_rfl) (by kernel_rfl))) ?_
  intro W base args ds gs before hval0 hW _ hWt hL _
  have hval : ∀ (j : Nat) t v, Tryd.f9.params[j]? = some t → args[j]? = some v → Value.okWide Tryd.prog W .any base t v := hval0
  have hread : ∀ t ∈ Tryd.f9.params.toList, Tryd.prog.readableRec t = true ∧ t < Tryd.prog.types.size := by
    have : (Tryd.f9.params.toList.all fun t => Tryd.prog.readableRec t && decide (t < Tryd.prog.types.size)) = true := by kernel_rfl
    intro t ht
    have := List.all_eq_true.1 this t ht
    simpa using this
  rw [MakeChecks.laidMetH_plain _ _ _ (by kernel_rfl)] at hL
  have hT : Tabs W := utf8Tabs_of_readsT (U8Types.of196 Tryd.lays196) ⟨by kernel_rfl, by kernel_rfl, by kernel_rfl, by kernel_rfl, by kernel_rfl, by kernel_rfl, by kernel_rfl⟩ (Pinned.utf8First_eq ▸ Lib.laidMet.reads hL (.tail _ (.head _))) (acc_eq ▸ Lib.laidMet.reads hL (.head _))
  refine law_contract (P := Tryd.prog) (s := Rows.viewHidesSpec) (fn := Tryd.f9) (tb := 4) laidOut rfl hread rfl Tryd.underlying4 (fun W' => okWide_bool_mk Tryd.underlying4 _) ?_ hW ?_
  · intro ds hds
    rw [Tryd.params9] at hds
    match ds, hds with
    | [d0, d1, d2], _ => rfl
  intro pl hA
  rw [Tryd.params9] at hA hval hWt
  obtain ⟨v0, vs0, d0, ds0, p0, q0, hargs, rfl, hp0, h0, r0⟩ := trodAll_cons hA
  obtain ⟨v1, vs1, d1, ds1, p1, q1, rfl, rfl, hp1, h1, r1⟩ := trodAll_cons r0
  obtain ⟨v2, vs2, d2, ds2, p2, q2, rfl, rfl, hp2, h2, r2⟩ := trodAll_cons r1
  obtain ⟨rfl, rfl, hpe⟩ := trodAll_nil r2
  obtain rfl : args = #[v0, v1, v2] := by cases args; simp_all
  have hwt0 : (d0.weights Tryd.prog 47).all (· ≤ reachBytes) = true := List.all_eq_true.2 fun n hn => List.all_eq_true.1 hWt n (DataW.weights_mem_each (j := 0) (t := 47) (d := d0) rfl rfl n hn)
  obtain ⟨Gl, hGl⟩ := She.open_segs (hval 0 47 v0 rfl rfl) h0 hwt0
  obtain ⟨Bopen, hGopen⟩ := Vi.open_bools (hval 1 81 v1 rfl rfl) h1
  obtain ⟨Bother, hGother⟩ := Vi.open_strs (hval 2 93 v2 rfl rfl) h2
  exact walk W hT hGl hGopen hGother 

theorem over : Rows.viewHidesRow.holds Tryd.pinned (OpenSpec.ofChange Rows.viewHidesSpec) :=
  OpenClaim.holds_of_wide 9 Tryd.f9 rfl rfl rfl rfl rfl rfl rfl ⟨rfl, rfl, rfl, rfl, rfl⟩ rfl rfl rfl rfl rfl (by kernel_rfl) Tryd.func9 (by kernel_rfl)
    (of_decide_eq_true (by kernel_rfl)) (by unfold Func.isWrapper; first | (rw [if_pos (by decide +kernel)]; kernel_rfl) | (rw [if_neg (by decide +kernel)]; exact ⟨rfl, rfl⟩))
    (fun os started H enc _ => lifted os started H enc)

/-- The statement. -/
theorem proved : Rows.ViewHidesCardSaid :=
  Claim7.holds_tied_plain_at .later [] [.data, .pinned] true (true, "0353ae2d0db4c87f21033a723c8aa8ede6146840b4536422d4bfe06a1c6aab85") false over (fun _ h => by cases h) (by kernel_rfl) (fun _ h => by cases h) viewHides_row_tie rfl ⟨rfl, rfl⟩ (by kernel_rfl) rfl
    (fun f fn hf hfn => by
      obtain rfl : f = 9 := Option.some.inj ((show Tryd.prog.funcNamed Rows.viewHidesRow.func = some 9 by kernel_rfl).symm.trans hf) |>.symm
      obtain rfl : fn = Tryd.f9 := (Option.some.inj (Tryd.func9.symm.trans hfn)).symm
      exact ⟨by kernel_rfl, fun j t ht => by
        rw [Tryd.params9] at ht
        have hm : t ∈ [47, 81, 93] := by simpa using Array.mem_of_getElem? ht
        have hall : ([47, 81, 93].all fun u => !Tryd.prog.wantsStandIn u) = true := by kernel_rfl
        exact (show Tryd.prog.wantsStandIn t = false by simpa using List.all_eq_true.1 hall t hm)⟩)
    (by kernel_rfl)
#print axioms proved
end Go.Proofs.YtcpdoicbekcpeaaDoor.viewHides
