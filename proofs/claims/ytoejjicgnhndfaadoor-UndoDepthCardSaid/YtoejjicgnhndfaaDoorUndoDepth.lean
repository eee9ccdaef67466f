/- For every list of plain values and every depth: UndoDepth answers true, and its arguments read behind the call as before. No condition. THE TIED CARD: unicode/utf8's two tables start as the program's text lays them. -/
import Derived.Test.YtoejjicgnhndfaaDoorRows
import Derived.Test.YtoejjicgnhndfaaDoorTie
import Derived.Test.YtoejjicgnhndfaaDoorCards
import Derived.Test.YtoejjicgnhndfaaDoorLift
import Derived.ProofKit
import Derived.Lib.LaidU8T
import Derived.PinnedBridge
import Derived.Lay
import Derived.LaidOnce
import Derived.SevenTiedAt
import Derived.Test.YtoejjicgnhndfaaDoorUm2
import Derived.Test.YtoejjicgnhndfaaDoorUi
import Derived.Test.YtoejjicgnhndfaaDoorUo
import Derived.SizedLaws
import Derived.Deep.RegionHeld3
import Derived.Deep.RegionWith
import Derived.Deep.LoopGhost
set_option linter.unusedVariables false
namespace Go.Proofs.YtoejjicgnhndfaaDoor.undoDepth
open Go.ChangeShapes Go.WideShapes Go.ChangeAt Go.RowKit Go.Lib Go.Shelf Go.Proofs.YtoejjicgnhndfaaDoor.Lift Go.Proofs.YtoejjicgnhndfaaDoor.Rk Go.Proofs.YtoejjicgnhndfaaDoor.Rig Go.Proofs.YtoejjicgnhndfaaDoor.Und
open Go.ChangeMaps (open_string shut_string)

theorem own : ownKnob Tryd.prog.godebug = none := by kernel_rfl
theorem laidOut : laidOutB Tryd.prog = true := by kernel_rfl

def yp : U := ⟨1, 0, 3, 0, []⟩
theorem yp_good : ∀ y ∈ [yp], y.good := fun y hy => by
  simp at hy
  subst hy
  exact ⟨⟨by decide, by decide⟩, ⟨by decide, by decide⟩, ⟨by decide, by decide⟩, ⟨by decide, by decide⟩, by decide⟩
theorem yp_push : pushA [] yp 2 = [yp] := by
  unfold pushA
  rw [if_neg (by decide)]
  rfl
theorem small_len {A : List U} (h : smallU A = true) : (∀ y ∈ A, y.t.length ≤ 1073741824) ∧ A.length ≤ 60 := by
  obtain ⟨h1, h2⟩ : sumT A ≤ 2000 ∧ A.length ≤ 60 := of_decide_eq_true h
  refine ⟨fun y hy => ?_, by omega⟩
  obtain ⟨j, hj, rfl⟩ := List.getElem_of_mem hy
  have e1 := sumT_take A hj
  have e2 := sumT_le A (j + 1)
  omega
theorem us_nil {w : World} {x : Option Addr} {c : Nat} (h : c ≤ maxLen) : Us w (.slice x 0 c) [] := ⟨⟨fun _ h => by simp at h, x, c, rfl, Nat.zero_le _, h, .inl rfl⟩, fun _ h => by simp at h⟩
/-- Between two rounds. -/
structure DP (B : Nat) (W0 : World) (A : List U) (D k : Nat) (s : Value) (w' : World) : Prop where
  r : w'.heap[B]? = some (.cells #[s] 84 (0, 0))
  st : Stk w' s ((A.take k).drop (k - D))
  kb : Below W0.heap.size W0 w'
theorem DP.below {B : Nat} {W0 w w' : World} {A : List U} {D k : Nat} {s : Value} (h : DP B W0 A D k s w) (hb : Below w.heap.size w w') : DP B W0 A D k s w' := ⟨ukeep hb (urow_lt h.r) h.r, h.st.below hb, below_more h.kb hb⟩
theorem stk0 (A : List U) (D : Nat) (w : World) : Stk w (.slice none 0 0) ((A.take 0).drop (0 - D)) := by
  have e : (A.take 0).drop (0 - D) = [] := by simp
  rw [e]
  exact Rk.Rows.nil_ _ _ _
set_option maxRecDepth 100000 in
set_option maxHeartbeats 8000000 in
theorem walk (w : World) (hT : Tabs w) {v : Value} {A : List U} (h : Us w v A) (dd : Int) (hd1 : -9223372036854775808 ≤ dd) (hd2 : dd ≤ 9223372036854775807) :
    Calls Tryd.prog 12 #[v, .int .i64 dd] w fun e w' => e = .returned (.bool true) ∧ Below w.heap.size w w' := by
  have HG := Lib.hid h.2
  obtain ⟨a, cap, rfl, hcap, hmax, hel⟩ := h.open_
  obtain ⟨n, hn⟩ : ∃ n, n = A.length := ⟨_, rfl⟩
  rw [← hn] at h hcap ⊢
  have HN := Lib.hid hn
  have HE := Lib.hid hel
  have HU : Hid (∀ w', Below w.heap.size w w' → Us w' (.slice a n cap) A) := fun w' hb => h.below hb (Nat.le_refl _)
  have HT : Hid (∀ w', Below w.heap.size w w' → Tabs w') := fun w' hb => hT.below hb
  have CQ : Hid (∀ w', Calls Tryd.prog 55 #[.agg #[.slice none 0 0], .iface 95 (.agg #[.int .i64 0, .int .i64 3, .int .i64 0]), .int .i64 2] w' fun e w'' => ∃ s' o, e = .returned (.tuple #[.agg #[s'], o]) ∧ Stk w'' s' [yp] ∧ OutV w'' o (pushO [] 2) ∧ Below w'.heap.size w' w'') := fun w' => by
    have := push_any (s := .slice none 0 0) (v := putV 0 3 0) (A := []) (y := yp) 2 w' (Rk.Rows.nil_ _ _ _) (.inl ⟨rfl, rfl, rfl⟩) (by simp) (by omega) (by omega)
    rwa [yp_push] at this
  unfold maxLen at hmax
  clear h hT hn hel
  go_enter Tryd.func12, Tryd.ntmps12
  go_wp2_with fail
  refine (CQ.out _).mono ?_
  rintro e w1 ⟨s1, o1, rfl, hs1, ho1, b1⟩
  obtain ⟨sa, sc, rfl⟩ := Rk.Rows.is_slice hs1
  obtain rfl : o1 = .nilIface := by
    have : pushO [] 2 = none := by decide +kernel
    rw [this] at ho1
    exact ho1
  have K1 : Hid (Below w.heap.size w w1) := b1
  have CP1 : Hid (∀ w', Below w1.heap.size w1 w' → Calls Tryd.prog 51 #[.agg #[.slice sa [yp].length sc]] w' fun e w'' => ∃ v, e = .returned v ∧ Us w'' v [yp] ∧ Below w'.heap.size w' w'') := fun w' hb => splain_any w' (hs1.below hb) yp_good (by intro y hy; simp at hy; subst hy; decide) (by decide)
  have FB1 : Hid (∀ o, Below w1.heap.size w1 (w1.alloc o)) := fun o => (Below.refl _ _).alloc (Nat.le_refl _) o
  clear hs1 b1 ho1 CQ
  go_wp2_with fail
  refine (CP1.out _ (FB1.out _)).mono ?_
  rintro e w2 ⟨v2, rfl, hu2, b2⟩
  obtain ⟨a2, c2, rfl, _, _, _⟩ := hu2.open_
  have K2 := Lib.hid (below_more K1.out (below_more (FB1.out _) b2))
  clear hu2 b2 CP1 FB1
  simp only [List.length_cons, List.length_nil]
  go_wp2_with fail
  refine (usmall_any w2 (HU.out _ K2.out)).mono ?_
  rintro e w3 ⟨rfl, b3⟩
  have K3 := Lib.hid (below_more K2.out b3)
  clear b3
  cases hs : smallU A with
  | false =>
    go_wp2_with fail
    go_ret
    exact ⟨rfl, K3.out⟩
  | true =>
    obtain ⟨s1, s2⟩ := small_len hs
    have HS := Lib.hid s1
    have s3 : n ≤ 60 := by rw [HN.out]; exact s2
    clear s1 s2 hs
    go_wp2_with fail
    refine (uright_any w3 (HU.out _ K3.out)).mono ?_
    rintro e w4 ⟨rfl, b4⟩
    have K4 := Lib.hid (below_more K3.out b4)
    clear b4
    cases hr : rightU A with
    | false =>
      go_wp2_with fail
      go_ret
      exact ⟨rfl, K4.out⟩
    | true =>
      have HR := Lib.hid hr
      clear hr
      by_cases hlo : dd < 1
      · have e1 : decide (dd < 1) = true := decide_eq_true hlo
        go_wp2_with fail
        go_ret
        exact ⟨rfl, K4.out⟩
      have e1 : decide (dd < 1) = false := decide_eq_false hlo
      by_cases hhi : 100 < dd
      · have e2 : decide (100 < dd) = true := decide_eq_true hhi
        go_wp2_with fail
        go_ret
        exact ⟨rfl, K4.out⟩
      have e2 : decide (100 < dd) = false := decide_eq_false hhi
      obtain ⟨D, rfl⟩ := Int.eq_ofNat_of_zero_le (show 0 ≤ dd by omega)
      have hD1 : 1 ≤ D := by omega
      have hD2 : D ≤ 100 := by omega
      obtain ⟨BB, RB, LB⟩ := ubox w4 #[.slice none 0 0] 84
      obtain ⟨WB, hWB⟩ : ∃ WB, WB = w4.alloc (.cells #[.slice none 0 0] 84) := ⟨_, rfl⟩
      rw [← hWB] at BB RB LB
      have DP0 : Hid (DP w4.heap.size w4 A D 0 (.slice none 0 0) WB) := ⟨RB, stk0 A D WB, BB⟩
      have HWB := Lib.hid hWB
      clear hWB BB RB LB hlo hhi
      go_upto_region 7 with fail
      rw [← HWB.out]
      go_wp2_with fail
      go_loopg [8, 41] n (fun g o iv wr => ∃ (k : Nat) (sa : Option Addr) (sm sc : Nat), iv = .int .i64 k ∧ o = .int .i64 ((k - D : Nat) : Int) ∧ k ≤ n ∧ n - k ≤ g ∧ Hid (DP w4.heap.size w4 A D k (.slice sa sm sc) wr))
      case atStart => exact ⟨0, none, 0, 0, rfl, by simp, Nat.zero_le _, Nat.le_refl _, DP0⟩
      case round =>
        obtain ⟨k, sa, sm, sc, rfl, rfl, hk, hg, HL⟩ := hrel
        have HKW := Lib.hid (below_more K4.out HL.out.kb)
        by_cases hlt : k < n
        · have hkl : k < A.length := by rw [← HN.out]; exact hlt
          obtain ⟨b, off, rfl, hb, _, c0, c1, c2, c3, c4⟩ := HE.out k hkl
          obtain ⟨p1, p2⟩ := depth_push A hkl hD1
          have hok := rightU_at HR.out hkl
          have hyl := HS.out _ (List.getElem_mem hkl)
          have hln : ((A.take k).drop (k - D)).length ≤ 10000 := by rw [depth_len A (Nat.le_of_lt hkl)]; omega
          generalize A[k] = y at *
          have HY := Lib.hid (And.intro hok hyl)
          have HPU := Lib.hid (And.intro p1 p2)
          obtain ⟨yk, hyk⟩ : ∃ z, z = y.k := ⟨_, rfl⟩
          obtain ⟨yd, hyd⟩ : ∃ z, z = y.d := ⟨_, rfl⟩
          obtain ⟨ym, hym⟩ : ∃ z, z = y.m := ⟨_, rfl⟩
          obtain ⟨yl, hyl'⟩ : ∃ z, z = y.l := ⟨_, rfl⟩
          obtain ⟨yt, hyt⟩ : ∃ z, z = y.t := ⟨_, rfl⟩
          have EV : Hid (y.val = .agg #[.int .i64 yk, .int .i64 yd, .int .i64 ym, .int .i64 yl, .string (Let.mk yt)]) := by rw [hyk, hyd, hym, hyl', hyt]; rfl
          rw [← hyk] at c0
          rw [← hyd] at c1
          rw [← hym] at c2
          rw [← hyl'] at c3
          rw [← hyt] at c4
          replace c0 := below_cell HKW.out hb c0
          replace c1 := below_cell HKW.out hb c1
          replace c2 := below_cell HKW.out hb c2
          replace c3 := below_cell HKW.out hb c3
          replace c4 := below_cell HKW.out hb c4
          obtain ⟨B1, R1, l1⟩ := ubox wr #[.int .i64 yk, .int .i64 yd, .int .i64 ym, .int .i64 yl, .string (Let.mk yt)] 88
          obtain ⟨W1, hW1⟩ : ∃ W1, W1 = wr.alloc (.cells #[.int .i64 yk, .int .i64 yd, .int .i64 ym, .int .i64 yl, .string (Let.mk yt)] 88) := ⟨_, rfl⟩
          rw [← hW1] at B1 R1 l1
          have HL1 := Lib.hid (HL.out.below B1)
          have HW1 := Lib.hid hW1
          have HR1 := Lib.hid R1
          have K1' := Lib.hid (below_more HKW.out B1)
          have HLN := Lib.hid hln
          have FN : Hid (∀ w', Below W1.heap.size W1 w' → w'.heap[w4.heap.size]? = some (.cells #[.slice sa sm sc] 84 (0, 0))) := fun w' hb => ukeep hb (urow_lt HL1.out.r) HL1.out.r
          have DN : Hid (∀ w', Below W1.heap.size W1 w' → w'.heap[wr.heap.size]? = some (.cells #[.int .i64 yk, .int .i64 yd, .int .i64 ym, .int .i64 yl, .string (Let.mk yt)] 88 (0, 0))) := fun w' hb => ukeep hb (urow_lt HR1.out) HR1.out
          have CT : Hid (∀ w', Below W1.heap.size W1 w' → Calls Tryd.prog 56 #[.agg #[.int .i64 yk, .int .i64 yd, .int .i64 ym, .int .i64 yl, .string (Let.mk yt)]] w' fun e w'' => ∃ v, e = .returned v ∧ ThV w'' v y ∧ Below w'.heap.size w' w'') := fun w' hb => by
            have := thing_any y w' HY.out.1 HY.out.2 (HT.out _ (below_more K1'.out hb))
            rwa [EV.out] at this
          have CP : Hid (∀ w' v', Below W1.heap.size W1 w' → ThV w' v' y → Calls Tryd.prog 55 #[.agg #[.slice sa sm sc], v', .int .i64 D] w' fun e w'' => ∃ s' o, e = .returned (.tuple #[.agg #[s'], o]) ∧ Stk w'' s' (pushA ((A.take k).drop (k - D)) y D) ∧ OutV w'' o (pushO ((A.take k).drop (k - D)) D) ∧ Below w'.heap.size w' w'') := fun w' v' hb hv => push_any D w' (HL1.out.st.below hb) hv HLN.out (by omega) (by omega)
          have KS := Lib.hid (Below.refl W1.heap.size W1)
          obtain ⟨x0, x1, x2, x3, x4⟩ := u5cells (DN.out _ KS.out)
          have e0 := u1cell (FN.out _ KS.out)
          have i1 : (k : Int) < (n : Int) := by omega
          have z1 : IntKind.i64.wrap (((k - D : Nat) : Int) + 1) = ((k - D : Nat) : Int) + 1 := IntWalk.i64_in _ (by omega)
          clear hW1 B1 R1 l1 hln p1 p2 hok hyl hyk hyd hym hyl' hyt
          go_upto_region 12 with fail
          rw [← HW1.out]
          clear c0 c1 c2 c3 c4
          go_region_with (first
            | (go_at_call 56; (with_reducible refine (CT.out _ ?_).mono ?_); (focus ((repeat first | with_reducible assumption | with_reducible exact KS.out | with_reducible apply Below.drew | with_reducible apply below_drews); done)); rintro e w10 ⟨v10, rfl, hv10, b10⟩; obtain ⟨tv, uv, rfl⟩ := hv10.iface; have jj10 := fun h => below_more (B := W1.heap.size) (w := W1) h b10; replace jj10 := jj10 (by (repeat first | with_reducible assumption | with_reducible exact KS.out | with_reducible apply Below.drew | with_reducible apply below_drews)); have q10 := u1cell (FN.out _ jj10))
            | (go_at_call 55; (with_reducible refine (CP.out _ _ ?_ ?_).mono ?_); (focus ((repeat first | with_reducible assumption | with_reducible exact KS.out | with_reducible apply Below.drew | with_reducible apply below_drews); done)); (focus (first | exact hv10 | exact hv10.below (Below.refl _ _).drew (Nat.le_refl _))); rintro e w11 ⟨s11, o11, rfl, hs11, ho11, b11⟩; obtain ⟨ta, tc, rfl⟩ := Rk.Rows.is_slice hs11; obtain ⟨tm, htm⟩ : ∃ z, z = (pushA ((A.take k).drop (k - D)) y D).length := ⟨_, rfl⟩; rw [← htm] at hs11 ⊢; clear htm; have jj11 := fun h => below_more (B := W1.heap.size) (w := W1) h b11; replace jj11 := jj11 (by (repeat first | with_reducible assumption | with_reducible exact KS.out | with_reducible apply Below.drew | with_reducible apply below_drews)); have R11 := FN.out _ jj11; have m0 := u1cell R11; have f0 := ublock_frozen (j := 0) R11; have UF : Hid (DP w4.heap.size w4 A D (k + 1) (.slice ta tm tc) (w11.setCell ⟨w4.heap.size, 0, none⟩ (.slice ta tm tc))) := ⟨uset_block (i := 0) R11, by rw [← HPU.out.1]; exact hs11.set R11 (by decide), (below_more HL1.out.kb jj11).setCell (p := ⟨w4.heap.size, 0, none⟩) (Nat.le_refl _) _⟩))
          all_goals (
            have hof : (D ≤ k ∧ ∃ t u, o11 = .iface t u) ∨ (¬ D ≤ k ∧ o11 = .nilIface) := by
              have e := HPU.out.2
              by_cases hDk : D ≤ k
              · rw [decide_eq_true hDk] at e
                obtain ⟨u, hu⟩ := Option.isSome_iff_exists.1 e
                rw [hu] at ho11
                obtain ⟨t, q, e⟩ := ThV.iface ho11
                exact .inl ⟨hDk, t, q, e⟩
              · rw [decide_eq_false hDk] at e
                rw [Option.isSome_eq_false_iff.1 e |> Option.isNone_iff_eq_none.1] at ho11
                exact .inr ⟨hDk, ho11⟩
            clear ho11 hs11 e0 x0 x1 x2 x3 x4
            rcases hof with ⟨hDk, t, q, rfl⟩ | ⟨hDk, rfl⟩
            · go_wp2_with fail
              go_roundg (n - (k + 1))
              case measure => omega
              case rel =>
                refine ⟨k + 1, ta, tm, tc, by go_num, ?_, by omega, Nat.le_refl _, ?_⟩
                · rw [show ((k + 1 - D : Nat) : Int) = ((k - D : Nat) : Int) + 1 by omega]
                · first | exact UF | exact Lib.hid (UF.out.below (Below.refl _ _).drew)
            · go_wp2_with fail
              go_roundg (n - (k + 1))
              case measure => omega
              case rel =>
                refine ⟨k + 1, ta, tm, tc, by go_num, ?_, by omega, Nat.le_refl _, ?_⟩
                · rw [show ((k + 1 - D : Nat) : Int) = ((k - D : Nat) : Int) by omega]
                · first | exact UF | exact Lib.hid (UF.out.below (Below.refl _ _).drew))
        · obtain rfl : k = n := by omega
          have i1 : ¬ ((k : Int) < (k : Int)) := by omega
          have hA : A.take k = A := by rw [HN.out, List.take_length]
          have ST := HL.out.st
          rw [hA] at ST
          have ST' : Hid (∀ w', Below wr.heap.size wr w' → Stk w' (.slice sa sm sc) (A.drop (k - D))) := fun w' hb => ST.below hb
          have HKW2 : Hid (∀ w', Below wr.heap.size wr w' → Below w.heap.size w w') := fun w' hb => below_more HKW.out hb
          have CPL : Hid (∀ w', Below wr.heap.size wr w' → Calls Tryd.prog 51 #[.agg #[.slice sa sm sc]] w' fun e w'' => ∃ v, e = .returned v ∧ Us w'' v (A.drop (k - D)) ∧ Below w'.heap.size w' w'') := fun w' hb => splain_any w' (ST'.out _ hb) (fun y hy => HG.out y (List.mem_of_mem_drop hy)) (fun y hy => HS.out y (List.mem_of_mem_drop hy)) (by rw [List.length_drop, ← HN.out]; omega)
          have BZ : Hid (∀ w', Below wr.heap.size wr w' → Below wr.heap.size wr w' ∧ w'.cell? ⟨w4.heap.size, 0, none⟩ = some (.slice sa sm sc)) := fun w' hb => ⟨hb, u1cell (ukeep hb (urow_lt HL.out.r) HL.out.r)⟩
          have KS := Lib.hid (Below.refl wr.heap.size wr)
          obtain ⟨_, c0⟩ := BZ.out _ KS.out
          have i5 : k ≤ cap := hcap
          clear ST hA DP0
          by_cases hk0 : 0 < k
          · obtain ⟨m, hm⟩ : ∃ m, m = k - D := ⟨_, rfl⟩
            have hmx : max ((k : Int) - (D : Int)) 0 = (m : Int) := by omega
            have zz : IntKind.i64.wrap ((k : Int) - (D : Int)) = (k : Int) - (D : Int) := IntWalk.i64_in _ (by omega)
            have i3 : (0 : Int) ≤ (m : Int) := by omega
            have i4 : (m : Int) ≤ (k : Int) := by omega
            have i6 : (k : Int) ≤ (cap : Int) := by omega
            have i7 : ¬ (cap = m) := by omega
            have i8 : ¬ ((k : Int) < (m : Int)) := by omega
            have hmk : m < k := by omega
            obtain ⟨b, off, rfl, hb, _⟩ := HE.out 0 (by rw [← HN.out]; exact hk0)
            have HT2 : Hid (∀ w', Below w.heap.size w w' → Us w' (.slice (some ⟨b, off + m * 5, none⟩) (k - m) (cap - m)) (A.drop m)) := fun w' hb => ⟨by have := RowK.drop m (HU.out w' hb).1 hmk; rwa [← List.map_drop] at this, fun y hy => HG.out y (List.mem_of_mem_drop hy)⟩
            rw [← hm] at CPL ⊢
            clear hm
            go_upto_region 16 with fail
            go_region_held3 (fun w' => Below wr.heap.size wr w' ∧ w'.cell? ⟨w4.heap.size, 0, none⟩ = some (.slice sa sm sc))
              ((refine BZ.out _ ?_; focus ((repeat first | with_reducible assumption | with_reducible exact KS.out | with_reducible apply Below.drew | with_reducible apply below_drews); done)))
              (first
                | (go_at_call 51; (with_reducible refine (CPL.out _ ?_).mono ?_); (focus ((repeat first | with_reducible assumption | with_reducible exact KS.out | with_reducible apply Below.drew | with_reducible apply below_drews); done)); rintro e w20 ⟨v20, rfl, hu20, b20⟩; obtain ⟨a20, c20, rfl, _, _, _⟩ := hu20.open_; obtain ⟨m20, hm20⟩ : ∃ z, z = (A.drop m).length := ⟨_, rfl⟩; rw [← hm20] at hu20 ⊢; clear hm20; have jj20 := fun h => below_more (B := wr.heap.size) (w := wr) h b20; replace jj20 := jj20 (by (repeat first | with_reducible assumption | with_reducible exact KS.out | with_reducible apply Below.drew | with_reducible apply below_drews)))
                | (go_at_call 54; (with_reducible refine (usame_any _ ?_ (HT2.out _ (HKW2.out _ ?_))).mono ?_); (focus (first | exact hu20 | exact hu20.below (Below.refl _ _).drew (Nat.le_refl _))); (focus ((repeat first | with_reducible assumption | with_reducible exact KS.out | with_reducible apply Below.drew | with_reducible apply below_drews); done)); rintro e w21 ⟨rfl, b21⟩; have jj21 := fun h => below_more (B := wr.heap.size) (w := wr) h b21; replace jj21 := jj21 (by (repeat first | with_reducible assumption | with_reducible exact KS.out | with_reducible apply Below.drew | with_reducible apply below_drews))))
            all_goals go_wp2_with fail
            all_goals go_ret
            all_goals exact ⟨ret_bool (by simp), HKW2.out _ (by (repeat first | with_reducible assumption | with_reducible exact KS.out | with_reducible apply Below.drew | with_reducible apply below_drews))⟩
          · obtain rfl : k = 0 := by omega
            have hA0 : A = [] := List.eq_nil_of_length_eq_zero HN.out.symm
            subst hA0
            have hmx : max (-(D : Int)) 0 = 0 := by omega
            have zz : IntKind.i64.wrap (-(D : Int)) = -(D : Int) := IntWalk.i64_in _ (by omega)
            have hdn : ([] : List U).drop (0 - D) = [] := by simp
            rw [hdn] at CPL
            have HCM : Hid (cap ≤ maxLen) := by show _ ≤ _; unfold maxLen; exact hmax
            have hD0 : ((0 - D : Nat) : Int) = 0 := by omega
            clear hdn
            go_upto_region 16 with fail
            go_region_held3 (fun w' => Below wr.heap.size wr w' ∧ w'.cell? ⟨w4.heap.size, 0, none⟩ = some (.slice sa sm sc))
              ((refine BZ.out _ ?_; focus ((repeat first | with_reducible assumption | with_reducible exact KS.out | with_reducible apply Below.drew | with_reducible apply below_drews); done)))
              (first
                | (go_at_call 51; (with_reducible refine (CPL.out _ ?_).mono ?_); (focus ((repeat first | with_reducible assumption | with_reducible exact KS.out | with_reducible apply Below.drew | with_reducible apply below_drews); done)); rintro e w20 ⟨v20, rfl, hu20, b20⟩; obtain ⟨a20, c20, rfl, _, _, _⟩ := hu20.open_; obtain ⟨m20, hm20⟩ : ∃ z, z = ([] : List U).length := ⟨_, rfl⟩; rw [← hm20] at hu20 ⊢; clear hm20; have jj20 := fun h => below_more (B := wr.heap.size) (w := wr) h b20; replace jj20 := jj20 (by (repeat first | with_reducible assumption | with_reducible exact KS.out | with_reducible apply Below.drew | with_reducible apply below_drews)))
                | (go_at_call 54; (with_reducible refine (usame_any (A := []) _ ?_ ?_).mono ?_); (focus (first | exact hu20 | exact hu20.below (Below.refl _ _).drew (Nat.le_refl _))); (focus (exact us_nil (by have := HCM.out; omega))); rintro e w21 ⟨rfl, b21⟩; have jj21 := fun h => below_more (B := wr.heap.size) (w := wr) h b21; replace jj21 := jj21 (by (repeat first | with_reducible assumption | with_reducible exact KS.out | with_reducible apply Below.drew | with_reducible apply below_drews))))
            all_goals go_wp2_with fail
            all_goals go_ret
            all_goals exact ⟨ret_bool (by simp), HKW2.out _ (by (repeat first | with_reducible assumption | with_reducible exact KS.out | with_reducible apply Below.drew | with_reducible apply below_drews))⟩

theorem acc_eq : Rows.laid_unicode_utf8_acceptRanges = Lib.acceptData := by kernel_rfl

set_option maxRecDepth 100000 in
theorem lifted (os : Os) (started : os.Started) (H : Type) (enc : TypeId × Value → H) :
    ReturnsInHanded {} Tryd.checked os 12 .any (fun w args => (Rows.undoDepthSpec.pre enc Tryd.prog Tryd.f12 [] false w args ∧ laidMetH Tryd.prog Rows.undoDepthRow.laid w) ∧ sizedMet enc Tryd.prog Tryd.f12 (OpenSpec.ofChange Rows.undoDepthSpec) false w args) (Rows.undoDepthSpec.post enc Tryd.prog Tryd.f12 false true false false) := by
  refine returnsInHanded_of_change_and (C := Tryd.checked) (X := fun w _ => laidMetH Tryd.prog Rows.undoDepthRow.laid w) (fun _ _ _ hh h => h.of_heap hh) own started (by kernel_rfl) Tryd.func12
    (ChangeSpec.witness_shaped (enc := enc) (C := Tryd.checked) (os := os) (X := fun w _ => laidMetH Tryd.prog Rows.undoDepthRow.laid w) false (World.laidAll Tryd.prog os Rows.undoDepthRow.laid) #[.slice none 0 0, .int .i64 0] 8 (World.laidAll_os _ _ _)
      (World.shaped_of_ZipB (by kernel_rfl) (by kernel_rfl)) (by kernel_rfl) (by kernel_rfl) (by kernel_rfl)
      (by rw [MakeChecks.laidMetH_plain _ _ _ (by kernel_rfl)]; exact laidMet_laidAll _ (by kernel_rfl) (by kernel_rfl))) ?_
  intro W base args ds gs before hval0 hW _ hWt hL _
  have hval : ∀ (j : Nat) t v, Tryd.f12.params[j]? = some t → args[j]? = some v → Value.okWide Tryd.prog W .any base t v := hval0
  have hread : ∀ t ∈ Tryd.f12.params.toList, Tryd.prog.readableRec t = true ∧ t < Tryd.prog.types.size := by
    have : (Tryd.f12.params.toList.all fun t => Tryd.prog.readableRec t && decide (t < Tryd.prog.types.size)) = true := by kernel_rfl
    intro t ht
    have := List.all_eq_true.1 this t ht
    simpa using this
  rw [MakeChecks.laidMetH_plain _ _ _ (by kernel_rfl)] at hL
  have hT : Tabs W := utf8Tabs_of_readsT (U8Types.of196 Tryd.lays196) ⟨by kernel_rfl, by kernel_rfl, by kernel_rfl, by kernel_rfl, by kernel_rfl, by kernel_rfl, by kernel_rfl⟩ (Pinned.utf8First_eq ▸ Lib.laidMet.reads hL (.tail _ (.head _))) (acc_eq ▸ Lib.laidMet.reads hL (.head _))
  refine law_contract (P := Tryd.prog) (s := Rows.undoDepthSpec) (fn := Tryd.f12) (tb := 4) laidOut rfl hread rfl Tryd.underlying4 (fun W' => okWide_bool_mk Tryd.underlying4 _) ?_ hW ?_
  · intro ds hds
    rw [Tryd.params12] at hds
    match ds, hds with
    | [d0, d1], _ => rfl
  intro pl hA
  rw [Tryd.params12] at hA hval hWt
  obtain ⟨v0, vs0, d0, ds0, p0, q0, hargs, rfl, hp0, h0, r0⟩ := trodAll_cons hA
  obtain ⟨v1, vs1, d1, ds1, p1, q1, rfl, rfl, hp1, h1, r1⟩ := trodAll_cons r0
  obtain ⟨rfl, rfl, hpe⟩ := trodAll_nil r1
  obtain rfl : args = #[v0, v1] := by cases args; simp_all
  have hwt0 : (d0.weights Tryd.prog 81).all (· ≤ reachBytes) = true := List.all_eq_true.2 fun n hn => List.all_eq_true.1 hWt n (DataW.weights_mem_each (j := 0) (t := 81) (d := d0) rfl rfl n hn)
  obtain ⟨Al, hGl⟩ := Und.open_undos (hval 0 81 v0 rfl rfl) h0 hwt0
  obtain ⟨dd, rfl, rfl, _, hw1⟩ := open_int Tryd.underlying3 (hval 1 3 v1 rfl rfl) h1
  have hb1 : -9223372036854775808 ≤ dd ∧ dd ≤ 9223372036854775807 := by simpa [Lit.wf, IntKind.min, IntKind.max, IntKind.signed, IntKind.bits] using hw1
  exact walk W hT hGl dd hb1.1 hb1.2 

theorem over : Rows.undoDepthRow.holds Tryd.pinned (OpenSpec.ofChange Rows.undoDepthSpec) :=
  OpenClaim.holds_of_wide 12 Tryd.f12 rfl rfl rfl rfl rfl rfl rfl ⟨rfl, rfl, rfl, rfl, rfl⟩ rfl rfl rfl rfl rfl (by kernel_rfl) Tryd.func12 (by kernel_rfl)
    (of_decide_eq_true (by kernel_rfl)) (by unfold Func.isWrapper; first | (rw [if_pos (by decide +kernel)]; kernel_rfl) | (rw [if_neg (by decide +kernel)]; exact ⟨rfl, rfl⟩))
    (fun os started H enc _ => lifted os started H enc)

/-- The statement. -/
theorem proved : Rows.UndoDepthCardSaid :=
  Claim7.holds_tied_plain_at .later [] [.data, .pinned] true (true, "3a977cad1127ddb1e8b4d38ffec3cb5556e3c2924b6afded30eded5dffa0be69") true over (fun _ h => by cases h) (by kernel_rfl) (fun _ h => by cases h) undoDepth_row_tie rfl ⟨rfl, rfl⟩ (by kernel_rfl) rfl
    (fun f fn hf hfn => by
      obtain rfl : f = 12 := Option.some.inj ((show Tryd.prog.funcNamed Rows.undoDepthRow.func = some 12 by kernel_rfl).symm.trans hf) |>.symm
      obtain rfl : fn = Tryd.f12 := (Option.some.inj (Tryd.func12.symm.trans hfn)).symm
      exact ⟨by kernel_rfl, fun j t ht => by
        rw [Tryd.params12] at ht
        have hm : t ∈ [81, 3] := by simpa using Array.mem_of_getElem? ht
        have hall : ([81, 3].all fun u => !Tryd.prog.wantsStandIn u) = true := by kernel_rfl
        exact (show Tryd.prog.wantsStandIn t = false by simpa using List.all_eq_true.1 hall t hm)⟩)
    (by kernel_rfl)
#print axioms proved
end Go.Proofs.YtoejjicgnhndfaaDoor.undoDepth
