/- Sheets: Fork and With of the program and of the plain text. -/
import Derived.Test.YtcpdoicbekcpeaaDoorHs
import Derived.Test.YtcpdoicbekcpeaaDoorW
import Derived.Test.YtcpdoicbekcpeaaDoorSp
set_option linter.unusedVariables false
set_option linter.unusedSimpArgs false
set_option maxRecDepth 100000
namespace Go.Proofs.YtcpdoicbekcpeaaDoor.She
open Go.RowKit Go.Lib Go.Shelf Go.Proofs.YtcpdoicbekcpeaaDoor.Rk Go.Proofs.YtcpdoicbekcpeaaDoor.Rt Go.Proofs.YtcpdoicbekcpeaaDoor.Rig Go.Proofs.YtcpdoicbekcpeaaDoor.Seg

/-- Twins, of Ids one behind the other. -/
def forkG (G : List G5) (a : Int) : List G5 := G.mapIdx fun j g => ⟨a + j, g.l, g.L, [], []⟩
theorem fork_len (G : List G5) (a : Int) : (forkG G a).length = G.length := by simp [forkG]
theorem fork_get (G : List G5) (a : Int) {k : Nat} (hk : k < G.length) : (forkG G a)[k]'(by rw [fork_len]; exact hk) = ⟨a + k, G[k].l, G[k].L, [], []⟩ := by simp [forkG]
theorem fork_take (G : List G5) (a : Int) {k : Nat} (hk : k < G.length) : (forkG G a).take (k + 1) = (forkG G a).take k ++ [⟨a + k, G[k].l, G[k].L, [], []⟩] := by
  rw [List.take_succ_eq_append_getElem (by rw [fork_len]; exact hk), fork_get G a hk]
def GiveSh' (f : Bool) (G : List G5) (w : World) (e : Ending) (w' : World) : Prop := ∃ v, e = .returned v ∧ Sh w' v f G ∧ Below w.heap.size w w'
theorem give_fork {f : Bool} {F : List G5} {w w' : World} {s : Value} (hs : Sgs w' s F) (hb : Below w.heap.size w w') : GiveSh' f F w (.returned (.agg #[.bool f, s])) w' := ⟨_, rfl, ⟨_, rfl, hs⟩, hb⟩
set_option maxHeartbeats 16000000 in
theorem sfork_any {v : Value} {f : Bool} {G : List G5} (fz : Bool) (a : Int) (w : World) (h : Sh w v f G) (a0 : -1099511627776 ≤ a) (a1 : a ≤ 1099511627776) (hn : G.length ≤ 10000) : Calls Tryd.prog 43 #[v, .int .i64 a, .bool fz] w (GiveSh' fz (forkG G a) w) := by
  obtain ⟨sa, sc, rfl, hs⟩ := h.open_
  obtain ⟨_, hcap, hmax⟩ := Rk.Rows.len hs
  obtain ⟨n, hnG⟩ : ∃ n, n = G.length := ⟨_, rfl⟩
  have HR : Hid (∀ w', Below w.heap.size w w' → Sgs w' (.slice sa n sc) G) := fun w' hb => by rw [hnG]; exact hs.below hb
  rw [← hnG] at hcap hn ⊢
  unfold maxLen at hmax
  have HN := Lib.hid hnG
  obtain ⟨B0, R0, R1, L0⟩ := box2 w #[.bool f, .slice sa n sc] #[.bool false, .slice none 0 0] 50 50
  obtain ⟨W0, hW0⟩ : ∃ W0, W0 = (w.alloc (.cells #[.bool f, .slice sa n sc] 50)).alloc (.cells #[.bool false, .slice none 0 0] 50) := ⟨_, rfl⟩
  rw [← hW0] at B0 R0 R1 L0
  obtain ⟨d0, d1, _, _⟩ := two_cells R0
  have HB0 := Lib.hid B0
  have HW0 := Lib.hid hW0
  have HR1 := Lib.hid R1
  have HL0 : Hid (w.heap.size + 1 < W0.heap.size) := by show _ < _; omega
  clear h hs hnG hW0 B0 R0 R1 L0
  go_enter Tryd.func43, Tryd.ntmps43
  go_upto_region 1 with fail
  rw [← HW0.out]
  go_wp2_with fail
  go_loopg [7, 13] n (fun g t i wr => ∃ k : Nat, k ≤ n ∧ n - k ≤ g ∧ i = .int .i64 k ∧ Hid (OSg W0.heap.size wr t ((forkG G a).take k)) ∧ Below W0.heap.size W0 wr)
  case atStart => exact ⟨0, Nat.zero_le _, by omega, rfl, OSg.nil_ _ _, Below.refl _ _⟩
  case round =>
    obtain ⟨k, hk, hg, rfl, HO, hbel⟩ := hrel
    have HB := Lib.hid hbel
    have HBw := Lib.hid (below_more HB0.out hbel)
    by_cases hlt : k < n
    · have hkl : k < G.length := by rw [← HN.out]; exact hlt
      obtain ⟨b, off, q, a1', e1, a2, e2, rfl, hb, hv, c0, c1, c2, c3, c4⟩ := (HR.out _ HBw.out).get hkl
      have EQ := Lib.hid (fork_take G a hkl)
      have RL : Hid (((forkG G a).take k).length = k) := by show _ = _; rw [List.length_take, fork_len]; omega
      generalize G[k] = y at *
      obtain ⟨yi, yl, yL, yS, yT⟩ := y
      simp only at c0 c1 c2 c3 c4 hv EQ
      obtain ⟨B1, R1, L1⟩ := box1 wr #[.int .i64 yi, .int .i64 yl, .pointer q, .slice a1' yS.length e1, .slice a2 yT.length e2] 33
      have CP : Hid (∀ w', Below wr.heap.size wr w' → Calls Tryd.prog 86 #[.agg #[.int .i64 yi, .int .i64 yl, .pointer q, .slice a1' yS.length e1, .slice a2 yT.length e2], .int .i64 (a + k)] w' (GiveSg w' (a + k) yl yL [] [])) := fun w' hb => twin_any _ w' (hv.below hb (Nat.le_refl _))
      generalize yS.length = n1 at *
      generalize yT.length = n2 at *
      obtain ⟨W1, hW1⟩ : ∃ W1, W1 = wr.alloc (.cells #[.int .i64 yi, .int .i64 yl, .pointer q, .slice a1' n1 e1, .slice a2 n2 e2] 33) := ⟨_, rfl⟩
      rw [← hW1] at B1 R1 L1
      have HW1 := Lib.hid hW1
      have HB1 := Lib.hid B1
      have HC1 := Lib.hid (below_more HB.out B1)
      have HO1 := Lib.hid (HO.out.below B1)
      obtain ⟨d0, d1', d2', d3', d4'⟩ := five_cells R1
      have i1 : (k : Int) < (n : Int) := by omega
      have z1 : IntKind.i64.wrap (a + (k : Int)) = a + (k : Int) := IntWalk.i64_in _ (by omega)
      obtain ⟨ao, co, rfl⟩ := HO.out.is_slice
      rw [RL.out] at HO1 ⊢
      clear hbel hv hW1 B1 R1 L1 HO
      go_upto_region 5 with fail
      rw [← HW1.out]
      clear c0 c1 c2 c3 c4
      go_wp2_with fail
      refine (CP.out _ HB1.out).mono ?_
      rintro e w1 ⟨u, rfl, hu, b1⟩
      obtain ⟨q3, a3, c3, a4, c4, rfl, hu1, hu3, hu4⟩ := hu.open_
      have HU : Hid (SgP (w1.alloc (.cells #[.int .i64 (a + k), .int .i64 yl, .pointer q3, .slice a3 0 c3, .slice a4 0 c4] 33)) [.int .i64 (a + k), .int .i64 yl, .pointer q3, .slice a3 0 c3, .slice a4 0 c4] ⟨a + k, yl, yL, [], []⟩) :=
        ⟨⟨_, _, _, rfl, hu.below ((Below.refl _ _).alloc (Nat.le_refl _) _) (Nat.le_refl _)⟩, by simp⟩
      obtain ⟨xs, hxl, A1, K0⟩ := ((HO1.out.below b1).below ((Below.refl _ _).alloc (Nat.le_refl _) (.cells #[.int .i64 (a + k), .int .i64 yl, .pointer q3, .slice a3 0 c3, .slice a4 0 c4] 33))).row
      replace A1 := Lib.hid A1
      have K := Lib.hid K0
      have A2 : Hid (Rk.RowK 5 (w1.alloc (.cells #[.int .i64 (a + k), .int .i64 yl, .pointer q3, .slice a3 0 c3, .slice a4 0 c4] 33)) (.slice (some ⟨w1.heap.size, 0, none⟩) 1 1) [[.int .i64 (a + k), .int .i64 yl, .pointer q3, .slice a3 0 c3, .slice a4 0 c4]]) := Rk.row_one (e := 33) (heap_alloc_new _ _) rfl
      have HBY : Hid (Below W0.heap.size W0 (w1.alloc (.cells #[.int .i64 (a + k), .int .i64 yl, .pointer q3, .slice a3 0 c3, .slice a4 0 c4] 33))) := (below_more HC1.out b1).alloc (Nat.le_trans HC1.out.size b1.size) _
      have A4 : Hid (W0.heap.size ≤ (w1.alloc (.cells #[.int .i64 (a + k), .int .i64 yl, .pointer q3, .slice a3 0 c3, .slice a4 0 c4] 33)).heap.size) := HBY.out.size
      have hxk : xs.length = k := by rw [hxl, RL.out]
      have A3 : Hid (xs.length + 1 ≤ 100000) := by show _ ≤ _; rw [hxk]; omega
      have HYO : Hid (∀ y ∈ [[Value.int .i64 (a + k), .int .i64 yl, .pointer q3, .slice a3 0 c3, .slice a4 0 c4]], Five y) := fun y hy => by
        simp only [List.mem_singleton] at hy
        subst hy
        exact SgC.five HU.out.1
      clear b1 hu hu1 hu3 hu4 K0 hxl d0 d1' d2' d3' d4'
      go_wp2_with (at_builtin; refine wpList_append_five rfl _ _ 48 33 72 _ Tryd.underlying48 infoSeg rfl rfl rfl znSeg (by decide) rfl W0.heap.size _ _ xs _ rfl rfl A1.out A2.out HYO.out A3.out A4.out ?_)
      intro v6 w6 h5 g5 k5
      have K6 : Hid (OSg W0.heap.size w6 v6 ((forkG G a).take (k + 1))) := by show OSg _ _ _ _; rw [EQ.out]; exact K.out _ _ _ _ h5 g5 (by first | exact k5 | (rw [hxk]; exact k5)) HU.out
      obtain ⟨a6, c6, rfl⟩ := K6.out.is_slice
      have HB6 := Lib.hid (A1.out.own.belowOf HBY.out (Nat.le_refl _) A4.out g5)
      clear h5 g5 k5 A1 A2 A3 A4 HBY EQ K HU
      go_wp2_with fail
      go_roundg (n - (k + 1))
      case measure => omega
      case rel => exact ⟨k + 1, by omega, Nat.le_refl _, by go_num, K6.out, HB6.out⟩
    · obtain rfl : k = n := by omega
      have i1 : ¬ ((k : Int) < (k : Int)) := by omega
      have et : (forkG G a).take k = forkG G a := by rw [HN.out, ← fork_len G a, List.take_length]
      rw [et] at HO
      obtain ⟨ao, co, rfl⟩ := HO.out.is_slice
      have hl : (forkG G a).length = k := by rw [fork_len, HN.out]
      rw [hl] at HO ⊢
      have Z := (HB.out.block _ HL0.out).trans HR1.out
      obtain ⟨s0, s1, f0, f1⟩ := two_cells Z
      have y := two_cells (two_put (u := .bool fz) (v := .slice ao k co) Z)
      obtain ⟨y0, y1, _, _⟩ := y
      have FIN := Lib.hid (give_fork (f := fz) (OSg.two (u1 := .bool fz) (u2 := .slice ao k co) HO.out HL0.out Z (by decide) (fun z h => by cases h) (fun z h => by cases h)) (below_put (below_put HBw.out (Nat.le_succ _) (.bool fz) (j := 0)) (Nat.le_succ _) (.slice ao k co) (j := 1)))
      clear hbel HO HR et hl Z
      go_wp2_with fail
      exact bodyPost_ret (v := .agg #[.bool fz, .slice ao k co]) (by simp [results, Tryd.results43, go_sem, y0, y1]) rfl FIN.out
end Go.Proofs.YtcpdoicbekcpeaaDoor.She
