/- A part of the proof. -/
import Derived.Test.YtccaiippoephbaaGreatDoorWz
import Derived.Test.YtccaiippoephbaaGreatDoorWy
import Derived.Test.YtccaiippoephbaaGreatDoorShelfG
import Derived.Test.YtccaiippoephbaaGreatDoorShelfC
import Derived.Deep.LoopGhost
import Derived.Lib.SlicesCompact
import Derived.Sort.Grow
import Derived.WalkKit
import Derived.Deep.RegionHeld3
import Derived.Deep.DeepCutAuto
import Derived.Deep.CutBlock
set_option linter.unusedVariables false
set_option linter.unusedSimpArgs false
set_option maxRecDepth 100000
namespace Go.Proofs.YtccaiippoephbaaGreatDoor.She
open Go.RowKit Go.Lib Go.Proofs.YtccaiippoephbaaGreatDoor.Rk Go.Proofs.YtccaiippoephbaaGreatDoor.Rt Go.Proofs.YtccaiippoephbaaGreatDoor.Rig Go.Proofs.YtccaiippoephbaaGreatDoor.Seg
open Go.Sort (Holds putRow grow onCells mapBlock holds_putRow)
def sortI (zs : List Int) : List Int := zs.mergeSort fun x y => decide (x ≤ y)
theorem sortI_perm (zs : List Int) : (sortI zs).Perm zs := List.mergeSort_perm _ _
theorem sortI_len (zs : List Int) : (sortI zs).length = zs.length := (sortI_perm zs).length_eq
theorem sortI_pair (zs : List Int) : (sortI zs).Pairwise (· ≤ ·) := by
  have := List.pairwise_mergeSort (le := fun x y : Int => decide (x ≤ y)) (fun a b c h1 h2 => by simp at *; omega) (fun a b => by simp; omega) zs
  simpa [sortI] using this
theorem sorted_compact {zs : List Int} (h : zs.Pairwise (· ≤ ·)) : (Lib.compact zs).length = zs.length ↔ zs.Nodup := by
  have e1 : (Lib.compact zs).length = ((List.range zs.length).filter (Lib.keeps zs.toArray)).length := by simp [Lib.compact, Lib.compactUpTo]
  have e2 : (Lib.compact zs).length = zs.length ↔ ∀ j, j < zs.length → Lib.keeps zs.toArray j = true := by
    rw [e1]
    constructor
    · intro q j hj
      have := List.length_filter_eq_length_iff.1 (q.trans (List.length_range (n := zs.length)).symm)
      exact this j (List.mem_range.2 hj)
    · intro q
      rw [List.filter_eq_self.2 (fun j hj => q j (List.mem_range.1 hj)), List.length_range]
  rw [e2]
  have hk : ∀ j (hj : j < zs.length), Lib.keeps zs.toArray j = true ↔ j = 0 ∨ zs[j] ≠ zs[j - 1]'(by omega) := fun j hj => by
    unfold Lib.keeps
    rw [decide_eq_true_iff, getElem!_pos zs.toArray j (by simpa using hj), getElem!_pos zs.toArray (j - 1) (by simp; omega)]
    simp
  rw [List.pairwise_iff_getElem] at h
  unfold List.Nodup
  rw [List.pairwise_iff_getElem]
  constructor
  · intro q i j hi hj hij
    have q1 := (hk j hj).1 (q j hj)
    have q2 : zs[j] ≠ zs[j - 1]'(by omega) := by
      rcases q1 with q1 | q1
      · omega
      · exact q1
    have q3 := h (j - 1) j (by omega) hj (by omega)
    by_cases e : i = j - 1
    · subst e; exact fun e => q2 e.symm
    · have q4 := h i (j - 1) hi (by omega) (by omega)
      omega
  · intro q j hj
    rw [hk j hj]
    by_cases e : j = 0
    · exact .inl e
    · exact .inr fun e2 => q (j - 1) j (by omega) hj (by omega) e2.symm
def HoldsI (base : Nat) (w : World) (v : Value) (zs : List Int) : Prop :=
  (zs = [] ∧ ∃ a cap, v = .slice a 0 cap) ∨ ∃ g cap, v = .slice (some ⟨g, 0, none⟩) zs.length cap ∧ base ≤ g ∧ g < w.heap.size ∧ zs.length ≤ cap ∧ Holds (Value.int .i64) w g 0 zs.toArray
theorem grown_put {w : World} {g n : Nat} {os : Array Obj} (d : Array Int) : w.grownBy (grow (putRow (Value.int .i64) (Sort.ahead w n) g 0 d) os) (some g) := by
  refine ⟨rfl, rfl, rfl, ?_, fun k hk hne => ?_⟩
  · show _ ≤ (w.heap.modify g (onCells _) ++ os).size
    simp
  · show (w.heap.modify g (onCells _) ++ os)[k]? = _
    rw [Array.getElem?_append_left (by simpa using hk), Array.getElem?_modify, if_neg (fun e => hne (by rw [e]))]
theorem grown_put0 {w : World} {g n : Nat} (d : Array Int) : w.grownBy (putRow (Value.int .i64) (Sort.ahead w n) g 0 d) (some g) := by
  refine ⟨rfl, rfl, rfl, ?_, fun k hk hne => ?_⟩
  · show _ ≤ (w.heap.modify g (onCells _)).size
    simp
  · show (w.heap.modify g (onCells _))[k]? = _
    rw [Array.getElem?_modify, if_neg (fun e => hne (by rw [e]))]
theorem holds_grow {w : World} {g : Nat} {d : Array Int} {os : Array Obj} (h : Holds (Value.int .i64) w g 0 d) (hg : g < w.heap.size) : Holds (Value.int .i64) (grow w os) g 0 d := fun j hj => by
  have := h j hj
  have e : (grow w os).heap[g]? = w.heap[g]? := by
    show (w.heap ++ os)[g]? = _
    rw [Array.getElem?_append_left hg]
  exact ⟨by rw [← this.1]; unfold World.cell?; rw [e], by rw [← this.2]; unfold World.frozen?; rw [e]⟩
theorem below_of_grown {base : Nat} {w w' : World} {g : Nat} (hb : base ≤ g) (hs : base ≤ w.heap.size) (hg : w.grownBy w' (some g)) : Below base w w' :=
  (Below.refl base w).grown hg hs (fun j hj => by cases hj; exact hb)
theorem sorti_any {base : Nat} {v : Value} {zs : List Int} (w : World) (h : HoldsI base w v zs) (hs : base ≤ w.heap.size) (hl : zs.length ≤ 100000) :
    Calls Tryz.prog 88 #[v] w fun e w' => e = .returned (.tuple #[]) ∧ HoldsI base w' v (sortI zs) ∧ Below base w w' := by
  rcases h with ⟨rfl, a, cap, rfl⟩ | ⟨g, cap, rfl, hb, hg, hc, hH⟩
  · refine (AnyM.slices_Sort_int_none Tryz.sortInt a cap w).mono ?_
    rintro e w' ⟨rfl, rfl⟩
    exact ⟨rfl, .inl ⟨by simp [sortI], a, cap, rfl⟩, Below.refl _ _⟩
  · refine (AnyM.slices_Sort_int Tryz.sortInt g 0 cap zs w hH hg (by omega)).mono ?_
    rintro e w' ⟨rfl, n, os, rfl⟩
    have hl2 := sortI_len zs
    refine ⟨rfl, .inr ⟨g, cap, by rw [hl2], hb, ?_, by rw [hl2]; exact hc, ?_⟩, below_of_grown hb hs (grown_put _)⟩
    · exact Nat.lt_of_lt_of_le hg (grown_put (w := w) (g := g) (n := n) (os := os) (zs.mergeSort fun x y => decide (x ≤ y)).toArray).size
    · refine holds_grow ?_ (by simpa using hg)
      exact holds_putRow _ _ _ _ _ _ (Go.Sort.holds_ahead _ _ n _ _ _ hH) (by simp [sortI])
theorem compacti_any {base : Nat} {v : Value} {zs : List Int} (w : World) (h : HoldsI base w v zs) (hs : base ≤ w.heap.size) (hl : zs.length ≤ 100000) :
    Calls Tryz.prog 89 #[v] w fun e w' => ∃ a cap, e = .returned (.slice a (Lib.compact zs).length cap) ∧ Below base w w' := by
  rcases h with ⟨rfl, a, cap, rfl⟩ | ⟨g, cap, rfl, hb, hg, hc, hH⟩
  · refine (Any.slices_Compact_int_empty Tryz.cpInt a cap w).mono ?_
    rintro e w' ⟨rfl, rfl⟩
    exact ⟨a, cap, rfl, Below.refl _ _⟩
  · refine (Any.slices_Compact_int Tryz.cpInt g 0 cap zs w hH (by omega) hc).mono ?_
    rintro e w' ⟨rfl, n, rfl⟩
    exact ⟨_, cap, rfl, below_of_grown hb hs (grown_put0 _)⟩
theorem flat_ints : ∀ zs : List Int, (zs.map fun x => [Value.int .i64 x]).flatten = zs.map (Value.int .i64)
  | [] => rfl
  | x :: r => by rw [List.map_cons, List.flatten_cons, flat_ints r]; rfl
theorem own_holdsI {base : Nat} {w : World} {v : Value} {zs : List Int} (h : OwnK 3 1 base w v (zs.map fun x => [Value.int .i64 x])) : HoldsI base w v zs := by
  have hf := flat_ints zs
  rcases h.2.2 with ⟨rfl, h1⟩ | ⟨g, cap, cur, rfl, hb, hg, hle, hm, hsz, htake⟩
  · refine .inl ⟨List.eq_nil_of_length_eq_zero (by simpa using h1), none, 0, rfl⟩
  · rw [List.length_map] at hle
    refine .inr ⟨g, cap, by rw [List.length_map], hb, (Array.getElem?_eq_some_iff.1 hg).1, hle, fun j hj => ?_⟩
    have hj' : j < zs.length := by simpa using hj
    have hc := World.ownsRow.cells h.2 (g := g) rfl j (.int .i64 zs[j]) (by rw [hf, List.getElem?_map, List.getElem?_eq_getElem hj']; rfl)
    rw [kadd, Nat.zero_add] at hc
    refine ⟨?_, World.ownsRow.frozenAt h.2 _⟩
    rw [Nat.zero_add, hc, getElem!_pos zs.toArray j hj]
    simp
def GiveU (G : List G5) (w : World) (e : Ending) (w' : World) : Prop := e = .returned (.bool (decide (G.map G5.i).Nodup)) ∧ Below w.heap.size w w'
theorem infoInt1 : (Tryz.prog.info? 3).map (fun i => (i.zero, i.size, i.bytes)) = some (some (.int .i64 0), 1, 8) := by kernel_rfl
set_option maxHeartbeats 8000000 in
theorem unlike_any {s : Value} {G : List G5} (w : World) (h : Sgs w s G) (hn : G.length ≤ 10000) : Calls Tryz.prog 62 #[s] w (GiveU G w) := by
  obtain ⟨sa, sc, rfl⟩ := Rk.Rows.is_slice h
  obtain ⟨_, hcap, hmax⟩ := Rk.Rows.len h
  obtain ⟨n, hnG⟩ : ∃ n, n = G.length := ⟨_, rfl⟩
  have HR : Hid (∀ w', Below w.heap.size w w' → Sgs w' (.slice sa n sc) G) := fun w' hb => by rw [hnG]; exact h.below hb
  rw [← hnG] at hcap hn ⊢
  unfold maxLen at hmax
  have HN := Lib.hid hnG
  clear h hnG
  go_enter Tryz.func62, Tryz.ntmps62
  go_wp2_with fail
  go_loopg [3, 8] n (fun g t i wr => ∃ k : Nat, k ≤ n ∧ n - k ≤ g ∧ i = .int .i64 k ∧ Hid (OwnK 3 1 w.heap.size wr t (((G.take k).map G5.i).map fun x => [Value.int .i64 x])) ∧ Below w.heap.size w wr)
  case atStart => exact ⟨0, Nat.zero_le _, by omega, rfl, OwnK.nil_ _ _ _ _, Below.refl _ _⟩
  case round =>
    obtain ⟨k, hk, hg, rfl, HO, hbel⟩ := hrel
    have HB := Lib.hid hbel
    by_cases hlt : k < n
    · have hkl : k < G.length := by rw [← HN.out]; exact hlt
      obtain ⟨b, off, q, a1, d1, a2, d2, rfl, hb, hv, c0, c1, c2, c3, c4⟩ := (HR.out _ hbel).get hkl
      have EQ : Hid ((((G.take (k + 1)).map G5.i).map fun x => [Value.int .i64 x]) = (((G.take k).map G5.i).map fun x => [Value.int .i64 x]) ++ [[Value.int .i64 G[k].i]]) := by
        show _ = _
        rw [List.take_succ_eq_append_getElem hkl, List.map_append, List.map_append]; rfl
      have RL : Hid ((((G.take k).map G5.i).map fun x => [Value.int .i64 x]).length = k) := by show _ = _; rw [List.length_map, List.length_map, List.length_take]; omega
      generalize G[k] = y at *
      obtain ⟨yi, yl, yL, yS, yT⟩ := y
      simp only at c0 c1 c2 c3 c4 hv EQ
      generalize (((G.take k).map G5.i).map fun x => [Value.int .i64 x]) = R at *
      obtain ⟨B1, R1, L1⟩ := box1 wr #[.int .i64 yi, .int .i64 yl, .pointer q, .slice a1 yS.length d1, .slice a2 yT.length d2] 119
      have CI : Hid (∀ w', Below wr.heap.size wr w' → Calls Tryz.prog 87 #[.agg #[.int .i64 yi, .int .i64 yl, .pointer q, .slice a1 yS.length d1, .slice a2 yT.length d2]] w' fun e w'' => e = .returned (.int .i64 yi) ∧ Below w'.heap.size w' w'') := fun w' hb => id_any w' (hv.below hb (Nat.le_refl _))
      generalize yS.length = n1 at *
      generalize yT.length = n2 at *
      obtain ⟨W1, hW1⟩ : ∃ W1, W1 = wr.alloc (.cells #[.int .i64 yi, .int .i64 yl, .pointer q, .slice a1 n1 d1, .slice a2 n2 d2] 119) := ⟨_, rfl⟩
      rw [← hW1] at B1 R1 L1
      have HW1 := Lib.hid hW1
      have HB1 := Lib.hid B1
      have HC1 := Lib.hid (below_more HB.out B1)
      have HO1 := Lib.hid (HO.out.below B1)
      obtain ⟨d0, d1', d2', d3', d4'⟩ := five_cells R1
      have i1 : (k : Int) < (n : Int) := by omega
      obtain ⟨ao, co, rfl⟩ := HO.out.is_slice
      clear hbel hv hW1 B1 R1 L1 HO
      go_upto_region 5 with fail
      rw [← HW1.out]
      clear c0 c1 c2 c3 c4
      go_wp2_with fail
      refine (CI.out _ HB1.out).mono ?_
      rintro e w1 ⟨rfl, b1⟩
      have A1 : Hid (OwnK 3 1 w.heap.size (w1.alloc (.cells #[.int .i64 yi] 3)) (.slice ao R.length co) R) := (HO1.out.below b1).below ((Below.refl _ _).alloc (Nat.le_refl _) _)
      have A2 : Hid (Rk.RowK 1 (w1.alloc (.cells #[.int .i64 yi] 3)) (.slice (some ⟨w1.heap.size, 0, none⟩) 1 1) [[.int .i64 yi]]) := Rk.row_one (e := 3) (heap_alloc_new _ _) rfl
      have HBY : Hid (Below w.heap.size w (w1.alloc (.cells #[.int .i64 yi] 3))) := (below_more HC1.out b1).alloc (Nat.le_trans HC1.out.size b1.size) _
      have A4 : Hid (w.heap.size ≤ (w1.alloc (.cells #[.int .i64 yi] 3)).heap.size) := HBY.out.size
      have A3 : Hid (R.length + 1 ≤ 100000) := by show _ ≤ _; rw [RL.out]; omega
      have HYO : Hid (∀ y ∈ [[Value.int .i64 yi]], ∀ q ∈ y, q.oneCell' = true) := fun y hy q hq => by simp at hy; subst hy; simp at hq; subst hq; rfl
      clear b1 d0 d1' d2' d3' d4'
      go_wp2_with (at_builtin; refine wpList_append_rowk rfl _ _ 43 3 1 8 _ Tryz.underlying43 infoInt1 rfl (by decide) (by decide) rfl w.heap.size _ _ R [[.int .i64 yi]] rfl rfl A1.out A2.out HYO.out A3.out A4.out ?_)
      intro v6 w6 h5 g5 _
      have K6 : Hid (OwnK 3 1 w.heap.size w6 v6 (((G.take (k + 1)).map G5.i).map fun x => [Value.int .i64 x])) := by show OwnK _ _ _ _ _ _; rw [EQ.out]; exact h5
      obtain ⟨a6, c6, rfl⟩ := K6.out.is_slice
      have HB6 := Lib.hid (A1.out.belowOf HBY.out (Nat.le_refl _) A4.out g5)
      clear h5 g5 A1 A2 A3 A4 HBY EQ
      go_wp2_with fail
      go_roundg (n - (k + 1))
      case measure => omega
      case rel => exact ⟨k + 1, by omega, Nat.le_refl _, by go_num, K6.out, HB6.out⟩
    · obtain rfl : k = n := by omega
      have i1 : ¬ ((k : Int) < (k : Int)) := by omega
      have et : G.take k = G := by rw [HN.out, List.take_length]
      rw [et] at HO
      obtain ⟨ao, co, rfl⟩ := HO.out.is_slice
      have HH := own_holdsI HO.out
      obtain ⟨zs, hzs⟩ : ∃ zs, zs = G.map G5.i := ⟨_, rfl⟩
      have hzl : zs.length = k := by rw [hzs, List.length_map, HN.out]
      rw [← hzs] at HH HO ⊢
      rw [show (zs.map fun x => [Value.int .i64 x]).length = k by rw [List.length_map, hzl]] at HH ⊢
      have CS := sorti_any wr HH HB.out.size (by omega)
      have HF : Hid (∀ w', Below w.heap.size wr w' → Below w.heap.size w w') := fun w' hb => HB.out.trans hb
      have HZL := Lib.hid hzl
      have HGU : Hid (decide (G.map G5.i).Nodup = decide zs.Nodup) := by show _ = _; rw [hzs]
      clear hbel HO HR hzs HH hzl et
      go_wp2_with fail
      refine CS.mono ?_
      rintro e w1 ⟨rfl, h1, b1⟩
      have CC := compacti_any w1 h1 (Nat.le_trans HB.out.size b1.size) (by rw [sortI_len, HZL.out]; omega)
      have HB1 := Lib.hid b1
      clear h1 b1 CS
      go_wp2_with fail
      refine CC.mono ?_
      rintro e w2 ⟨a2, c2, rfl, b2⟩
      have HB2 := Lib.hid (HF.out _ (HB1.out.trans b2))
      have hcl := sorted_compact (sortI_pair zs)
      rw [sortI_len, HZL.out, (sortI_perm zs).nodup_iff] at hcl
      clear b2 CC
      generalize (Lib.compact (sortI zs)).length = m at *
      by_cases hnd : zs.Nodup
      · have hm := hcl.2 hnd
        subst hm
        have HND := Lib.hid hnd
        clear hcl hnd
        go_wp2_with fail
        go_ret
        exact ⟨by rw [HGU.out, decide_eq_true HND.out]; simp, HB2.out⟩
      · have hm : ¬ m = k := fun e => hnd (hcl.1 e)
        have j1 : ((m : Int) == (k : Int)) = false := by simp; omega
        have j2 : (m == k) = false := by simp [hm]
        have HND := Lib.hid hnd
        clear hcl hnd
        go_wp2_with fail
        go_ret
        exact ⟨by rw [HGU.out, decide_eq_false HND.out]; simp [hm], HB2.out⟩
end Go.Proofs.YtccaiippoephbaaGreatDoor.She
namespace Go.Proofs.YtccaiippoephbaaGreatDoor.She
open Go.RowKit Go.Lib Go.Shelf Go.Proofs.YtccaiippoephbaaGreatDoor.Rk Go.Proofs.YtccaiippoephbaaGreatDoor.Rt Go.Proofs.YtccaiippoephbaaGreatDoor.Rig Go.Proofs.YtccaiippoephbaaGreatDoor.Seg
structure C5 where
  i : Int
  l : Int
  q : Option Addr
  a1 : Option Addr
  n1 : Nat
  c1 : Nat
  a2 : Option Addr
  n2 : Nat
  c2 : Nat
deriving Inhabited
def C5.enc (x : C5) : List Value := [.int .i64 x.i, .int .i64 x.l, .pointer x.q, .slice x.a1 x.n1 x.c1, .slice x.a2 x.n2 x.c2]
end Go.Proofs.YtccaiippoephbaaGreatDoor.She
namespace Go.Proofs.YtccaiippoephbaaGreatDoor.She
open Go.RowKit Go.Lib Go.Shelf Go.Proofs.YtccaiippoephbaaGreatDoor.Rk Go.Proofs.YtccaiippoephbaaGreatDoor.Rt Go.Proofs.YtccaiippoephbaaGreatDoor.Rig Go.Proofs.YtccaiippoephbaaGreatDoor.Seg
def G5.ok (g : G5) : Prop := (∀ s ∈ g.T, 0 < s.m) ∧ g.L.length ≤ 10000 ∧ g.S.length ≤ 10000 ∧ g.T.length ≤ 10000
end Go.Proofs.YtccaiippoephbaaGreatDoor.She
