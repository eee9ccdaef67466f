/- slices.Concat at segments: Grow of nothing; rows, one behind the other. -/
import Derived.Test.YtcpdoicbekcpeaaDoorRk
import Derived.Test.YtcpdoicbekcpeaaDoorQA2
import Derived.Test.YtcpdoicbekcpeaaDoorShelfG
import Derived.Deep.LoopGhost
set_option linter.unusedVariables false
set_option maxRecDepth 100000
namespace Go.Proofs.YtcpdoicbekcpeaaDoor.Cg
open Go.RowKit Go.Lib Go.Proofs.YtcpdoicbekcpeaaDoor.Rk Go.Proofs.YtcpdoicbekcpeaaDoor.Rig

theorem infoE : (Tryd.prog.info? 33).map (fun i => (i.zero, i.size, i.bytes)) = some (some (.agg #[.int .i64 0, .int .i64 0, .pointer none, .slice none 0 0, .slice none 0 0]), 5, 72) := by kernel_rfl
theorem grow_any (n : Nat) (w : World) (hn : n ≤ 100000) : Calls Tryd.prog 113 #[.slice none 0 0, .int .i64 n] w fun e w' => ∃ s, e = .returned s ∧ OwnK 33 5 w.heap.size w' s [] ∧ Below w.heap.size w w' := by
  by_cases h0 : n = 0
  · subst h0
    have := Any8.slices_Grow_room Tryd.growSeg none 0 0 0 w (Nat.le_refl _) (by omega) (by omega) (by omega)
    change Calls Tryd.prog 113 _ _ _ at this
    refine this.mono ?_
    rintro e w' ⟨rfl, rfl⟩
    exact ⟨_, rfl, OwnK.nil_ _ _ _ _, Below.refl _ _⟩
  · obtain ⟨i0, hi, hz0, hz1, hz2⟩ := kparts infoE
    have := Any8.slices_Grow_grow Tryd.growSeg i0 (.agg #[.int .i64 0, .int .i64 0, .pointer none, .slice none 0 0, .slice none 0 0]) hi hz0 (by rw [hz1]; omega) none 0 0 n [] w (Nat.le_refl _) (by omega) (by rw [hz2]; omega) (by omega) (by rw [hz1]; rfl) (fun _ => rfl) (fun a h => by cases h)
    change Calls Tryd.prog 113 _ _ _ at this
    refine this.mono ?_
    rintro e w' ⟨rfl, rfl⟩
    have hge := grownCap_ge w (0 + n) 0 33
    have hle := grownCap_le_maxLen w (0 + n) 0 33 (by unfold maxLen; omega)
    refine ⟨_, rfl, ⟨fun _ h => by simp at h, ?_⟩, ?_⟩
    · refine World.ownsRow_made w.drew _ _ (Nat.le_refl _) hle ?_
      show _ = grownCap w (0 + n) 0 33 * 5
      have hz : (Builtin.zeroCells ((.agg #[.int .i64 0, .int .i64 0, .pointer none, .slice none 0 0, .slice none 0 0]) : Value).cells n).size = n * 5 := by rw [size_zeroCells]; rfl
      simp only [Array.size_append, size_zeroCells, List.size_toArray, List.length_nil]
      have hc : ((.agg #[.int .i64 0, .int .i64 0, .pointer none, .slice none 0 0, .slice none 0 0]) : Value).cells.size = 5 := rfl
      rw [hc, show Tryd.growSeg_ren.t 25 = 33 from rfl]
      omega
    · exact ((Below.refl _ _).drew).alloc (Nat.le_refl _) _

theorem sum_take_map (l : List Nat) {j : Nat} (h : j < l.length) : (l.take (j + 1)).sum = (l.take j).sum + l[j] := by
  rw [List.take_succ_eq_append_getElem h, List.sum_append]
  simp
theorem sum_take_le (l : List Nat) (j : Nat) : (l.take j).sum ≤ l.sum := by
  conv => rhs; rw [← List.take_append_drop j l]
  rw [List.sum_append]
  omega

set_option maxHeartbeats 4000000 in
/-- Rows, one behind the other: a row of the call's own. -/
theorem concat_any {v : Value} (Rs : List (Value × List (List Value))) (w : World) (hv : RowK 1 w v (Rs.map fun r => [r.1])) (hr : ∀ r ∈ Rs, RowK 5 w r.1 r.2) (ho : ∀ r ∈ Rs, ∀ x ∈ r.2, ∀ q ∈ x, q.oneCell' = true) (hn : (Rs.map fun r => r.2.length).sum ≤ 50000) :
    Calls Tryd.prog 85 #[v] w fun e w' => ∃ s, e = .returned s ∧ OwnK 33 5 w.heap.size w' s (Rs.map Prod.snd).flatten ∧ Below w.heap.size w w' := by
  obtain ⟨hv0, a, cap, rfl, hcap, hmax, hcell⟩ := hv
  rw [List.length_map] at hcap ⊢
  obtain ⟨n, hnR⟩ : ∃ n, n = Rs.length := ⟨_, rfl⟩
  rw [← hnR] at hcap ⊢
  unfold maxLen at hmax
  have HN := Lib.hid hnR
  have HE : Hid (∀ j (h : j < Rs.length), ∃ b off, a = some ⟨b, off, none⟩ ∧ b < w.heap.size ∧ w.cell? ⟨b, off + j, none⟩ = some Rs[j].1) := fun j hj => by
    rcases hcell with h0 | ⟨b, off, e1, hb, hc⟩
    · have : Rs.length = 0 := by rw [← List.length_map (f := fun r : Value × List (List Value) => [r.1]), h0]; rfl
      omega
    · have := hc j (by rw [List.length_map]; exact hj) 0 Rs[j].1 (by rw [List.getElem_map]; rfl)
      rw [Nat.mul_one, Nat.add_zero] at this
      exact ⟨b, off, e1, hb, this⟩
  have HR : Hid (∀ j (h : j < Rs.length), RowK 5 w Rs[j].1 Rs[j].2 ∧ ∀ x ∈ Rs[j].2, ∀ q ∈ x, q.oneCell' = true) := fun j hj => ⟨hr _ (List.getElem_mem hj), ho _ (List.getElem_mem hj)⟩
  have HS : Hid ((Rs.map fun r => r.2.length).sum ≤ 50000) := hn
  have HST : Hid (∀ j (h : j < Rs.length), ((Rs.map fun r => r.2.length).take (j + 1)).sum = ((Rs.map fun r => r.2.length).take j).sum + Rs[j].2.length ∧ ((Rs.map fun r => r.2.length).take (j + 1)).sum ≤ 50000) := fun j hj => by
    have e1 := sum_take_map (Rs.map fun r => r.2.length) (j := j) (by rw [List.length_map]; exact hj)
    rw [List.getElem_map] at e1
    exact ⟨e1, Nat.le_trans (sum_take_le _ _) hn⟩
  have HFT : Hid (∀ j (h : j < Rs.length), ((Rs.take (j + 1)).map Prod.snd).flatten = ((Rs.take j).map Prod.snd).flatten ++ Rs[j].2) := fun j hj => by
    rw [List.take_succ_eq_append_getElem hj, List.map_append, List.flatten_append]
    simp
  have HFL : Hid (∀ j, (((Rs.take j).map Prod.snd).flatten).length = ((Rs.map fun r => r.2.length).take j).sum) := fun j => by
    rw [List.length_flatten, List.map_map, List.map_take]
    rfl
  have CG : Hid (∀ m : Nat, m ≤ 50000 → ∀ w', Calls Tryd.prog 113 #[.slice none 0 0, .int .i64 m] w' fun e w'' => ∃ s, e = .returned s ∧ OwnK 33 5 w'.heap.size w'' s [] ∧ Below w'.heap.size w' w'') := fun m hm w' => grow_any m w' (by omega)
  clear hv0 hcell hr ho hn hnR
  go_enter Tryd.func85, Tryd.ntmps85
  go_wp2_with fail
  go_loopg [3, 11] n (fun g s i wr => ∃ j : Nat, j ≤ n ∧ n - j ≤ g ∧ i = .int .i64 j ∧ s = .int .i64 (((Rs.map fun r => r.2.length).take j).sum : Nat) ∧ ((Rs.map fun r => r.2.length).take j).sum ≤ 50000 ∧ Hid (wr = w))
  case atStart => exact ⟨0, Nat.zero_le _, by omega, rfl, by simp, by simp, rfl⟩
  case round =>
    obtain ⟨j, hj, hg, rfl, rfl, hs, HW⟩ := hrel
    by_cases hlt : j < n
    · have hjl : j < Rs.length := by rw [← HN.out]; exact hlt
      obtain ⟨b, off, rfl, hb, c0⟩ := HE.out j hjl
      obtain ⟨e1, e2⟩ := HST.out j hjl
      obtain ⟨⟨_, a2, c2, q2, _⟩, _⟩ := HR.out j hjl
      rw [q2] at c0
      rw [← HW.out] at c0
      have i1 : (j : Int) < (n : Int) := by omega
      have E1 := Lib.hid (And.intro e1 e2)
      obtain ⟨sj, hsj⟩ : ∃ z, z = ((Rs.map fun r => r.2.length).take j).sum := ⟨_, rfl⟩
      obtain ⟨lj, hlj⟩ : ∃ z, z = Rs[j].2.length := ⟨_, rfl⟩
      rw [← hsj, ← hlj] at e1 E1
      rw [← hsj] at hs ⊢
      rw [← hlj] at c0
      rw [e1] at e2
      have z1 : IntKind.i64.wrap ((sj : Int) + (lj : Int)) = (sj : Int) + (lj : Int) := IntWalk.i64_in _ (by omega)
      have d1 : ¬ ((sj : Int) + (lj : Int) < 0) := by omega
      clear hsj hlj e1 q2
      go_wp2_with fail
      go_roundg (n - (j + 1))
      case measure => omega
      case rel => exact ⟨j + 1, by omega, Nat.le_refl _, by go_num, by rw [E1.out.1]; simp, E1.out.2, HW⟩
    · obtain rfl : j = n := by omega
      have i1 : ¬ ((j : Int) < (j : Int)) := by omega
      have CG1 := Lib.hid (CG.out _ hs wr)
      obtain ⟨sj, hsj⟩ : ∃ z, z = ((Rs.map fun r => r.2.length).take j).sum := ⟨_, rfl⟩
      rw [← hsj] at CG1 hs ⊢
      clear hsj
      go_wp2_with fail
      refine CG1.out.mono ?_
      rintro e w1 ⟨s1, rfl, o1, b1⟩
      rw [HW.out] at o1 b1
      obtain ⟨ao, co, rfl⟩ := o1.is_slice
      have O1 := Lib.hid o1
      have B1 := Lib.hid b1
      clear o1 b1 CG1 CG
      go_wp2_with fail
      go_loopg [6, 27] j (fun g s i wr => ∃ k : Nat, k ≤ j ∧ j - k ≤ g ∧ i = .int .i64 k ∧ Hid (OwnK 33 5 w.heap.size wr s ((Rs.take k).map Prod.snd).flatten) ∧ Below w.heap.size w wr)
      case atStart => exact ⟨0, Nat.zero_le _, by omega, rfl, O1, B1.out⟩
      case round =>
        obtain ⟨k, hk, hg, rfl, HO, hbel⟩ := hrel
        have HB := Lib.hid hbel
        obtain ⟨ao, co, rfl⟩ := HO.out.is_slice
        by_cases hlt : k < j
        · have hkl : k < Rs.length := by rw [← HN.out]; exact hlt
          obtain ⟨b, off, rfl, hb, c0⟩ := HE.out k hkl
          obtain ⟨h1, h2⟩ := HR.out k hkl
          have e1 := HFT.out k hkl
          have e2 := HFL.out k
          obtain ⟨e3, e4⟩ := HST.out k hkl
          replace c0 := below_cell hbel hb c0
          have A2 := Lib.hid (h1.below hbel (Nat.le_refl _))
          have HYO := Lib.hid h2
          obtain ⟨_, a2, c2, q2, _⟩ := h1
          have A3 : Hid (((Rs.take k).map Prod.snd).flatten.length + Rs[k].2.length ≤ 100000) := by show _ ≤ _; rw [e2]; omega
          have EQ := Lib.hid e1
          rw [q2] at c0 A2
          clear e1 e2 e3 e4 h2 q2
          generalize Rs[k].2 = ys at *
          generalize ((Rs.take k).map Prod.snd).flatten = R at *
          obtain ⟨ly, hly⟩ : ∃ z, z = ys.length := ⟨_, rfl⟩
          rw [← hly] at c0 A2
          clear hly
          have i1 : (k : Int) < (j : Int) := by omega
          have A4 : Hid (w.heap.size ≤ wr.heap.size) := hbel.size
          clear hbel
          go_wp2_with (at_builtin; refine wpList_append_rowk rfl _ _ 48 33 5 72 _ Tryd.underlying48 infoE rfl (by decide) (by decide) rfl w.heap.size _ _ R ys rfl rfl HO.out A2.out HYO.out A3.out A4.out ?_)
          intro v6 w6 h5 g5 _
          have K6 : Hid (OwnK 33 5 w.heap.size w6 v6 ((Rs.take (k + 1)).map Prod.snd).flatten) := by show OwnK _ _ _ _ _ _; rw [EQ.out]; exact h5
          obtain ⟨a6, c6, rfl⟩ := K6.out.is_slice
          have HB6 := Lib.hid (HO.out.belowOf HB.out (Nat.le_refl _) A4.out g5)
          clear h5 g5 HO EQ A2 A3 A4
          go_wp2_with fail
          go_roundg (j - (k + 1))
          case measure => omega
          case rel => exact ⟨k + 1, by omega, Nat.le_refl _, by go_num, K6, HB6.out⟩
        · obtain rfl : k = j := by omega
          have i1 : ¬ ((k : Int) < (k : Int)) := by omega
          have ht : Rs.take k = Rs := by rw [HN.out, List.take_length]
          rw [ht] at HO ⊢
          obtain ⟨z, hz⟩ : ∃ z, z = (Rs.map Prod.snd).flatten.length := ⟨_, rfl⟩
          rw [← hz] at HO ⊢
          clear hz ht hbel
          go_wp2_with fail
          go_ret
          exact ⟨.slice ao z co, rfl, HO.out, HB.out⟩
end Go.Proofs.YtcpdoicbekcpeaaDoor.Cg
