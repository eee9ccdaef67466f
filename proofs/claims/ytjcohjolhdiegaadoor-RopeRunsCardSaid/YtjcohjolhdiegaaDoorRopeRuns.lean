/- For every list of acts: RopeRuns answers true, and its argument reads behind the call as before. THE TIED CARD: unicode/utf8's two tables start as the program's text lays them. -/
import Derived.Test.YtjcohjolhdiegaaDoorRows
import Derived.Test.YtjcohjolhdiegaaDoorTie
import Derived.Test.YtjcohjolhdiegaaDoorCards
import Derived.Test.YtjcohjolhdiegaaDoorLift
import Derived.ProofKit
import Derived.Lib.LaidU8T
import Derived.PinnedBridge
import Derived.Lay
import Derived.LaidOnce
import Derived.SevenTiedAt
import Derived.Test.YtjcohjolhdiegaaDoorRuns
import Derived.Deep.DeepCutAuto
import Derived.Deep.CutBlock
import Derived.Deep.LoopGhost
set_option linter.unusedVariables false
namespace Go.Proofs.YtjcohjolhdiegaaDoor.ropeRuns
open Go.ChangeShapes Go.WideShapes Go.ChangeAt Go.RowKit Go.Lib Go.Shelf Go.Proofs.YtjcohjolhdiegaaDoor.Lift Go.Proofs.YtjcohjolhdiegaaDoor.Let Go.Proofs.YtjcohjolhdiegaaDoor.Con
open Go.ChangeMaps (open_string shut_string)

theorem own : ownKnob Tryd.prog.godebug = none := by kernel_rfl
theorem laidOut : laidOutB Tryd.prog = true := by kernel_rfl

theorem k1 : right (ByteArray.mk #[97, 98]).data.toList = true := by decide +kernel
theorem k1b : right (ByteArray.mk #[120]).data.toList = true := by decide +kernel
theorem k2 : mk (put (ByteArray.mk #[97, 98]).data.toList 1 (ByteArray.mk #[120]).data.toList) = ByteArray.mk #[97, 120, 98] := by decide +kernel

theorem infoR : (Tryd.prog.info? 24).map (fun i => (i.zero, i.size, i.bytes)) = some (some (.pointer none), 1, 8) := by kernel_rfl

/-- What the switch leaves. -/
def Step (W : World) (r s : Value) (wx : World) : Prop := ∃ L, s = .string (mk L) ∧ IsRope wx L r ∧ L.length ≤ 8000 ∧ Below W.heap.size W wx

/-- What stands ahead of the tests: the ropes of "ab" and "x". -/
structure Pre (w : World) : Prop where
  c1 : Calls Tryd.prog 16 #[.string (ByteArray.mk #[97, 98])] w (Roped w (ByteArray.mk #[97, 98]).data.toList)
  c1b : ∀ w, Tabs w → Calls Tryd.prog 16 #[.string (ByteArray.mk #[120])] w (Roped w (ByteArray.mk #[120]).data.toList)
  c2 : ∀ w v u, IsRope w (ByteArray.mk #[97, 98]).data.toList v → IsRope w (ByteArray.mk #[120]).data.toList u → Calls Tryd.prog 21 #[v, .int .i64 1, u] w (Roped w (put (ByteArray.mk #[97, 98]).data.toList 1 (ByteArray.mk #[120]).data.toList))
  c3 : ∀ w v, IsRope w (put (ByteArray.mk #[97, 98]).data.toList 1 (ByteArray.mk #[120]).data.toList) v → Calls Tryd.prog 14 #[v] w fun e w' => e = .returned (.string (ByteArray.mk #[97, 120, 98])) ∧ Below w.heap.size w w'
theorem pre (w : World) (hT : Tabs w) : Pre w :=
  ⟨of_any _ w (by decide) k1 hT, fun w h => of_any _ w (by decide) k1b h, fun w v u h1 h2 => put_is w 1 h1 h2 (by decide) (by decide) (by decide), fun w v h => by
    have := text_is w h (by rw [put_len]; decide)
    rw [k2] at this
    exact this⟩


set_option maxRecDepth 100000 in
set_option maxHeartbeats 1600000 in
theorem walk_acts (a : Option Addr) (cap : Nat) (A : List Ac) (w : World) (hT : Tabs w) (hlc : A.length ≤ cap) (hcap : cap ≤ maxLen)
    (hA : Hid (∀ i (h : i < A.length), ∃ b off, a = some ⟨b, off, none⟩ ∧ b < w.heap.size ∧ A[i].good ∧ w.cell? ⟨b, off + i * 4, none⟩ = some (.int .i64 A[i].q) ∧ w.cell? ⟨b, off + i * 4 + 1, none⟩ = some (.int .i64 A[i].f) ∧ w.cell? ⟨b, off + i * 4 + 2, none⟩ = some (.int .i64 A[i].t) ∧ w.cell? ⟨b, off + i * 4 + 3, none⟩ = some (.string A[i].s))) :
    Calls Tryd.prog 8 #[.slice a A.length cap] w fun e w' => e = .returned (.bool true) ∧ Below w.heap.size w w' := by
  have PR := Lib.hid (pre w hT)
  have HT := Lib.hid hT
  clear hT
  unfold maxLen at hcap
  obtain ⟨n, hn⟩ : ∃ n, n = A.length := ⟨_, rfl⟩
  rw [← hn] at hlc ⊢
  replace hn := Lib.hid hn
  go_enter Tryd.func8, Tryd.ntmps8
  go_wp2_with fail
  refine PR.out.c1.mono ?_
  rintro e w1 ⟨v, rfl, h1, hb1⟩
  go_wp2_with fail
  refine (PR.out.c1b _ (HT.out.below hb1)).mono ?_
  rintro e w2 ⟨v2, rfl, h2, hb2⟩
  go_wp2_with fail
  refine (PR.out.c2 _ _ _ (h1.below hb2 (Nat.le_refl _)) h2).mono ?_
  rintro e w3 ⟨v3, rfl, h3, hb3⟩
  go_wp2_with fail
  refine (PR.out.c3 _ _ h3).mono ?_
  rintro e w4 ⟨rfl, hb4⟩
  have b4 := below_more (below_more (below_more hb1 hb2) hb3) hb4
  clear PR hb1 hb2 hb3 hb4 h1 h2 h3
  have hstart : Hid (Runs w ((w4.alloc (.cells #[.pointer none] 24)).alloc (.cells #[.string ByteArray.empty] 9)) (.slice (some ⟨w4.heap.size, 0, none⟩) 1 1) (.slice (some ⟨w4.heap.size + 1, 0, none⟩) 1 1) [.pointer none] [[]]) := by
    have s4 := b4.size
    have hh : ((w4.alloc (.cells #[.pointer none] 24)).alloc (.cells #[.string ByteArray.empty] 9)).heap[w4.heap.size]? = some (.cells #[.pointer none] 24 (0, 0)) := by
      rw [Below.heap_alloc _ _ _ (by simp)]
      exact heap_alloc_new _ _
    have hh2 : ((w4.alloc (.cells #[.pointer none] 24)).alloc (.cells #[.string ByteArray.empty] 9)).heap[w4.heap.size + 1]? = some (.cells #[.string ByteArray.empty] 9 (0, 0)) := by
      have := heap_alloc_new (w4.alloc (.cells #[.pointer none] 24)) (.cells #[.string ByteArray.empty] 9)
      simpa using this
    refine ⟨rfl, Nat.le_refl _, ⟨rfl, .inr ⟨_, 1, _, rfl, s4, hh, by decide, by decide, rfl, rfl⟩⟩, ⟨rfl, .inr ⟨_, 1, _, rfl, by omega, hh2, by decide, by decide, rfl, rfl⟩⟩, ?_, by simp, ?_⟩
    · intro j h1 h2
      have : j = 0 := by simp at h1; omega
      subst this
      exact nil_is _
    · exact (b4.alloc s4 _).alloc (by simp; omega) _
  go_upto_block 0 with fail
  go_cut [3, 4] (fun r t wx => ∃ vs Ls, Ls.length ≤ 41 ∧ Runs w wx r t vs Ls)
  case first =>
    go_wp2_with fail
    go_loopg [3, 4, 21] n (fun k r t i wr => ∃ (j : Nat) (vs : List Value) (Ls : List (List UInt8)), i = .int .i64 j ∧ j ≤ n ∧ j ≤ 40 ∧ k = n - j ∧ Ls.length = j + 1 ∧ Runs w wr r t vs Ls)
    case atStart => exact ⟨0, _, _, rfl, by omega, by omega, by omega, rfl, hstart.out⟩
    case round =>
      obtain ⟨j, vs, Ls, rfl, hjn, hj40, rfl, hLs, hR⟩ := hrel
      obtain ⟨g1, c1, g2, c2, e1, e2, l1, l2, f1, f2⟩ := hR.form
      have hvs := hR.len
      rw [hLs] at e1 e2 l1 l2 hvs
      by_cases hlt : j < n
      · obtain ⟨b, off, rfl, hbl, hgood, q0, q1, q2, q3⟩ := hA.out j (by rw [← hn.out]; exact hlt)
        have q0 := below_cell hR.below hbl q0
        have q1 := below_cell hR.below hbl q1
        have q2 := below_cell hR.below hbl q2
        have q3 := below_cell hR.below hbl q3
        have HF : Hid (∀ k, k < j + 1 → ∃ rv L, IsRope wr L rv ∧ wr.cell? ⟨g1, k, none⟩ = some rv ∧ wr.cell? ⟨g2, k, none⟩ = some (.string (mk L)) ∧ L.length ≤ 4000) := fun k hk =>
          ⟨_, _, hR.is k (by omega) (by omega), f1 k (by omega), f2 k (by omega), hR.lens _ (List.getElem_mem (show k < Ls.length by omega))⟩
        obtain ⟨rv, L, hIs, r1, r2, hL4⟩ := HF.out j (by omega)
        have HR := Lib.hid hR
        have HLs := Lib.hid hLs
        clear hR f1 f2 hvs hLs
        generalize A[j]'(by rw [← hn.out]; exact hlt) = x at *
        obtain ⟨q, f, t, tx⟩ := x
        obtain ⟨⟨g0a, g0b⟩, ⟨g1a, g1b⟩, ⟨g2a, g2b⟩, g3⟩ := hgood
        simp only at g0a g0b g1a g1b g2a g2b g3 q0 q1 q2 q3
        subst e1 e2
        by_cases h40 : j = 40
        · subst h40
          have HX : Hid (∀ o, ∃ vs Ls, Ls.length ≤ 41 ∧ Runs w (wr.alloc o) (.slice (some ⟨g1, 0, none⟩) (40 + 1) c1) (.slice (some ⟨g2, 0, none⟩) (40 + 1) c2) vs Ls) := fun o => ⟨vs, Ls, by rw [HLs.out]; omega, HR.out.calls ((Below.refl _ _).alloc (Nat.le_refl _) _)⟩
          go_wp2_with fail
          go_meet
          exact HX.out _
        · have z40 : ((j : Int) == 40) = false := by rw [beq_eq_false_iff_ne]; omega
          obtain ⟨W1, hW1⟩ : ∃ W1, W1 = wr.alloc (.cells #[.int .i64 q, .int .i64 f, .int .i64 t, .string tx] 42) := ⟨_, rfl⟩
          have bW1 : Below wr.heap.size wr W1 := by rw [hW1]; exact (Below.refl _ _).alloc (Nat.le_refl _) _
          have hnew : W1.heap[wr.heap.size]? = some (.cells #[.int .i64 q, .int .i64 f, .int .i64 t, .string tx] 42 (0, 0)) := by rw [hW1]; exact heap_alloc_new _ _
          have x0 : W1.cell? ⟨wr.heap.size, 0, none⟩ = some (.int .i64 q) := by simp only [World.cell?, hnew]; rfl
          have x1 : W1.cell? ⟨wr.heap.size, 1, none⟩ = some (.int .i64 f) := by simp only [World.cell?, hnew]; rfl
          have x2 : W1.cell? ⟨wr.heap.size, 2, none⟩ = some (.int .i64 t) := by simp only [World.cell?, hnew]; rfl
          have x3 : W1.cell? ⟨wr.heap.size, 3, none⟩ = some (.string tx) := by simp only [World.cell?, hnew]; rfl
          have xl : wr.heap.size < W1.heap.size := lt_of_block hnew
          have y1 : W1.cell? ⟨g1, j, none⟩ = some rv := below_cell bW1 (World.block_lt_of_cell? _ _ r1) r1
          have y2 : W1.cell? ⟨g2, j, none⟩ = some (.string (mk L)) := below_cell bW1 (World.block_lt_of_cell? _ _ r2) r2
          have hIs1 := Lib.hid (hIs.below bW1 (Nat.le_refl _))
          have HW := Lib.hid hW1
          have bW := Lib.hid bW1
          have TW := Lib.hid (HT.out.below (below_more HR.out.below bW1))
          clear hW1 bW1 hIs hnew r1 r2
          have w1 : IntKind.i64.wrap ((j : Int) + 1 - 1) = j := by rw [IntWalk.i64_in _ (by omega)]; omega
          have i0 : (0 : Int) ≤ (j : Int) := by omega
          have i1 : (j : Int) < (j : Int) + 1 := by omega
          go_wp2_with fail
          rw [← HW.out]
          go_quiet (fail)
          obtain ⟨W2, hW2⟩ : ∃ W2, W2 = W1.drewN nq := ⟨_, rfl⟩
          rw [← hW2]
          have b12 : Below W1.heap.size W1 W2 := by rw [hW2]; exact below_drews (Below.refl _ _) _
          have z0 := below_cell b12 xl x0
          have z1 := below_cell b12 xl x1
          have z2 := below_cell b12 xl x2
          have z3 := below_cell b12 xl x3
          have zl : wr.heap.size < W2.heap.size := Nat.lt_of_lt_of_le xl b12.size
          have hIs2 := Lib.hid (hIs1.out.below b12 (Nat.le_refl _))
          have T2 := Lib.hid (TW.out.below b12)
          have R2 := Lib.hid (HR.out.calls (below_more bW.out b12))
          have HF2 : Hid (∀ k, k < j + 1 → ∃ rv L, IsRope W2 L rv ∧ W2.cell? ⟨g1, k, none⟩ = some rv ∧ W2.cell? ⟨g2, k, none⟩ = some (.string (mk L)) ∧ L.length ≤ 4000) := fun k hk => by
            have bb := below_more bW.out b12
            obtain ⟨rv, L, m1, m2, m3, m4⟩ := HF.out k hk
            exact ⟨rv, L, m1.below bb (Nat.le_refl _), below_cell bb (World.block_lt_of_cell? _ _ m2) m2, below_cell bb (World.block_lt_of_cell? _ _ m3) m3, m4⟩
          have hD : Hid (∀ n, Below W2.heap.size W2 (W2.drewN n)) := fun n => below_drews (Below.refl _ _) n
          clear HF hW2 b12 x0 x1 x2 x3 xl y1 y2 q0 q1 q2 q3 TW bW HW hIs1 HR
          generalize wr.heap.size = P at *
          unfold maxLen at g3
          have mL : (mk L).size = L.length := mk_size L
          go_upto_block 2 with fail
          go_cut [7, 8, 21] from 22 to 144 (fun r s i wx => i = .int .i64 j ∧ Step W2 r s wx)
          case first =>
            by_cases c0 : q = 0
            · subst c0
              by_cases cl : tx.size ≤ 1000
              · have dl : decide ((tx.size : Int) ≤ 1000) = true := by simp; omega
                cases hr : right tx.data.toList with
                | true =>
                  have zt := sz tx
                  have D1 : Hid (∀ w, Calls Tryd.prog 12 #[.string tx] w fun e w' => e = .returned (.bool true) ∧ w = w') := fun w => by
                    have := rright_any tx w (by unfold maxLen; omega)
                    rw [hr] at this
                    exact this
                  have D2 : Hid (∀ w, Tabs w → Calls Tryd.prog 16 #[.string tx] w (Roped w tx.data.toList)) := fun w h => of_any tx w (by omega) hr h
                  have D3 : Hid (∀ w v, IsRope w L rv → IsRope w tx.data.toList v → Calls Tryd.prog 21 #[rv, .int .i64 f, v] w (Roped w (put L f tx.data.toList))) := fun w v h1 h2 => put_is w f h1 h2 (by omega) g1a g1b
                  have D4 : Hid (∀ w, Calls Tryd.prog 22 #[.string (mk L), .int .i64 f, .string tx] w fun e w' => e = .returned (.string (mk (put L f tx.data.toList))) ∧ Below w.heap.size w w') := fun w => by
                    have := rput_any (mk L) tx f w (by unfold maxLen; omega) (by omega) g1a g1b
                    rw [Let.mk_data] at this
                    exact this
                  have KP : Hid (∀ w', Below W2.heap.size W2 w' → Below W2.heap.size W2 w' ∧ w'.cell? ⟨P, 1, none⟩ = some (.int .i64 f) ∧ w'.cell? ⟨P, 3, none⟩ = some (.string tx)) :=
                    fun w' h => ⟨h, below_cell h zl z1, below_cell h zl z3⟩
                  clear hr
                  go_wp2_with fail
                  refine (D1.out _).mono ?_
                  rintro e w5 ⟨rfl, rfl⟩
                  go_wp2_with fail
                  go_region_held3 (fun w' => Below W2.heap.size W2 w' ∧ w'.cell? ⟨P, 1, none⟩ = some (.int .i64 f) ∧ w'.cell? ⟨P, 3, none⟩ = some (.string tx))
                    ((refine KP.out _ ?_; focus ((repeat first | assumption | exact hD.out _ | exact Below.refl _ _ | apply Below.drew | apply below_drews); done)))
                    (first
                      | (go_at_call 16; go_split_ands; (with_reducible refine (D2.out _ ?_).mono ?_); (focus (refine Tabs.below T2.out ?_; (repeat first | assumption | exact hD.out _ | exact Below.refl _ _ | apply Below.drew | apply below_drews); done)); rintro e w6 ⟨v6, rfl, h6, hb6⟩; have hb6' := below_more (w := W2) (by (repeat first | assumption | exact hD.out _ | exact Below.refl _ _ | apply Below.drew | apply below_drews)) hb6)
                      | (go_at_call 21; go_split_ands; (with_reducible refine (D3.out _ _ ?_ h6).mono ?_); (focus (refine IsRope.below hIs2.out ?_ (Nat.le_refl _); (repeat first | assumption | exact hD.out _ | exact Below.refl _ _ | apply Below.drew | apply below_drews); done)); rintro e w7 ⟨v7, rfl, h7, hb7⟩; have hb7' := below_more (w := W2) (by (repeat first | assumption | exact hD.out _ | exact Below.refl _ _ | apply Below.drew | apply below_drews)) hb7))
                  have z1' := below_cell hb7' zl z1
                  have z3' := below_cell hb7' zl z3
                  clear z0 z1 z2 z3
                  go_wp2_with fail
                  refine (D4.out _).mono ?_
                  rintro e w8 ⟨rfl, hb8⟩
                  go_wp2_with fail
                  go_meet
                  exact ⟨rfl, _, rfl, h7.below hb8 (Nat.le_refl _), by rw [put_len]; omega, below_more hb7' hb8⟩
                | false =>
                  have D1 : Hid (∀ w, Calls Tryd.prog 12 #[.string tx] w fun e w' => e = .returned (.bool false) ∧ w = w') := fun w => by
                    have := rright_any tx w (by unfold maxLen; omega)
                    rw [hr] at this
                    exact this
                  clear hr
                  go_wp2_with fail
                  refine (D1.out _).mono ?_
                  rintro e w5 ⟨rfl, rfl⟩
                  go_wp2_with fail
                  go_meet
                  exact ⟨rfl, L, rfl, hIs2.out, by omega, Below.refl _ _⟩
              · have dl : decide ((tx.size : Int) ≤ 1000) = false := by simp; omega
                go_wp2_with fail
                go_meet
                exact ⟨rfl, L, rfl, hIs2.out, by omega, Below.refl _ _⟩
            have n0 : (q == 0) = false := by rw [beq_eq_false_iff_ne]; exact c0
            by_cases c1 : q = 1
            · subst c1
              have E1 : Hid (∀ w, IsRope w L rv → Calls Tryd.prog 19 #[rv, .int .i64 f, .int .i64 t] w (Roped w (dropL L f t))) := fun w h => drop_is w f t h (by omega) g1a g1b g2a g2b
              have E2 : Hid (∀ w, Calls Tryd.prog 20 #[.string (mk L), .int .i64 f, .int .i64 t] w fun e w' => e = .returned (.string (mk (dropL L f t))) ∧ Below w.heap.size w w') := fun w => by
                have := rdrop_any (mk L) f t w (by omega) g1a g1b g2a g2b
                rw [Let.mk_data] at this
                exact this
              go_wp2_with fail
              refine (E1.out _ hIs2.out).mono ?_
              rintro e w5 ⟨v5, rfl, h5, hb5⟩
              have z1' := below_cell hb5 zl z1
              have z2' := below_cell hb5 zl z2
              clear z0 z1 z2 z3
              go_wp2_with fail
              refine (E2.out _).mono ?_
              rintro e w6 ⟨rfl, hb6⟩
              go_wp2_with fail
              go_meet
              exact ⟨rfl, _, rfl, h5.below hb6 (Nat.le_refl _), by have := dropL_len L f t; omega, below_more hb5 hb6⟩
            have n1 : (q == 1) = false := by rw [beq_eq_false_iff_ne]; exact c1
            by_cases c2 : q = 2
            · subst c2
              have E1 : Hid (∀ w, IsRope w L rv → Calls Tryd.prog 17 #[rv, .int .i64 f, .int .i64 t] w (Roped w (cut L f t))) := fun w h => cut_is w f t h (by omega) g1a g1b g2a g2b
              have E2 : Hid (∀ w, Calls Tryd.prog 18 #[.string (mk L), .int .i64 f, .int .i64 t] w fun e w' => e = .returned (.string (mk (cut L f t))) ∧ w = w') := fun w => by
                have := rcut_any (mk L) f t w (by unfold maxLen; omega) g1a g1b g2a g2b
                rw [Let.mk_data] at this
                exact this
              go_wp2_with fail
              refine (E1.out _ hIs2.out).mono ?_
              rintro e w5 ⟨v5, rfl, h5, hb5⟩
              have z1' := below_cell hb5 zl z1
              have z2' := below_cell hb5 zl z2
              clear z0 z1 z2 z3
              go_wp2_with fail
              refine (E2.out _).mono ?_
              rintro e w6 ⟨rfl, rfl⟩
              go_wp2_with fail
              go_meet
              exact ⟨rfl, _, rfl, h5, by have := cut_len L f t; omega, hb5⟩
            have n2 : (q == 2) = false := by rw [beq_eq_false_iff_ne]; exact c2
            by_cases c3 : q = 3
            · subst c3
              have E1 : Hid (∀ w, IsRope w L rv → Calls Tryd.prog 23 #[rv, rv] w (Roped w (L ++ L))) := fun w h => join_is w h h (by omega)
              have r1 : ∀ w : World, (Op.stringOp .add (mk L) (mk L)).run Tryd.prog w = .ok (.string (mk (L ++ L))) w := fun w => by
                rw [← mk_app]
                exact run_string_add_sum w _ _ (by omega)
              go_wp2_with fail
              refine (E1.out _ hIs2.out).mono ?_
              rintro e w5 ⟨v5, rfl, h5, hb5⟩
              clear z0 z1 z2 z3
              go_wp2_with fail
              go_meet
              exact ⟨rfl, _, rfl, h5, by rw [List.length_append]; omega, hb5⟩
            have n3 : (q == 3) = false := by rw [beq_eq_false_iff_ne]; exact c3
            by_cases c4 : q = 4
            · subst c4
              have m1 : -((j : Int) + 1) < f.tmod ((j : Int) + 1) := Int.lt_tmod_of_pos f (by omega)
              have m2 : f.tmod ((j : Int) + 1) < (j : Int) + 1 := Int.tmod_lt_of_pos f (by omega)
              obtain ⟨k, hk⟩ : ∃ k : Nat, (f.tmod ((j : Int) + 1) + ((j : Int) + 1)) % ((j : Int) + 1) = k := ⟨_, (Int.toNat_of_nonneg (Int.emod_nonneg _ (by omega))).symm⟩
              have hk1 : (k : Int) < (j : Int) + 1 := by rw [← hk]; exact Int.emod_lt_of_pos _ (by omega)
              obtain ⟨rk, Lk, hIk, u1, u2, hLk⟩ := HF2.out k (by omega)
              go_wp2_with fail
              go_meet
              exact ⟨rfl, Lk, rfl, hIk, by omega, Below.refl _ _⟩
            · have n4 : (q == 4) = false := by rw [beq_eq_false_iff_ne]; exact c4
              go_wp2_with fail
              go_meet
              exact ⟨rfl, L, rfl, hIs2.out, by omega, Below.refl _ _⟩
          case rest =>
            obtain ⟨rfl, L', rfl, hv, hl8, hbc⟩ := hcut
            have R3 := R2.out.calls hbc
            have mL' : (mk L').size = L'.length := mk_size L'
            by_cases hlong : 4000 < L'.length
            · have dl : (4000 : Int) < (L'.length : Int) := by omega
              have hbel := Lib.hid R3.below
              clear R3
              go_wp2_with fail
              go_ret
              exact ⟨rfl, hbel.out⟩
            · have dl : ¬ (4000 : Int) < (L'.length : Int) := by omega
              obtain ⟨iR, hiR, hz0R, hz1R, hz2R⟩ := info_parts infoR
              obtain ⟨iS, hiS, hz0S, hz1S, hz2S⟩ := info_parts infoS
              have o1 := R3.own1
              have o2 := R3.own2
              have s3 := R3.below.size
              obtain ⟨pr, rfl⟩ := hv.ptr
              rw [HLs.out] at o1 o2
              have HR3 := Lib.hid R3
              have HV := Lib.hid hv
              clear R3 hv
              have A1 : Hid (∀ k u, [Value.pointer pr][k]? = some u → (wc.alloc (.cells #[.pointer pr] 24)).cell? ((⟨wc.heap.size, 0, none⟩ : Addr).add k) = some u) := news_one _ _ _
              have A2 : Hid (∀ u ∈ [Value.pointer pr], u.oneCell' = true) := by intro u hu; simp at hu; subst hu; rfl
              have A3 : Hid (j + 1 + 1 ≤ maxLen) := by show _ ≤ _; unfold maxLen; omega
              have A4 : Hid ((j + 1 + 1) * 8 ≤ 140737488355328) := by show _ ≤ _; omega
              have A5 : Hid (w.heap.size ≤ (wc.alloc (.cells #[.pointer pr] 24)).heap.size) := by show _ ≤ _; simp; omega
              go_wp2_with (at_builtin; refine wpList_append_own _ rfl _ _ 39 rfl w.heap.size 24 iR (.pointer none) 1 8 Tryd.underlying39 hiR hz0R hz1R hz2R rfl (by decide) _ _ _ rfl (o1.alloc _) ⟨wc.heap.size, 0, none⟩ 1 1 [.pointer pr] rfl rfl A1.out A2.out A3.out A4.out A5.out ?_)
              intro v5 w5 k1 hgrow1 _
              obtain ⟨a5, n5, c5, rfl⟩ : ∃ ao n' cap, v5 = .slice ao n' cap := by
                rcases k1.2 with ⟨hv, _⟩ | ⟨g, cap, cur, hv, _⟩
                · exact ⟨_, _, _, hv⟩
                · exact ⟨_, _, _, hv⟩
              have o2a : w5.ownsRow w.heap.size 9 1 (.slice (some ⟨g2, 0, none⟩) (j + 1) c2) (j + 1) (strs Ls) := (o2.alloc (.cells #[.pointer pr] 24)).kept hgrow1 (own_two (o2.alloc (.cells #[.pointer pr] 24)) (o1.alloc (.cells #[.pointer pr] 24)) (by decide))
              have s5 : w.heap.size ≤ w5.heap.size := by have := hgrow1.size; simp at this; omega
              have K1 := Lib.hid k1
              have G1 := Lib.hid hgrow1
              clear k1 hgrow1 o1 o2
              have A6 : Hid (∀ k u, [Value.string (mk L')][k]? = some u → (w5.alloc (.cells #[.string (mk L')] 9)).cell? ((⟨w5.heap.size, 0, none⟩ : Addr).add k) = some u) := news_one _ _ _
              have A7 : Hid (∀ u ∈ [Value.string (mk L')], u.oneCell' = true) := by intro u hu; simp at hu; subst hu; rfl
              have A9 : Hid ((j + 1 + 1) * 16 ≤ 140737488355328) := by show _ ≤ _; omega
              have A10 : Hid (w.heap.size ≤ (w5.alloc (.cells #[.string (mk L')] 9)).heap.size) := by show _ ≤ _; simp; omega
              go_wp2_with (at_builtin; refine wpList_append_own _ rfl _ _ 40 rfl w.heap.size 9 iS (.string ByteArray.empty) 1 16 Tryd.underlying40 hiS hz0S hz1S hz2S rfl (by decide) _ _ _ rfl (o2a.alloc _) ⟨w5.heap.size, 0, none⟩ 1 1 [.string (mk L')] rfl rfl A6.out A7.out A3.out A9.out A10.out ?_)
              intro v6 w6 k2 hgrow2 _
              obtain ⟨a6, n6, c6, rfl⟩ : ∃ ao n' cap, v6 = .slice ao n' cap := by
                rcases k2.2 with ⟨hv, _⟩ | ⟨g, cap, cur, hv, _⟩
                · exact ⟨_, _, _, hv⟩
                · exact ⟨_, _, _, hv⟩
              have HN : Hid (Runs w w6 (.slice a5 n5 c5) (.slice a6 n6 c6) (vs ++ [.pointer pr]) (Ls ++ [L'])) :=
                HR3.out.put HV.out (by omega) G1.out (by rw [HLs.out]; exact K1.out) hgrow2 (by rw [HLs.out]; exact k2)
              have HLN : Hid ((Ls ++ [L']).length = (j + 1) + 1) := by show _ = _; rw [List.length_append, HLs.out]; rfl
              clear k2 hgrow2 o2a
              go_wp2_with fail
              go_roundg (n - (j + 1))
              case measure => omega
              case rel => exact ⟨j + 1, _, _, by go_num, by omega, by omega, rfl, HLN.out, HN.out⟩
      · subst e1 e2
        have HX := Lib.hid (⟨vs, Ls, by rw [hLs]; omega, hR⟩ : ∃ vs Ls, Ls.length ≤ 41 ∧ Runs w wr _ _ vs Ls)
        clear hR f1 f2
        go_wp2_with fail
        go_meet
        exact HX.out
  case rest =>
    obtain ⟨vs, Ls, hL41, hR⟩ := hcut
    obtain ⟨g1, c1, g2, c2, rfl, rfl, l1, l2, f1, f2⟩ := hR.form
    have hlen := hR.len
    have lens := hR.lens
    have HB := Lib.hid hR.below
    have HF : Hid (∀ k, k < Ls.length → ∃ rv L, IsRope wc L rv ∧ wc.cell? ⟨g1, k, none⟩ = some rv ∧ wc.cell? ⟨g2, k, none⟩ = some (.string (mk L)) ∧ L.length ≤ 4000) := fun k hk =>
      ⟨_, _, hR.is k (by omega) hk, f1 k (by omega), f2 k (by omega), hR.lens _ (List.getElem_mem hk)⟩
    clear hR f1 f2 hlen lens hstart hA hn
    generalize Ls.length = m at *
    go_wp2_with fail
    go_loopg [147] m (fun k i wr => ∃ j : Nat, i = .int .i64 j ∧ j ≤ m ∧ k = m - j ∧ Below wc.heap.size wc wr)
    case atStart => exact ⟨0, rfl, Nat.zero_le _, by omega, Below.refl _ _⟩
    case round =>
      obtain ⟨j, rfl, hj, rfl, hb⟩ := hrel
      by_cases hlt : j < m
      · obtain ⟨rv, L, y0, y1, y2, y3⟩ := HF.out j hlt
        have C : Hid (Calls Tryd.prog 15 #[rv, .string (mk L)] wr fun e w' => e = .returned (.bool true) ∧ Below wr.heap.size wr w') := has_is L wr (y0.below hb (Nat.le_refl _)) (by omega)
        have y1 := below_cell hb (World.block_lt_of_cell? _ _ y1) y1
        have y2 := below_cell hb (World.block_lt_of_cell? _ _ y2) y2
        clear y0 y3
        go_wp2_with fail
        refine C.out.mono ?_
        rintro e w5 ⟨rfl, hb5⟩
        go_wp2_with fail
        go_roundg (m - (j + 1))
        case measure => omega
        case rel => exact ⟨j + 1, by go_num, by omega, rfl, below_more hb hb5⟩
      · go_wp2_with fail
        go_ret
        exact ⟨rfl, below_more HB.out hb⟩

theorem walk {H : Type} {enc : TypeId × Value → H} (v : Value) (d : DataW H) (p : List MemPlace) {W : World} {base : Nat} (hv : Value.okWide Tryd.prog W .any base 38 v) (h : DataW.Trod enc Tryd.prog W 0 (fun _ => true) true 38 v d p) (hT : Tabs W) :
    Calls Tryd.prog 8 #[v] W fun e w' => e = .returned (.bool true) ∧ Below W.heap.size W w' := by
  obtain ⟨a, cap, A, rfl, h1, h2, h3⟩ := open_acts hv h
  refine walk_acts a cap A W hT h1 h2 (fun i hi => ?_)
  rcases h3 with rfl | ⟨b, off, rfl, hb, hc⟩
  · exact absurd hi (by simp)
  · obtain ⟨g, c0, c1, c2, c3⟩ := hc i hi
    exact ⟨b, off, rfl, hb, g, c0, c1, c2, c3⟩

theorem acc_eq : Rows.laid_unicode_utf8_acceptRanges = Lib.acceptData := by kernel_rfl

set_option maxRecDepth 100000 in
theorem lifted (os : Os) (started : os.Started) (H : Type) (enc : TypeId × Value → H) :
    ReturnsInHanded {} Tryd.checked os 8 .any (fun w args => (Rows.ropeRunsSpec.pre enc Tryd.prog Tryd.f8 [] false w args ∧ laidMetH Tryd.prog Rows.ropeRunsRow.laid w) ∧ sizedMet enc Tryd.prog Tryd.f8 (OpenSpec.ofChange Rows.ropeRunsSpec) false w args) (Rows.ropeRunsSpec.post enc Tryd.prog Tryd.f8 false true false false) := by
  refine returnsInHanded_of_change_and (C := Tryd.checked) (X := fun w _ => laidMetH Tryd.prog Rows.ropeRunsRow.laid w) (fun _ _ _ hh h => h.of_heap hh) own started (by kernel_rfl) Tryd.func8
    (ChangeSpec.witness_shaped (enc := enc) (C := Tryd.checked) (os := os) (X := fun w _ => laidMetH Tryd.prog Rows.ropeRunsRow.laid w) false (World.laidAll Tryd.prog os Rows.ropeRunsRow.laid) #[.slice none 0 0] 8 (World.laidAll_os _ _ _)
      (World.shaped_of_ZipB (by kernel_rfl) (by kernel_rfl)) (by kernel_rfl) (by kernel_rfl) (by kernel_rfl)
      (by rw [MakeChecks.laidMetH_plain _ _ _ (by kernel_rfl)]; exact laidMet_laidAll _ (by kernel_rfl) (by kernel_rfl))) ?_
  intro W base args ds gs before hval0 hW _ _ hL _
  have hval : ∀ (j : Nat) t v, Tryd.f8.params[j]? = some t → args[j]? = some v → Value.okWide Tryd.prog W .any base t v := hval0
  have hread : ∀ t ∈ Tryd.f8.params.toList, Tryd.prog.readableRec t = true ∧ t < Tryd.prog.types.size := by
    have : (Tryd.f8.params.toList.all fun t => Tryd.prog.readableRec t && decide (t < Tryd.prog.types.size)) = true := by kernel_rfl
    intro t ht
    have := List.all_eq_true.1 this t ht
    simpa using this
  rw [MakeChecks.laidMetH_plain _ _ _ (by kernel_rfl)] at hL
  have hT : Tabs W := utf8Tabs_of_readsT (U8Types.of196 Tryd.lays196) ⟨by kernel_rfl, by kernel_rfl, by kernel_rfl, by kernel_rfl, by kernel_rfl, by kernel_rfl, by kernel_rfl⟩ (Pinned.utf8First_eq ▸ Lib.laidMet.reads hL (.tail _ (.head _))) (acc_eq ▸ Lib.laidMet.reads hL (.head _))
  refine law_contract (P := Tryd.prog) (s := Rows.ropeRunsSpec) (fn := Tryd.f8) (tb := 4) laidOut rfl hread rfl Tryd.underlying4 (fun W' => okWide_bool_mk Tryd.underlying4 _) ?_ hW ?_
  · intro ds hds
    rw [Tryd.params8] at hds
    match ds, hds with
    | [d0], _ => rfl
  intro pl hA
  rw [Tryd.params8] at hA hval
  obtain ⟨v0, vs0, d0, ds0, p0, q0, hargs, rfl, hp0, h0, r0⟩ := trodAll_cons hA
  obtain ⟨rfl, rfl, hpe⟩ := trodAll_nil r0
  obtain rfl : args = #[v0] := by cases args; simp_all
  exact walk v0 d0 p0 (hval 0 38 v0 rfl rfl) h0 hT

theorem over : Rows.ropeRunsRow.holds Tryd.pinned (OpenSpec.ofChange Rows.ropeRunsSpec) :=
  OpenClaim.holds_of_wide 8 Tryd.f8 rfl rfl rfl rfl rfl rfl rfl ⟨rfl, rfl, rfl, rfl, rfl⟩ rfl rfl rfl rfl rfl (by kernel_rfl) Tryd.func8 (by kernel_rfl)
    (of_decide_eq_true (by kernel_rfl)) (by unfold Func.isWrapper; first | (rw [if_pos (by decide +kernel)]; kernel_rfl) | (rw [if_neg (by decide +kernel)]; exact ⟨rfl, rfl⟩))
    (fun os started H enc _ => lifted os started H enc)

/-- The statement. -/
theorem proved : Rows.RopeRunsCardSaid :=
  Claim7.holds_tied_plain_at .later [] [.data, .pinned] true (true, "204a5bf4e88a8898dff6c77e214f6a87eb849d6394f7bff06f8f3fca1b4174ce") false over (fun _ h => by cases h) (by kernel_rfl) (fun _ h => by cases h) ropeRuns_row_tie rfl ⟨rfl, rfl⟩ (by kernel_rfl) rfl
    (fun f fn hf hfn => by
      obtain rfl : f = 8 := Option.some.inj ((show Tryd.prog.funcNamed Rows.ropeRunsRow.func = some 8 by kernel_rfl).symm.trans hf) |>.symm
      obtain rfl : fn = Tryd.f8 := (Option.some.inj (Tryd.func8.symm.trans hfn)).symm
      exact ⟨by kernel_rfl, fun j t ht => by
        rw [Tryd.params8] at ht
        have hm : t ∈ [38] := by simpa using Array.mem_of_getElem? ht
        have hall : ([38].all fun u => !Tryd.prog.wantsStandIn u) = true := by kernel_rfl
        exact (show Tryd.prog.wantsStandIn t = false by simpa using List.all_eq_true.1 hall t hm)⟩)
    (by kernel_rfl)
#print axioms proved
end Go.Proofs.YtjcohjolhdiegaaDoor.ropeRuns
