/- Undo, the plain text: Drop. -/
import Derived.Test.YtoejjicgnhndfaaDoorYa
set_option linter.unusedVariables false
set_option linter.unusedSimpArgs false
set_option maxRecDepth 100000
namespace Go.Proofs.YtoejjicgnhndfaaDoor.Und
open Go.RowKit Go.Lib Go.Proofs.YtoejjicgnhndfaaDoor.Rk Go.Proofs.YtoejjicgnhndfaaDoor.Rig

set_option maxHeartbeats 4000000 in
theorem rdrop_any {v : Value} {A : List U} (mark : Int) (w : World) (h : Us w v A) (hn : A.length ≤ 10000) : Calls Tryd.prog 62 #[v, .int .i64 mark] w fun e w' => ∃ v', e = .returned v' ∧ Us w' v' (dropA A mark) ∧ Below w.heap.size w w' := by
  have HG := Lib.hid h.2
  obtain ⟨a, cap, rfl, hcap, hmax, hel⟩ := h.open_
  obtain ⟨n, hnA⟩ : ∃ n, n = A.length := ⟨_, rfl⟩
  rw [← hnA] at hcap hn ⊢
  unfold maxLen at hmax
  have HN := Lib.hid hnA
  have HE := Lib.hid hel
  clear h hel hnA
  go_enter Tryd.func62, Tryd.ntmps62
  go_wp2_with fail
  go_loopg [5, 6] n (fun g t i wr => ∃ (k : Nat) (a' : Option Addr) (m' c' : Nat), k ≤ n ∧ n - k ≤ g ∧ i = .int .i64 k ∧ t = .slice a' m' c' ∧ Hid (OwnK 88 5 w.heap.size wr (.slice a' m' c') ((dropA (A.take k) mark).map U.cells)) ∧ Below w.heap.size w wr)
  case atStart => exact ⟨0, none, 0, 0, Nat.zero_le _, by omega, rfl, rfl, OwnK.nil_ _ _ _ _, Below.refl _ _⟩
  case round =>
    obtain ⟨k, ao, mo, co, hk, hg, rfl, rfl, HO, hbel⟩ := hrel
    have HB := Lib.hid hbel
    by_cases hlt : k < n
    · have hkl : k < A.length := by rw [← HN.out]; exact hlt
      obtain ⟨b, off, rfl, hb, _, c0, c1, c2, c3, c4⟩ := HE.out k hkl
      replace c0 := below_cell hbel hb c0
      replace c1 := below_cell hbel hb c1
      replace c2 := below_cell hbel hb c2
      replace c3 := below_cell hbel hb c3
      replace c4 := below_cell hbel hb c4
      have i0 : (0 : Int) ≤ (k : Int) := by omega
      have i1 : (k : Int) < (n : Int) := by omega
      have hlen := dropA_len A mark k
      have hyo := ucells_one A[k]
      clear hbel
      by_cases hm : A[k].m = mark
      · have EQ := Lib.hid (dropA_eq A hkl hm)
        have e1 : (A[k].m != mark) = false := by simp [hm]
        generalize A[k] = y at *
        obtain ⟨yk, yd, ym, yl, yt⟩ := y
        simp only at c0 c1 c2 c3 c4 e1
        clear hm hyo hlen
        go_wp2_with fail
        go_roundg (n - (k + 1))
        case measure => omega
        case rel => exact ⟨k + 1, ao, mo, co, by omega, Nat.le_refl _, by go_num, rfl, by rw [EQ.out]; exact HO, HB.out⟩
      · have EQ := Lib.hid (dropA_ne A hkl hm)
        have e1 : (A[k].m != mark) = true := by simp [hm]
        generalize A[k] = y at *
        obtain ⟨R, hR⟩ : ∃ R, R = (dropA (A.take k) mark).map U.cells := ⟨_, rfl⟩
        have hRl : R.length ≤ k := by rw [hR, List.length_map]; exact hlen
        have EQ2 : Hid ((dropA (A.take (k + 1)) mark).map U.cells = R ++ [y.cells]) := by show _ = _; rw [EQ.out, List.map_append, hR]; rfl
        rw [← hR] at HO
        obtain ⟨yk, yd, ym, yl, yt⟩ := y
        simp only at c0 c1 c2 c3 c4 e1
        obtain ⟨b2, r2, l2⟩ := ubox wr #[.int .i64 yk, .int .i64 yd, .int .i64 ym, .int .i64 yl, .string (Let.mk yt)] 88
        obtain ⟨W2, hW2⟩ : ∃ W2, W2 = wr.alloc (.cells #[.int .i64 yk, .int .i64 yd, .int .i64 ym, .int .i64 yl, .string (Let.mk yt)] 88) := ⟨_, rfl⟩
        rw [← hW2] at b2 r2 l2
        have A1 := Lib.hid (HO.out.below b2)
        have A2 : Hid (RowK 5 W2 (.slice (some ⟨wr.heap.size, 0, none⟩) 1 1) [(U.mk yk yd ym yl yt).cells]) := row_one (y := [.int .i64 yk, .int .i64 yd, .int .i64 ym, .int .i64 yl, .string (Let.mk yt)]) (e := 88) r2 rfl
        have HYO : Hid (∀ x ∈ [(U.mk yk yd ym yl yt).cells], ∀ q ∈ x, q.oneCell' = true) := fun x hx => by simp at hx; subst hx; exact hyo
        have HBY := Lib.hid (below_more HB.out b2)
        have A4 : Hid (w.heap.size ≤ W2.heap.size) := HBY.out.size
        have A3 : Hid (R.length + 1 ≤ 100000) := by show _ ≤ _; omega
        have HW2 := Lib.hid hW2
        clear hm hyo hlen hR hRl b2 r2 l2 hW2 EQ HO
        go_wp2_with (at_builtin; rw [← HW2.out]; refine wpList_append_rowk rfl _ _ 81 88 5 48 _ Tryd.underlying81 infoUndo rfl (by decide) (by decide) rfl w.heap.size _ _ R [(U.mk yk yd ym yl yt).cells] rfl rfl A1.out A2.out HYO.out A3.out A4.out ?_)
        intro v6 w6 h5 g5 _
        have K6 : Hid (OwnK 88 5 w.heap.size w6 v6 ((dropA (A.take (k + 1)) mark).map U.cells)) := by show OwnK _ _ _ _ _ _; rw [EQ2.out]; exact h5
        obtain ⟨a6, c6, rfl⟩ := K6.out.is_slice
        have HB6 := Lib.hid (A1.out.belowOf HBY.out (Nat.le_refl _) A4.out g5)
        clear h5 g5 A1 A2 A3 A4 HBY EQ2 HYO
        go_wp2_with fail
        go_roundg (n - (k + 1))
        case measure => omega
        case rel => exact ⟨k + 1, a6, _, c6, by omega, Nat.le_refl _, by go_num, rfl, K6, HB6.out⟩
    · obtain rfl : k = n := by omega
      have i1 : ¬ ((k : Int) < (k : Int)) := by omega
      have HU : Hid (Us wr (.slice ao mo co) (dropA A mark)) := ⟨by have := HO.out.row; rwa [show A.take k = A by rw [HN.out, List.take_length]] at this, fun y hy => HG.out y (List.mem_filter.1 hy).1⟩
      clear hbel HO
      go_wp2_with fail
      go_ret
      exact ⟨_, rfl, HU.out, HB.out⟩
end Go.Proofs.YtoejjicgnhndfaaDoor.Und
