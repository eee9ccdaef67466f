/- Frame: Split of the plain text. -/
import Derived.Test.YtehmngdacjpflaaFc
import Derived.Laws.Strings3
set_option linter.unusedVariables false
set_option linter.unusedSimpArgs false
set_option maxRecDepth 100000
namespace Go.Proofs.Ytehmngdacjpflaa.Frm
open Go.RowKit Go.Lib Go.Proofs.Ytehmngdacjpflaa.Bx

theorem infoS : (Try.prog.info? 9).map (fun i => (i.zero, i.size, i.bytes)) = some (some (.string ⟨#[]⟩), 1, 16) := by kernel_rfl
theorem cellsT_app (X Y : List (List UInt8)) : cellsT (X ++ Y) = cellsT X ++ cellsT Y := List.map_append
theorem byte_run (w : World) (l : List UInt8) (k : IntKind) {i : Nat} (hi : i < l.length) : (Instr.index 9 (.string (mkB l)) (.int k (i : Nat))).run Try.prog w = .ok (.int .u8 ((l.getD i 0).toNat : Nat)) w := by
  have hi' : i < (mkB l).size := by rw [mkB_size]; exact hi
  have e : (mkB l)[i]'hi' = l[i] := rfl
  rw [run_index_string w 9 (mkB l) k (i : Int) Try.underlying9, dif_pos ⟨by omega, by omega⟩, List.getD_eq_getElem?_getD, List.getElem?_eq_getElem hi]
  simp only [Option.getD_some]
  show Result.ok (Value.int .u8 (((mkB l)[i]'hi').toNat : Nat)) w = _
  rw [e]
  rfl
theorem slice_from (w : World) (l : List UInt8) {i : Nat} (hi : i ≤ l.length) : (Instr.slice 9 (.string (mkB l)) (some (.int .i64 (i : Nat))) none none).run Try.prog w = .ok (.string (mkB (l.drop i))) w := by
  rw [run_slice_string_from_if w 9 (mkB l) .i64 (i : Int) Try.underlying9, if_pos ⟨by omega, by rw [mkB_size]; omega⟩]
  show Result.ok (Value.string ((mkB l).extract (i : Int).toNat (mkB l).size)) w = _
  rw [mkB_extract, mkB_size, List.take_length, Int.toNat_natCast]
theorem slice_mid (w : World) (l : List UInt8) {i j : Nat} (hj : j ≤ l.length) (hij : i ≤ j) : (Instr.slice 9 (.string (mkB l)) (some (.int .i64 (i : Nat))) (some (.int .i64 (j : Nat))) none).run Try.prog w = .ok (.string (mkB ((l.take j).drop i))) w := by
  rw [run_slice_string w 9 (mkB l) .i64 .i64 (i : Int) (j : Int) Try.underlying9 (by omega) (by omega) (by rw [mkB_size]; omega), mkB_extract, Int.toNat_natCast, Int.toNat_natCast]
def Gave (w : World) (p : Res) (e : Ending) (w' : World) : Prop := ∃ v, e = .returned (.tuple #[v, .string (mkB p.2.1), .bool p.2.2]) ∧ OStrs w.heap.size w' v p.1 ∧ Below w.heap.size w w'
set_option maxHeartbeats 8000000 in
theorem rSplit_any (l : List UInt8) (most : Int) (w : World) (hl : l.length ≤ 300000) : Calls Try.prog 10 #[.string (mkB l), .int .i64 most] w (Gave w (sp most l)) := by
  obtain ⟨N, hN⟩ : ∃ N, N = l.length := ⟨_, rfl⟩
  go_enter Try.func10, Try.ntmps10
  go_wp2_with fail
  go_loopg [0, 7] N (fun g s_ o_ wr => ∃ (L : List UInt8) (X : List (List UInt8)), L.length ≤ g ∧ 3 * X.length + L.length ≤ 300000 ∧ s_ = .string (mkB L) ∧ Hid (sp most l = appR X (sp most L)) ∧ (∃ a c, o_ = .slice a X.length c) ∧ Hid (OStrs w.heap.size wr o_ X) ∧ Below w.heap.size w wr)
  case atStart => exact ⟨l, [], by omega, by simpa using hl, rfl, rfl, ⟨_, _, rfl⟩, OStrs.nil_ _ _, Below.refl _ _⟩
  case round =>
    obtain ⟨L, X, hg, hX, rfl, HS, ⟨oa, oc, rfl⟩, HO, hbel⟩ := hrel
    have HB := Lib.hid hbel
    obtain ⟨s, hs⟩ : ∃ s, s = mkB L := ⟨_, rfl⟩
    obtain ⟨n, hn⟩ : ∃ n, n = L.length := ⟨_, rfl⟩
    have hsz : s.size = n := by rw [hs, mkB_size, hn]
    by_cases h2 : n < 2
    · have g1 : decide ((2 : Int) ≤ (n : Int)) = false := decide_eq_false (by omega)
      have FN : Hid (∀ w', Below wr.heap.size wr w' → Gave w (sp most l) (.returned (.tuple #[.slice oa X.length oc, .string s, .bool true])) w') := fun w' hb => by
        have e : sp most l = (X, L, true) := by
          rw [HS.out, sp_short (by omega)]
          unfold appR
          rw [List.append_nil]
        rw [e]
        exact ⟨_, by rw [hs], HO.out.below hb, below_on HB.out hb⟩
      rw [← hs]
      clear hbel hs hn HO HS HB
      go_wp2_with fail
      exact bodyPost_ret (v := .tuple #[.slice oa X.length oc, .string s, .bool true]) (by simp [results, Try.results10, go_sem]) rfl (FN.out _ (Below.refl _ _))
    · have g1 : decide ((2 : Int) ≤ (n : Int)) = true := decide_eq_true (by omega)
      obtain ⟨h, hh⟩ : ∃ h, h = hd L := ⟨_, rfl⟩
      obtain ⟨x, hx⟩ : ∃ x, x = (L.getD 0 0).toNat := ⟨_, rfl⟩
      obtain ⟨y, hy⟩ : ∃ y, y = (L.getD 1 0).toNat := ⟨_, rfl⟩
      have x8 : x < 256 := by rw [hx]; exact UInt8.toNat_lt _
      have y8 : y < 256 := by rw [hy]; exact UInt8.toNat_lt _
      have hxy : x * 256 + y = h := by rw [hh, hx, hy]; rfl
      have hxi : (x : Int) * 256 + (y : Int) = (h : Nat) := by omega
      have XI0 : ∀ w, (Instr.index 9 (.string s) (.int .i64 0)).run Try.prog w = .ok (.int .u8 (x : Nat)) w := fun w => by
        rw [hs, hx]
        exact byte_run w L .i64 (i := 0) (by omega)
      have XI1 : ∀ w, (Instr.index 9 (.string s) (.int .i64 1)).run Try.prog w = .ok (.int .u8 (y : Nat)) w := fun w => by
        rw [hs, hy]
        exact byte_run w L .i64 (i := 1) (by omega)
      rw [← hs]
      clear hbel
      by_cases hbad : h = 0 ∨ most < (h : Int)
      · have FN : Hid (∀ w', Below wr.heap.size wr w' → Gave w (sp most l) (.returned (.tuple #[.slice oa X.length oc, .string (ByteArray.mk #[]), .bool false])) w') := fun w' hb => by
          have e : sp most l = (X, [], false) := by
            rw [HS.out, sp_bad (by omega) (by rw [← hh]; exact hbad)]
            unfold appR
            rw [List.append_nil]
          rw [e]
          exact ⟨_, rfl, HO.out.below hb, below_on HB.out hb⟩
        clear hs hn HO HS HB hx hy hh hN
        go_wp2_with fail
        go_upto_region 3 with fail
        go_quiet (fail)
        have HF := FN.out _ (d_drews (Below.refl _ _) nq)
        clear FN hxy hxi XI0 XI1
        by_cases h0 : h = 0
        · subst h0
          go_wp2_with fail
          all_goals exact bodyPost_ret (v := .tuple #[.slice oa X.length oc, .string (ByteArray.mk #[]), .bool false]) (by simp [results, Try.results10, go_sem]) rfl HF
        · have g2 : decide (most < (h : Int)) = true := decide_eq_true (by omega)
          have g3 : most < (h : Int) := by omega
          have g4 : ¬ (h : Int) = 0 := by omega
          have g5 : decide ((h : Int) = 0) = false := decide_eq_false g4
          go_wp2_with fail
          all_goals exact bodyPost_ret (v := .tuple #[.slice oa X.length oc, .string (ByteArray.mk #[]), .bool false]) (by simp [results, Try.results10, go_sem]) rfl HF
      · have g2 : decide (most < (h : Int)) = false := decide_eq_false (by omega)
        have g3 : ¬ most < (h : Int) := by omega
        have g4 : ¬ (h : Int) = 0 := by omega
        have g5 : decide ((h : Int) = 0) = false := decide_eq_false g4
        have h6 : h < 65536 := by omega
        by_cases hp : n < h + 2
        · have q1 : decide ((n : Int) < (h : Int) + 2) = true := decide_eq_true (by omega)
          have q2 : (n : Int) < (h : Int) + 2 := by omega
          have FN : Hid (∀ w', Below wr.heap.size wr w' → Gave w (sp most l) (.returned (.tuple #[.slice oa X.length oc, .string s, .bool true])) w') := fun w' hb => by
            have e : sp most l = (X, L, true) := by
              rw [HS.out, sp_part (by omega) (by rw [← hh]; exact hbad) (by omega)]
              unfold appR
              rw [List.append_nil]
            rw [e]
            exact ⟨_, by rw [hs], HO.out.below hb, below_on HB.out hb⟩
          clear hs hn HO HS HB hx hy hh hN
          go_wp2_with fail
          go_upto_region 3 with fail
          go_quiet (fail)
          have HF := FN.out _ (d_drews (Below.refl _ _) nq)
          clear FN hxy hxi XI0 XI1
          go_wp2_with fail
          all_goals exact bodyPost_ret (v := .tuple #[.slice oa X.length oc, .string s, .bool true]) (by simp [results, Try.results10, go_sem]) rfl HF
        · have q1 : decide ((n : Int) < (h : Int) + 2) = false := decide_eq_false (by omega)
          have q2 : ¬ (n : Int) < (h : Int) + 2 := by omega
          obtain ⟨B, hB⟩ : ∃ B, B = (L.take (h + 2)).drop 2 := ⟨_, rfl⟩
          obtain ⟨L2, hL2⟩ : ∃ L2, L2 = L.drop (h + 2) := ⟨_, rfl⟩
          obtain ⟨b, hb⟩ : ∃ b, b = mkB B := ⟨_, rfl⟩
          obtain ⟨s2, hs2⟩ : ∃ s2, s2 = mkB L2 := ⟨_, rfl⟩
          have XS1 : ∀ w, (Instr.slice 9 (.string s) (some (.int .i64 2)) (some (.int .i64 ((h : Int) + 2))) none).run Try.prog w = .ok (.string b) w := fun w => by
            rw [hs, hb, hB]
            exact slice_mid w L (i := 2) (j := h + 2) (by omega) (by omega)
          have XS2 : ∀ w, (Instr.slice 9 (.string s) (some (.int .i64 ((h : Int) + 2))) none none).run Try.prog w = .ok (.string s2) w := fun w => by
            rw [hs, hs2, hL2]
            exact slice_from w L (i := h + 2) (by omega)
          have hl2 : L2.length = n - (h + 2) := by rw [hL2, List.length_drop, ← hn]
          have HS2 : Hid (sp most l = appR (X ++ [B]) (sp most L2)) := by
            show _ = _
            rw [HS.out, sp_step (by rw [← hh]; exact hbad) (by rw [← hh]; omega), ← hh, ← hB, ← hL2, appR_cons]
          have HL2 : Hid (L2.length < L.length ∧ 3 * (X.length + 1) + L2.length ≤ 300000) := ⟨by omega, by omega⟩
          have HSS := Lib.hid hs2
          have HBB := Lib.hid hb
          clear hs hn HS hx hy hh hN hB hL2 hs2 hb hl2
          go_wp2_with fail
          go_upto_region 3 with fail
          go_quiet (fail)
          clear hxy hxi XI0 XI1
          have KD := Lib.hid (d_drews (Below.refl wr.heap.size wr) nq)
          generalize wr.drewN nq = wq at KD ⊢
          have HBY : Hid (Below w.heap.size w (wq.alloc (.cells #[.string b] 9))) := below_al (below_on HB.out KD.out) _
          have A1 : Hid (Rk.OwnK 9 1 w.heap.size (wq.alloc (.cells #[.string b] 9)) (.slice oa X.length oc) (cellsT X)) := HO.out.below (below_al KD.out _)
          have A2 : Hid (Rk.RowK 1 (wq.alloc (.cells #[.string b] 9)) (.slice (some ⟨wq.heap.size, 0, none⟩) 1 1) [[Value.string b]]) := Rk.row_one (e := 9) (heap_alloc_new _ _) rfl
          have A3 : Hid ((cellsT X).length + 1 ≤ 100000) := by show _ ≤ _; rw [cellsT_len]; have := HL2.out; omega
          have A4 : Hid (w.heap.size ≤ (wq.alloc (.cells #[.string b] 9)).heap.size) := HBY.out.size
          have HYO : Hid (∀ z ∈ [[Value.string b]], ∀ q ∈ z, q.oneCell' = true) := fun z hz q hq => by
            simp only [List.mem_singleton] at hz
            subst hz
            simp only [List.mem_singleton] at hq
            subst hq
            rfl
          clear HO HB KD
          go_wp2_with (at_builtin; refine Rk.wpList_append_rowk rfl _ _ 24 9 1 16 _ Try.underlying24 infoS rfl (by decide) (by decide) rfl w.heap.size _ _ (cellsT X) _ rfl rfl A1.out A2.out HYO.out A3.out A4.out ?_)
          intro v6 w9 h5 g5 k5
          have K9 : Hid (OStrs w.heap.size w9 v6 (X ++ [B])) := by
            show Rk.OwnK _ _ _ _ _ _
            rw [cellsT_app, show cellsT [B] = [[Value.string b]] from by rw [HBB.out]; rfl]
            exact h5
          have HB6 := Lib.hid (A1.out.belowOf HBY.out (Nat.le_refl _) A4.out g5)
          clear h5 g5 k5 A1 A2 A3 A4 HBY HYO HBB
          obtain ⟨a6, c6, rfl, _, _⟩ := K9.out.read.is_slice
          go_wp2_with fail
          go_roundg L2.length
          case measure => have := HL2.out; omega
          case rel => exact ⟨L2, X ++ [B], Nat.le_refl _, by rw [List.length_append]; exact HL2.out.2, by rw [HSS.out], HS2, ⟨_, _, rfl⟩, K9, HB6.out⟩
end Go.Proofs.Ytehmngdacjpflaa.Frm
