/- Frame: the program's calls. -/
import Derived.Test.YtehmngdacjpflaaFi
import Derived.Laws.BitsLemmas
set_option linter.unusedVariables false
set_option linter.unusedSimpArgs false
set_option maxRecDepth 100000
namespace Go.Proofs.Ytehmngdacjpflaa.Frm
open Go.RowKit Go.Lib Go.Proofs.Ytehmngdacjpflaa.Bx

set_option maxHeartbeats 8000000 in
theorem wrap_ok : WrapOk := fun l w _ => by
  obtain ⟨n, hn⟩ : ∃ n, n = l.length := ⟨_, rfl⟩
  obtain ⟨s, hs⟩ : ∃ s, s = mkB l := ⟨_, rfl⟩
  have hsz : s.size = n := by rw [hs, mkB_size, hn]
  by_cases h0 : n = 0 ∨ 65535 < n
  · have hE := wrapE_no (l := l) (by omega)
    rw [hE, ← hs]
    clear hE hs hn
    rcases h0 with h0 | h0
    · subst h0
      go_enter Try.func7, Try.ntmps7
      go_wp2_with fail
      all_goals exact bodyPost_ret (v := .tuple #[.string (ByteArray.mk #[]), .bool false]) (by simp [results, Try.results7, go_sem]) rfl ⟨rfl, Below.refl _ _⟩
    · have g0 : ¬ (n : Int) = 0 := by omega
      have g1 : decide ((65535 : Int) < (n : Int)) = true := decide_eq_true (by omega)
      have g2 : decide ((n : Int) = 0) = false := decide_eq_false g0
      go_enter Try.func7, Try.ntmps7
      go_wp2_with fail
      all_goals exact bodyPost_ret (v := .tuple #[.string (ByteArray.mk #[]), .bool false]) (by simp [results, Try.results7, go_sem]) rfl ⟨rfl, Below.refl _ _⟩
  · have hE := wrapE_yes (l := l) (by omega)
    have g0 : ¬ (n : Int) = 0 := by omega
    have g1 : decide ((65535 : Int) < (n : Int)) = false := decide_eq_false (by omega)
    have g2 : decide ((n : Int) = 0) = false := decide_eq_false g0
    obtain ⟨T, hT⟩ : ∃ T, T = mkB [UInt8.ofNat (n / 256), UInt8.ofNat (n % 256)] := ⟨_, rfl⟩
    obtain ⟨U, hU⟩ : ∃ U, U = mkB (wrapB l) := ⟨_, rfl⟩
    have hUT : U = T ++ s := by rw [hU, hT, hs, hn]; exact wrap_split l
    have hTs : T.size = 2 := by rw [hT]; rfl
    have AD : ∀ w, (Op.stringOp .add T s).run Try.prog w = .ok (.string U) w := fun w => by rw [hUT]; exact run_string_add_sum w _ _ (by rw [hTs, hsz]; omega)
    have CV : Hid (∀ cs w, cs = #[Value.int .u8 ((n / 256 : Nat) : Int), .int .u8 ((n % 256 : Nat) : Int)] → (convert 34 9 (.slice (some ⟨World.heap w |>.size, 0, none⟩) 2 2)).run Try.prog (w.alloc (.cells cs 5)) = .ok (.string T) (w.alloc (.cells cs 5))) := fun cs w ec => by
      have h := run_convert_bytes_back (P := Try.prog) (w.alloc (.cells cs 5)) 34 9 5 ⟨w.heap.size, 0, none⟩ 2 [UInt8.ofNat (n / 256), UInt8.ofNat (n % 256)] Try.underlying34 Try.underlying5 Try.underlying9 (fun j hj => by
        have hb : (w.alloc (.cells cs 5)).heap[w.heap.size]? = some (.cells cs 5 (0, 0)) := (box1 w cs _).2.1
        rw [ec] at hb
        have hj' : j < 2 := hj
        have hadd : (⟨w.heap.size, 0, none⟩ : Addr).add j = ⟨w.heap.size, j, none⟩ := by unfold Addr.add; split <;> simp_all
        rw [hadd, ec, cell_of_row _ _ _ _ _ _ hb]
        match j, hj' with
        | 0, _ =>
          show some (Value.int .u8 _) = some (Value.int .u8 (((UInt8.ofNat (n / 256)).toNat : Nat) : Int))
          rw [UInt8.toNat_ofNat', Nat.mod_eq_of_lt (show n / 256 < 2 ^ 8 by omega)]
        | 1, _ =>
          show some (Value.int .u8 _) = some (Value.int .u8 (((UInt8.ofNat (n % 256)).toNat : Nat) : Int))
          rw [UInt8.toNat_ofNat', Nat.mod_eq_of_lt (show n % 256 < 2 ^ 8 by omega)])
      rw [hT]
      exact h
    rw [hE, ← hs]
    have q3 : IntKind.u8.wrap ((n : Int) / 2 ^ 8) = ((n / 256 : Nat) : Int) := by rw [show ((n : Int) / 2 ^ 8) = ((n / 256 : Nat) : Int) by omega]; exact IntWalk.u8_in _ (by omega)
    have q4 : IntKind.u8.wrap (n : Int) = ((n % 256 : Nat) : Int) := by unfold IntKind.wrap; simp [IntKind.bits, IntKind.signed]
    rw [← hU]
    have CV1 : ∀ w : World, (convert 34 9 (.slice (some ⟨w.heap.size, 0, none⟩) 2 2)).run Try.prog (w.alloc (.cells #[Value.int .u8 ((n : Int) / 256), .int .u8 ((n : Int) % 256)] 5)) = .ok (.string T) (w.alloc (.cells #[Value.int .u8 ((n : Int) / 256), .int .u8 ((n : Int) % 256)] 5)) := fun w => CV.out _ w (by rw [Int.natCast_ediv, Int.natCast_emod]; rfl)
    clear hE hs hn hT hUT hU CV
    go_enter Try.func7, Try.ntmps7
    go_wp2_with fail
    all_goals exact bodyPost_ret (v := .tuple #[.string U, .bool true]) (by simp [results, Try.results7, go_sem]) rfl ⟨rfl, (box1 _ _ _).1⟩
set_option maxHeartbeats 8000000 in
theorem gave_any (l : List UInt8) (most : Int) (w : World) (hl : l.length ≤ 300000) : Calls Try.prog 9 #[.string (mkB l), .int .i64 most] w (Gave w (sp most l)) := by
  obtain ⟨N, hN⟩ : ∃ N, N = l.length := ⟨_, rfl⟩
  go_enter Try.func9, Try.ntmps9
  go_wp2_with fail
  go_loopg [0, 7] N (fun g s_ o_ wr => ∃ (L : List UInt8) (X : List (List UInt8)), L.length ≤ g ∧ 3 * X.length + L.length ≤ 300000 ∧ s_ = .string (mkB L) ∧ Hid (sp most l = appR X (sp most L)) ∧ (∃ a c, o_ = .slice a X.length c) ∧ Hid (OStrs w.heap.size wr o_ X) ∧ Below w.heap.size w wr)
  case atStart => exact ⟨l, [], by omega, by simpa using hl, rfl, rfl, ⟨_, _, rfl⟩, OStrs.nil_ _ _, Below.refl _ _⟩
  case round =>
    obtain ⟨L, X, hg, hX, rfl, HS, ⟨oa, oc, rfl⟩, HO, hbel⟩ := hrel
    have HB := Lib.hid hbel
    obtain ⟨s, hs⟩ : ∃ s, s = mkB L := ⟨_, rfl⟩
    obtain ⟨n, hn⟩ : ∃ n, n = L.length := ⟨_, rfl⟩
    have hsz : s.size = n := by rw [hs, mkB_size, hn]
    by_cases h2 : n < 2
    · have g1 : decide ((2 : Int) ≤ (n : Int)) = false := decide_eq_false (by omega)
      have FN : Hid (∀ w', Below wr.heap.size wr w' → Gave w (sp most l) (.returned (.tuple #[.slice oa X.length oc, .string s, .bool true])) w') := fun w' hb => by
        have e : sp most l = (X, L, true) := by
          rw [HS.out, sp_short (by omega)]
          unfold appR
          rw [List.append_nil]
        rw [e]
        exact ⟨_, by rw [hs], HO.out.below hb, below_on HB.out hb⟩
      rw [← hs]
      clear hbel hs hn HO HS HB
      go_wp2_with fail
      exact bodyPost_ret (v := .tuple #[.slice oa X.length oc, .string s, .bool true]) (by simp [results, Try.results9, go_sem]) rfl (FN.out _ (Below.refl _ _))
    · have g1 : decide ((2 : Int) ≤ (n : Int)) = true := decide_eq_true (by omega)
      obtain ⟨h, hh⟩ : ∃ h, h = hd L := ⟨_, rfl⟩
      obtain ⟨x, hx⟩ : ∃ x, x = (L.getD 0 0).toNat := ⟨_, rfl⟩
      obtain ⟨y, hy⟩ : ∃ y, y = (L.getD 1 0).toNat := ⟨_, rfl⟩
      have x8 : x < 256 := by rw [hx]; exact UInt8.toNat_lt _
      have y8 : y < 256 := by rw [hy]; exact UInt8.toNat_lt _
      have hxy : x * 256 + y = h := by rw [hh, hx, hy]; rfl
      have hxi : bits .or .i64 ((x : Int) * 256) (y : Int) = (h : Nat) := by
        rw [bits_join .i64 16 (by decide) (fun n h0 h1 => IntWalk.i64_in n (by omega)) 8 _ _ (by omega) (by omega) (by omega) (by omega) (by omega) (by omega)]
        omega
      have XI0 : ∀ w, (Instr.index 9 (.string s) (.int .i64 0)).run Try.prog w = .ok (.int .u8 (x : Nat)) w := fun w => by
        rw [hs, hx]
        exact byte_run w L .i64 (i := 0) (by omega)
      have XI1 : ∀ w, (Instr.index 9 (.string s) (.int .i64 1)).run Try.prog w = .ok (.int .u8 (y : Nat)) w := fun w => by
        rw [hs, hy]
        exact byte_run w L .i64 (i := 1) (by omega)
      rw [← hs]
      clear hbel
      by_cases hbad : h = 0 ∨ most < (h : Int)
      · have FN : Hid (∀ w', Below wr.heap.size wr w' → Gave w (sp most l) (.returned (.tuple #[.slice oa X.length oc, .string (ByteArray.mk #[]), .bool false])) w') := fun w' hb => by
          have e : sp most l = (X, [], false) := by
            rw [HS.out, sp_bad (by omega) (by rw [← hh]; exact hbad)]
            unfold appR
            rw [List.append_nil]
          rw [e]
          exact ⟨_, rfl, HO.out.below hb, below_on HB.out hb⟩
        clear hs hn HO HS HB hx hy hh hN
        go_wp2_with fail
        go_upto_region 3 with fail
        go_quiet (fail)
        have HF := FN.out _ (d_drews (Below.refl _ _) nq)
        clear FN hxy hxi XI0 XI1
        by_cases h0 : h = 0
        · subst h0
          go_wp2_with fail
          all_goals exact bodyPost_ret (v := .tuple #[.slice oa X.length oc, .string (ByteArray.mk #[]), .bool false]) (by simp [results, Try.results9, go_sem]) rfl HF
        · have g2 : decide (most < (h : Int)) = true := decide_eq_true (by omega)
          have g3 : most < (h : Int) := by omega
          have g4 : ¬ (h : Int) = 0 := by omega
          have g5 : decide ((h : Int) = 0) = false := decide_eq_false g4
          go_wp2_with fail
          all_goals exact bodyPost_ret (v := .tuple #[.slice oa X.length oc, .string (ByteArray.mk #[]), .bool false]) (by simp [results, Try.results9, go_sem]) rfl HF
      · have g2 : decide (most < (h : Int)) = false := decide_eq_false (by omega)
        have g3 : ¬ most < (h : Int) := by omega
        have g4 : ¬ (h : Int) = 0 := by omega
        have g5 : decide ((h : Int) = 0) = false := decide_eq_false g4
        have h6 : h < 65536 := by omega
        by_cases hp : n < h + 2
        · have q1 : decide ((n : Int) < 2 + (h : Int)) = true := decide_eq_true (by omega)
          have q2 : (n : Int) < 2 + (h : Int) := by omega
          have FN : Hid (∀ w', Below wr.heap.size wr w' → Gave w (sp most l) (.returned (.tuple #[.slice oa X.length oc, .string s, .bool true])) w') := fun w' hb => by
            have e : sp most l = (X, L, true) := by
              rw [HS.out, sp_part (by omega) (by rw [← hh]; exact hbad) (by omega)]
              unfold appR
              rw [List.append_nil]
            rw [e]
            exact ⟨_, by rw [hs], HO.out.below hb, below_on HB.out hb⟩
          clear hs hn HO HS HB hx hy hh hN
          go_wp2_with fail
          go_upto_region 3 with fail
          go_quiet (fail)
          have HF := FN.out _ (d_drews (Below.refl _ _) nq)
          clear FN hxy hxi XI0 XI1
          go_wp2_with fail
          all_goals exact bodyPost_ret (v := .tuple #[.slice oa X.length oc, .string s, .bool true]) (by simp [results, Try.results9, go_sem]) rfl HF
        · have q1 : decide ((n : Int) < 2 + (h : Int)) = false := decide_eq_false (by omega)
          have q2 : ¬ (n : Int) < 2 + (h : Int) := by omega
          obtain ⟨B, hB⟩ : ∃ B, B = (L.take (h + 2)).drop 2 := ⟨_, rfl⟩
          obtain ⟨L2, hL2⟩ : ∃ L2, L2 = L.drop (h + 2) := ⟨_, rfl⟩
          obtain ⟨b, hb⟩ : ∃ b, b = mkB B := ⟨_, rfl⟩
          obtain ⟨s2, hs2⟩ : ∃ s2, s2 = mkB L2 := ⟨_, rfl⟩
          have XS1 : ∀ w, (Instr.slice 9 (.string s) (some (.int .i64 2)) (some (.int .i64 (2 + (h : Int)))) none).run Try.prog w = .ok (.string b) w := fun w => by
            rw [hs, hb, hB, show (2 : Int) + (h : Int) = ((h + 2 : Nat) : Int) by omega]
            exact slice_mid w L (i := 2) (j := h + 2) (by omega) (by omega)
          have XS2 : ∀ w, (Instr.slice 9 (.string s) (some (.int .i64 (2 + (h : Int)))) none none).run Try.prog w = .ok (.string s2) w := fun w => by
            rw [hs, hs2, hL2, show (2 : Int) + (h : Int) = ((h + 2 : Nat) : Int) by omega]
            exact slice_from w L (i := h + 2) (by omega)
          have hl2 : L2.length = n - (h + 2) := by rw [hL2, List.length_drop, ← hn]
          have HS2 : Hid (sp most l = appR (X ++ [B]) (sp most L2)) := by
            show _ = _
            rw [HS.out, sp_step (by rw [← hh]; exact hbad) (by rw [← hh]; omega), ← hh, ← hB, ← hL2, appR_cons]
          have HL2 : Hid (L2.length < L.length ∧ 3 * (X.length + 1) + L2.length ≤ 300000) := ⟨by omega, by omega⟩
          have HSS := Lib.hid hs2
          have HBB := Lib.hid hb
          clear hs hn HS hx hy hh hN hB hL2 hs2 hb hl2
          go_wp2_with fail
          go_upto_region 3 with fail
          go_quiet (fail)
          clear hxy hxi XI0 XI1
          have KD := Lib.hid (d_drews (Below.refl wr.heap.size wr) nq)
          generalize wr.drewN nq = wq at KD ⊢
          have HBY : Hid (Below w.heap.size w (wq.alloc (.cells #[.string b] 9))) := below_al (below_on HB.out KD.out) _
          have A1 : Hid (Rk.OwnK 9 1 w.heap.size (wq.alloc (.cells #[.string b] 9)) (.slice oa X.length oc) (cellsT X)) := HO.out.below (below_al KD.out _)
          have A2 : Hid (Rk.RowK 1 (wq.alloc (.cells #[.string b] 9)) (.slice (some ⟨wq.heap.size, 0, none⟩) 1 1) [[Value.string b]]) := Rk.row_one (e := 9) (heap_alloc_new _ _) rfl
          have A3 : Hid ((cellsT X).length + 1 ≤ 100000) := by show _ ≤ _; rw [cellsT_len]; have := HL2.out; omega
          have A4 : Hid (w.heap.size ≤ (wq.alloc (.cells #[.string b] 9)).heap.size) := HBY.out.size
          have HYO : Hid (∀ z ∈ [[Value.string b]], ∀ q ∈ z, q.oneCell' = true) := fun z hz q hq => by
            simp only [List.mem_singleton] at hz
            subst hz
            simp only [List.mem_singleton] at hq
            subst hq
            rfl
          clear HO HB KD
          go_wp2_with (at_builtin; refine Rk.wpList_append_rowk rfl _ _ 24 9 1 16 _ Try.underlying24 infoS rfl (by decide) (by decide) rfl w.heap.size _ _ (cellsT X) _ rfl rfl A1.out A2.out HYO.out A3.out A4.out ?_)
          intro v6 w9 h5 g5 k5
          have K9 : Hid (OStrs w.heap.size w9 v6 (X ++ [B])) := by
            show Rk.OwnK _ _ _ _ _ _
            rw [cellsT_app, show cellsT [B] = [[Value.string b]] from by rw [HBB.out]; rfl]
            exact h5
          have HB6 := Lib.hid (A1.out.belowOf HBY.out (Nat.le_refl _) A4.out g5)
          clear h5 g5 k5 A1 A2 A3 A4 HBY HYO HBB
          obtain ⟨a6, c6, rfl, _, _⟩ := K9.out.read.is_slice
          go_wp2_with fail
          go_roundg L2.length
          case measure => have := HL2.out; omega
          case rel => exact ⟨L2, X ++ [B], Nat.le_refl _, by rw [List.length_append]; exact HL2.out.2, by rw [HSS.out], HS2, ⟨_, _, rfl⟩, K9, HB6.out⟩
theorem split_ok : SplitOk := fun l most w hl _ => (gave_any l most w hl).mono fun _ _ h => h.gives
end Go.Proofs.Ytehmngdacjpflaa.Frm
