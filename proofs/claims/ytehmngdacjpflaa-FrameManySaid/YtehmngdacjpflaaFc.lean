/- Frame: Wrap of the plain text. -/
import Derived.Test.YtehmngdacjpflaaFb
set_option linter.unusedVariables false
set_option linter.unusedSimpArgs false
set_option maxRecDepth 100000
namespace Go.Proofs.Ytehmngdacjpflaa.Frm
open Go.RowKit Go.Lib Go.Proofs.Ytehmngdacjpflaa.Bx

def wrapE (l : List UInt8) : List UInt8 × Bool := if l.length = 0 ∨ 65535 < l.length then ([], false) else (wrapB l, true)
theorem wrapE_no {l : List UInt8} (h : l.length = 0 ∨ 65535 < l.length) : wrapE l = ([], false) := if_pos h
theorem wrapE_yes {l : List UInt8} (h : ¬ (l.length = 0 ∨ 65535 < l.length)) : wrapE l = (wrapB l, true) := if_neg h
theorem wrap_split (l : List UInt8) : mkB (wrapB l) = mkB [UInt8.ofNat (l.length / 256), UInt8.ofNat (l.length % 256)] ++ mkB l := by
  rw [mkB_app]
  rfl
set_option maxHeartbeats 8000000 in
theorem rWrap_any (l : List UInt8) (w : World) : Calls Try.prog 8 #[.string (mkB l)] w fun e w' => e = .returned (.tuple #[.string (mkB (wrapE l).1), .bool (wrapE l).2]) ∧ Below w.heap.size w w' := by
  obtain ⟨n, hn⟩ : ∃ n, n = l.length := ⟨_, rfl⟩
  obtain ⟨s, hs⟩ : ∃ s, s = mkB l := ⟨_, rfl⟩
  have hsz : s.size = n := by rw [hs, mkB_size, hn]
  have SQ := str_eq s (ByteArray.mk #[])
  by_cases h0 : n = 0
  · have hE := wrapE_no (l := l) (.inl (by omega))
    have hse : s = ByteArray.mk #[] := by
      rw [hs]
      have : l = [] := List.eq_nil_of_length_eq_zero (by omega)
      rw [this]
      rfl
    rw [hE, ← hs, hse]
    clear hE SQ
    clear hs hse
    go_enter Try.func8, Try.ntmps8
    go_wp2_with fail
    all_goals exact bodyPost_ret (v := .tuple #[.string (ByteArray.mk #[]), .bool false]) (by simp [results, Try.results8, go_sem]) rfl ⟨rfl, Below.refl _ _⟩
  · have hse : ¬ s = ByteArray.mk #[] := fun e => h0 (by rw [← hsz, e]; rfl)
    clear SQ
    have SN : ¬ s.toList = [] := fun e => h0 (by rw [← hsz, show s.size = s.data.toList.length from rfl, ← Lib.toList_data, e]; rfl)
    have SE0 : s.toList.isEmpty = false := by cases h : s.toList with
      | nil => exact absurd h SN
      | cons a m => rfl
    clear SN
    by_cases h1 : 65535 < n
    · have hE := wrapE_no (l := l) (.inr (by omega))
      have g1 : decide ((65535 : Int) < (n : Int)) = true := decide_eq_true (by omega)
      rw [hE, ← hs]
      clear hE hs hn
      go_enter Try.func8, Try.ntmps8
      go_wp2_with fail
      all_goals exact bodyPost_ret (v := .tuple #[.string (ByteArray.mk #[]), .bool false]) (by simp [results, Try.results8, go_sem]) rfl ⟨rfl, Below.refl _ _⟩
    · have hE := wrapE_yes (l := l) (by omega)
      have g1 : decide ((65535 : Int) < (n : Int)) = false := decide_eq_false (by omega)
      obtain ⟨T, hT⟩ : ∃ T, T = mkB [UInt8.ofNat (n / 256), UInt8.ofNat (n % 256)] := ⟨_, rfl⟩
      obtain ⟨U, hU⟩ : ∃ U, U = mkB (wrapB l) := ⟨_, rfl⟩
      have hUT : U = T ++ s := by rw [hU, hT, hs, hn]; exact wrap_split l
      have hTs : T.size = 2 := by rw [hT]; rfl
      have AD : ∀ w, (Op.stringOp .add T s).run Try.prog w = .ok (.string U) w := fun w => by rw [hUT]; exact run_string_add_sum w _ _ (by rw [hTs, hsz]; omega)
      have CV : Hid (∀ cs w, cs = #[Value.int .u8 ((n / 256 : Nat) : Int), .int .u8 ((n % 256 : Nat) : Int)] → (convert 34 9 (.slice (some ⟨World.heap w |>.size, 0, none⟩) 2 2)).run Try.prog (w.alloc (.cells cs 5)) = .ok (.string T) (w.alloc (.cells cs 5))) := fun cs w ec => by
        have h := run_convert_bytes_back (P := Try.prog) (w.alloc (.cells cs 5)) 34 9 5 ⟨w.heap.size, 0, none⟩ 2 [UInt8.ofNat (n / 256), UInt8.ofNat (n % 256)] Try.underlying34 Try.underlying5 Try.underlying9 (fun j hj => by
          have hb : (w.alloc (.cells cs 5)).heap[w.heap.size]? = some (.cells cs 5 (0, 0)) := (box1 w cs _).2.1
          rw [ec] at hb
          have hj' : j < 2 := hj
          have hadd : (⟨w.heap.size, 0, none⟩ : Addr).add j = ⟨w.heap.size, j, none⟩ := by unfold Addr.add; split <;> simp_all
          rw [hadd, ec, cell_of_row _ _ _ _ _ _ hb]
          match j, hj' with
          | 0, _ =>
            show some (Value.int .u8 _) = some (Value.int .u8 (((UInt8.ofNat (n / 256)).toNat : Nat) : Int))
            rw [UInt8.toNat_ofNat', Nat.mod_eq_of_lt (show n / 256 < 2 ^ 8 by omega)]
          | 1, _ =>
            show some (Value.int .u8 _) = some (Value.int .u8 (((UInt8.ofNat (n % 256)).toNat : Nat) : Int))
            rw [UInt8.toNat_ofNat', Nat.mod_eq_of_lt (show n % 256 < 2 ^ 8 by omega)])
        rw [hT]
        exact h
      rw [hE, ← hs]
      have q1 : (n : Int).tdiv 256 = ((n / 256 : Nat) : Int) := by rw [Int.tdiv_eq_ediv_of_nonneg (by omega)]; omega
      have q2 : (n : Int).tmod 256 = ((n % 256 : Nat) : Int) := by rw [Int.tmod_eq_emod_of_nonneg (by omega)]; omega
      have q3 : IntKind.u8.wrap ((n / 256 : Nat) : Int) = ((n / 256 : Nat) : Int) := IntWalk.u8_in _ (by omega)
      have q4 : IntKind.u8.wrap ((n % 256 : Nat) : Int) = ((n % 256 : Nat) : Int) := IntWalk.u8_in _ (by omega)
      rw [← hU]
      have CV1 : ∀ w : World, (convert 34 9 (.slice (some ⟨w.heap.size, 0, none⟩) 2 2)).run Try.prog (w.alloc (.cells #[Value.int .u8 ((n : Int) / 256), .int .u8 ((n : Int) % 256)] 5)) = .ok (.string T) (w.alloc (.cells #[Value.int .u8 ((n : Int) / 256), .int .u8 ((n : Int) % 256)] 5)) := fun w => CV.out _ w (by rw [Int.natCast_ediv, Int.natCast_emod]; rfl)
      clear hE hs hn hT hUT hU CV
      go_enter Try.func8, Try.ntmps8
      go_wp2_with fail
      all_goals exact bodyPost_ret (v := .tuple #[.string U, .bool true]) (by simp [results, Try.results8, go_sem]) rfl ⟨rfl, (box1 _ _ _).1⟩
end Go.Proofs.Ytehmngdacjpflaa.Frm
