/- Ledger: a head's bytes, as the program makes them; is it a ring. -/
import Derived.Test.YtffejfpbeimngaaDoorLb
import Derived.Test.YtffejfpbeimngaaDoorShelf
import Derived.Test.YtffejfpbeimngaaDoorWrite
set_option linter.unusedVariables false
set_option linter.unusedSimpArgs false
set_option maxRecDepth 100000
namespace Go.Proofs.YtffejfpbeimngaaDoor.Ldg
open Go.RowKit Go.Lib Go.Proofs.YtffejfpbeimngaaDoor.Bx Go.Proofs.YtffejfpbeimngaaDoor.Frm Go.Proofs.YtffejfpbeimngaaDoor.Wds Go.Proofs.YtffejfpbeimngaaDoor.Plt

theorem wr_new (w : World) : Wr (w.heap.size + 1) (w.alloc (.cells #[.slice none 0 0, .bool false] 77)) w.heap.size (.slice none 0 0) [] false :=
  ⟨by omega, by rw [(box1 w _ _).2.2]; exact Nat.le_refl _, (box1 w _ _).2.1, Rk.OwnK.nil_ _ _ _ _⟩
theorem zeros117 : (⟨(Lib.repeatL (mkB [0]).data.toList 117).toArray⟩ : ByteArray) = mkB (List.replicate 117 0) := by kernel_rfl
set_option maxHeartbeats 4000000 in
theorem head_any (number m : Nat) (h1 : number ≤ 1099511627776) (h2 : m ≤ 65535) (w : World) : Calls Tryd.prog 36 #[.int .i64 (number : Nat), .int .i64 (m : Nat)] w fun e w' => e = .returned (.string (mkB (headL number m))) ∧ Below w.heap.size w w' := by
  have HN := Lib.hid (wr_new w)
  have B0 := Lib.hid (box1 w #[.slice none 0 0, .bool false] 77).1
  have RP : Hid (∀ w, Calls Tryd.prog 47 #[.string ⟨#[0]⟩, .int .i64 117] w fun e w' => e = .returned (.string (mkB (List.replicate 117 0))) ∧ Below w.heap.size w w') := fun w => by
    have h := Tryd.strings_Repeat (mkB [0]) 117 w (by decide) (by decide)
    rw [zeros117] at h
    exact h
  obtain ⟨l, hl⟩ : ∃ l, l = (([] ++ [UInt8.ofNat 72]) ++ numL (number : Nat)) ++ pairL m := ⟨_, rfl⟩
  have hll : l.length = 11 := by rw [hl]; simp [num_len, pair_len]
  have hlh : headL number m = l ++ List.replicate 117 0 := by rw [hl]; unfold headL; simp
  have AD : ∀ w, (Op.stringOp .add (mkB l) (mkB (List.replicate 117 0))).run Tryd.prog w = .ok (.string (mkB (headL number m))) w := fun w => by
    rw [hlh, show mkB (l ++ List.replicate 117 0) = mkB l ++ mkB (List.replicate 117 0) from (mkB_app _ _)]
    exact run_string_add_sum w _ _ (by rw [mkB_size, mkB_size, hll, List.length_replicate]; decide)
  obtain ⟨t, ht⟩ : ∃ t, t = mkB (headL number m) := ⟨_, rfl⟩
  rw [← ht]
  simp only [← ht] at AD
  go_enter Tryd.func36, Tryd.ntmps36
  go_wp2_with fail
  refine (pbyte_yes HN.out 72 (by decide) (by decide)).mono ?_
  rintro e w1 ⟨rfl, v1, r1, s1⟩
  have R1 := Lib.hid r1
  have S1 := Lib.hid s1
  clear r1 s1 HN
  go_wp2_with fail
  refine (pnum_any R1.out (number : Nat) (by decide)).mono ?_
  rintro e w2 ⟨rfl, v2, r2, s2⟩
  have R2 := Lib.hid r2
  have S2 := Lib.hid (S1.out.trans s2)
  clear r2 s2 R1 S1
  go_wp2_with fail
  refine (ppair_yes R2.out m h2 (by rw [List.length_append, num_len]; decide)).mono ?_
  rintro e w3 ⟨rfl, v3, r3, s3⟩
  rw [← hl] at r3
  have R3 := Lib.hid r3
  have S3 := Lib.hid (S2.out.trans s3)
  clear r3 s3 R2 S2
  go_wp2_with fail
  refine (written_yes R3.out (fun e => by rw [e] at hll; cases hll)).mono ?_
  rintro e w4 ⟨rfl, b4⟩
  have hz : (mkB l).size = 11 := by rw [mkB_size, hll]
  have B4 : Hid (Below w.heap.size w w4) := below_on (h1 := B0.out.trans ((S3.out.low (wr_new w)).mono (Nat.le_refl _))) (h2 := b4) (hB := by have := (S3.out.low (wr_new w)).size; have := B0.out.size; omega)
  clear b4 R3 S3 hll hl hlh B0
  generalize mkB l = s at *
  generalize mkB (List.replicate 117 0) = z at *
  go_wp2_with fail
  refine (RP.out _).mono ?_
  rintro e w5 ⟨rfl, b5⟩
  have B5 := Lib.hid (below_on B4.out b5)
  clear b5 B4
  go_wp2_with fail
  subst ht
  go_ret
  exact ⟨rfl, B5.out⟩
theorem ring_any (first n size : Nat) (h1 : first ≤ 16384) (h2 : 2 ≤ n) (h3 : first + n ≤ size) (h4 : size ≤ 16384) (w : World) : Calls Tryd.prog 22 #[.int .i64 (first : Nat), .int .i64 (n : Nat), .int .i64 (size : Nat)] w fun e w' => e = .returned (.bool true) ∧ w' = w := by
  have g1 : decide ((0 : Int) ≤ (first : Int)) = true := decide_eq_true (by omega)
  have g2 : decide ((2 : Int) ≤ (n : Int)) = true := decide_eq_true (by omega)
  have g3 : decide ((n : Int) ≤ (size : Int)) = true := decide_eq_true (by omega)
  have g4 : decide ((first : Int) ≤ (size : Int) - (n : Int)) = true := decide_eq_true (by omega)
  go_enter Tryd.func22, Tryd.ntmps22
  go_wp2_with fail
  go_ret
  exact ⟨rfl, rfl⟩
end Go.Proofs.YtffejfpbeimngaaDoor.Ldg
