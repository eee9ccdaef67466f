/- Audit: Same, Page and Add of the plain text. -/
import Derived.Test.YtfahfjhibffdkaaEs
set_option linter.unusedVariables false
set_option linter.unusedSimpArgs false
set_option maxRecDepth 100000
namespace Go.Proofs.Ytfahfjhibffdkaa.Aud
open Go.RowKit Go.Lib Go.Proofs.Ytfahfjhibffdkaa.Rig Go.Proofs.Ytfahfjhibffdkaa.Rt Go.Proofs.Ytfahfjhibffdkaa.Bx

set_option maxHeartbeats 8000000 in
theorem esame_any {u v : Value} {A : List En} {P Q : Nat → Prop} (w : World) (h1 : EnsP P w u A) (h2 : EnsP Q w v A) :
    Calls Try.prog 10 #[u, v] w fun e w' => e = .returned (.bool true) ∧ Below w.heap.size w w' := by
  obtain ⟨a1, k1, rfl, l1, m1⟩ := h1.is_slice
  obtain ⟨a2, k2, rfl, l2, m2⟩ := h2.is_slice
  obtain ⟨n, hn⟩ : ∃ n, n = A.length := ⟨_, rfl⟩
  have H1 : Hid (∀ w', Below w.heap.size w w' → EnsP P w' (.slice a1 n k1) A) := fun w' hb => by rw [hn]; exact h1.below hb
  have H2 : Hid (∀ w', Below w.heap.size w w' → EnsP Q w' (.slice a2 n k2) A) := fun w' hb => by rw [hn]; exact h2.below hb
  rw [← hn] at l1 l2 ⊢
  unfold maxLen at m1 m2
  have HN := Lib.hid hn
  clear h1 h2 hn
  go_enter Try.func10, Try.ntmps10
  go_wp2_with fail
  go_loopg [5] n (fun g i wr => ∃ k : Nat, k ≤ n ∧ n - k ≤ g ∧ i = .int .i64 k ∧ Below w.heap.size w wr)
  case atStart => exact ⟨0, Nat.zero_le _, by omega, rfl, Below.refl _ _⟩
  case round =>
    obtain ⟨k, hk, hg, rfl, hbel⟩ := hrel
    have HB := Lib.hid hbel
    by_cases hlt : k < n
    · have hkl : k < A.length := by rw [← HN.out]; exact hlt
      obtain ⟨b, off, sa, sn, sc, la', ln, lc, rfl, hb, hv, c0, c1, c2, c3, c4, hsn, hln⟩ := (H1.out _ hbel).get hkl
      obtain ⟨b', off', sa', sn', sc', la2, ln', lc', rfl, hb', hv', d0, d1, d2, d3, d4, hsn', hln'⟩ := (H2.out _ hbel).get hkl
      obtain rfl : sn = sn' := by rw [hsn, hsn']
      obtain rfl : ln = ln' := by rw [hln, hln']
      clear hsn hln hsn' hln'
      generalize A[k] = y at *
      obtain ⟨yu, yo, ys, S, L⟩ := y
      simp only at c0 c1 c2 c3 c4 d0 d1 d2 d3 d4 hv hv'
      obtain ⟨_, _, e, _, iS, iL⟩ := hv
      obtain ⟨rfl, rfl⟩ : _ ∧ _ := by simpa using e
      obtain ⟨_, _, e', _, iS', iL'⟩ := hv'
      obtain ⟨rfl, rfl⟩ : _ ∧ _ := by simpa using e'
      have CS : Hid (∀ w', Below wr.heap.size wr w' → Calls Try.prog 20 #[.slice sa sn sc, .slice sa' sn sc'] w' fun e w'' => e = .returned (.bool true) ∧ Below w'.heap.size w' w'') := fun w' hb => (ints_same w' (iS.1.below hb (Nat.le_refl _)) (iS'.1.below hb (Nat.le_refl _))).mono fun e w'' h => ⟨h.1, by obtain ⟨q, rfl⟩ := h.2; exact below_drews (Below.refl _ _) q⟩
      have CL : Hid (∀ w', Below wr.heap.size wr w' → Calls Try.prog 20 #[.slice la' ln lc, .slice la2 ln lc'] w' fun e w'' => e = .returned (.bool true) ∧ Below w'.heap.size w' w'') := fun w' hb => (ints_same w' (iL.1.below hb (Nat.le_refl _)) (iL'.1.below hb (Nat.le_refl _))).mono fun e w'' h => ⟨h.1, by obtain ⟨q, rfl⟩ := h.2; exact below_drews (Below.refl _ _) q⟩
      obtain ⟨B1, R1, L1⟩ := box1 wr #[.int .i64 yu, .int .i64 yo, .int .i64 ys, .slice sa sn sc, .slice la' ln lc] 25
      obtain ⟨W1, hW1⟩ : ∃ W1, W1 = wr.alloc (.cells #[.int .i64 yu, .int .i64 yo, .int .i64 ys, .slice sa sn sc, .slice la' ln lc] 25) := ⟨_, rfl⟩
      rw [← hW1] at B1 R1 L1
      have HW1 := Lib.hid hW1
      obtain ⟨b6, hb6⟩ : ∃ b6, b6 = wr.heap.size := ⟨_, rfl⟩
      rw [← hb6] at R1 L1
      obtain ⟨B2, R2, L2⟩ := box1 W1 #[.int .i64 yu, .int .i64 yo, .int .i64 ys, .slice sa' sn sc', .slice la2 ln lc'] 25
      obtain ⟨W2, hW2⟩ : ∃ W2, W2 = W1.alloc (.cells #[.int .i64 yu, .int .i64 yo, .int .i64 ys, .slice sa' sn sc', .slice la2 ln lc'] 25) := ⟨_, rfl⟩
      rw [← hW2] at B2 R2 L2
      have HW2 := Lib.hid hW2
      obtain ⟨b7, hb7⟩ : ∃ b7, b7 = W1.heap.size := ⟨_, rfl⟩
      rw [← hb7] at R2 L2
      have HL6 : Hid (b6 < W2.heap.size) := by show _ < _; omega
      have HL7 : Hid (b7 < W2.heap.size) := by show _ < _; omega
      have R1' := (B2.block _ (show b6 < W1.heap.size by omega)).trans R1
      have BX : Hid (∀ w', Below W2.heap.size W2 w' → (w'.cell? ⟨b6, 0, none⟩ = some (.int .i64 yu) ∧ w'.cell? ⟨b6, 1, none⟩ = some (.int .i64 yo) ∧ w'.cell? ⟨b6, 2, none⟩ = some (.int .i64 ys) ∧ w'.cell? ⟨b6, 3, none⟩ = some (.slice sa sn sc) ∧ w'.cell? ⟨b6, 4, none⟩ = some (.slice la' ln lc)) ∧ (w'.cell? ⟨b7, 0, none⟩ = some (.int .i64 yu) ∧ w'.cell? ⟨b7, 1, none⟩ = some (.int .i64 yo) ∧ w'.cell? ⟨b7, 2, none⟩ = some (.int .i64 ys) ∧ w'.cell? ⟨b7, 3, none⟩ = some (.slice sa' sn sc') ∧ w'.cell? ⟨b7, 4, none⟩ = some (.slice la2 ln lc'))) := fun w' hb =>
        ⟨five_cells ((hb.block _ HL6.out).trans R1'), five_cells ((hb.block _ HL7.out).trans R2)⟩
      replace d0 := vcell B1 hb' d0
      replace d1 := vcell B1 hb' d1
      replace d2 := vcell B1 hb' d2
      replace d3 := vcell B1 hb' d3
      replace d4 := vcell B1 hb' d4
      have K2 := Lib.hid (below_more B1 B2)
      have HK2 := Lib.hid (below_more HB.out K2.out)
      have i1 : (k : Int) < (n : Int) := by omega
      clear hbel e e' iS iL iS' iL' B1 R1 L1 B2 R2 L2 R1' hW1 hW2 H1 H2
      go_upto_region 7 with fail
      rw [← hb6, ← HW1.out]
      clear c0 c1 c2 c3 c4 hb6
      go_upto_region 8 with fail
      rw [← hb7, ← HW2.out]
      clear d0 d1 d2 d3 d4 hb7
      obtain ⟨⟨c0, c1, c2, c3, c4⟩, ⟨d0, d1, d2, d3, d4⟩⟩ := BX.out W2 (Below.refl _ _)
      have CS1 := Lib.hid (CS.out W2 K2.out)
      go_wp2_with fail
      refine (CS1.out).mono ?_
      rintro e w3 ⟨rfl, b3⟩
      have K3 := Lib.hid b3
      clear b3 CS1 CS c0 c1 c2 c3 c4 d0 d1 d2 d3 d4
      obtain ⟨⟨c0, c1, c2, c3, c4⟩, ⟨d0, d1, d2, d3, d4⟩⟩ := BX.out w3 K3.out
      have CL1 := Lib.hid (CL.out w3 (below_more K2.out K3.out))
      go_wp2_with fail
      refine (CL1.out).mono ?_
      rintro e w4 ⟨rfl, b4⟩
      have K4 := Lib.hid (below_more HK2.out (below_more K3.out b4))
      clear b4 CL1 CL c0 c1 c2 c3 c4 d0 d1 d2 d3 d4
      go_wp2_with fail
      go_roundg (n - (k + 1))
      case measure => omega
      case rel => exact ⟨k + 1, by omega, Nat.le_refl _, by go_num, K4.out⟩
    · obtain rfl : k = n := by omega
      have i1 : ¬ (k : Int) < (k : Int) := by omega
      clear hbel
      go_wp2_with fail
      go_ret
      exact ⟨by first | rfl | (simp; done), HB.out⟩

end Go.Proofs.Ytfahfjhibffdkaa.Aud
