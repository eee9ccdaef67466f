/- Salt: the walk of SaltSeals. -/
import Derived.Test.YtknefflbkaaooaaDoorPfi
import Derived.Test.YtknefflbkaaooaaDoorUm
set_option linter.unusedVariables false
set_option linter.unusedSimpArgs false
namespace Go.Proofs.YtknefflbkaaooaaDoor.W1
open Go.RowKit Go.Lib Go.Proofs.YtknefflbkaaooaaDoor.Bx Go.Proofs.YtknefflbkaaooaaDoor.Slt
def K64 : ByteArray := ⟨#[54, 101, 51, 52, 48, 98, 57, 99, 102, 102, 98, 51, 55, 97, 57, 56, 57, 99, 97, 53, 52, 52, 101, 54, 98, 98, 55, 56, 48, 97, 50, 99, 55, 56, 57, 48, 49, 100, 51, 102, 98, 51, 51, 55, 51, 56, 55, 54, 56, 53, 49, 49, 97, 51, 48, 54, 49, 55, 97, 102, 97, 48, 49, 100]⟩
theorem k64 : bytesN K64 = sealL [] [] := by rw [seal_none]; rfl
set_option maxRecDepth 100000 in
set_option maxHeartbeats 4000000 in
theorem walk (SOK : SumOk) (s : ByteArray) (h1 : s.size ≤ 140737488355328) (p : ByteArray) (h2 : p.size ≤ 140737488355328) (w : World) (hR : Roots w) : Calls Tryd.prog 3 #[.string s, .string p] w fun e w' => e = .returned (.bool true) ∧ Below w.heap.size w w' := by
  have C0 : Hid (Calls Tryd.prog 6 #[.string ⟨#[]⟩, .string ⟨#[]⟩] w fun e w' => e = .returned (.string K64) ∧ Below w.heap.size w w') := by
    refine (pseal_any ⟨#[]⟩ ⟨#[]⟩ w (by decide) hR).mono ?_
    rintro e w' ⟨t, rfl, ht, hb⟩
    exact ⟨by rw [bytesN_inj (ht.trans k64.symm)], hb⟩
  have HR := Lib.hid hR
  have HW : Hid (0 < w.heap.size) := block_lt_of_cell (hR 0 (by decide))
  clear hR
  go_enter Tryd.func3, Tryd.ntmps3
  go_wp2_with fail
  refine C0.out.mono ?_
  rintro e w1 ⟨rfl, b1⟩
  have HB1 := Lib.hid b1
  clear C0
  have e0 : (K64.toList == [54, 101, 51, 52, 48, 98, 57, 99, 102, 102, 98, 51, 55, 97, 57, 56, 57, 99, 97, 53, 52, 52, 101, 54, 98, 98, 55, 56, 48, 97, 50, 99, 55, 56, 57, 48, 49, 100, 51, 102, 98, 51, 51, 55, 51, 56, 55, 54, 56, 53, 49, 49, 97, 51, 48, 54, 49, 55, 97, 102, 97, 48, 49, 100]) = true := by rw [Lib.toList_data]; rfl
  obtain ⟨n, hn⟩ : ∃ n, n = s.size := ⟨_, rfl⟩
  obtain ⟨m, hm⟩ : ∃ m, m = p.size := ⟨_, rfl⟩
  rw [← hn] at h1
  rw [← hm] at h2
  have z1 := hn.symm
  have z2 := hm.symm
  clear b1 hn hm
  by_cases hbig : 3000 < n + m
  · have q1 : (3000 : Int) < (n : Int) + (m : Int) := by omega
    go_wp2_with fail
    go_ret
    exact ⟨rfl, HB1.out⟩
  · have q1 : ¬ (3000 : Int) < (n : Int) + (m : Int) := by omega
    have C1 := Lib.hid (pseal_any s p w1 (by omega) (HR.out.below HB1.out HW.out))
    have C2 : Hid (∀ w', Calls Tryd.prog 7 #[.string s, .string p] w' fun e w'' => ∃ t, e = .returned (.string t) ∧ bytesN t = sealL (bytesN s) (bytesN p) ∧ Below w'.heap.size w' w'') := fun w' => rseal_any SOK s p w' (by omega)
    go_wp2_with fail
    refine C1.out.mono ?_
    rintro e w2 ⟨t, rfl, ht, b2⟩
    have HB2 := Lib.hid (below_on HB1.out b2)
    clear b2 C1
    go_wp2_with fail
    refine (C2.out w2).mono ?_
    rintro e w3 ⟨u, rfl, hu, b3⟩
    have HB3 := Lib.hid (below_on HB2.out b3)
    obtain rfl : t = u := bytesN_inj (ht.trans hu.symm)
    clear b3 C2 ht hu
    go_wp2_with fail
    go_ret
    exact ⟨by first | rfl | (simp; done), HB3.out⟩
end Go.Proofs.YtknefflbkaaooaaDoor.W1
