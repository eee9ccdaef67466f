/- Salt: the walk of SaltUsers. -/
import Derived.Test.YtknefflbkaaooaaDoorPfi
import Derived.Test.YtknefflbkaaooaaDoorUm
set_option linter.unusedVariables false
set_option linter.unusedSimpArgs false
namespace Go.Proofs.YtknefflbkaaooaaDoor.W2
open Go.RowKit Go.Lib Go.Proofs.YtknefflbkaaooaaDoor.Bx Go.Proofs.YtknefflbkaaooaaDoor.Slt
def K64 : ByteArray := ⟨#[54, 101, 51, 52, 48, 98, 57, 99, 102, 102, 98, 51, 55, 97, 57, 56, 57, 99, 97, 53, 52, 52, 101, 54, 98, 98, 55, 56, 48, 97, 50, 99, 55, 56, 57, 48, 49, 100, 51, 102, 98, 51, 51, 55, 51, 56, 55, 54, 56, 53, 49, 49, 97, 51, 48, 54, 49, 55, 97, 102, 97, 48, 49, 100]⟩
theorem k64 : bytesN K64 = sealL [] [] := by rw [seal_none]; rfl
def u1 : List Us := [⟨⟨#[97]⟩, ⟨#[]⟩, K64⟩]
theorem right1 : rightU u1 = true := by decide +kernel
theorem one_users {w : World} {b : Nat} (h : w.heap[b]? = some (.cells #[.string ⟨#[97]⟩, .string ⟨#[]⟩, .string K64] 27 (0, 0))) : Users w (.slice (some ⟨b, 0, none⟩) 1 1) u1 :=
  ⟨[([.string ⟨#[97]⟩, .string ⟨#[]⟩, .string K64], ⟨⟨#[97]⟩, ⟨#[]⟩, K64⟩)], rfl, Rk.row_one (e := 27) h rfl, fun x hx => by simp only [List.mem_singleton] at hx; subst hx; exact ⟨rfl, by decide, by decide, by decide⟩⟩
set_option maxRecDepth 100000 in
set_option maxHeartbeats 4000000 in
theorem walk {w : World} (v : Value) (A : List Us) (hA : Users w v A) (hR : Roots w) : Calls Tryd.prog 4 #[v] w fun e w' => e = .returned (.bool true) ∧ Below w.heap.size w w' := by
  have C0 : Hid (Calls Tryd.prog 6 #[.string ⟨#[]⟩, .string ⟨#[]⟩] w fun e w' => e = .returned (.string K64) ∧ Below w.heap.size w w') := by
    refine (pseal_any ⟨#[]⟩ ⟨#[]⟩ w (by decide) hR).mono ?_
    rintro e w' ⟨t, rfl, ht, hb⟩
    exact ⟨by rw [bytesN_inj (ht.trans k64.symm)], hb⟩
  have HU : Hid (∀ w', Below w.heap.size w w' → Users w' v A) := fun w' hb => hA.below hb
  obtain ⟨a, cap, rfl, hl, hm⟩ := hA.is_slice
  obtain ⟨n, hn⟩ : ∃ n, n = A.length := ⟨_, rfl⟩
  have HN := Lib.hid hn
  rw [← hn] at HU hl ⊢
  unfold maxLen at hm
  clear hA hn hR
  go_enter Tryd.func4, Tryd.ntmps4
  go_wp2_with fail
  refine C0.out.mono ?_
  rintro e w1 ⟨rfl, b1⟩
  have HB1 := Lib.hid (below_on b1 (below_al (Below.refl w1.heap.size w1) (.cells #[.string ⟨#[97]⟩, .string ⟨#[]⟩, .string K64] 27)))
  have CR : Hid (Calls Tryd.prog 8 #[.slice (some ⟨w1.heap.size, 0, none⟩) 1 1] (w1.alloc (.cells #[.string ⟨#[97]⟩, .string ⟨#[]⟩, .string K64] 27)) fun e w' => e = .returned (.bool true) ∧ Below (w1.alloc (.cells #[.string ⟨#[97]⟩, .string ⟨#[]⟩, .string K64] 27)).heap.size (w1.alloc (.cells #[.string ⟨#[97]⟩, .string ⟨#[]⟩, .string K64] 27)) w') := by
    have h := pright_any _ (one_users (heap_alloc_new w1 _))
    rw [right1] at h
    exact h
  clear b1 C0
  go_wp2_with fail
  refine CR.out.mono ?_
  rintro e w2 ⟨rfl, b2⟩
  have HB2 := Lib.hid (below_on HB1.out b2)
  have CM := Lib.hid (usmall_any w2 (HU.out w2 HB2.out))
  clear b2 CR
  go_wp2_with fail
  refine CM.out.mono ?_
  rintro e w3 ⟨rfl, b3⟩
  have HB3 := Lib.hid (below_on HB2.out b3)
  clear b3 CM
  cases hs : smallU A with
  | false =>
    clear hs
    go_wp2_with fail
    go_ret
    exact ⟨by first | rfl | (simp; done), HB3.out⟩
  | true =>
    have hsz : ∀ i, i < A.length → (us A i).l.size ≤ 100000 := fun i hi => by
      have := (of_decide_eq_true hs).1 i hi
      omega
    have C1 := Lib.hid (pright_any w3 (HU.out w3 HB3.out))
    have C2 : Hid (∀ w', Below w.heap.size w w' → Calls Tryd.prog 10 #[.slice a n cap] w' fun e w'' => e = .returned (.bool (rightU A)) ∧ Below w'.heap.size w' w'') := fun w' hb => rright_any w' (HU.out w' hb) hsz
    generalize rightU A = r at *
    clear hs hsz
    go_wp2_with fail
    refine C1.out.mono ?_
    rintro e w4 ⟨rfl, b4⟩
    have HB4 := Lib.hid (below_on HB3.out b4)
    clear b4 C1
    go_wp2_with fail
    refine (C2.out w4 HB4.out).mono ?_
    rintro e w5 ⟨rfl, b5⟩
    have HB5 := Lib.hid (below_on HB4.out b5)
    clear b5 C2
    go_wp2_with fail
    go_ret
    exact ⟨by first | rfl | (simp; done), HB5.out⟩
end Go.Proofs.YtknefflbkaaooaaDoor.W2
