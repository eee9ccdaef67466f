/- Salt: the walk of SaltFinds. -/
import Derived.Test.YtknefflbkaaooaaDoorPfi
import Derived.Test.YtknefflbkaaooaaDoorUm
set_option linter.unusedVariables false
set_option linter.unusedSimpArgs false
namespace Go.Proofs.YtknefflbkaaooaaDoor.W3
open Go.RowKit Go.Lib Go.Proofs.YtknefflbkaaooaaDoor.Bx Go.Proofs.YtknefflbkaaooaaDoor.Slt
def sx : List Nat := sealL [] [120]
def KX : ByteArray := ofN sx
theorem sx_ok : B8 sx := hex_ok (B8.of fun x hx => by
  unfold sumL at hx
  obtain ⟨y, _, hx⟩ := List.mem_flatMap.1 hx
  unfold bytes4 at hx
  simp only [List.mem_cons, List.not_mem_nil, or_false] at hx
  rcases hx with rfl | rfl | rfl | rfl <;> exact Nat.mod_lt _ (by decide))
theorem kx : bytesN KX = sealL [] [120] := ofN_nat sx_ok
theorem sx_len : sx.length = 64 := by
  unfold sx sealL
  rw [hex_len, sum_len]
set_option maxRecDepth 100000 in
theorem KX_size : KX.size ≤ 140737488355328 := by
  have h := congrArg List.length kx
  rw [bytesN_len] at h
  have h2 : KX.size = 64 := h.trans sx_len
  generalize KX.size = q at *
  omega
def u2 : List Us := [⟨⟨#[97]⟩, ⟨#[]⟩, ⟨#[]⟩⟩, ⟨⟨#[98]⟩, ⟨#[]⟩, KX⟩]
theorem find2 : findU u2 ⟨#[98]⟩ ⟨#[120]⟩ = (1, true) := by
  have h := find_some (A := u2) (nm := ⟨#[98]⟩) (pw := ⟨#[120]⟩) (i := 1) (by decide) rfl (fun j hj => by
    have : j = 0 := by omega
    subst this
    decide)
  rw [h]
  exact if_pos kx
set_option maxRecDepth 100000 in
theorem two_users {w : World} {b : Nat} (h : w.heap[b]? = some (.cells #[.string ⟨#[97]⟩, .string ⟨#[]⟩, .string ⟨#[]⟩, .string ⟨#[98]⟩, .string ⟨#[]⟩, .string KX] 27 (0, 0))) : Users w (.slice (some ⟨b, 0, none⟩) 2 2) u2 := by
  refine ⟨[([.string ⟨#[97]⟩, .string ⟨#[]⟩, .string ⟨#[]⟩], ⟨⟨#[97]⟩, ⟨#[]⟩, ⟨#[]⟩⟩), ([.string ⟨#[98]⟩, .string ⟨#[]⟩, .string KX], ⟨⟨#[98]⟩, ⟨#[]⟩, KX⟩)], rfl, ⟨fun x hx => ?_, some ⟨b, 0, none⟩, 2, rfl, Nat.le_refl _, by unfold maxLen; omega, .inr ⟨b, 0, rfl, (Array.getElem?_eq_some_iff.1 h).1, fun j hj i u hu => ?_⟩⟩, fun x hx => ?_⟩
  · simp at hx
    rcases hx with rfl | rfl <;> rfl
  · rw [cell_of_row _ _ _ _ _ _ h]
    have hj : j < 2 := hj
    match j, hj with
    | 0, _ =>
      match i, hu with
      | 0, hu => exact hu
      | 1, hu => exact hu
      | 2, hu => exact hu
      | i + 3, hu => simp at hu
    | 1, _ =>
      match i, hu with
      | 0, hu => exact hu
      | 1, hu => exact hu
      | 2, hu => exact hu
      | i + 3, hu => simp at hu
  · simp only [List.mem_cons, List.not_mem_nil, or_false] at hx
    rcases hx with rfl | rfl
    · exact ⟨rfl, by decide, by decide, by decide⟩
    · exact ⟨rfl, by decide, by decide, KX_size⟩
set_option maxRecDepth 100000 in
set_option maxHeartbeats 4000000 in
theorem walk (SOK : SumOk) {w : World} (v : Value) (A : List Us) (hA : Users w v A) (nm : ByteArray) (h1 : nm.size ≤ 140737488355328) (pw : ByteArray) (h2 : pw.size ≤ 140737488355328) (hR : Roots w) : Calls Tryd.prog 5 #[v, .string nm, .string pw] w fun e w' => e = .returned (.bool true) ∧ Below w.heap.size w w' := by
  have HW : 0 < w.heap.size := block_lt_of_cell (hR 0 (by decide))
  have HR : Hid (∀ w', Below w.heap.size w w' → Roots w') := fun w' hb => hR.below hb HW
  have C0 : Hid (∀ w', Below w.heap.size w w' → Calls Tryd.prog 6 #[.string ⟨#[]⟩, .string ⟨#[120]⟩] w' fun e w'' => e = .returned (.string KX) ∧ Below w'.heap.size w' w'') := fun w' hb => by
    refine (pseal_any ⟨#[]⟩ ⟨#[120]⟩ w' (by decide) (HR.out w' hb)).mono ?_
    rintro e w'' ⟨t, rfl, ht, hb⟩
    exact ⟨by rw [bytesN_inj (ht.trans kx.symm)], hb⟩
  have HU : Hid (∀ w', Below w.heap.size w w' → Users w' v A) := fun w' hb => hA.below hb
  obtain ⟨a, cap, rfl, hl, hm⟩ := hA.is_slice
  obtain ⟨n, hn⟩ : ∃ n, n = A.length := ⟨_, rfl⟩
  have HN := Lib.hid hn
  rw [← hn] at HU hl ⊢
  unfold maxLen at hm
  have CF : Hid (∀ w', Below w.heap.size w w' → ∀ b, w'.heap[b]? = some (.cells #[.string ⟨#[97]⟩, .string ⟨#[]⟩, .string ⟨#[]⟩, .string ⟨#[98]⟩, .string ⟨#[]⟩, .string KX] 27 (0, 0)) → Calls Tryd.prog 11 #[.slice (some ⟨b, 0, none⟩) 2 2, .string ⟨#[98]⟩, .string ⟨#[120]⟩] w' fun e w'' => e = .returned (.tuple #[.int .i64 1, .bool true]) ∧ Below w'.heap.size w' w'') := fun w' hb b hr => by
    have h := pfind_any ⟨#[98]⟩ ⟨#[120]⟩ w' (HR.out w' hb) (two_users hr) (fun i hi => by
      have : i = 0 ∨ i = 1 := by simp [u2] at hi; omega
      rcases this with rfl | rfl <;> decide) (by decide)
    rw [find2] at h
    exact h
  clear hA hn hR HW
  obtain ⟨m, hmp⟩ : ∃ m, m = pw.size := ⟨_, rfl⟩
  have z2 := hmp.symm
  rw [← hmp] at h2
  clear hmp
  generalize KX = K at *
  go_enter Tryd.func5, Tryd.ntmps5
  go_wp2_with fail
  refine (C0.out w (Below.refl _ _)).mono ?_
  rintro e w1 ⟨rfl, b1⟩
  have HB1 := Lib.hid (below_on b1 (below_al (Below.refl w1.heap.size w1) (.cells #[.string ⟨#[97]⟩, .string ⟨#[]⟩, .string ⟨#[]⟩, .string ⟨#[98]⟩, .string ⟨#[]⟩, .string K] 27)))
  have CR := Lib.hid (CF.out _ HB1.out w1.heap.size (heap_alloc_new w1 _))
  clear b1 C0
  go_wp2_with fail
  refine CR.out.mono ?_
  rintro e w2 ⟨rfl, b2⟩
  have HB2 := Lib.hid (below_on HB1.out b2)
  have CM := Lib.hid (usmall_any w2 (HU.out w2 HB2.out))
  clear b2 CR CF
  go_wp2_with fail
  refine CM.out.mono ?_
  rintro e w3 ⟨rfl, b3⟩
  have HB3 := Lib.hid (below_on HB2.out b3)
  clear b3 CM
  cases hs : smallU A with
  | false =>
    clear hs
    go_wp2_with fail
    go_ret
    exact ⟨by first | rfl | (simp; done), HB3.out⟩
  | true =>
    have hsz : ∀ i, i < A.length → (us A i).s.size ≤ 1000 := fun i hi => by
      have := (of_decide_eq_true hs).1 i hi
      omega
    clear hs
    by_cases hbig : 1000 < m
    · have q1 : (1000 : Int) < (m : Int) := by omega
      clear hsz
      go_wp2_with fail
      go_ret
      exact ⟨by first | rfl | (simp; done), HB3.out⟩
    have q1 : ¬ (1000 : Int) < (m : Int) := by omega
    have C1 := Lib.hid (pfind_any nm pw w3 (HR.out w3 HB3.out) (HU.out w3 HB3.out) hsz (by omega))
    have C2 : Hid (∀ w', Below w.heap.size w w' → Calls Tryd.prog 12 #[.slice a n cap, .string nm, .string pw] w' fun e w'' => e = .returned (.tuple #[.int .i64 ((findU A nm pw).1 : Nat), .bool (findU A nm pw).2]) ∧ Below w'.heap.size w' w'') := fun w' hb => rfind_any SOK nm pw w' (HU.out w' hb) hsz (by omega)
    generalize (findU A nm pw).1 = ri at *
    generalize (findU A nm pw).2 = rb at *
    clear hsz
    go_wp2_with fail
    refine C1.out.mono ?_
    rintro e w4 ⟨rfl, b4⟩
    have HB4 := Lib.hid (below_on HB3.out b4)
    clear b4 C1
    go_wp2_with fail
    refine (C2.out w4 HB4.out).mono ?_
    rintro e w5 ⟨rfl, b5⟩
    have HB5 := Lib.hid (below_on HB4.out b5)
    clear b5 C2
    go_wp2_with fail
    go_ret
    exact ⟨by first | rfl | (simp; done), HB5.out⟩
end Go.Proofs.YtknefflbkaaooaaDoor.W3
