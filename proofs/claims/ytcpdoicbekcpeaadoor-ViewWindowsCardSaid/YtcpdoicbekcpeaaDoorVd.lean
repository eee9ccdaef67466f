/- View: width, clamp, Width, Address, Offset: the program's, the plain text's. -/
import Derived.Test.YtcpdoicbekcpeaaDoorVa
import Derived.WalkKit
import Derived.Deep.LoopGhost
import Derived.BigQuiet
set_option linter.unusedVariables false
set_option linter.unusedSimpArgs false
set_option maxRecDepth 100000
namespace Go.Proofs.YtcpdoicbekcpeaaDoor.Vi
open Go.RowKit Go.Lib Go.Proofs.YtcpdoicbekcpeaaDoor.Rk

def Pc.wide (y : Pc) : Int := if y.o = true then y.n else 1
def wid (A : List Pc) : Int := (A.map Pc.wide).sum
/-- Pieces that may be asked. -/
def rightPc (A : List Pc) : Prop := (∀ y ∈ A, 0 ≤ y.n ∧ y.n ≤ 1099511627776) ∧ A.length ≤ 1000
theorem wide_in {A : List Pc} (h : rightPc A) {k : Nat} (hk : k < A.length) : 0 ≤ A[k].wide ∧ A[k].wide ≤ 1099511627776 := by
  have := h.1 A[k] (List.getElem_mem hk)
  unfold Pc.wide
  split <;> omega
theorem wid_take (A : List Pc) {k : Nat} (hk : k < A.length) : wid (A.take (k + 1)) = wid (A.take k) + A[k].wide := by
  unfold wid
  rw [List.take_succ_eq_append_getElem hk, List.map_append, List.sum_append]
  simp
theorem wid_in {A : List Pc} (h : rightPc A) : ∀ k, k ≤ A.length → 0 ≤ wid (A.take k) ∧ wid (A.take k) ≤ (k : Int) * 1099511627776
  | 0, _ => by simp [wid]
  | k + 1, hk => by
    have h1 := wid_in h k (by omega)
    have h2 := wide_in h (k := k) (by omega)
    rw [wid_take A (by omega)]
    omega
theorem wid_le {A : List Pc} (h : rightPc A) {k : Nat} (hk : k ≤ A.length) : 0 ≤ wid (A.take k) ∧ wid (A.take k) ≤ 1099511627776000 := by
  have := wid_in h k hk
  have := h.2
  omega
theorem wid_all {A : List Pc} (h : rightPc A) : 0 ≤ wid A ∧ wid A ≤ 1099511627776000 := by
  have := wid_le h (Nat.le_refl A.length)
  rwa [List.take_length] at this
def clampI (n most : Int) : Int := min (max n 0) most

set_option maxHeartbeats 2000000 in
theorem width_any (y : Pc) (w : World) : Calls Tryd.prog 89 #[y.val] w fun e w' => e = .returned (.int .i64 y.wide) ∧ Below w.heap.size w w' := by
  obtain ⟨i, l, n, o⟩ := y
  have FB := (Below.refl w.heap.size w).alloc (Nat.le_refl _) (.cells #[.int .i64 i, .int .i64 l, .int .i64 n, .bool o] 89)
  unfold Pc.val Pc.wide
  simp only
  cases o with
  | true =>
    go_enter Tryd.func89, Tryd.ntmps89
    go_wp2_with fail
    go_ret
    exact ⟨rfl, FB⟩
  | false =>
    go_enter Tryd.func89, Tryd.ntmps89
    go_wp2_with fail
    go_ret
    exact ⟨rfl, FB⟩
set_option maxHeartbeats 2000000 in
theorem rwide_any (y : Pc) (w : World) : Calls Tryd.prog 93 #[y.val] w fun e w' => e = .returned (.int .i64 y.wide) ∧ Below w.heap.size w w' := by
  obtain ⟨i, l, n, o⟩ := y
  have FB := (Below.refl w.heap.size w).alloc (Nat.le_refl _) (.cells #[.int .i64 i, .int .i64 l, .int .i64 n, .bool o] 89)
  unfold Pc.val Pc.wide
  simp only
  cases o with
  | true =>
    go_enter Tryd.func93, Tryd.ntmps93
    go_wp2_with fail
    go_ret
    exact ⟨rfl, FB⟩
  | false =>
    go_enter Tryd.func93, Tryd.ntmps93
    go_wp2_with fail
    go_ret
    exact ⟨rfl, FB⟩
set_option maxHeartbeats 2000000 in
theorem clamp_any (n most : Int) (w : World) : Calls Tryd.prog 88 #[.int .i64 n, .int .i64 most] w fun e w' => e = .returned (.int .i64 (clampI n most)) ∧ w' = w := by
  unfold clampI
  go_enter Tryd.func88, Tryd.ntmps88
  by_cases h : n < 0
  · have e1 : max n 0 = 0 := by omega
    rw [e1]
    by_cases h2 : most < 0
    · have e2 : min 0 most = most := by omega
      rw [e2]
      go_wp2_with fail
      go_ret
      simp_all
    · have e2 : min 0 most = 0 := by omega
      rw [e2]
      go_wp2_with fail
      go_ret
      simp_all
  · have e1 : max n 0 = n := by omega
    rw [e1]
    by_cases h2 : most < n
    · have e2 : min n most = most := by omega
      rw [e2]
      go_wp2_with fail
      go_ret
      simp_all
    · have e2 : min n most = n := by omega
      rw [e2]
      go_wp2_with fail
      go_ret
      simp_all
end Go.Proofs.YtcpdoicbekcpeaaDoor.Vi
