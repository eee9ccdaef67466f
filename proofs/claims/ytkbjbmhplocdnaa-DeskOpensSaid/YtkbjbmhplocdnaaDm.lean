/- Desk: the program's past, the list's clone, the first one of which a question is answered yes. -/
import Derived.Test.YtkbjbmhplocdnaaDl
import Derived.Lib.SliceRun
import Derived.Shelf.Abstract
set_option linter.unusedVariables false
set_option linter.unusedSimpArgs false
set_option maxRecDepth 100000
namespace Go.Proofs.Ytkbjbmhplocdnaa.Dsk
open Go.RowKit Go.Lib Go.Proofs.Ytkbjbmhplocdnaa.Bx

theorem past_any (y : Se) (now ttl : Int) (w : World) (h1 : 0 ≤ now ∧ now ≤ 1099511627776) (h2 : 0 ≤ y.d ∧ y.d ≤ 1099511627776) : Calls Try.prog 30 #[.agg #[.string y.t, .int .i64 y.u, .int .i64 y.d, .int .i64 y.q, .string y.a], .int .i64 now, .int .i64 ttl] w fun e w' => e = .returned (.bool (pastB now ttl y)) ∧ Below w.heap.size w w' := by
  have HB := Lib.hid (below_al (Below.refl w.heap.size w) (.cells #[.string y.t, .int .i64 y.u, .int .i64 y.d, .int .i64 y.q, .string y.a] 28))
  have HV : Hid (pastB now ttl y = decide (ttl < now - y.d)) := rfl
  obtain ⟨t, u, d, q, a⟩ := y
  simp only at HV h2 HB ⊢
  obtain ⟨h1, h3⟩ := h1
  obtain ⟨h2, h4⟩ := h2
  have ew : IntKind.i64.wrap (now - d) = now - d := IntWalk.i64_in _ (by omega)
  have em : IntKind.i64.wrap (-9223372036854775808 + d) = -9223372036854775808 + d := IntWalk.i64_in _ (by omega)
  have nd : ¬ d < 0 := by omega
  have nn : ¬ now < -9223372036854775808 + d := by omega
  by_cases hd : 0 < d
  · go_enter Try.func30, Try.ntmps30
    go_wp2_with fail
    go_ret
    exact ⟨by rw [HV.out]; first | rfl | (simp; done), HB.out⟩
  · go_enter Try.func30, Try.ntmps30
    go_wp2_with fail
    go_ret
    exact ⟨by rw [HV.out]; first | rfl | (simp; done), HB.out⟩
/-- The list's clone. -/
theorem clone_any {v : Value} {A : List Se} (w : World) (h : Seats w v A) (h60 : A.length ≤ 60) : Calls Try.prog 20 #[v] w fun e w' => ∃ v', e = .returned v' ∧ OSe w.heap.size w' v' A ∧ Below w.heap.size w w' := by
  obtain ⟨a, cap, rfl, hn, hm⟩ := h.is_slice
  have QN : ∀ (w : World) (a : Option Addr) (n c n' c' : Nat), (binOp .eql 22 (.slice a n c) (.slice none n' c')).run Try.prog w = .ok (.bool a.isNone) w := fun w a n c n' c' => Lib.run_eql_slice_nil w _ _ a n c n' c' Try.underlying22
  cases a with
  | none =>
    have h0 : A = [] := by
      obtain ⟨⟨_, a', cap', e, _, _, h3⟩, _⟩ := h
      injection e with e _ _
      subst e
      rcases h3 with h3 | ⟨_, _, e, _⟩
      · simpa using h3
      · cases e
    subst h0
    clear h
    go_enter Try.func20, Try.ntmps20
    go_wp2_with fail
    go_ret
    exact ⟨_, rfl, OSe.nil_ _ _, Below.refl _ _⟩
  | some a =>
    have HGA : Hid (∀ y ∈ A, good y) := h.2
    have A1 : Hid (Rk.OwnK 28 5 w.heap.size (w.alloc (.cells #[] 28)) (.slice (some ⟨w.heap.size, 0, none⟩) 0 0) []) := own_empty5 (Nat.le_refl _) (heap_alloc_new _ _)
    have A2 : Hid (Rk.RowK 5 (w.alloc (.cells #[] 28)) (.slice (some a) A.length cap) (A.map cellsS)) := (h.below (below_al (Below.refl _ _) _)).1
    have A3 : Hid (∀ y ∈ A.map cellsS, ∀ q ∈ y, q.oneCell' = true) := fun y hy q hq => by
      obtain ⟨z, _, rfl⟩ := List.mem_map.1 hy
      exact cellsS_one z q hq
    have A4 : Hid (([] : List (List Value)).length + (A.map cellsS).length ≤ 100000) := by show _ ≤ _; rw [List.length_map]; show 0 + A.length ≤ _; omega
    have A5 : Hid (w.heap.size ≤ (w.alloc (.cells #[] 28)).heap.size) := by show _ ≤ _; simp
    obtain ⟨n, hnn⟩ : ∃ n, n = A.length := ⟨_, rfl⟩
    rw [← hnn] at A2 ⊢
    clear h hnn hn hm h60
    go_enter Try.func20, Try.ntmps20
    go_wp2_with (at_builtin; refine Rk.wpList_append_rowk rfl _ _ 22 28 5 56 _ Try.underlying22 infoSe rfl (by decide) (by decide) rfl w.heap.size _ _ [] (A.map cellsS) rfl rfl A1.out A2.out A3.out A4.out A5.out ?_)
    intro v6 w9 h5 g5 k5
    have K9 : Hid (OSe w.heap.size w9 v6 A) := ⟨h5, HGA.out⟩
    have HB9 := Lib.hid (A1.out.belowOf (below_al (Below.refl _ _) _) (Nat.le_refl _) A5.out g5)
    clear h5 g5 k5 A1 A2 A3 A4 A5
    go_wp2_with fail
    go_ret
    exact ⟨_, rfl, K9.out, HB9.out⟩
def ixO (p : Se → Bool) (A : List Se) : Option Nat := A.findIdx? p
def ixI (p : Se → Bool) (A : List Se) : Int := match ixO p A with
  | some i => i
  | none => -1
theorem ix_some {A : List Se} {p : Se → Bool} {i : Nat} (hi : i < A.length) (h : p (se A i) = true) (h' : ∀ j, j < i → p (se A j) = false) : ixO p A = some i := by
  unfold ixO
  rw [List.findIdx?_eq_some_iff_getElem]
  refine ⟨hi, by rw [← se_at hi]; exact h, fun j hj => ?_⟩
  rw [← se_at (by omega)]
  simp [h' j hj]
theorem ix_none {A : List Se} {p : Se → Bool} (h' : ∀ j, j < A.length → p (se A j) = false) : ixO p A = none := by
  unfold ixO
  rw [List.findIdx?_eq_none_iff]
  intro y hy
  obtain ⟨j, hj, rfl⟩ := List.getElem_of_mem hy
  have := h' j hj
  rwa [se_at hj] at this
theorem ix_lt {A : List Se} {p : Se → Bool} {i : Nat} (h : ixO p A = some i) : i < A.length ∧ p (se A i) = true ∧ ∀ j, j < i → p (se A j) = false := by
  unfold ixO at h
  rw [List.findIdx?_eq_some_iff_getElem] at h
  obtain ⟨hi, h1, h2⟩ := h
  refine ⟨hi, by rw [se_at hi]; exact h1, fun j hj => ?_⟩
  rw [se_at (by omega)]
  simpa using h2 j hj
theorem ix_all {A : List Se} {p : Se → Bool} (h : ixO p A = none) : ∀ y ∈ A, p y = false := by
  unfold ixO at h
  rw [List.findIdx?_eq_none_iff] at h
  exact h
theorem ix_int {A : List Se} {p : Se → Bool} {i : Nat} (h : ixO p A = some i) : ixI p A = (i : Nat) := by unfold ixI; rw [h]
theorem ix_neg {A : List Se} {p : Se → Bool} (h : ixO p A = none) : ixI p A = -1 := by unfold ixI; rw [h]
/-- What a question asked of seats answers, wherever K holds. -/
def PredC (K : World → Prop) (g : Nat) (lb : Array Value) (p : Se → Bool) (A : List Se) : Prop :=
  ∀ w, K w → ∀ j, j < A.length → Calls Try.prog g (#[.agg #[.string (se A j).t, .int .i64 (se A j).u, .int .i64 (se A j).d, .int .i64 (se A j).q, .string (se A j).a]] ++ lb) w fun e w' => e = .returned (.bool (p (se A j))) ∧ Below w.heap.size w w'
/-- K stays where only new memory is made. -/
def KeptOn (K : World → Prop) : Prop := ∀ w w', K w → Below w.heap.size w w' → K w'
def Enters (g : Nat) : Prop := ∀ args w, (callFunc g args).run Try.prog w = .ok (.enter g args) w
set_option maxHeartbeats 4000000 in
theorem ixf_any (K : World → Prop) (p : Se → Bool) (g : Nat) (lb : Array Value) {a : Option Addr} {cap : Nat} {A : List Se} (w : World) (h : SeC w a A.length A) (hn : A.length ≤ cap) (hm : cap ≤ maxLen) (hK : K w) (kb : KeptOn K) (eg : Enters g) (hp : PredC K g lb p A) :
    Calls Try.prog 26 #[.slice a A.length cap, .func (.func g) #[] lb] w fun e w' => e = .returned (.int .i64 (ixI p A)) ∧ Below w.heap.size w w' := by
  have HE := Lib.hid h
  have HK := Lib.hid hK
  have HKB := Lib.hid kb
  have HPC := Lib.hid hp
  have HS : Hid (∀ i, i < A.length → p (se A i) = true → (∀ j, j < i → p (se A j) = false) → ixI p A = (i : Nat)) := fun i hi h h' => ix_int (ix_some hi h h')
  have HN : Hid ((∀ j, j < A.length → p (se A j) = false) → ixI p A = -1) := fun h => ix_neg (ix_none h)
  have hHP : ∀ w, K w → ∀ j, j < A.length → Calls Try.prog g (#[.agg #[.string (se A j).t, .int .i64 (se A j).u, .int .i64 (se A j).d, .int .i64 (se A j).q, .string (se A j).a]] ++ lb) w fun e w' => e = .returned (.bool (p (se A j))) ∧ Below w.heap.size w w' := hp
  have HP := Lib.hid hHP
  unfold Enters at eg
  obtain ⟨n, hnn⟩ : ∃ n, n = A.length := ⟨_, rfl⟩
  rw [← hnn] at HE HS HN HP hn ⊢
  unfold maxLen at hm
  obtain ⟨r, hr⟩ : ∃ r, r = ixI p A := ⟨_, rfl⟩
  rw [← hr] at HS HN ⊢
  clear h hnn hr hK kb hp hHP HPC
  go_enter Try.func26, Try.ntmps26
  go_wp2_with fail
  go_loopg [5, 8] n (fun g _ i_ wr => ∃ (i : Nat), i ≤ n ∧ n - i ≤ g ∧ i_ = .int .i64 i ∧ Hid (∀ j, j < i → p (se A j) = false) ∧ Hid (Below w.heap.size w wr) ∧ Hid (K wr))
  case atStart => exact ⟨0, by omega, by omega, rfl, fun j hj => absurd hj (by omega), Below.refl _ _, HK.out⟩
  case round =>
    obtain ⟨i, hi, hg, rfl, HH, HB, HKR⟩ := hrel
    by_cases hin : i < n
    · have iw : ((i : Nat) : Int) < (n : Int) := by omega
      have n0 : (0 : Int) ≤ (i : Int) := by omega
      obtain ⟨b, off, rfl, hlt, c0, c1, c2, c3, c4, _⟩ := HE.out wr HB.out i hin
      have C := Lib.hid (HP.out wr HKR.out i hin)
      have HS1 := Lib.hid (fun h => HS.out i hin h HH.out)
      have HH2 : Hid (p (se A i) = false → ∀ j, j < i + 1 → p (se A j) = false) := fun h j hj => by
        by_cases e : j = i
        · subst e; exact h
        · exact HH.out j (by omega)
      generalize p (se A i) = q at *
      generalize se A i = y at *
      obtain ⟨yt, yu, yd, yq, ya⟩ := y
      simp only at c0 c1 c2 c3 c4 C
      cases q with
      | true =>
        have hr := HS1.out rfl
        clear HS1 HH2
        go_wp2_with (go_at_fn g; refine C.out.mono ?_; rintro e w2 ⟨rfl, b2⟩)
        go_ret
        exact ⟨by first | rfl | (rw [hr]; rfl), below_on HB.out b2⟩
      | false =>
        have HH3 := Lib.hid (HH2.out rfl)
        clear HS1 HH2
        go_wp2_with (go_at_fn g; refine C.out.mono ?_; rintro e w2 ⟨rfl, b2⟩)
        go_roundg (n - (i + 1))
        case measure => omega
        case rel => exact ⟨i + 1, by omega, Nat.le_refl _, by go_num, HH3, below_on HB.out b2, HKB.out _ _ HKR.out b2⟩
    · obtain rfl : i = n := by omega
      have iw : ¬ ((i : Int) < (i : Int)) := by omega
      have hr := HN.out HH.out
      go_wp2_with fail
      go_ret
      exact ⟨by first | rfl | (rw [hr]; rfl), HB.out⟩
end Go.Proofs.Ytkbjbmhplocdnaa.Dsk
