/- Desk: the program's questions for a seat; seated. -/
import Derived.Test.YtkbjbmhplocdnaaDm
set_option linter.unusedVariables false
set_option linter.unusedSimpArgs false
set_option maxRecDepth 100000
namespace Go.Proofs.Ytkbjbmhplocdnaa.Dsk
open Go.RowKit Go.Lib Go.Proofs.Ytkbjbmhplocdnaa.Bx

theorem enters_has : Enters 32 := enters_of Try.func32 (by kernel_rfl) rfl
theorem enters_present : Enters 31 := enters_of Try.func31 (by kernel_rfl) rfl
theorem enters_seated : Enters 29 := enters_of Try.func29 (by kernel_rfl) rfl
def hasP (tok : ByteArray) (y : Se) : Bool := decide (y.t = tok)
def seatP (tok : ByteArray) (now ttl : Int) (y : Se) : Bool := decide (y.t = tok) && !pastB now ttl y
def HoldT (B : Nat) (tok : ByteArray) (w : World) : Prop := B < w.heap.size ∧ w.cell? ⟨B, 0, none⟩ = some (.string tok)
def HoldN (B C : Nat) (now ttl : Int) (w : World) : Prop := B < w.heap.size ∧ C < w.heap.size ∧ w.cell? ⟨B, 0, none⟩ = some (.int .i64 now) ∧ w.cell? ⟨C, 0, none⟩ = some (.int .i64 ttl)
theorem HoldT.kept (B : Nat) (tok : ByteArray) : KeptOn (HoldT B tok) := fun w w' h hb => ⟨Nat.lt_of_lt_of_le h.1 hb.size, vcell hb h.1 h.2⟩
theorem HoldN.kept (B C : Nat) (now ttl : Int) : KeptOn (HoldN B C now ttl) := fun w w' h hb => ⟨Nat.lt_of_lt_of_le h.1 hb.size, Nat.lt_of_lt_of_le h.2.1 hb.size, vcell hb h.1 h.2.2.1, vcell hb h.2.1 h.2.2.2⟩
theorem has_any (tok : ByteArray) (w : World) : Calls Try.prog 27 #[.string tok] w fun e w' => e = .returned (.func (.func 32) #[] #[.pointer (some ⟨w.heap.size, 0, none⟩)]) ∧ HoldT w.heap.size tok w' ∧ Below w.heap.size w w' := by
  have hmf : ∀ (fn : Fn) (first cap : Array Value) (w : World), (Instr.makeFunc fn first cap).run Try.prog w = .ok (.func fn first cap) w := fun _ _ _ _ => rfl
  obtain ⟨B0, R0, L0⟩ := box1 w #[.string tok] 9
  have HB := Lib.hid B0
  have HT : Hid (HoldT w.heap.size tok (w.alloc (.cells #[.string tok] 9))) := ⟨by omega, one_cell R0⟩
  clear B0 R0 L0
  go_enter Try.func27, Try.ntmps27
  go_wp2_with fail
  go_ret
  exact ⟨rfl, HT.out, HB.out⟩
set_option maxHeartbeats 4000000 in
theorem hasq_any (B : Nat) (tok : ByteArray) (y : Se) (w : World) (hK : HoldT B tok w) : Calls Try.prog 32 #[.agg #[.string y.t, .int .i64 y.u, .int .i64 y.d, .int .i64 y.q, .string y.a], .pointer (some ⟨B, 0, none⟩)] w fun e w' => e = .returned (.bool (hasP tok y)) ∧ Below w.heap.size w w' := by
  have HV : Hid (hasP tok y = decide (y.t = tok)) := rfl
  have SE := str_eq y.t tok
  obtain ⟨B0, R0, L0⟩ := box1 w #[.string y.t, .int .i64 y.u, .int .i64 y.d, .int .i64 y.q, .string y.a] 28
  obtain ⟨W0, hW0⟩ : ∃ W0, W0 = w.alloc (.cells #[.string y.t, .int .i64 y.u, .int .i64 y.d, .int .i64 y.q, .string y.a] 28) := ⟨_, rfl⟩
  rw [← hW0] at B0 R0 L0
  have HW0 := Lib.hid hW0
  have HB0 := Lib.hid B0
  have ct := vcell B0 hK.1 hK.2
  obtain ⟨c0, c1, c2, c3, c4⟩ := five_cells R0
  generalize hasP tok y = r at *
  obtain ⟨t, u, d, q, a⟩ := y
  simp only at HV SE c0 c1 c2 c3 c4
  clear hW0 B0 R0 L0 hK
  go_enter Try.func32, Try.ntmps32
  go_upto_region 1 with fail
  rw [← HW0.out]
  by_cases hz : t = tok
  · rw [decide_eq_true hz] at SE HV
    clear hz
    go_wp2_with fail
    go_ret
    exact ⟨by rw [HV.out]; first | rfl | (simp; done), HB0.out⟩
  · rw [decide_eq_false hz] at SE HV
    clear hz
    go_wp2_with fail
    go_ret
    exact ⟨by rw [HV.out]; first | rfl | (simp; done), HB0.out⟩
set_option maxHeartbeats 4000000 in
theorem presentq_any (B C : Nat) (now ttl : Int) (y : Se) (w : World) (hK : HoldN B C now ttl w) (h1 : 0 ≤ now ∧ now ≤ 1099511627776) (h2 : 0 ≤ y.d ∧ y.d ≤ 1099511627776) : Calls Try.prog 31 #[.agg #[.string y.t, .int .i64 y.u, .int .i64 y.d, .int .i64 y.q, .string y.a], .pointer (some ⟨B, 0, none⟩), .pointer (some ⟨C, 0, none⟩)] w fun e w' => e = .returned (.bool (pastB now ttl y)) ∧ Below w.heap.size w w' := by
  obtain ⟨B0, R0, L0⟩ := box1 w #[.string y.t, .int .i64 y.u, .int .i64 y.d, .int .i64 y.q, .string y.a] 28
  obtain ⟨W0, hW0⟩ : ∃ W0, W0 = w.alloc (.cells #[.string y.t, .int .i64 y.u, .int .i64 y.d, .int .i64 y.q, .string y.a] 28) := ⟨_, rfl⟩
  rw [← hW0] at B0 R0 L0
  have HW0 := Lib.hid hW0
  have HB0 := Lib.hid B0
  have CP := Lib.hid (past_any y now ttl W0 h1 h2)
  have cn := vcell B0 hK.1 hK.2.2.1
  have ct := vcell B0 hK.2.1 hK.2.2.2
  obtain ⟨c0, c1, c2, c3, c4⟩ := five_cells R0
  generalize pastB now ttl y = r at *
  obtain ⟨t, u, d, q, a⟩ := y
  simp only at CP c0 c1 c2 c3 c4
  clear hW0 B0 R0 L0 hK h1 h2
  go_enter Try.func31, Try.ntmps31
  go_upto_region 1 with fail
  rw [← HW0.out]
  go_wp2_with fail
  refine CP.out.mono ?_
  rintro e w1 ⟨rfl, b1⟩
  have HB1 := Lib.hid (below_on HB0.out b1)
  clear b1 CP
  go_wp2_with fail
  go_ret
  exact ⟨rfl, HB1.out⟩
def HoldS (D B C : Nat) (tok : ByteArray) (now ttl : Int) (w : World) : Prop := HoldT D tok w ∧ HoldN B C now ttl w
theorem HoldS.kept (D B C : Nat) (tok : ByteArray) (now ttl : Int) : KeptOn (HoldS D B C tok now ttl) := fun w w' h hb => ⟨HoldT.kept D tok w w' h.1 hb, HoldN.kept B C now ttl w w' h.2 hb⟩
set_option maxHeartbeats 4000000 in
theorem seatedq_any (D B C : Nat) (tok : ByteArray) (now ttl : Int) (y : Se) (w : World) (hK : HoldS D B C tok now ttl w) (h1 : 0 ≤ now ∧ now ≤ 1099511627776) (h2 : 0 ≤ y.d ∧ y.d ≤ 1099511627776) : Calls Try.prog 29 #[.agg #[.string y.t, .int .i64 y.u, .int .i64 y.d, .int .i64 y.q, .string y.a], .pointer (some ⟨D, 0, none⟩), .pointer (some ⟨B, 0, none⟩), .pointer (some ⟨C, 0, none⟩)] w fun e w' => e = .returned (.bool (seatP tok now ttl y)) ∧ Below w.heap.size w w' := by
  have HV : Hid (seatP tok now ttl y = (decide (y.t = tok) && !pastB now ttl y)) := rfl
  have SE := str_eq y.t tok
  obtain ⟨B0, R0, L0⟩ := box1 w #[.string y.t, .int .i64 y.u, .int .i64 y.d, .int .i64 y.q, .string y.a] 28
  obtain ⟨W0, hW0⟩ : ∃ W0, W0 = w.alloc (.cells #[.string y.t, .int .i64 y.u, .int .i64 y.d, .int .i64 y.q, .string y.a] 28) := ⟨_, rfl⟩
  rw [← hW0] at B0 R0 L0
  have HW0 := Lib.hid hW0
  have HB0 := Lib.hid B0
  have CP := Lib.hid (past_any y now ttl W0 h1 h2)
  have cs := vcell B0 hK.1.1 hK.1.2
  have cn := vcell B0 hK.2.1 hK.2.2.2.1
  have ct := vcell B0 hK.2.2.1 hK.2.2.2.2
  obtain ⟨c0, c1, c2, c3, c4⟩ := five_cells R0
  generalize pastB now ttl y = p at *
  generalize seatP tok now ttl y = r at *
  obtain ⟨t, u, d, q, a⟩ := y
  simp only at HV SE CP c0 c1 c2 c3 c4
  clear hW0 B0 R0 L0 hK h1 h2
  by_cases hz : t = tok
  · rw [decide_eq_true hz] at SE HV
    clear hz
    go_enter Try.func29, Try.ntmps29
    go_upto_region 1 with fail
    rw [← HW0.out]
    go_wp2_with fail
    refine CP.out.mono ?_
    rintro e w1 ⟨rfl, b1⟩
    have HB1 := Lib.hid (below_on HB0.out b1)
    clear b1 CP
    go_wp2_with fail
    go_ret
    exact ⟨by rw [HV.out]; first | rfl | (simp; done), HB1.out⟩
  · rw [decide_eq_false hz] at SE HV
    clear hz
    go_enter Try.func29, Try.ntmps29
    go_upto_region 1 with fail
    rw [← HW0.out]
    go_wp2_with fail
    go_ret
    exact ⟨by rw [HV.out]; first | rfl | (simp; done), HB0.out⟩
theorem seated_ix {A : List Se} (tok : ByteArray) (now ttl : Int) (ho : onceB A = true) : ixO (seatP tok now ttl) A = liveO A tok now ttl := by
  have HU : ∀ i, i < A.length → plI A (se A i).t = (i : Nat) := fun i hi => by
    unfold onceB at ho
    rw [List.all_eq_true] at ho
    exact of_decide_eq_true (ho i (List.mem_range.2 hi))
  unfold liveO
  cases hp : plO A tok with
  | none =>
    refine ix_none fun j hj => ?_
    unfold plO at hp
    rw [List.findIdx?_eq_none_iff] at hp
    have := hp (se A j) (by rw [se_at hj]; exact List.getElem_mem hj)
    unfold seatP
    rw [this]
    rfl
  | some i =>
    obtain ⟨hi, he⟩ := pl_lt hp
    have HO : ∀ j, j < A.length → (se A j).t = tok → j = i := fun j hj h => by
      have h1 := HU j hj
      rw [h, pl_int hp] at h1
      omega
    show _ = if pastB now ttl (se A i) then none else some i
    cases hb : pastB now ttl (se A i) with
    | true =>
      refine ix_none fun j hj => ?_
      unfold seatP
      by_cases h : (se A j).t = tok
      · rw [HO j hj h, hb]; simp
      · rw [decide_eq_false h]; rfl
    | false =>
      refine ix_some hi ?_ fun j hj => ?_
      · unfold seatP; rw [decide_eq_true he, hb]; rfl
      · unfold seatP
        by_cases h : (se A j).t = tok
        · have := HO j (by omega) h
          omega
        · rw [decide_eq_false h]; rfl
theorem seated_any {a : Option Addr} {cap : Nat} {A : List Se} (tok : ByteArray) (now ttl : Int) (w : World) (h : SeC w a A.length A) (hn : A.length ≤ cap) (hm : cap ≤ maxLen) (hr : InR A) (h1 : 0 ≤ now ∧ now ≤ 1099511627776) : Calls Try.prog 19 #[.slice a A.length cap, .string tok, .int .i64 now, .int .i64 ttl] w fun e w' => e = .returned (.int .i64 (ixI (seatP tok now ttl) A)) ∧ Below w.heap.size w w' := by
  have hmf : ∀ (fn : Fn) (first cap : Array Value) (w : World), (Instr.makeFunc fn first cap).run Try.prog w = .ok (.func fn first cap) w := fun _ _ _ _ => rfl
  obtain ⟨B0, R0, L0⟩ := box1 w #[.string tok] 9
  obtain ⟨W0, hW0⟩ : ∃ W0, W0 = w.alloc (.cells #[.string tok] 9) := ⟨_, rfl⟩
  rw [← hW0] at B0 R0 L0
  obtain ⟨B1, R1, L1⟩ := box1 W0 #[.int .i64 now] 3
  obtain ⟨W1, hW1⟩ : ∃ W1, W1 = W0.alloc (.cells #[.int .i64 now] 3) := ⟨_, rfl⟩
  rw [← hW1] at B1 R1 L1
  obtain ⟨B2, R2, L2⟩ := box1 W1 #[.int .i64 ttl] 3
  obtain ⟨W2, hW2⟩ : ∃ W2, W2 = W1.alloc (.cells #[.int .i64 ttl] 3) := ⟨_, rfl⟩
  rw [← hW2] at B2 R2 L2
  have hB : Below w.heap.size w W2 := below_on (below_on B0 B1) B2
  rw [L0] at L1 R1
  rw [L1] at L2 R2
  have hs : HoldS w.heap.size (w.heap.size + 1) (w.heap.size + 1 + 1) tok now ttl W2 := by
    refine ⟨⟨by omega, ?_⟩, by omega, by omega, ?_, one_cell R2⟩
    · exact vcell B2 (by omega) (vcell B1 (by omega) (one_cell R0))
    · exact vcell B2 (by omega) (one_cell R1)
  have HX := Lib.hid (ixf_any (HoldS w.heap.size (w.heap.size + 1) (w.heap.size + 1 + 1) tok now ttl) (seatP tok now ttl) 29 #[.pointer (some ⟨w.heap.size, 0, none⟩), .pointer (some ⟨w.heap.size + 1, 0, none⟩), .pointer (some ⟨w.heap.size + 1 + 1, 0, none⟩)] W2 (h.below hB) hn hm hs (HoldS.kept _ _ _ _ _ _) enters_seated (fun w' hk j hj => seatedq_any _ _ _ tok now ttl (se A j) w' hk h1 (hr j hj)))
  have HB := Lib.hid hB
  have HW2 : Hid (W2 = ((w.alloc (.cells #[.string tok] 9)).alloc (.cells #[.int .i64 now] 3)).alloc (.cells #[.int .i64 ttl] 3)) := by show _ = _; rw [hW2, hW1, hW0]
  generalize A.length = n at *
  clear h hr B0 B1 B2 R0 R1 R2 L0 L1 L2 hB hs hW0 hW1 hW2
  go_enter Try.func19, Try.ntmps19
  go_upto_region 1 with fail
  rw [← HW2.out]
  go_wp2_with fail
  refine HX.out.mono ?_
  rintro e w1 ⟨rfl, b1⟩
  have K := Lib.hid (below_on HB.out b1)
  clear b1 HX
  go_wp2_with fail
  go_ret
  exact ⟨rfl, K.out⟩
end Go.Proofs.Ytkbjbmhplocdnaa.Dsk
