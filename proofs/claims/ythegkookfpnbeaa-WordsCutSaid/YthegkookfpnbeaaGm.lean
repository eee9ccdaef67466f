/- Words: Alike of the plain text; the blocks of Ask. -/
import Derived.Test.YthegkookfpnbeaaGl
set_option linter.unusedVariables false
set_option linter.unusedSimpArgs false
set_option maxRecDepth 100000
namespace Go.Proofs.Ythegkookfpnbeaa.Wds
open Go.RowKit Go.Lib Go.Proofs.Ythegkookfpnbeaa.Bx Go.Proofs.Ythegkookfpnbeaa.Frm

theorem str_eqB (s t : ByteArray) : (s.toList == t.toList) = decide (s = t) := by
  rw [Lib.toList_data, Lib.toList_data]
  by_cases h : s = t
  · subst h; simp
  · rw [decide_eq_false h]
    simp only [beq_eq_false_iff_ne, ne_eq]
    intro e
    exact h (by cases s; cases t; congr; exact Array.toList_inj.1 e)
theorem mkB_inj {a b : List UInt8} : mkB a = mkB b ↔ a = b := by
  constructor
  · intro h
    have := congrArg (fun x : ByteArray => x.data.toList) h
    simpa [mkB] using this
  · rintro rfl; rfl
def alikeB (p q : Pl) : Bool := (callE p).2 && ((callE q).2 && decide ((callE p).1 = (callE q).1))
set_option maxHeartbeats 8000000 in
theorem alike_any (p q : Pl) (w : World) (hp : p.n.length = 6) (hq : q.n.length = 6) : Calls Try.prog 14 #[plV p, plV q] w fun e w' => e = .returned (.bool (alikeB p q)) ∧ Below w.heap.size w w' := by
  obtain ⟨b0, z0⟩ := boxP w p
  obtain ⟨W0, hW0⟩ : ∃ W0, W0 = w.alloc (.cells (cellsP p).toArray 24) := ⟨_, rfl⟩
  rw [← hW0] at b0 z0
  obtain ⟨b1, z1⟩ := boxP W0 q
  obtain ⟨W1, hW1⟩ : ∃ W1, W1 = W0.alloc (.cells (cellsP q).toArray 24) := ⟨_, rfl⟩
  rw [← hW1] at b1 z1
  have hz0 : W0.heap.size = w.heap.size + 1 := by rw [hW0]; exact (box1 _ _ _).2.2
  rw [hz0] at z1
  have HW1 : Hid (W1 = (w.alloc (.cells #[.int .i64 p.op, .string (mkB p.tok), .int .i64 p.seq, .int .i64 (nn p 0), .int .i64 (nn p 1), .int .i64 (nn p 2), .int .i64 (nn p 3), .int .i64 (nn p 4), .int .i64 (nn p 5), .string (mkB p.text), .string (mkB p.more), .bool p.a, .bool p.b] 24)).alloc (.cells #[.int .i64 q.op, .string (mkB q.tok), .int .i64 q.seq, .int .i64 (nn q 0), .int .i64 (nn q 1), .int .i64 (nn q 2), .int .i64 (nn q 3), .int .i64 (nn q 4), .int .i64 (nn q 5), .string (mkB q.text), .string (mkB q.more), .bool q.a, .bool q.b] 24)) := by show _ = _; rw [hW1, hW0]; rfl
  have HB1 := Lib.hid (below_on b0 b1)
  have c := (z0.below b1).all
  have HZ : Hid (∀ w', Below W1.heap.size W1 w' → BlkP w' (w.heap.size + 1) q) := fun w' hb => z1.below hb
  have C1 := Lib.hid (rcall_any p W1 hp)
  have C2 : Hid (∀ w', Calls Try.prog 10 #[.agg #[.int .i64 q.op, .string (mkB q.tok), .int .i64 q.seq, .int .i64 (nn q 0), .int .i64 (nn q 1), .int .i64 (nn q 2), .int .i64 (nn q 3), .int .i64 (nn q 4), .int .i64 (nn q 5), .string (mkB q.text), .string (mkB q.more), .bool q.a, .bool q.b]] w' fun e w'' => e = .returned (.tuple #[.string (mkB (callE q).1), .bool (callE q).2]) ∧ Below w'.heap.size w' w'') := fun w' => rcall_any q w' hq
  have HV : Hid (alikeB p q = ((callE p).2 && ((callE q).2 && decide (mkB (callE p).1 = mkB (callE q).1)))) := by
    show _ = _
    unfold alikeB
    rw [decide_eq_decide.2 mkB_inj]
  unfold plV at C1 ⊢
  obtain ⟨c0, c1, c2, c3, c4, c5, c6, c7, c8, c9, c10, c11, c12⟩ := c
  generalize alikeB p q = r at *
  generalize mkB (callE p).1 = s1 at *
  generalize mkB (callE q).1 = s2 at *
  generalize (callE p).2 = k1 at *
  generalize (callE q).2 = k2 at *
  have SE := str_eqB s1 s2
  clear hW0 hW1 b0 b1 z0 z1 hz0
  have key : ∀ k1' k2' e', k1 = k1' → k2 = k2' → decide (s1 = s2) = e' → Calls Try.prog 14 #[.agg #[.int .i64 p.op, .string (mkB p.tok), .int .i64 p.seq, .int .i64 (nn p 0), .int .i64 (nn p 1), .int .i64 (nn p 2), .int .i64 (nn p 3), .int .i64 (nn p 4), .int .i64 (nn p 5), .string (mkB p.text), .string (mkB p.more), .bool p.a, .bool p.b], .agg #[.int .i64 q.op, .string (mkB q.tok), .int .i64 q.seq, .int .i64 (nn q 0), .int .i64 (nn q 1), .int .i64 (nn q 2), .int .i64 (nn q 3), .int .i64 (nn q 4), .int .i64 (nn q 5), .string (mkB q.text), .string (mkB q.more), .bool q.a, .bool q.b]] w fun e w' => e = .returned (.bool r) ∧ Below w.heap.size w w' := by
    intro k1' k2' e' h1 h2 h3
    subst h1 h2
    rw [h3] at SE HV
    clear h3
    cases k1 <;> cases k2 <;> cases e'
    all_goals (
      have hr := HV.out
      simp only [Bool.true_and, Bool.false_and] at hr
      subst hr
      clear HV
      go_enter Try.func14, Try.ntmps14
      go_upto_region 1 with fail
      rw [← HW1.out]
      go_wp2_with fail
      refine C1.out.mono ?_
      rintro e w2 ⟨rfl, b2⟩
      have HB2 := Lib.hid (below_on HB1.out b2)
      obtain ⟨d0, d1, d2, d3, d4, d5, d6, d7, d8, d9, d10, d11, d12⟩ := (HZ.out w2 b2).all
      clear b2 C1 c0 c1 c2 c3 c4 c5 c6 c7 c8 c9 c10 c11 c12
      go_wp2_with fail
      refine (C2.out _).mono ?_
      rintro e w3 ⟨rfl, b3⟩
      have HB3 := Lib.hid (below_on HB2.out b3)
      clear b3 C2
      go_wp2_with fail
      go_ret
      exact ⟨by first | rfl | (simp; done), HB3.out⟩)
  exact key _ _ _ rfl rfl rfl
end Go.Proofs.Ythegkookfpnbeaa.Wds
