/- Plate: the laws' awake. -/
import Derived.Test.YtegnpkolmnmeiaaY16n
import Derived.Lib.SliceRun
set_option linter.unusedVariables false
set_option linter.unusedSimpArgs false
set_option maxRecDepth 100000
namespace Go.Proofs.Ytegnpkolmnmeiaa.Plt
open Go.RowKit Go.Lib Go.Proofs.Ytegnpkolmnmeiaa.Bx

theorem index0 : ∀ w : World, (Instr.index 9 (.string (fullB sB)) (.int .i64 0)).run Try.prog w = .ok (.int .u8 98) w := fun w => by
  rw [run_index_string w 9 (fullB sB) .i64 0 Try.underlying9, dif_pos ⟨by decide, by rw [show (fullB sB).size = 128 from full_size (by decide)]; decide⟩]
  kernel_rfl
set_option maxHeartbeats 4000000 in
theorem awake_any (w : World) : Calls Try.prog 5 #[] w fun e w' => e = .returned (.bool true) ∧ Below w.heap.size w w' := by
  have CN := Lib.hid (newX 9 w (by omega) (by omega))
  obtain ⟨q1, q2, q3, q4, q5, q6, q7⟩ := aw_ok
  obtain ⟨t1, t2, t3, t4⟩ := aw_short
  have Q1 := Lib.hid q1
  have Q2 := Lib.hid q2
  have Q3 := Lib.hid q3
  have Q4 := Lib.hid q4
  have Q5 := Lib.hid q5
  have Q6 := Lib.hid q6
  have Q7 := Lib.hid q7
  have T1 := Lib.hid t1
  have T2 := Lib.hid t2
  have T3 := Lib.hid t3
  have T4 := Lib.hid t4
  clear q1 q2 q3 q4 q5 q6 q7 t1 t2 t3 t4
  go_enter Try.func5, Try.ntmps5
  go_wp2_with fail
  refine CN.out.mono ?_
  rintro e w1 ⟨B, F1, rfl, d1, b1⟩
  have C1 : Hid (Calls Try.prog 9 #[.pointer (some ⟨B, 0, none⟩), .int .i64 3, .string ⟨#[97]⟩] w1 (Did w.heap.size w1 B F1 aw1 (.bool true))) := by
    have := layX 3 sA (by decide) d1 T1.out
    rw [Q1.out] at this
    exact this
  have D1 := Lib.hid d1
  have B1 := Lib.hid b1
  clear d1 b1 CN
  go_wp2_with fail
  refine C1.out.mono ?_
  rintro e w2 ⟨rfl, F2, d2, c2, n2⟩
  have B2 := Lib.hid (Did.low (w0 := w) D1.out c2 B1.out (Nat.le_refl _) B1.out.size)
  have C2 : Hid (Calls Try.prog 10 #[.pointer (some ⟨B, 0, none⟩)] w2 (Did w.heap.size w2 B F2 aw2 (.bool true))) := by
    have := barX d2
    rw [Q2.out] at this
    exact this
  have D2 := Lib.hid d2
  clear d2 c2 n2 C1
  go_wp2_with fail
  refine C2.out.mono ?_
  rintro e w3 ⟨rfl, F3, d3, c3, n3⟩
  have B3 := Lib.hid (Did.low (w0 := w) D2.out c3 B2.out (Nat.le_refl _) B2.out.size)
  have C3 : Hid (Calls Try.prog 9 #[.pointer (some ⟨B, 0, none⟩), .int .i64 3, .string ⟨#[98]⟩] w3 (Did w.heap.size w3 B F3 aw3 (.bool true))) := by
    have := layX 3 sB (by decide) d3 T2.out
    rw [Q3.out] at this
    exact this
  have D3 := Lib.hid d3
  clear d3 c3 n3 C2
  go_wp2_with fail
  refine C3.out.mono ?_
  rintro e w4 ⟨rfl, F4, d4, c4, n4⟩
  have B4 := Lib.hid (Did.low (w0 := w) D3.out c4 B3.out (Nat.le_refl _) B3.out.size)
  have C4 : Hid (Calls Try.prog 9 #[.pointer (some ⟨B, 0, none⟩), .int .i64 3, .string ⟨#[99]⟩] w4 (Did w.heap.size w4 B F4 aw4 (.bool true))) := by
    have := layX 3 sC (by decide) d4 T3.out
    rw [Q4.out] at this
    exact this
  have D4 := Lib.hid d4
  clear d4 c4 n4 C3
  go_wp2_with fail
  refine C4.out.mono ?_
  rintro e w5 ⟨rfl, F5, d5, c5, n5⟩
  have B5 := Lib.hid (Did.low (w0 := w) D4.out c5 B4.out (Nat.le_refl _) B4.out.size)
  obtain ⟨bx, rx, lx⟩ := box1 w5 #[.int .i64 1] 3
  obtain ⟨w6, hw6⟩ : ∃ w6, w6 = w5.alloc (.cells #[.int .i64 1] 3) := ⟨_, rfl⟩
  rw [← hw6] at bx rx lx
  have D6 := Lib.hid (d5.below bx)
  have B6 := Lib.hid (below_on B5.out bx)
  have C6 : Hid (Calls Try.prog 17 #[.pointer (some ⟨B, 0, none⟩), .slice (some ⟨w5.heap.size, 0, none⟩) 1 1] w6 (Did w.heap.size w6 B F5 aw5 (.tuple #[]))) :=
    fallX [1] (Rk.row_one (e := 3) rx rfl) (fun x hx => by simp at hx; subst hx; exact ⟨by decide, by decide⟩) (fun _ b e hF => by
      have e' : w5.heap.size = b := by simpa [Value.ownBlock] using e
      have := (d5.lt b hF).2
      omega) D6.out T4.out
  have HW6 := Lib.hid hw6
  clear d5 c5 n5 C4 bx rx lx hw6
  go_wp2_with fail
  rw [← HW6.out]
  refine C6.out.mono ?_
  rintro e w7 ⟨rfl, F7, d7, c7, n7⟩
  have B7 := Lib.hid (Did.low (w0 := w) D6.out c7 B6.out (Nat.le_refl _) B6.out.size)
  have C7 := Lib.hid (getX 3 d7)
  have C8 := Lib.hid (sizeX d7)
  rw [Q5.out, Q6.out] at C7
  rw [Q7.out] at C8
  clear d7 c7 n7 C6
  have hi := index0
  have hz : (fullB sB).size = 128 := by kernel_rfl
  generalize fullB sB = r at *
  go_wp2_with fail
  refine C7.out.mono ?_
  rintro e w8 ⟨rfl, rfl⟩
  go_wp2_with fail
  refine C8.out.mono ?_
  rintro e w8 ⟨rfl, rfl⟩
  go_wp2_with fail
  go_ret
  exact ⟨rfl, B7.out⟩
end Go.Proofs.Ytegnpkolmnmeiaa.Plt
