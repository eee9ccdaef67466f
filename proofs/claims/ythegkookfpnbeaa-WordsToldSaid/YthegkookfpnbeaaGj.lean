/- Words: a call as bytes, there and back. No program is spoken of here. -/
import Derived.Test.YthegkookfpnbeaaGi
set_option linter.unusedVariables false
set_option linter.unusedSimpArgs false
namespace Go.Proofs.Ythegkookfpnbeaa.Wds
open Go.Lib Go.Proofs.Ythegkookfpnbeaa.Frm

/-- A call as plain values. -/
structure Pl where
  op : Int
  tok : List UInt8
  seq : Int
  n : List Int
  text : List UInt8
  more : List UInt8
  a : Bool
  b : Bool
def txt (c : Prop) [Decidable c] (t : List UInt8) : List UInt8 := if c then textL t else []
def flg (c : Prop) [Decidable c] (f : Bool) : List UInt8 := if c then flagL f else []
def bodyL (p : Pl) : List UInt8 := [UInt8.ofNat p.op.toNat] ++ (textL p.tok ++ (numL p.seq ++ ((p.n.take (countN p.op)).flatMap numL ++ (txt (p.op = 1 ∨ p.op = 4) p.text ++ (txt (p.op = 1) p.more ++ (flg (p.op = 14) p.a ++ flg (p.op = 14) p.b))))))
def numsR : Nat → Rd → List Int × Rd
  | 0, r => ([], r)
  | k + 1, r => ((numR r).1 :: (numsR k (numR r).2).1, (numsR k (numR r).2).2)
def skipT (c : Prop) [Decidable c] (r : Rd) : List UInt8 × Rd := if c then textR r else ([], r)
def skipF (c : Prop) [Decidable c] (r : Rd) : Bool × Rd := if c then flagR r else (false, r)
theorem count_le (op : Int) : countN op ≤ 6 := by
  unfold countN
  repeat' split
  all_goals omega
theorem nums_len' : ∀ (k : Nat) (r : Rd), (numsR k r).1.length = k
  | 0, r => rfl
  | k + 1, r => by
    show (numsR k (numR r).2).1.length + 1 = _
    rw [nums_len' k]
theorem nums_app : ∀ (xs : List Int) (b : List UInt8), (∀ x ∈ xs, -9223372036854775808 ≤ x ∧ x ≤ 9223372036854775807) → numsR xs.length ⟨xs.flatMap numL ++ b, false⟩ = (xs, ⟨b, false⟩)
  | [], b, _ => rfl
  | x :: xs, b, h => by
    show ((numR _).1 :: (numsR xs.length (numR _).2).1, (numsR xs.length (numR _).2).2) = _
    rw [List.flatMap_cons, List.append_assoc, num_app (h x List.mem_cons_self), nums_app xs b (fun y hy => h y (List.mem_cons_of_mem _ hy))]
theorem Took.trans {r r1 r2 : Rd} {l m : List UInt8} (h1 : Took r l r1) (h2 : Took r1 m r2) : Took r (l ++ m) r2 := fun h => by
  obtain ⟨a, b⟩ := h2 h
  obtain ⟨c, d⟩ := h1 a
  exact ⟨c, by rw [d, b, List.append_assoc]⟩
theorem Took.refl (r : Rd) : Took r [] r := fun h => ⟨h, rfl⟩
theorem nums_took : ∀ (k : Nat) (r : Rd), Took r ((numsR k r).1.flatMap numL) (numsR k r).2
  | 0, r => Took.refl r
  | k + 1, r => by
    show Took r (((numR r).1 :: (numsR k (numR r).2).1).flatMap numL) (numsR k (numR r).2).2
    rw [List.flatMap_cons]
    exact (num_took r).trans (nums_took k _)
theorem skipT_took (c : Prop) [Decidable c] (r : Rd) : Took r (txt c (skipT c r).1) (skipT c r).2 := by
  unfold skipT txt
  by_cases h : c
  · rw [if_pos h, if_pos h]
    exact text_took r
  · rw [if_neg h, if_neg h]
    exact Took.refl r
theorem skipF_took (c : Prop) [Decidable c] (r : Rd) : Took r (flg c (skipF c r).1) (skipF c r).2 := by
  unfold skipF flg
  by_cases h : c
  · rw [if_pos h, if_pos h]
    exact flag_took r
  · rw [if_neg h, if_neg h]
    exact Took.refl r
theorem skipT_app (c : Prop) [Decidable c] {t : List UInt8} (ht : c → t.length ≤ 65535) (b : List UInt8) : skipT c ⟨txt c t ++ b, false⟩ = (if c then t else [], ⟨b, false⟩) := by
  unfold skipT txt
  by_cases h : c
  · rw [if_pos h, if_pos h, if_pos h]
    exact text_app (ht h) b
  · rw [if_neg h, if_neg h, if_neg h]
    rfl
theorem skipF_app (c : Prop) [Decidable c] (f : Bool) (b : List UInt8) : skipF c ⟨flg c f ++ b, false⟩ = (if c then f else false, ⟨b, false⟩) := by
  unfold skipF flg
  by_cases h : c
  · rw [if_pos h, if_pos h, if_pos h]
    exact flag_app f b
  · rw [if_neg h, if_neg h, if_neg h]
    rfl
/-- A call read, and the reader behind it. -/
def askR (s : List UInt8) : Pl × Rd :=
  let q1 := lenR ⟨s, false⟩
  let q2 := textR q1.2
  let q3 := numR q2.2
  let q4 := numsR (countN q1.1) q3.2
  let q5 := skipT ((q1.1 : Int) = 1 ∨ (q1.1 : Int) = 4) q4.2
  let q6 := skipT ((q1.1 : Int) = 1) q5.2
  let q7 := skipF ((q1.1 : Int) = 14) q6.2
  let q8 := skipF ((q1.1 : Int) = 14) q7.2
  (⟨q1.1, q2.1, q3.1, q4.1 ++ List.replicate (6 - countN q1.1) 0, q5.1, q6.1, q7.1, q8.1⟩, q8.2)
def normP (p : Pl) : Pl := ⟨p.op, p.tok, p.seq, p.n.take (countN p.op) ++ List.replicate (6 - countN p.op) 0, if p.op = 1 ∨ p.op = 4 then p.text else [], if p.op = 1 then p.more else [], if p.op = 14 then p.a else false, if p.op = 14 then p.b else false⟩
theorem ask_body {p : Pl} (h1 : 1 ≤ p.op ∧ p.op ≤ 15) (h2 : p.tok.length ≤ 65535) (h3 : -9223372036854775808 ≤ p.seq ∧ p.seq ≤ 9223372036854775807) (h4 : p.n.length = 6) (h5 : ∀ x ∈ p.n, -9223372036854775808 ≤ x ∧ x ≤ 9223372036854775807) (h6 : p.op = 1 ∨ p.op = 4 → p.text.length ≤ 65535) (h7 : p.op = 1 → p.more.length ≤ 65535) : askR (bodyL p) = (normP p, ⟨[], false⟩) := by
  obtain ⟨op, tok, seq, n, text, more, a, b⟩ := p
  simp only at h1 h2 h3 h4 h5 h6 h7
  obtain ⟨k, rfl⟩ : ∃ k : Nat, op = (k : Int) := ⟨op.toNat, by omega⟩
  have e1 : ∀ s, lenR ⟨[UInt8.ofNat k] ++ s, false⟩ = (k, ⟨s, false⟩) := fun s => len_app (by omega) s
  have hc := count_le (k : Int)
  have e4 : ∀ s, numsR (countN (k : Int)) ⟨(n.take (countN (k : Int))).flatMap numL ++ s, false⟩ = (n.take (countN (k : Int)), ⟨s, false⟩) := fun s => by
    have := nums_app (n.take (countN (k : Int))) s (fun x hx => h5 x (List.mem_of_mem_take hx))
    rw [List.length_take, h4, Nat.min_eq_left hc] at this
    exact this
  have e8 := skipF_app ((k : Int) = 14) b []
  rw [List.append_nil] at e8
  unfold askR bodyL normP
  simp only [Int.toNat_natCast, e1, text_app h2, num_app h3, e4, skipT_app _ h6, skipT_app _ h7, skipF_app, e8]
theorem ask_took {s : List UInt8} (h : (askR s).2 = ⟨[], false⟩) : bodyL (askR s).1 = s := by
  have t1 := len_took ⟨s, false⟩
  have t2 := text_took (lenR ⟨s, false⟩).2
  have t3 := num_took (textR (lenR ⟨s, false⟩).2).2
  have t4 := nums_took (countN (lenR ⟨s, false⟩).1) (numR (textR (lenR ⟨s, false⟩).2).2).2
  have l4 := nums_len' (countN (lenR ⟨s, false⟩).1) (numR (textR (lenR ⟨s, false⟩).2).2).2
  unfold askR at h ⊢
  simp only at h ⊢
  generalize lenR ⟨s, false⟩ = q1 at *
  generalize textR q1.2 = q2 at *
  generalize numR q2.2 = q3 at *
  generalize numsR (countN q1.1) q3.2 = q4 at *
  have t5 := skipT_took ((q1.1 : Int) = 1 ∨ (q1.1 : Int) = 4) q4.2
  generalize skipT ((q1.1 : Int) = 1 ∨ (q1.1 : Int) = 4) q4.2 = q5 at *
  have t6 := skipT_took ((q1.1 : Int) = 1) q5.2
  generalize skipT ((q1.1 : Int) = 1) q5.2 = q6 at *
  have t7 := skipF_took ((q1.1 : Int) = 14) q6.2
  generalize skipF ((q1.1 : Int) = 14) q6.2 = q7 at *
  have t8 := skipF_took ((q1.1 : Int) = 14) q7.2
  generalize skipF ((q1.1 : Int) = 14) q7.2 = q8 at *
  have t := t1.trans (t2.trans (t3.trans (t4.trans (t5.trans (t6.trans (t7.trans t8))))))
  rw [h] at t
  obtain ⟨_, e⟩ := t rfl
  simp only [List.append_nil] at e
  unfold bodyL
  simp only [Int.toNat_natCast]
  rw [List.take_append_of_le_length (by rw [l4]; exact Nat.le_refl _), List.take_of_length_le (by rw [l4]; exact Nat.le_refl _), e]
end Go.Proofs.Ythegkookfpnbeaa.Wds
