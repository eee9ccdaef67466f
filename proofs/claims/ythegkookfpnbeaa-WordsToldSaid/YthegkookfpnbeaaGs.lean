/- Words: what is read as a call is a call, and is written as it was (mathematics; no program). -/
import Derived.Test.YthegkookfpnbeaaGq
set_option linter.unusedVariables false
set_option linter.unusedSimpArgs false
set_option maxRecDepth 100000
namespace Go.Proofs.Ythegkookfpnbeaa.Wds
open Go.RowKit Go.Lib Go.Proofs.Ythegkookfpnbeaa.Bx Go.Proofs.Ythegkookfpnbeaa.Frm

theorem back_in (m : Nat) : in64 (back m) := by
  unfold in64 back
  split <;> omega
theorem num_in (r : Rd) : in64 (numR r).1 := back_in _
theorem hd_le (t : List UInt8) : hd t ≤ 65535 := by
  unfold hd
  have h1 := UInt8.toNat_lt (t.getD 0 0)
  have h2 := UInt8.toNat_lt (t.getD 1 0)
  omega
theorem text_le (r : Rd) : (textR r).1.length ≤ 65535 := by
  unfold textR
  split
  · exact Nat.zero_le _
  · rw [take_len]
    exact hd_le _
theorem nums_in : ∀ (k : Nat) (r : Rd), ∀ x ∈ (numsR k r).1, in64 x
  | 0, r, x, h => by cases h
  | k + 1, r, x, h => by
    rcases List.mem_cons.1 h with rfl | h
    · exact num_in r
    · exact nums_in k _ x h
theorem skipT_le (c : Prop) [Decidable c] (r : Rd) : (skipT c r).1.length ≤ 65535 := by
  unfold skipT
  split
  · exact text_le r
  · exact Nat.zero_le _
theorem ask_good (s : List UInt8) : okP (askR s).1 ∧ (askR s).1.tok.length ≤ 65535 ∧ (askR s).1.text.length ≤ 65535 ∧ (askR s).1.more.length ≤ 65535 := by
  have hl := nums_len' (countN (lenR ⟨s, false⟩).1) (numR (textR (lenR ⟨s, false⟩).2).2).2
  have hc := count_le ((lenR ⟨s, false⟩).1 : Int)
  have hin := nums_in (countN (lenR ⟨s, false⟩).1) (numR (textR (lenR ⟨s, false⟩).2).2).2
  have hq := num_in (textR (lenR ⟨s, false⟩).2).2
  have h8 : (lenR ⟨s, false⟩).1 < 256 := UInt8.toNat_lt _
  have ht := text_le (lenR ⟨s, false⟩).2
  unfold askR okP
  simp only
  refine ⟨⟨?_, ?_, hq, ?_⟩, ht, skipT_le _ _, skipT_le _ _⟩
  · rw [List.length_append, hl, List.length_replicate]
    omega
  · unfold in64
    omega
  · intro x hx
    rcases List.mem_append.1 hx with hx | hx
    · exact hin x hx
    · rw [(List.mem_replicate.1 hx).2]
      unfold in64
      decide
theorem ask_yes {s : List UInt8} (h : (askE s).2 = true) : okP (askE s).1 ∧ callE (askE s).1 = (s, true) ∧ (1 ≤ (askE s).1.op ∧ (askE s).1.op ≤ 15) ∧ (askE s).1.tok.length ≤ 9223372036854775807 ∧ (askE s).1.text.length ≤ 9223372036854775807 ∧ (askE s).1.more.length ≤ 9223372036854775807 := by
  unfold askE at h ⊢
  by_cases hc : (askR s).2.bad = false ∧ (askR s).2.s = [] ∧ ¬ opE (askR s).1 = 0
  · rw [if_pos hc]
    obtain ⟨h1, h2, h3⟩ := hc
    obtain ⟨g1, g2, g3, g4⟩ := ask_good s
    have ho : 1 ≤ (askR s).1.op ∧ (askR s).1.op ≤ 15 := by
      unfold opE at h3
      by_cases h9 : (askR s).1.op < 1 ∨ 15 < (askR s).1.op
      · rw [if_pos h9] at h3; exact absurd rfl h3
      · omega
    have hb : bodyL (askR s).1 = s := ask_took (by
      obtain ⟨a, b⟩ : ∃ a b, (askR s).2 = ⟨a, b⟩ := ⟨_, _, rfl⟩
      generalize (askR s).2 = r at *
      cases r
      simp only at h1 h2
      rw [h1, h2])
    refine ⟨g1, ?_, ho, by show (askR s).1.tok.length ≤ 9223372036854775807; omega, by show (askR s).1.text.length ≤ 9223372036854775807; omega, by show (askR s).1.more.length ≤ 9223372036854775807; omega⟩
    show callE (askR s).1 = (s, true)
    rw [call_of ho g2 (fun _ => g3) (fun _ => g4), hb]
  · rw [if_neg hc] at h
    cases h
theorem ask_no {s : List UInt8} (h : (askE s).2 = false) : askE s = (zeroP, false) := by
  unfold askE at h ⊢
  by_cases hc : (askR s).2.bad = false ∧ (askR s).2.s = [] ∧ ¬ opE (askR s).1 = 0
  · rw [if_pos hc] at h; cases h
  · rw [if_neg hc]
/-- Nothing that goes on behind a call's bytes is one, and no beginning of them. -/
theorem take_bad (r : Rd) (n : Nat) (h : r.bad = true) : (takeR r n).2.bad = true := by
  unfold takeR
  rw [if_pos (.inl h)]
theorem norm_norm {p : Pl} (h6 : p.n.length = 6) : normP (normP p) = normP p := by
  have hc := count_le p.op
  unfold normP
  simp only
  rw [List.take_append_of_le_length (by rw [List.length_take]; omega), List.take_take, Nat.min_self]
  congr 1
  · by_cases h : p.op = 1 ∨ p.op = 4 <;> simp [h]
  · by_cases h : p.op = 1 <;> simp [h]
  · by_cases h : p.op = 14 <;> simp [h]
  · by_cases h : p.op = 14 <;> simp [h]
theorem store_iface (w : World) (a0 a1 v : Value) (ty : TypeId) (hv : v = .nilIface ∨ ∃ t x, v = .iface t x) : Sem.run Try.prog (store ⟨w.heap.size, 2, none⟩ v) (w.alloc (.cells #[a0, a1, .nilIface] ty)) = .ok () (w.alloc (.cells #[a0, a1, v] ty)) := by
  have c2 : (w.alloc (.cells #[a0, a1, .nilIface] ty)).cell? ⟨w.heap.size, 2, none⟩ = some .nilIface := (three_cells (heap_alloc_new _ _)).2.2
  have f2 : (w.alloc (.cells #[a0, a1, .nilIface] ty)).frozen? ⟨w.heap.size, 2, none⟩ = false := free_at (heap_alloc_new _ _)
  have e : (w.alloc (.cells #[a0, a1, .nilIface] ty)).setCell ⟨w.heap.size, 2, none⟩ v = w.alloc (.cells #[a0, a1, v] ty) := by
    rw [World.setCell_alloc_at _ _ _ _ _ rfl]
    rfl
  rw [← e]
  rcases hv with rfl | ⟨t, x, rfl⟩
  · simp [go_sem, c2, f2]
  · simp [go_sem, c2, f2]
theorem askV_form (p : Pl) : askV p = .nilIface ∨ ∃ t x, askV p = .iface t x := by
  unfold askV
  by_cases e1 : p.op = 1
  · rw [if_pos e1]; exact .inr ⟨_, _, rfl⟩
  · rw [if_neg e1]
    by_cases e2 : p.op = 2
    · rw [if_pos e2]; exact .inr ⟨_, _, rfl⟩
    · rw [if_neg e2]
      by_cases e3 : p.op = 3
      · rw [if_pos e3]; exact .inr ⟨_, _, rfl⟩
      · rw [if_neg e3]
        by_cases e4 : p.op = 4
        · rw [if_pos e4]; exact .inr ⟨_, _, rfl⟩
        · rw [if_neg e4]
          by_cases e5 : p.op = 5
          · rw [if_pos e5]; exact .inr ⟨_, _, rfl⟩
          · rw [if_neg e5]
            by_cases e6 : p.op = 6
            · rw [if_pos e6]; exact .inr ⟨_, _, rfl⟩
            · rw [if_neg e6]
              by_cases e7 : p.op = 7
              · rw [if_pos e7]; exact .inr ⟨_, _, rfl⟩
              · rw [if_neg e7]
                by_cases e8 : p.op = 8
                · rw [if_pos e8]; exact .inr ⟨_, _, rfl⟩
                · rw [if_neg e8]
                  by_cases e9 : p.op = 9
                  · rw [if_pos e9]; exact .inr ⟨_, _, rfl⟩
                  · rw [if_neg e9]
                    by_cases e10 : p.op = 10
                    · rw [if_pos e10]; exact .inr ⟨_, _, rfl⟩
                    · rw [if_neg e10]
                      by_cases e11 : p.op = 11
                      · rw [if_pos e11]; exact .inr ⟨_, _, rfl⟩
                      · rw [if_neg e11]
                        by_cases e12 : p.op = 12
                        · rw [if_pos e12]; exact .inr ⟨_, _, rfl⟩
                        · rw [if_neg e12]
                          by_cases e13 : p.op = 13
                          · rw [if_pos e13]; exact .inr ⟨_, _, rfl⟩
                          · rw [if_neg e13]
                            by_cases e14 : p.op = 14
                            · rw [if_pos e14]; exact .inr ⟨_, _, rfl⟩
                            · rw [if_neg e14]
                              by_cases e15 : p.op = 15
                              · rw [if_pos e15]; exact .inr ⟨_, _, rfl⟩
                              · rw [if_neg e15]
                                exact .inl rfl
theorem AskIs.form {p : Pl} {v : Value} (h : AskIs p v) : v = .nilIface ∨ ∃ t x, v = .iface t x := by
  by_cases h1 : 1 ≤ p.op ∧ p.op ≤ 15
  · rw [h.1 h1]; exact askV_form p
  · rcases h.2 h1 with h2 | ⟨t, x, h2, _⟩
    · exact .inl h2
    · exact .inr ⟨t, x, h2⟩
def pX : Pl := ⟨2, [116], 1, [0, 0, 0, 0, 0, 0], [], [], false, false⟩
theorem callX : callE pX = ([2, 0, 1, 116, 0, 0, 0, 0, 0, 0, 0, 1], true) := by decide
theorem okX : okP pX := ⟨rfl, by unfold in64; decide, by unfold in64; decide, fun x hx => by
  have : x = 0 := by simpa [pX] using hx
  subst this
  unfold in64
  decide⟩
theorem isX : AskIs pX (.iface 28 (.agg #[])) := ⟨fun _ => rfl, fun h => absurd (by decide) h⟩
end Go.Proofs.Ythegkookfpnbeaa.Wds
