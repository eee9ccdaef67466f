/- Words: nothing that goes on behind a call's bytes is a call, and no beginning of them (mathematics; no program). -/
import Derived.Test.YthegkookfpnbeaaGs
set_option linter.unusedVariables false
set_option linter.unusedSimpArgs false
set_option maxRecDepth 100000
namespace Go.Proofs.Ythegkookfpnbeaa.Wds
open Go.Lib Go.Proofs.Ythegkookfpnbeaa.Frm

theorem ask_body_app {p : Pl} (h1 : 1 ≤ p.op ∧ p.op ≤ 15) (h2 : p.tok.length ≤ 65535) (h3 : -9223372036854775808 ≤ p.seq ∧ p.seq ≤ 9223372036854775807) (h4 : p.n.length = 6) (h5 : ∀ x ∈ p.n, -9223372036854775808 ≤ x ∧ x ≤ 9223372036854775807) (h6 : p.op = 1 ∨ p.op = 4 → p.text.length ≤ 65535) (h7 : p.op = 1 → p.more.length ≤ 65535) (bb : List UInt8) : askR (bodyL p ++ bb) = (normP p, ⟨bb, false⟩) := by
  obtain ⟨op, tok, seq, n, text, more, a, b⟩ := p
  simp only at h1 h2 h3 h4 h5 h6 h7
  obtain ⟨k, rfl⟩ : ∃ k : Nat, op = (k : Int) := ⟨op.toNat, by omega⟩
  have e1 : ∀ s, lenR ⟨[UInt8.ofNat k] ++ s, false⟩ = (k, ⟨s, false⟩) := fun s => len_app (by omega) s
  have hc := count_le (k : Int)
  have e4 : ∀ s, numsR (countN (k : Int)) ⟨(n.take (countN (k : Int))).flatMap numL ++ s, false⟩ = (n.take (countN (k : Int)), ⟨s, false⟩) := fun s => by
    have := nums_app (n.take (countN (k : Int))) s (fun x hx => h5 x (List.mem_of_mem_take hx))
    rw [List.length_take, h4, Nat.min_eq_left hc] at this
    exact this
  unfold askR bodyL normP
  simp only [List.append_assoc]
  simp only [Int.toNat_natCast, e1, text_app h2, num_app h3, e4, skipT_app _ h6, skipT_app _ h7, skipF_app]
theorem ask_more {s b : List UInt8} (h : (askE s).2 = true) (hb : b ≠ []) : (askE (s ++ b)).2 = false := by
  obtain ⟨hp, hc, ho, _⟩ := ask_yes h
  obtain ⟨_, _, _, h3, h4, h5⟩ := call_yes (p := (askE s).1) (by rw [hc])
  have hbo : bodyL (askE s).1 = s := by
    have := (call_yes (p := (askE s).1) (by rw [hc])).1
    rw [hc] at this
    exact this.symm
  have ha := ask_body_app ho h3 hp.2.2.1 hp.1 hp.2.2.2 h4 h5 b
  rw [hbo] at ha
  unfold askE
  rw [ha, if_neg]
  rintro ⟨_, h9, _⟩
  exact hb h9
theorem ask_less {s : List UInt8} {k : Nat} (h : (askE s).2 = true) (hk : k < s.length) : (askE (s.take k)).2 = false := by
  cases hq : (askE (s.take k)).2 with
  | false => rfl
  | true =>
    have := ask_more (b := s.drop k) hq (by intro e; have h1 := congrArg List.length e; rw [List.length_drop] at h1; simp at h1; omega)
    rw [List.take_append_drop, h] at this
    cases this
end Go.Proofs.Ythegkookfpnbeaa.Wds
