/- Words: what the program's calls owe; a call's bytes, there and back. -/
import Derived.Test.YthegkookfpnbeaaGpa
import Derived.Test.YthegkookfpnbeaaGpb
import Derived.Test.YthegkookfpnbeaaGpc
import Derived.Test.YthegkookfpnbeaaGpd
set_option linter.unusedVariables false
set_option linter.unusedSimpArgs false
set_option maxRecDepth 100000
namespace Go.Proofs.Ythegkookfpnbeaa.Wds
open Go.RowKit Go.Lib Go.Proofs.Ythegkookfpnbeaa.Bx Go.Proofs.Ythegkookfpnbeaa.Frm

def in64 (x : Int) : Prop := -9223372036854775808 ≤ x ∧ x ≤ 9223372036854775807
/-- A call whose numbers are numbers. -/
def okP (p : Pl) : Prop := p.n.length = 6 ∧ in64 p.op ∧ in64 p.seq ∧ ∀ x ∈ p.n, in64 x
def callV (r : Pl × Bool) : Value := if r.2 = true then .agg #[.string (mkB r.1.tok), .int .i64 r.1.seq, askV r.1] else .agg #[.string (ByteArray.mk #[]), .int .i64 0, .nilIface]
def OpOk : Prop := ∀ (p : Pl) (v : Value) (w : World), AskIs p v → Calls Try.prog 11 #[v] w fun e w' => e = .returned (.int .i64 (opE p)) ∧ Below w.heap.size w w'
def CallOk : Prop := ∀ (p : Pl) (v : Value) (w : World), okP p → p.tok.length ≤ 9223372036854775807 ∧ p.text.length ≤ 9223372036854775807 ∧ p.more.length ≤ 9223372036854775807 → AskIs p v → Calls Try.prog 8 #[.agg #[.string (mkB p.tok), .int .i64 p.seq, v]] w fun e w' => e = .returned (.tuple #[.string (mkB (callE p).1), .bool (callE p).2]) ∧ Below w.heap.size w w'
def AskOk : Prop := ∀ (s : List UInt8) (w : World), s.length ≤ 200000 → Calls Try.prog 13 #[.string (mkB s)] w fun e w' => e = .returned (.tuple #[callV (askE s), .bool (askE s).2]) ∧ Below w.heap.size w w'
theorem norm_body {p : Pl} (h6 : p.n.length = 6) : bodyL (normP p) = bodyL p := by
  have hc := count_le p.op
  unfold bodyL normP
  simp only
  rw [List.take_append_of_le_length (by rw [List.length_take]; omega), List.take_take, Nat.min_self]
  unfold txt flg
  by_cases h1 : p.op = 1
  · simp [h1]
  · by_cases h4 : p.op = 4
    · simp [h4]
    · by_cases h14 : p.op = 14
      · simp [h14]
      · simp [h1, h4, h14]
theorem norm_len {p : Pl} (h6 : p.n.length = 6) : (normP p).n.length = 6 := by
  have hc := count_le p.op
  unfold normP
  simp only [List.length_append, List.length_take, List.length_replicate]
  omega
theorem norm_op (p : Pl) : opE (normP p) = opE p := rfl
theorem call_yes {p : Pl} (h : (callE p).2 = true) : (callE p).1 = bodyL p ∧ 1 ≤ p.op ∧ p.op ≤ 15 ∧ p.tok.length ≤ 65535 ∧ (p.op = 1 ∨ p.op = 4 → p.text.length ≤ 65535) ∧ (p.op = 1 → p.more.length ≤ 65535) := by
  unfold callE at h ⊢
  by_cases h1 : opE p = 0 ∨ 65535 < p.tok.length
  · rw [if_pos h1] at h; cases h
  · rw [if_neg h1] at h ⊢
    by_cases h2 : (p.op = 1 ∨ p.op = 4) ∧ 65535 < p.text.length
    · rw [if_pos h2] at h; cases h
    · rw [if_neg h2] at h ⊢
      by_cases h3 : p.op = 1 ∧ 65535 < p.more.length
      · rw [if_pos h3] at h; cases h
      · rw [if_neg h3]
        have ho : ¬ (p.op < 1 ∨ 15 < p.op) := fun h => h1 (.inl (by unfold opE; rw [if_pos h]))
        refine ⟨rfl, by omega, by omega, by omega, fun h => ?_, fun h => ?_⟩
        · exact Nat.le_of_not_lt fun h9 => h2 ⟨h, h9⟩
        · exact Nat.le_of_not_lt fun h9 => h3 ⟨h, h9⟩
theorem call_of {p : Pl} (h1 : 1 ≤ p.op ∧ p.op ≤ 15) (h2 : p.tok.length ≤ 65535) (h3 : p.op = 1 ∨ p.op = 4 → p.text.length ≤ 65535) (h4 : p.op = 1 → p.more.length ≤ 65535) : callE p = (bodyL p, true) := by
  unfold callE
  rw [if_neg, if_neg, if_neg]
  · rintro ⟨a, b⟩; have := h4 a; omega
  · rintro ⟨a, b⟩; have := h3 a; omega
  · rintro (h | h)
    · unfold opE at h; rw [if_neg (by omega)] at h; omega
    · omega
theorem op_ne {p : Pl} (h : 1 ≤ p.op ∧ p.op ≤ 15) : ¬ opE p = 0 := by unfold opE; rw [if_neg (by omega)]; omega
theorem call_norm {p : Pl} (h6 : p.n.length = 6) (h : (callE p).2 = true) : callE (normP p) = (bodyL p, true) := by
  obtain ⟨_, h1, h2, h3, h4, h5⟩ := call_yes h
  have hn : (normP p).op = p.op := rfl
  rw [call_of (p := normP p) (by rw [hn]; exact ⟨h1, h2⟩) h3 ?_ ?_, norm_body h6]
  · intro ho
    rw [hn] at ho
    show (if p.op = 1 ∨ p.op = 4 then p.text else []).length ≤ _
    rw [if_pos ho]
    exact h4 ho
  · intro ho
    rw [hn] at ho
    show (if p.op = 1 then p.more else []).length ≤ _
    rw [if_pos ho]
    exact h5 ho
/-- What is written is read. -/
theorem ask_call {p : Pl} (hp : okP p) (h : (callE p).2 = true) : askE (callE p).1 = (normP p, true) := by
  obtain ⟨e, h1, h2, h3, h4, h5⟩ := call_yes h
  rw [e]
  have ha := ask_body ⟨h1, h2⟩ h3 hp.2.2.1 hp.1 hp.2.2.2 h4 h5
  unfold askE
  rw [ha]
  exact if_pos ⟨rfl, rfl, by rw [norm_op]; exact op_ne ⟨h1, h2⟩⟩
theorem alike_norm {p : Pl} (hp : okP p) (h : (callE p).2 = true) : alikeB p (normP p) = true := by
  unfold alikeB
  rw [h, call_norm hp.1 h, (call_yes h).1]
  simp
theorem back_any (p : Pl) (w : World) (h6 : p.n.length = 6) (h : 1 ≤ p.op ∧ p.op ≤ 15) : Calls Try.prog 15 #[.agg #[.string (mkB p.tok), .int .i64 p.seq, askV p]] w fun e w' => e = .returned (plV (normP p)) ∧ Below w.heap.size w w' := by
  have hk : ∃ k : Nat, p.op = (k : Int) ∧ 1 ≤ k ∧ k ≤ 15 := ⟨p.op.toNat, by omega, by omega, by omega⟩
  obtain ⟨k, hk, k1, k15⟩ := hk
  match k, k1, k15 with
  | 1, _, _ =>
    have e : askV p = .iface 64 (.agg #[.string (mkB p.text), .string (mkB p.more)]) := by unfold askV; rw [hk]; rfl
    have e2 : normP p = (⟨1, p.tok, p.seq, [0, 0, 0, 0, 0, 0], p.text, p.more, false, false⟩ : Pl) := by
      clear e
      obtain ⟨op, tok, seq, n, text, more, a, b⟩ := p
      obtain ⟨x0, x1, x2, x3, x4, x5, rfl⟩ := six (show n.length = 6 from h6)
      obtain rfl : op = 1 := hk
      rfl
    rw [e, e2]
    exact back1 p w
  | 2, _, _ =>
    have e : askV p = .iface 28 (.agg #[]) := by unfold askV; rw [hk]; rfl
    have e2 : normP p = (⟨2, p.tok, p.seq, [0, 0, 0, 0, 0, 0], [], [], false, false⟩ : Pl) := by
      clear e
      obtain ⟨op, tok, seq, n, text, more, a, b⟩ := p
      obtain ⟨x0, x1, x2, x3, x4, x5, rfl⟩ := six (show n.length = 6 from h6)
      obtain rfl : op = 2 := hk
      rfl
    rw [e, e2]
    exact back2 p w
  | 3, _, _ =>
    have e : askV p = .iface 66 (.agg #[.int .i64 (nn p 0)]) := by unfold askV; rw [hk]; rfl
    have e2 : normP p = (⟨3, p.tok, p.seq, [nn p 0, 0, 0, 0, 0, 0], [], [], false, false⟩ : Pl) := by
      clear e
      obtain ⟨op, tok, seq, n, text, more, a, b⟩ := p
      obtain ⟨x0, x1, x2, x3, x4, x5, rfl⟩ := six (show n.length = 6 from h6)
      obtain rfl : op = 3 := hk
      rfl
    rw [e, e2]
    exact back3 p w
  | 4, _, _ =>
    have e : askV p = .iface 68 (.agg #[.int .i64 (nn p 0), .int .i64 (nn p 1), .int .i64 (nn p 2), .string (mkB p.text)]) := by unfold askV; rw [hk]; rfl
    have e2 : normP p = (⟨4, p.tok, p.seq, [nn p 0, nn p 1, nn p 2, 0, 0, 0], p.text, [], false, false⟩ : Pl) := by
      clear e
      obtain ⟨op, tok, seq, n, text, more, a, b⟩ := p
      obtain ⟨x0, x1, x2, x3, x4, x5, rfl⟩ := six (show n.length = 6 from h6)
      obtain rfl : op = 4 := hk
      rfl
    rw [e, e2]
    exact back4 p w
  | 5, _, _ =>
    have e : askV p = .iface 70 (.agg #[.int .i64 (nn p 0), .int .i64 (nn p 1), .int .i64 (nn p 2), .int .i64 (nn p 3)]) := by unfold askV; rw [hk]; rfl
    have e2 : normP p = (⟨5, p.tok, p.seq, [nn p 0, nn p 1, nn p 2, nn p 3, 0, 0], [], [], false, false⟩ : Pl) := by
      clear e
      obtain ⟨op, tok, seq, n, text, more, a, b⟩ := p
      obtain ⟨x0, x1, x2, x3, x4, x5, rfl⟩ := six (show n.length = 6 from h6)
      obtain rfl : op = 5 := hk
      rfl
    rw [e, e2]
    exact back5 p w
  | 6, _, _ =>
    have e : askV p = .iface 72 (.agg #[.int .i64 (nn p 0), .int .i64 (nn p 1), .int .i64 (nn p 2), .int .i64 (nn p 3), .int .i64 (nn p 4)]) := by unfold askV; rw [hk]; rfl
    have e2 : normP p = (⟨6, p.tok, p.seq, [nn p 0, nn p 1, nn p 2, nn p 3, nn p 4, 0], [], [], false, false⟩ : Pl) := by
      clear e
      obtain ⟨op, tok, seq, n, text, more, a, b⟩ := p
      obtain ⟨x0, x1, x2, x3, x4, x5, rfl⟩ := six (show n.length = 6 from h6)
      obtain rfl : op = 6 := hk
      rfl
    rw [e, e2]
    exact back6 p w
  | 7, _, _ =>
    have e : askV p = .iface 74 (.agg #[.int .i64 (nn p 0), .int .i64 (nn p 1), .int .i64 (nn p 2), .int .i64 (nn p 3), .int .i64 (nn p 4), .int .i64 (nn p 5)]) := by unfold askV; rw [hk]; rfl
    have e2 : normP p = (⟨7, p.tok, p.seq, [nn p 0, nn p 1, nn p 2, nn p 3, nn p 4, nn p 5], [], [], false, false⟩ : Pl) := by
      clear e
      obtain ⟨op, tok, seq, n, text, more, a, b⟩ := p
      obtain ⟨x0, x1, x2, x3, x4, x5, rfl⟩ := six (show n.length = 6 from h6)
      obtain rfl : op = 7 := hk
      rfl
    rw [e, e2]
    exact back7 p w
  | 8, _, _ =>
    have e : askV p = .iface 76 (.agg #[.int .i64 (nn p 0)]) := by unfold askV; rw [hk]; rfl
    have e2 : normP p = (⟨8, p.tok, p.seq, [nn p 0, 0, 0, 0, 0, 0], [], [], false, false⟩ : Pl) := by
      clear e
      obtain ⟨op, tok, seq, n, text, more, a, b⟩ := p
      obtain ⟨x0, x1, x2, x3, x4, x5, rfl⟩ := six (show n.length = 6 from h6)
      obtain rfl : op = 8 := hk
      rfl
    rw [e, e2]
    exact back8 p w
  | 9, _, _ =>
    have e : askV p = .iface 77 (.agg #[.int .i64 (nn p 0)]) := by unfold askV; rw [hk]; rfl
    have e2 : normP p = (⟨9, p.tok, p.seq, [nn p 0, 0, 0, 0, 0, 0], [], [], false, false⟩ : Pl) := by
      clear e
      obtain ⟨op, tok, seq, n, text, more, a, b⟩ := p
      obtain ⟨x0, x1, x2, x3, x4, x5, rfl⟩ := six (show n.length = 6 from h6)
      obtain rfl : op = 9 := hk
      rfl
    rw [e, e2]
    exact back9 p w
  | 10, _, _ =>
    have e : askV p = .iface 78 (.agg #[.int .i64 (nn p 0)]) := by unfold askV; rw [hk]; rfl
    have e2 : normP p = (⟨10, p.tok, p.seq, [nn p 0, 0, 0, 0, 0, 0], [], [], false, false⟩ : Pl) := by
      clear e
      obtain ⟨op, tok, seq, n, text, more, a, b⟩ := p
      obtain ⟨x0, x1, x2, x3, x4, x5, rfl⟩ := six (show n.length = 6 from h6)
      obtain rfl : op = 10 := hk
      rfl
    rw [e, e2]
    exact back10 p w
  | 11, _, _ =>
    have e : askV p = .iface 80 (.agg #[.int .i64 (nn p 0), .int .i64 (nn p 1), .int .i64 (nn p 2)]) := by unfold askV; rw [hk]; rfl
    have e2 : normP p = (⟨11, p.tok, p.seq, [nn p 0, nn p 1, nn p 2, 0, 0, 0], [], [], false, false⟩ : Pl) := by
      clear e
      obtain ⟨op, tok, seq, n, text, more, a, b⟩ := p
      obtain ⟨x0, x1, x2, x3, x4, x5, rfl⟩ := six (show n.length = 6 from h6)
      obtain rfl : op = 11 := hk
      rfl
    rw [e, e2]
    exact back11 p w
  | 12, _, _ =>
    have e : askV p = .iface 82 (.agg #[.int .i64 (nn p 0), .int .i64 (nn p 1)]) := by unfold askV; rw [hk]; rfl
    have e2 : normP p = (⟨12, p.tok, p.seq, [nn p 0, nn p 1, 0, 0, 0, 0], [], [], false, false⟩ : Pl) := by
      clear e
      obtain ⟨op, tok, seq, n, text, more, a, b⟩ := p
      obtain ⟨x0, x1, x2, x3, x4, x5, rfl⟩ := six (show n.length = 6 from h6)
      obtain rfl : op = 12 := hk
      rfl
    rw [e, e2]
    exact back12 p w
  | 13, _, _ =>
    have e : askV p = .iface 84 (.agg #[.int .i64 (nn p 0), .int .i64 (nn p 1), .int .i64 (nn p 2)]) := by unfold askV; rw [hk]; rfl
    have e2 : normP p = (⟨13, p.tok, p.seq, [nn p 0, nn p 1, nn p 2, 0, 0, 0], [], [], false, false⟩ : Pl) := by
      clear e
      obtain ⟨op, tok, seq, n, text, more, a, b⟩ := p
      obtain ⟨x0, x1, x2, x3, x4, x5, rfl⟩ := six (show n.length = 6 from h6)
      obtain rfl : op = 13 := hk
      rfl
    rw [e, e2]
    exact back13 p w
  | 14, _, _ =>
    have e : askV p = .iface 86 (.agg #[.int .i64 (nn p 0), .int .i64 (nn p 1), .bool p.a, .bool p.b]) := by unfold askV; rw [hk]; rfl
    have e2 : normP p = (⟨14, p.tok, p.seq, [nn p 0, nn p 1, 0, 0, 0, 0], [], [], p.a, p.b⟩ : Pl) := by
      clear e
      obtain ⟨op, tok, seq, n, text, more, a, b⟩ := p
      obtain ⟨x0, x1, x2, x3, x4, x5, rfl⟩ := six (show n.length = 6 from h6)
      obtain rfl : op = 14 := hk
      rfl
    rw [e, e2]
    exact back14 p w
  | 15, _, _ =>
    have e : askV p = .iface 88 (.agg #[.int .i64 (nn p 0), .int .i64 (nn p 1)]) := by unfold askV; rw [hk]; rfl
    have e2 : normP p = (⟨15, p.tok, p.seq, [nn p 0, nn p 1, 0, 0, 0, 0], [], [], false, false⟩ : Pl) := by
      clear e
      obtain ⟨op, tok, seq, n, text, more, a, b⟩ := p
      obtain ⟨x0, x1, x2, x3, x4, x5, rfl⟩ := six (show n.length = 6 from h6)
      obtain rfl : op = 15 := hk
      rfl
    rw [e, e2]
    exact back15 p w
end Go.Proofs.Ythegkookfpnbeaa.Wds
