/- Words: what is read is written as just these bytes. No program is spoken of here. -/
import Derived.Test.YtffejfpbeimngaaDoorGa
set_option linter.unusedVariables false
set_option linter.unusedSimpArgs false
namespace Go.Proofs.YtffejfpbeimngaaDoor.Wds
open Go.Lib Go.Proofs.YtffejfpbeimngaaDoor.Frm

theorem u64_back {m : Nat} (h : m < 18446744073709551616) : u64 (back m) = m := by
  unfold u64 back
  rw [Nat.mod_eq_of_lt h]
  split <;> omega
theorem byte_of {u : Nat} {j : Nat} {x : UInt8} {n : Int} (hu : u64 n = u) (h : u / 2 ^ (8 * (7 - j)) % 256 = x.toNat) : byteN n j = x := by
  apply UInt8.toNat_inj.1
  rw [byte_nat, hu, h]
theorem num_val {t : List UInt8} (h : t.length = 8) : numL (back (valN t)) = t := by
  match t, h with
  | [a, b, c, d, e, f, g, i], _ =>
    have ha := a.toNat_lt
    have hb := b.toNat_lt
    have hc := c.toNat_lt
    have hd := d.toNat_lt
    have he := e.toNat_lt
    have hf := f.toNat_lt
    have hg := g.toNat_lt
    have hi := i.toNat_lt
    have ev : valN [a, b, c, d, e, f, g, i] = ((((((a.toNat * 256 + b.toNat) * 256 + c.toNat) * 256 + d.toNat) * 256 + e.toNat) * 256 + f.toNat) * 256 + g.toNat) * 256 + i.toNat := by
      unfold valN
      simp only [List.foldl_cons, List.foldl_nil]
      omega
    have hu := u64_back (m := valN [a, b, c, d, e, f, g, i]) (by rw [ev]; omega)
    rw [ev] at hu ⊢
    show [byteN _ 0, byteN _ 1, byteN _ 2, byteN _ 3, byteN _ 4, byteN _ 5, byteN _ 6, byteN _ 7] = _
    rw [byte_of (j := 0) (x := a) hu (by omega), byte_of (j := 1) (x := b) hu (by omega), byte_of (j := 2) (x := c) hu (by omega), byte_of (j := 3) (x := d) hu (by omega), byte_of (j := 4) (x := e) hu (by omega), byte_of (j := 5) (x := f) hu (by omega), byte_of (j := 6) (x := g) hu (by omega), byte_of (j := 7) (x := i) hu (by omega)]
theorem num_took (r : Rd) : Took r (numL (numR r).1) (numR r).2 := by
  have h := take_took r 8
  have e : numL (numR r).1 = (takeR r 8).1 := num_val (take_len _ _)
  rw [e]
  exact h
theorem one_byte {t : List UInt8} (h : t.length = 1) : t = [t.getD 0 0] := by
  match t, h with
  | [x], _ => rfl
theorem len_took (r : Rd) : Took r [UInt8.ofNat (lenR r).1] (lenR r).2 := by
  have h := take_took r 1
  have e : [UInt8.ofNat (lenR r).1] = (takeR r 1).1 := by
    rw [one_byte (take_len r 1)]
    show [UInt8.ofNat (((takeR r 1).1.getD 0 0).toNat)] = _
    rw [UInt8.ofNat_toNat]
  rw [e]
  exact h
theorem flag_took (r : Rd) : Took r (flagL (flagR r).1) (flagR r).2 := by
  have h := take_took r 1
  have e1 := one_byte (take_len r 1)
  unfold Took at h ⊢
  unfold flagR
  obtain ⟨x, hx⟩ : ∃ x, x = (takeR r 1).1.getD 0 0 := ⟨_, rfl⟩
  rw [← hx] at e1 ⊢
  intro hb
  by_cases h1 : 1 < x.toNat
  · simp only [if_pos h1] at hb
    cases hb
  · simp only [if_neg h1] at hb ⊢
    obtain ⟨g1, g2⟩ := h hb
    refine ⟨g1, ?_⟩
    rw [g2, e1]
    congr 1
    by_cases h0 : x.toNat = 1
    · have : x = 1 := UInt8.toNat_inj.1 h0
      rw [this]
      rfl
    · have : x = 0 := UInt8.toNat_inj.1 (by show x.toNat = 0; omega)
      rw [this]
      rfl
theorem two_bytes {t : List UInt8} (h : t.length = 2) : t = [UInt8.ofNat (hd t / 256), UInt8.ofNat (hd t % 256)] := by
  match t, h with
  | [x, y], _ =>
    have hx := x.toNat_lt
    have hy := y.toNat_lt
    have e : hd [x, y] = x.toNat * 256 + y.toNat := rfl
    rw [e, show (x.toNat * 256 + y.toNat) / 256 = x.toNat by omega, show (x.toNat * 256 + y.toNat) % 256 = y.toNat by omega, UInt8.ofNat_toNat, UInt8.ofNat_toNat]
theorem text_took (r : Rd) : Took r (textL (textR r).1) (textR r).2 := by
  have h := take_took r 2
  have e1 := two_bytes (take_len r 2)
  unfold Took at h ⊢
  unfold textR
  obtain ⟨t, ht⟩ : ∃ t, t = (takeR r 2).1 := ⟨_, rfl⟩
  obtain ⟨r1, hr1⟩ : ∃ r1, r1 = (takeR r 2).2 := ⟨_, rfl⟩
  rw [← ht, ← hr1] at h
  rw [← ht] at e1
  rw [← ht, ← hr1]
  intro hb
  by_cases hc : r1.bad = true ∨ r1.s.length < hd t
  · rw [if_pos hc] at hb
    cases hb
  · rw [if_neg hc] at hb ⊢
    obtain ⟨g1, g2⟩ := take_took r1 (hd t) hb
    obtain ⟨g3, g4⟩ := h g1
    refine ⟨g3, ?_⟩
    rw [g4, g2]
    have hl := take_len r1 (hd t)
    unfold textL
    rw [hl]
    generalize (takeR r1 (hd t)).1 = x at *
    generalize (takeR r1 (hd t)).2 = r2 at *
    rw [show UInt8.ofNat (hd t / 256) :: UInt8.ofNat (hd t % 256) :: x = [UInt8.ofNat (hd t / 256), UInt8.ofNat (hd t % 256)] ++ x from rfl, ← e1, List.append_assoc]
end Go.Proofs.YtffejfpbeimngaaDoor.Wds
