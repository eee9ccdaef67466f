/- Contracts of letters.Right, pieces, tree, New. -/
import Derived.Test.YtjcohjolhdiegaaDoorWalkW
import Derived.Test.YtjcohjolhdiegaaDoorWalkE
import Derived.Shelf.Unicode.DecodeSlow
import Derived.Lib.Small
set_option linter.unusedVariables false
namespace Go.Proofs.YtjcohjolhdiegaaDoor.Con
open Go.RowKit Go.Lib Go.Proofs.YtjcohjolhdiegaaDoor.Let Go.Proofs.YtjcohjolhdiegaaDoor.Tree

/-- The two tables of unicode/utf8 lie as the program lays them. -/
def Tabs (w : World) : Prop := Lib.Utf8Tabs (Tryd.lays196_ren.g 3) (Tryd.lays196_ren.g 4) w
theorem Tabs.below {w w' : World} (h : Tabs w) (hb : Below w.heap.size w w') : Tabs w' := Utf8Tabs_below h hb

theorem lright_any (s : ByteArray) (w : World) (hs : s.size ≤ maxLen) (hT : Tabs w) :
    Calls Tryd.prog 10 #[.string s] w fun e w' => e = .returned (.bool (right s.data.toList)) ∧ Below w.heap.size w w' := by
  have C : Hid (Calls Tryd.prog 24 #[.string s] w fun e w' => e = .returned (.bool (Lib.validD s.data.toList)) ∧ Below w.heap.size w w') := Any.utf8_ValidString Tryd.lays196 s w (by unfold maxLen at hs; omega) hT
  clear hT
  go_enter Tryd.func10, Tryd.ntmps10
  go_wp2_with fail
  refine C.out.mono ?_
  rintro e w1 ⟨rfl, hb⟩
  go_wp2_with fail
  go_ret
  exact ⟨rfl, hb⟩

theorem runeLen_N (n b0 b1 b2 b3 : Nat) (hok : ¬ ((decodeN n b0 b1 b2 b3).1 = 65533 ∧ (decodeN n b0 b1 b2 b3).2 = 1)) (h0 : b0 < 256) : Lib.runeLen ((decodeN n b0 b1 b2 b3).1 : Nat) = ((decodeN n b0 b1 b2 b3).2 : Nat) := by
  unfold decodeN at hok ⊢
  unfold Lib.runeLen
  by_cases a0 : b0 < 128
  · rw [if_pos a0]
    simp only
    repeat' split
    all_goals omega
  rw [if_neg a0] at hok ⊢
  by_cases a1 : b0 / 32 = 6 ∧ (1 < n ∧ b1 / 64 = 2)
  · rw [if_pos a1] at hok ⊢
    by_cases g : b0 % 32 * 64 + b1 % 64 ≥ 128
    · rw [if_pos g]
      simp only
      repeat' split
      all_goals omega
    · rw [if_neg g] at hok
      exact absurd ⟨rfl, rfl⟩ hok
  rw [if_neg a1] at hok ⊢
  by_cases a2 : b0 / 16 = 14 ∧ (1 < n ∧ b1 / 64 = 2) ∧ (2 < n ∧ b2 / 64 = 2)
  · rw [if_pos a2] at hok ⊢
    by_cases g : b0 % 16 * 4096 + b1 % 64 * 64 + b2 % 64 ≥ 2048 ∧ (b0 % 16 * 4096 + b1 % 64 * 64 + b2 % 64 < 55296 ∨ (57344 ≤ b0 % 16 * 4096 + b1 % 64 * 64 + b2 % 64 ∧ b0 % 16 * 4096 + b1 % 64 * 64 + b2 % 64 ≤ 1114111))
    · rw [if_pos g]
      simp only
      repeat' split
      all_goals omega
    · rw [if_neg g] at hok
      exact absurd ⟨rfl, rfl⟩ hok
  rw [if_neg a2] at hok ⊢
  by_cases a3 : b0 / 8 = 30 ∧ (1 < n ∧ b1 / 64 = 2) ∧ (2 < n ∧ b2 / 64 = 2) ∧ (3 < n ∧ b3 / 64 = 2)
  · rw [if_pos a3] at hok ⊢
    by_cases g : b0 % 8 * 262144 + b1 % 64 * 4096 + b2 % 64 * 64 + b3 % 64 ≥ 65536 ∧ (b0 % 8 * 262144 + b1 % 64 * 4096 + b2 % 64 * 64 + b3 % 64 < 55296 ∨ (57344 ≤ b0 % 8 * 262144 + b1 % 64 * 4096 + b2 % 64 * 64 + b3 % 64 ∧ b0 % 8 * 262144 + b1 % 64 * 4096 + b2 % 64 * 64 + b3 % 64 ≤ 1114111))
    · rw [if_pos g]
      simp only
      repeat' split
      all_goals omega
    · rw [if_neg g] at hok
      exact absurd ⟨rfl, rfl⟩ hok
  · rw [if_neg a3] at hok
    exact absurd ⟨rfl, rfl⟩ hok
theorem runeLen_L {l : List UInt8} (h : ¬ bad l) : Lib.runeLen ((decodeL l).1 : Nat) = ((decodeL l).2 : Nat) := by
  unfold bad at h
  rw [decodeL_N] at h ⊢
  exact runeLen_N _ _ _ _ _ h (UInt8.toNat_lt _)
theorem width4 (l : List UInt8) : (decodeL l).2 ≤ 4 := by
  rw [decodeL_N]
  unfold decodeN
  repeat' split
  all_goals simp only []
  all_goals omega
theorem good_at {l : List UInt8} (hr : right l = true) {k : Nat} (h : byt k l < l.length) : ¬ bad (l.drop (byt k l)) := by
  have hne : l.drop (byt k l) ≠ [] := by
    intro e
    have := congrArg List.length e
    rw [List.length_drop, List.length_nil] at this
    omega
  exact ((right_step _ hne).1 (right_drop k l hr)).1
theorem right_mid {l : List UInt8} (hr : right l = true) {j k : Nat} (hjk : j ≤ k) : right ((l.take (byt k l)).drop (byt j l)) = true := by
  obtain ⟨r1, c1⟩ := right_take k l hr
  by_cases h : j ≤ cnt l
  · have e := byt_app_left (l.drop (byt k l)) _ r1 j (by omega)
    rw [List.take_append_drop] at e
    rw [e]
    exact right_drop j _ r1
  · have e : byt j l = l.length := byt_all (by omega)
    rw [e, List.drop_eq_nil_of_le (by rw [List.length_take]; omega)]
    rfl

/-- The parts so far. -/
structure Pcs (L : List UInt8) (k j : Nat) (ps : List (List UInt8)) : Prop where
  jk : j ≤ k
  kc : k ≤ cnt L
  near : byt k L ≤ byt j L + 64
  flat : ps.flatten = L.take (byt j L)
  ok : ∀ p ∈ ps, okp p

theorem okp_len {ps : List (List UInt8)} (h : ∀ p ∈ ps, okp p) : ps.length ≤ ps.flatten.length := by
  induction ps with
  | nil => exact Nat.le_refl _
  | cons p r ih =>
    have h1 := ih (fun q hq => h q (List.mem_cons_of_mem _ hq))
    have h2 := List.length_pos_iff.2 (h p (List.mem_cons_self)).1
    simp only [List.flatten_cons, List.length_append, List.length_cons]
    omega
theorem Pcs.len {L : List UInt8} {k j : Nat} {ps : List (List UInt8)} (h : Pcs L k j ps) : ps.length ≤ L.length := by
  have := okp_len h.ok
  rw [h.flat, List.length_take] at this
  omega
theorem Pcs.go {L : List UInt8} {k j : Nat} {ps : List (List UInt8)} (h : Pcs L k j ps) (hk : k < cnt L) (hn : byt (k + 1) L ≤ byt j L + 64) : Pcs L (k + 1) j ps :=
  ⟨by have := h.jk; omega, hk, hn, h.flat, h.ok⟩
theorem Pcs.put {L : List UInt8} {k j : Nat} {ps : List (List UInt8)} (hr : right L = true) (h : Pcs L k j ps) (hk : k < cnt L) (hn : ¬ byt (k + 1) L ≤ byt j L + 64) :
    Pcs L (k + 1) k (ps ++ [(L.take (byt k L)).drop (byt j L)]) := by
  have h1 := byt_succ k L (byt_lt hk)
  have h4 := width4 (L.drop (byt k L))
  have hle := byt_le k L
  refine ⟨by omega, hk, by omega, ?_, ?_⟩
  · rw [List.flatten_append, h.flat]
    simp only [List.flatten_cons, List.flatten_nil, List.append_nil]
    have hj : byt j L ≤ byt k L := byt_mono h.jk L
    rw [show L.take (byt j L) = (L.take (byt k L)).take (byt j L) by rw [List.take_take, Nat.min_eq_left hj], List.take_append_drop]
  · intro p hp
    rw [List.mem_append] at hp
    rcases hp with hp | hp
    · exact h.ok p hp
    · rw [List.mem_singleton] at hp
      subst hp
      refine ⟨?_, ?_, right_mid hr h.jk⟩
      · intro e
        have := congrArg List.length e
        rw [List.length_drop, List.length_take, List.length_nil] at this
        omega
      · rw [List.length_drop, List.length_take]
        have := h.near
        omega
/-- All parts of a text. -/
structure Pall (L : List UInt8) (ps : List (List UInt8)) : Prop where
  flat : ps.flatten = L
  ok : ∀ p ∈ ps, okp p
theorem Pcs.fin {L : List UInt8} {j : Nat} {ps : List (List UInt8)} (h : Pcs L (cnt L) j ps) (he : ¬ byt j L < L.length) : Pall L ps := by
  have := byt_le j L
  refine ⟨?_, h.ok⟩
  rw [h.flat, show byt j L = L.length by omega, List.take_length]
theorem Pcs.last {L : List UInt8} {j : Nat} {ps : List (List UInt8)} (hr : right L = true) (h : Pcs L (cnt L) j ps) (he : byt j L < L.length) : Pall L (ps ++ [L.drop (byt j L)]) := by
  have hn := h.near
  rw [byt_cnt] at hn
  refine ⟨?_, ?_⟩
  · rw [List.flatten_append, h.flat]
    simp only [List.flatten_cons, List.flatten_nil, List.append_nil]
    rw [List.take_append_drop]
  · intro p hp
    rw [List.mem_append] at hp
    rcases hp with hp | hp
    · exact h.ok p hp
    · rw [List.mem_singleton] at hp
      subst hp
      refine ⟨?_, ?_, right_drop _ _ hr⟩
      · intro e
        have := congrArg List.length e
        rw [List.length_drop, List.length_nil] at this
        omega
      · rw [List.length_drop]
        omega
end Go.Proofs.YtjcohjolhdiegaaDoor.Con
