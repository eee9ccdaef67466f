/- Frame: what the program's calls owe; the walk of FrameWraps. -/
import Derived.Test.YtffejfpbeimngaaDoorFd
set_option linter.unusedVariables false
set_option linter.unusedSimpArgs false
namespace Go.Proofs.YtffejfpbeimngaaDoor.Frm
open Go.RowKit Go.Lib Go.Proofs.YtffejfpbeimngaaDoor.Bx

def Gives (w : World) (p : Res) (e : Ending) (w' : World) : Prop := ∃ v, e = .returned (.tuple #[v, .string (mkB p.2.1), .bool p.2.2]) ∧ Strs w' v p.1 ∧ Below w.heap.size w w'
theorem Gave.gives {w : World} {p : Res} {e : Ending} {w' : World} (h : Gave w p e w') : Gives w p e w' := by
  obtain ⟨v, h1, h2, h3⟩ := h
  exact ⟨v, h1, h2.read, h3⟩
theorem wrap_ab : wrapE [97, 98] = ([0, 2, 97, 98], true) := by decide
theorem sp_ab : sp 9 [0, 2, 97, 98, 0] = ([[97, 98]], [0], true) := by decide
theorem sp_rest (most : Int) : ∀ (k : Nat) (l : List UInt8), l.length ≤ k → 3 * (sp most l).1.length + (sp most l).2.1.length ≤ l.length
  | k, l, hk => by
    by_cases h0 : l.length < 2
    · rw [sp_short h0]
      simp
    · by_cases h1 : hd l = 0 ∨ most < hd l
      · rw [sp_bad (by omega) h1]
        simp
      · by_cases h2 : l.length < hd l + 2
        · rw [sp_part (by omega) h1 h2]
          simp
        · match k, hk with
          | 0, hk => omega
          | k + 1, hk =>
            have ih := sp_rest most k (l.drop (hd l + 2)) (by rw [List.length_drop]; omega)
            rw [sp_step h1 (by omega)]
            rw [List.length_drop] at ih
            unfold consR
            simp only [List.length_cons]
            omega
theorem sp_one {l : List UInt8} (h1 : 1 ≤ l.length) (h2 : l.length ≤ 65535) : sp 65535 (wrapB l) = ([l], [], true) := by
  have := sp_wrap (most := 65535) (l := l) (r := []) h1 h2 (by omega)
  rw [List.append_nil] at this
  rw [this, sp_short (by decide)]
  rfl
end Go.Proofs.YtffejfpbeimngaaDoor.Frm
