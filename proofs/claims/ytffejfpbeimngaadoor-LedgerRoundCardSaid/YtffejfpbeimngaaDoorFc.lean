/- Frame: Wrap of the plain text. -/
import Derived.Test.YtffejfpbeimngaaDoorFb
set_option linter.unusedVariables false
set_option linter.unusedSimpArgs false
set_option maxRecDepth 100000
namespace Go.Proofs.YtffejfpbeimngaaDoor.Frm
open Go.RowKit Go.Lib Go.Proofs.YtffejfpbeimngaaDoor.Bx

def wrapE (l : List UInt8) : List UInt8 × Bool := if l.length = 0 ∨ 65535 < l.length then ([], false) else (wrapB l, true)
theorem wrapE_no {l : List UInt8} (h : l.length = 0 ∨ 65535 < l.length) : wrapE l = ([], false) := if_pos h
theorem wrapE_yes {l : List UInt8} (h : ¬ (l.length = 0 ∨ 65535 < l.length)) : wrapE l = (wrapB l, true) := if_neg h
theorem wrap_split (l : List UInt8) : mkB (wrapB l) = mkB [UInt8.ofNat (l.length / 256), UInt8.ofNat (l.length % 256)] ++ mkB l := by
  rw [mkB_app]
  rfl
end Go.Proofs.YtffejfpbeimngaaDoor.Frm
