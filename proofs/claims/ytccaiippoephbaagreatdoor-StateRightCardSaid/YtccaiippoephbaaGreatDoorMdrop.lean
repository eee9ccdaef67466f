/- Contract: Drop of the plain text. -/
import Derived.Test.YtccaiippoephbaaGreatDoorWr
import Derived.Test.YtccaiippoephbaaGreatDoorMof
import Derived.Deep.RegionLaw
set_option maxRecDepth 100000
set_option linter.unusedVariables false
namespace Go.Proofs.YtccaiippoephbaaGreatDoor.Rig
open Go.RowKit Go.Lib Go.Proofs.YtccaiippoephbaaGreatDoor.Rt

theorem grown_setCell {w : World} (B i : Nat) (u : Value) : w.grownBy (w.setCell ⟨B, i, none⟩ u) (some B) := ⟨rfl, rfl, rfl, by simp, fun q hq hne => Below.heap_setCell _ _ _ _ (fun e => hne (by rw [e]))⟩

end Go.Proofs.YtccaiippoephbaaGreatDoor.Rig
