/- Contract: Of, of the plain text: a mark's spans, and the places of its sites. -/
import Derived.Test.YtccaiippoephbaaGreatDoorWq
import Derived.Laws.StructEq
set_option maxRecDepth 100000
set_option linter.unusedVariables false
namespace Go.Proofs.YtccaiippoephbaaGreatDoor.Rig
open Go.RowKit Go.Lib Go.Proofs.YtccaiippoephbaaGreatDoor.Rt

theorem OwnF.ints {base : Nat} {w : World} {v : Value} {zs : List Int} (h : OwnF 3 base w v zs.length 1 zs) : Ints w v zs := OwnI.ints (base := base) h

end Go.Proofs.YtccaiippoephbaaGreatDoor.Rig
