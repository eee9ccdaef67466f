/- Memory: rows of unlike types lie apart; a record of two rows, in a block of its own, as it grows. -/
import Derived.Test.YtccaiippoephbaaGreatDoorMdrop
import Derived.Maps.AppendAt
set_option maxRecDepth 100000
set_option linter.unusedVariables false
namespace Go.Proofs.YtccaiippoephbaaGreatDoor.Rig
open Go.RowKit Go.Lib Go.Proofs.YtccaiippoephbaaGreatDoor.Rt

theorem own_ne_block {T T' : TypeId} {b n k B : Nat} {w : World} {v : Value} {zs : List Int} {cs : Array Value} (h1 : OwnF T b w v n k zs) (hB : w.heap[B]? = some (.cells cs T' (0, 0))) (hT : T ≠ T') : v.ownBlock ≠ some B := fun e => by
  rcases h1.1.2 with ⟨rfl, _⟩ | ⟨g, cap, cur, rfl, _, hg, _⟩
  · cases e
  · have e' : g = B := by simpa [Value.ownBlock] using e
    subst e'
    rw [hg] at hB
    injection hB with hB
    injection hB with _ q
    exact hT q
end Go.Proofs.YtccaiippoephbaaGreatDoor.Rig
