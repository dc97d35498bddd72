/-
  Of the proof: parts HArgs.
-/
import Derived.Test.YtggcbnhckcenmabGreatDoorJ4
import Derived.Test.YtggcbnhckcenmabGreatDoorJ5

namespace Go.Proofs.YtggcbnhckcenmabGreatDoor
open Go.RowKit

theorem Same.bel {w w' : World} (h : Same w w') : Below w.heap.size w w' := Kept.below h (Nat.le_refl _) (fun _ _ e => e)

end Go.Proofs.YtggcbnhckcenmabGreatDoor
