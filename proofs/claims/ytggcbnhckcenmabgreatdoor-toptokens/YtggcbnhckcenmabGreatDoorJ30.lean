/-
  Of the proof: parts MtO.
-/
import Derived.Test.YtggcbnhckcenmabGreatDoorJ20
import Derived.Test.YtggcbnhckcenmabGreatDoorJ1
import Derived.Test.YtggcbnhckcenmabGreatDoorJ3
import Derived.Test.YtggcbnhckcenmabGreatDoorJ5

namespace Go.Proofs.YtggcbnhckcenmabGreatDoor
open Go.RowKit

theorem Same.bel {w w' : World} (h : Same w w') : Below w.heap.size w w' := Kept.below h (Nat.le_refl _) (fun _ _ f => f)

theorem findM_small {data : List Nat} (h : data.length ≤ 16384) : findM data = tokM data data.length 0 := by unfold findM; rw [if_neg (by omega)]

end Go.Proofs.YtggcbnhckcenmabGreatDoor
