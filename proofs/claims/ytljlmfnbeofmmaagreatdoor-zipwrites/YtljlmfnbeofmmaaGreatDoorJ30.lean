/-
  Of the proof: parts MtO.
-/
import Derived.Laws.BytesArg
import Derived.Laws.StructEq
import Derived.Lib.SlBytesConst
import Derived.Test.YtljlmfnbeofmmaaGreatDoorJ14
import Derived.Test.YtljlmfnbeofmmaaGreatDoorJ24
import Derived.Test.YtljlmfnbeofmmaaGreatDoorJ15
import Derived.Test.YtljlmfnbeofmmaaGreatDoorJ1
import Derived.Test.YtljlmfnbeofmmaaGreatDoorJ3
import Derived.Test.YtljlmfnbeofmmaaGreatDoorJ8

namespace Go.Proofs.YtljlmfnbeofmmaaGreatDoor
open Go.RowKit

theorem Same.bel {w w' : World} (h : Same w w') : Below w.heap.size w w' := Kept.below h (Nat.le_refl _) (fun _ _ f => f)

theorem findM_small {data : List Nat} (h : data.length ≤ 16384) : findM data = tokM data data.length 0 := by unfold findM; rw [if_neg (by omega)]

end Go.Proofs.YtljlmfnbeofmmaaGreatDoor
