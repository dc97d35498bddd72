import Derived.Test.YtljlmfnbeofmmaaGreatDoorJ7
import Derived.Test.YtljlmfnbeofmmaaGreatDoorJ8
namespace Go.Proofs.YtljlmfnbeofmmaaGreatDoor
open Go.RowKit
theorem Same.bel{w w':World}(h:Same w w'):Below w.heap.size w w':=Kept.below h (Nat.le_refl _) (λ_ _ e=>e)
end Go.Proofs.YtljlmfnbeofmmaaGreatDoor
