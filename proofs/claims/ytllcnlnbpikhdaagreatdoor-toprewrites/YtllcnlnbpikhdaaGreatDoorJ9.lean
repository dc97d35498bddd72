import Derived.Test.YtllcnlnbpikhdaaGreatDoorJ7
import Derived.Test.YtllcnlnbpikhdaaGreatDoorJ8
namespace Go.Proofs.YtllcnlnbpikhdaaGreatDoor
open Go.RowKit
theorem Same.bel{w w':World}(h:Same w w'):Below w.heap.size w w':=Kept.below h (Nat.le_refl _) (λ_ _ e=>e)
end Go.Proofs.YtllcnlnbpikhdaaGreatDoor
