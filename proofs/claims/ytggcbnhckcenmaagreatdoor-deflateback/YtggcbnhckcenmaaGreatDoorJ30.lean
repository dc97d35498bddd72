/-
  Of the proof: parts MtO.
-/
import Derived.Test.YtggcbnhckcenmaaGreatDoorJ20
import Derived.Test.YtggcbnhckcenmaaGreatDoorJ1
import Derived.Test.YtggcbnhckcenmaaGreatDoorJ3
import Derived.Test.YtggcbnhckcenmaaGreatDoorJ5

namespace Go.Proofs.YtggcbnhckcenmaaGreatDoor
open Go.RowKit

theorem Same.bel{w w':World}(h:Same w w'):Below w.heap.size w w':=Kept.below h (Nat.le_refl _) (fun _ _ f=>f)

theorem findM_small{data:List Nat}(h:data.length≤16384):findM data=tokM data data.length 0:=by unfold findM;rw[if_neg (by omega)]

end Go.Proofs.YtggcbnhckcenmaaGreatDoor
