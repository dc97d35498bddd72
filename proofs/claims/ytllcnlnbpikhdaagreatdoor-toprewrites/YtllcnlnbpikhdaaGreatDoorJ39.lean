import Derived.Laws.BytesArg
import Derived.Laws.StructEq
import Derived.Lib.SlBytesConst
import Derived.Test.YtllcnlnbpikhdaaGreatDoorJ29
import Derived.Test.YtllcnlnbpikhdaaGreatDoorJ15
import Derived.Test.YtllcnlnbpikhdaaGreatDoorJ8
namespace Go.Proofs.YtllcnlnbpikhdaaGreatDoor
open Go.RowKit
theorem Same.bel{w w':World}(h:Same w w'):Below w.heap.size w w':=Kept.below h (Nat.le_refl _) (λ_ _ f=>f)
theorem xC{data:List Nat}(h:data.length<=16384):dG data=bJ data data.length 0:=by unfold dG;rw[if_neg (by omega)]
end Go.Proofs.YtllcnlnbpikhdaaGreatDoor
