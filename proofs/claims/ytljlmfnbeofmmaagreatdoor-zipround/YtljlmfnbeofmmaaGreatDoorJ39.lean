import Derived.Laws.BytesArg
import Derived.Laws.StructEq
import Derived.Lib.SlBytesConst
import Derived.Test.YtljlmfnbeofmmaaGreatDoorJ29
import Derived.Test.YtljlmfnbeofmmaaGreatDoorJ15
import Derived.Test.YtljlmfnbeofmmaaGreatDoorJ8
namespace Go.Proofs.YtljlmfnbeofmmaaGreatDoor
open Go.RowKit
theorem Same.bel{w w':World}(h:Same w w'):Below w.heap.size w w':=Kept.below h (Nat.le_refl _) (λ_ _ f=>f)
theorem vX{data:List Nat}(h:data.length<=16384):cY data=bL data data.length 0:=by unfold cY;rw[if_neg (by omega)]
end Go.Proofs.YtljlmfnbeofmmaaGreatDoor
