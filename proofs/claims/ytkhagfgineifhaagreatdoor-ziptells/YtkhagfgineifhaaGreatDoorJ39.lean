import Derived.Laws.BytesArg
import Derived.Laws.StructEq
import Derived.Lib.SlBytesConst
import Derived.Test.YtkhagfgineifhaaGreatDoorJ29
import Derived.Test.YtkhagfgineifhaaGreatDoorJ15
import Derived.Test.YtkhagfgineifhaaGreatDoorJ8
namespace Go.Proofs.YtkhagfgineifhaaGreatDoor
open Go.RowKit
theorem Same.bel{w w':World}(h:Same w w'):Below w.heap.size w w':=Kept.below h (Nat.le_refl _) (λ_ _ f=>f)
theorem xL{data:List Nat}(h:data.length<=16384):cT data=bK data data.length 0:=by unfold cT;rw[if_neg (by omega)]
end Go.Proofs.YtkhagfgineifhaaGreatDoor
