import Derived.Test.YtljlmfnbeofmmaaGreatDoorLGets
import Derived.Test.YtljlmfnbeofmmaaGreatDoorLSum
import Derived.Lib.SlBytesConst
namespace Go.Proofs.YtljlmfnbeofmmaaGreatDoor
open Go.RowKit Go.Shelf
theorem src_lit (w : World) (cs : List Nat) (n : Nat) (hn : cs.length = n) : Src (w.alloc (.cells (cs.map byteV).toArray 5)) (fun k => k = w.heap.size) (.slice (some ⟨w.heap.size, 0, none⟩) n n) cs := by
 subst hn
 refine ⟨_, _, rfl, fun _ => ⟨_, _, rfl, rfl, fun j hj => ?_⟩⟩
 simp [byteV, hj]

end Go.Proofs.YtljlmfnbeofmmaaGreatDoor
