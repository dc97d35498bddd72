/-
  Of the proof: parts LAwake.
-/
import Derived.Lib.SlBytesConst
import Derived.Test.YtljlmfnbeofmmaaGreatDoorJ19
import Derived.Test.YtljlmfnbeofmmaaGreatDoorJ6

namespace Go.Proofs.YtljlmfnbeofmmaaGreatDoor
open Go.RowKit Go.Shelf
theorem src_lit (w : World) (cs : List Nat) (n : Nat) (hn : cs.length = n) : Src (w.alloc (.cells (cs.map byteV).toArray 5)) (fun k => k = w.heap.size) (.slice (some ⟨w.heap.size, 0, none⟩) n n) cs := by
 subst hn
 refine ⟨_, _, rfl, fun _ => ⟨_, _, rfl, rfl, fun j hj => ?_⟩⟩
 simp [byteV, hj]

end Go.Proofs.YtljlmfnbeofmmaaGreatDoor
