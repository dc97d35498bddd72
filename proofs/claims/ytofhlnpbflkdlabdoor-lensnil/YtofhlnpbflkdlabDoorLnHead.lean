/-
  The reference's head: take, step.
-/
import Derived.Test.YtofhlnpbflkdlabDoorLnUnp
import Derived.Test.YtofhlnpbflkdlabDoorBlk
import Derived.Test.YtofhlnpbflkdlabDoorHNextW
import Derived.Test.YtofhlnpbflkdlabDoorOf
namespace Go.Proofs.YtofhlnpbflkdlabDoor
open Go.RowKit



/-- A number is taken: what is told, the place, the error. -/
def hTake (ls : List Nat) (c e n : Nat) : Nat × Nat × Nat :=
  if e ≠ 0 then (0, c, e) else if ls.length < c + n then (0, c, 10) else (numAt ls c n, c + n, 0)



end Go.Proofs.YtofhlnpbflkdlabDoor
