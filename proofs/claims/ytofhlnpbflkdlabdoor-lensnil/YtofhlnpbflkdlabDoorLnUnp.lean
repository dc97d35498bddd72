/-
  The reference's With and Unpack.
-/
import Derived.Test.YtofhlnpbflkdlabDoorLnRef
import Derived.Test.YtofhlnpbflkdlabDoorRowX
namespace Go.Proofs.YtofhlnpbflkdlabDoor
open Go.RowKit





/-- An answer of Unpack: an error, or a new row. -/
def UnpA (w w' : World) (e : Ending) : Except Nat (List Nat) → Prop
  | .error c => e = .returned (.tuple #[.slice none 0 0, .int .i64 (c : Nat)]) ∧ Same w w'
  | .ok l => ∃ v', e = .returned (.tuple #[v', .int .i64 0]) ∧ New w w' v' l



end Go.Proofs.YtofhlnpbflkdlabDoor
