/-
  The reference's Of and Number.
-/
import Derived.Test.YtofhlnpbflkdlabDoorLend
namespace Go.Proofs.YtofhlnpbflkdlabDoor
open Go.RowKit





end Go.Proofs.YtofhlnpbflkdlabDoor
