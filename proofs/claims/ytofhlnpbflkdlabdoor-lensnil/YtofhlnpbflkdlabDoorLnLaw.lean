/-
  What layer 4's laws lend and get back; a reader, some of whose bits are gone.
-/
import Derived.Test.YtofhlnpbflkdlabDoorHKeep
import Derived.Test.YtofhlnpbflkdlabDoorReader
namespace Go.Proofs.YtofhlnpbflkdlabDoor
open Go.RowKit





end Go.Proofs.YtofhlnpbflkdlabDoor
