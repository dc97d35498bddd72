/-
  The reference's power, used, Measure, Check; what the law lends and gets back.
-/
import Derived.Test.YtofhlnpbflkdlabDoorHArgs
import Derived.Test.YtofhlnpbflkdlabDoorHChk
namespace Go.Proofs.YtofhlnpbflkdlabDoor
open Go.RowKit









end Go.Proofs.YtofhlnpbflkdlabDoor
