/-
  The reader's calls; the writer's Bytes; two rows of bytes held against one another.
-/
import Derived.Test.YtgbfhpilhnbnjaaDoorCut
import Derived.Test.YtgbfhpilhnbnjaaDoorWriter
namespace Go.Proofs.YtgbfhpilhnbnjaaDoor
open Go.RowKit

theorem ret_int {k : IntKind} {a b : Int} (h : a = b) : Ending.returned (.int k a) = .returned (.int k b) := by rw [h]



































end Go.Proofs.YtgbfhpilhnbnjaaDoor
