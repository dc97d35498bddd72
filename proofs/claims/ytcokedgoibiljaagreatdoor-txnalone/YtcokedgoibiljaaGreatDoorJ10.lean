/-
  Of the proof: parts RowsOf.
-/
import Derived.Deep.Slices
import Derived.Deep.Strs
import Derived.Test.YtcokedgoibiljaaGreatDoorJ3
import Derived.Test.YtcokedgoibiljaaGreatDoorJ9

/-
  Slices of structs that came in.
-/
namespace Go.Proofs.YtcokedgoibiljaaGreatDoor
open Go.ChangeShapes Go.WideShapes Go.ChangeAt Go.RowKit Go.Deep

theorem add_zero12 (x : Addr) : x.add 0 = x := by unfold Addr.add; simp

section
variable {H : Type} {enc : TypeId × Value → H} {W : World} {x : DataW H × List MemPlace}
end

end Go.Proofs.YtcokedgoibiljaaGreatDoor
