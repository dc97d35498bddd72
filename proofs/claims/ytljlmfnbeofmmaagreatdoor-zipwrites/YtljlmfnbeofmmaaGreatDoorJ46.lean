/-
  Of the proof: parts PtArg.
-/
import Derived.Deep.RegionHeld3
import Derived.Lib.SliceRun
import Derived.WalkMore
import Derived.Laws.BytesArg
import Derived.Deep.Slices
import Derived.Test.YtljlmfnbeofmmaaGreatDoorJ8
import Derived.Test.YtljlmfnbeofmmaaGreatDoorJ39
import Derived.Test.YtljlmfnbeofmmaaGreatDoorJ27
import Derived.Test.YtljlmfnbeofmmaaGreatDoorJ38
import Derived.Test.YtljlmfnbeofmmaaGreatDoorJ3
import Derived.Test.YtljlmfnbeofmmaaGreatDoorJ12
import Derived.Test.YtljlmfnbeofmmaaGreatDoorJ26
import Derived.Test.YtljlmfnbeofmmaaGreatDoorJ9

namespace Go.Proofs.YtljlmfnbeofmmaaGreatDoor
open Go.ChangeShapes Go.WideShapes Go.ChangeAt Go.RowKit Go.Deep

structure Pt where
 a : Option Addr
 n : Nat
 c : Nat
 bs : List Nat

instance : Inhabited Pt := ⟨⟨none, 0, 0, []⟩⟩

end Go.Proofs.YtljlmfnbeofmmaaGreatDoor
