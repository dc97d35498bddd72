/-
  Of the proof: parts ChShS.
-/
import Derived.Shelf.SlGeneric
import Derived.Shelf.SlSorted.Search
import Derived.Ground.SlsoProg
import Derived.Test.YtcokedgoibiljaaGreatDoorProg

/-
  sort.Search for chain: the numbers of this seat (written by tools/shelf12.py).
-/
namespace Go.Proofs.YtcokedgoibiljaaGreatDoor
open Go.Shelf
def Tryz.search12_ren : Go.Shelf.Ren := ⟨fun | 16 => 151 | n => n, fun | 3 => 3 | 35 => 196 | 4 => 4 | 38 => 224 | n => n, fun | n => n⟩
theorem Tryz.search12 : Go.Proofs.SlLaysO.n16 Tryz.prog Tryz.search12_ren := {
  mixed := by kernel_rfl
  f16 := Tryz.func151.trans (congrArg some (by kernel_rfl))
  t3 := Tryz.underlying3
  a3 := Tryz.isAgg3
  z3 := Tryz.sizeOf3
  v3 := Tryz.zeroValue3
  t4 := Tryz.underlying4
  a4 := Tryz.isAgg4
  z4 := Tryz.sizeOf4
  v4 := Tryz.zeroValue4
  t35 := Tryz.underlying196
  a35 := Tryz.isAgg196
  z35 := Tryz.sizeOf196
  v35 := Tryz.zeroValue196
  t38 := Tryz.underlying224
  a38 := Tryz.isAgg224
  z38 := Tryz.sizeOf224
  v38 := Tryz.zeroValue224 }
end Go.Proofs.YtcokedgoibiljaaGreatDoor
