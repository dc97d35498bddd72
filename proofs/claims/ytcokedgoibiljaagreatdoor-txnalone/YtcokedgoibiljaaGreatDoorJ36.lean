/-
  Of the proof: parts TyShC.
-/
import Derived.Shelf.SlGeneric
import Derived.Shelf.Slices.CompactS
import Derived.Test.YtcokedgoibiljaaGreatDoorProg

/-
  slices.Compact of texts for txn: the numbers of this seat (written by tools/shelf12.py).
-/
namespace Go.Proofs.YtcokedgoibiljaaGreatDoor
open Go.Shelf
def Tryz.comp14_ren : Go.Shelf.Ren := ⟨fun | 194 => 113 | n => n, fun | 31 => 47 | 9 => 9 | 3 => 3 | 4 => 4 | 0 => 0 | n => n, fun | n => n⟩
theorem Tryz.comp14 : Go.Proofs.Lays.n194 Tryz.prog Tryz.comp14_ren := {
  mixed := by kernel_rfl
  f194 := Tryz.func113.trans (congrArg some (by kernel_rfl))
  t0 := Tryz.underlying0
  a0 := Tryz.isAgg0
  z0 := Tryz.sizeOf0
  v0 := Tryz.zeroValue0
  t3 := Tryz.underlying3
  a3 := Tryz.isAgg3
  z3 := Tryz.sizeOf3
  v3 := Tryz.zeroValue3
  t4 := Tryz.underlying4
  a4 := Tryz.isAgg4
  z4 := Tryz.sizeOf4
  v4 := Tryz.zeroValue4
  t9 := Tryz.underlying9
  a9 := Tryz.isAgg9
  z9 := Tryz.sizeOf9
  v9 := Tryz.zeroValue9
  t31 := Tryz.underlying47
  a31 := Tryz.isAgg47
  z31 := Tryz.sizeOf47
  v31 := Tryz.zeroValue47 }
end Go.Proofs.YtcokedgoibiljaaGreatDoor
