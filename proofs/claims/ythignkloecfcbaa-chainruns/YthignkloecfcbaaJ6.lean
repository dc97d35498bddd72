/-
  Of the proof: parts ChShS.
-/
import Derived.Shelf.SlGeneric
import Derived.Shelf.SlSorted.Search
import Derived.Ground.SlsoProg
import Derived.Test.YthignkloecfcbaaProg

/-
  sort.Search for chain: the numbers of this seat (written by tools/shelf12.py).
-/
namespace Go.Proofs.Ythignkloecfcbaa
open Go.Shelf
def Try.search12_ren : Go.Shelf.Ren := ⟨fun | 16 => 56 | n => n, fun | 3 => 3 | 35 => 107 | 4 => 4 | 38 => 104 | n => n, fun | n => n⟩
theorem Try.search12 : Go.Proofs.SlLaysO.n16 Try.prog Try.search12_ren := {
  mixed := by kernel_rfl
  f16 := Try.func56.trans (congrArg some (by kernel_rfl))
  t3 := Try.underlying3
  a3 := Try.isAgg3
  z3 := Try.sizeOf3
  v3 := Try.zeroValue3
  t4 := Try.underlying4
  a4 := Try.isAgg4
  z4 := Try.sizeOf4
  v4 := Try.zeroValue4
  t35 := Try.underlying107
  a35 := Try.isAgg107
  z35 := Try.sizeOf107
  v35 := Try.zeroValue107
  t38 := Try.underlying104
  a38 := Try.isAgg104
  z38 := Try.sizeOf104
  v38 := Try.zeroValue104 }
end Go.Proofs.Ythignkloecfcbaa
