/-
  Of the proof: parts LnFrame.
-/
import Derived.Lib.LaidTab
import Derived.WalkKit
import Derived.Test.YtggcbnhckcenmaaGreatDoorRows
import Derived.Test.YtggcbnhckcenmaaGreatDoorJ24

namespace Go.Proofs.YtggcbnhckcenmaaGreatDoor
open Go.RowKit

theorem Tryz.gOrd:Tryz.prog.globalNamed "haversack/lens.order" = some 0:=by kernel_rfl
theorem Tryz.gOrdType:(Tryz.prog.globals[0]?).map (·.type)=some 136:=by kernel_rfl
theorem Tryz.cellsOrd:Tryz.prog.cellsOf 136=19:=by kernel_rfl
theorem Tryz.cellsOne:Tryz.prog.cellsOf 3=1:=by kernel_rfl

def ordI:List Int:=[16,17,18,0,8,7,9,6,10,5,11,4,12,3,13,2,14,1,15]

theorem ord_same:∀i,i<19→ordI.getD i 0=((ord.getD i 0:Nat):Int):=by decide

theorem tab_of{W:World}(h:laidMetH Tryz.prog [("haversack/lens.order",Rows.laid_haversack_lens_order)] W):Tab W:=by
 have ht:Lib.TabIs Tryz.prog W "haversack/lens.order" .i64 ordI:=Lib.tabIs_of_head (rest:=[]) Tryz.gOrd Tryz.gOrdType Tryz.underlying136 Tryz.underlying3 Tryz.cellsOne Tryz.cellsOrd h
 intro i hi
 have hc:=ht.cell Tryz.gOrd i (by simpa[ordI]using hi)
 rw[hc]
 congr 2
 exact ord_same i hi

noncomputable def laidWorld (os:Os):World:=
 { World.holding Tryz.prog os ⟨#[],#[],[]⟩with heap:=(World.holding Tryz.prog os ⟨#[],#[],[]⟩).heap.modify 0 fun
   | .cells _ t frozen=>.cells (ordI.map fun z=>Value.int .i64 z).toArray t frozen
   | o=>o}

end Go.Proofs.YtggcbnhckcenmaaGreatDoor
