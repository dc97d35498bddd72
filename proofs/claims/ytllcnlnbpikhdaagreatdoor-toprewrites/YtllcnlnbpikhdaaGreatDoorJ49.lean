import Derived.Lib.LaidTab
import Derived.LaidSub
import Derived.Shelf.Vars
import Derived.WalkKit
import Derived.Test.YtllcnlnbpikhdaaGreatDoorRows
import Derived.Test.YtllcnlnbpikhdaaGreatDoorJ33
import Derived.Test.YtllcnlnbpikhdaaGreatDoorJ26
namespace Go.Proofs.YtllcnlnbpikhdaaGreatDoor
open Go.RowKit
theorem Tryz.gOrd8:Tryz.prog.globalNamed "haversack/lens.order" = some 0:=by kernel_rfl
theorem Tryz.gOrdType8:(Tryz.prog.globals[0]?).map (·.type)=some 181:=by kernel_rfl
theorem Tryz.cellsOrd8:Tryz.prog.cellsOf 181=19:=by kernel_rfl
theorem Tryz.cellsOne8:Tryz.prog.cellsOf 3=1:=by kernel_rfl
def ordI8:List Int:=[16,17,18,0,8,7,9,6,10,5,11,4,12,3,13,2,14,1,15]
theorem D3:∀i,i<19->ordI8.getD i 0=((ord.getD i 0:Nat):Int):=by decide
theorem Jb{W:World}(h:laidMetH Tryz.prog [("unicode/utf8.acceptRanges",Rows.laid_unicode_utf8_acceptRanges),("haversack/lens.order",Rows.laid_haversack_lens_order),("unicode/utf8.first",Rows.laid_unicode_utf8_first)] W):Tab W:=by have h2:laidMetH Tryz.prog [("haversack/lens.order",Rows.laid_haversack_lens_order)] W:=laidMetH.filter (fun x=>x.1 == "haversack/lens.order") h;have ht:Lib.TabIs Tryz.prog W "haversack/lens.order" .i64 ordI8:=Lib.tabIs_of_head (rest:=[]) Tryz.gOrd8 Tryz.gOrdType8 Tryz.underlying181 Tryz.underlying3 Tryz.cellsOne8 Tryz.cellsOrd8 h2;intro i hi;have hc:=ht.cell Tryz.gOrd8 i (by simpa[ordI8]using hi);rw[hc];congr 2;exact D3 i hi
theorem K8{W:World}(h:W.ShapedOpen Tryz.prog):Mxl W:=cell_of_shapedOpen_int (g:=1) (t:=3) (zero:=#[.int .i64 0]) h (by decide +kernel) (by kernel_rfl) rfl (by kernel_rfl) (by kernel_rfl) Tryz.underlying3
def Ng:DataW Unit->List Value
 | .agg l=>l.flatMap fun
  | .agg m=>m.flatMap fun
   | .lit (.int k n)=>[.int k n]
   | _=>[]
  | .lit (.int k n)=>[.int k n]
  | _=>[]
 | _=>[]
def Gv(d:DataW Unit):Obj->Obj
 | .cells _ t frozen=>.cells (Ng d).toArray t frozen
 | o=>o
noncomputable def lU (os:Os):World:=
 {World.holding Tryz.prog os ⟨#[],#[],[]⟩with heap:=(((World.holding Tryz.prog os ⟨#[],#[],[]⟩).heap.modify 0 (Gv Rows.laid_haversack_lens_order)).modify 3 (Gv Rows.laid_unicode_utf8_acceptRanges)).modify 2 (Gv Rows.laid_unicode_utf8_first)}
end Go.Proofs.YtllcnlnbpikhdaaGreatDoor
