import Derived.Test.YtggcbnhckcenmaaGreatDoorMtK
import Derived.Test.YtggcbnhckcenmaaGreatDoorMtB
import Derived.Test.YtggcbnhckcenmaaGreatDoorCopyK
import Derived.Test.YtggcbnhckcenmaaGreatDoorBlk
import Derived.Laws.StructEq
import Derived.Test.YtggcbnhckcenmaaGreatDoorMtJ
import Derived.Test.YtggcbnhckcenmaaGreatDoorFresh
import Derived.Test.YtggcbnhckcenmaaGreatDoorSam
import Derived.BigQuiet
import Derived.Test.YtggcbnhckcenmaaGreatDoorMtI
import Derived.Test.YtggcbnhckcenmaaGreatDoorRng
import Derived.Sort.QuietTacIn
import Derived.Test.YtggcbnhckcenmaaGreatDoorArgs
namespace Go.Proofs.YtggcbnhckcenmaaGreatDoor
open Go.RowKit Go.Shelf

attribute [local go_sem] Oper.semAt_some
theorem results_cell_one{fn:Func}{p:Tmp}{ty:TypeId}(h:fn.results=#[.cell p ty])(tmps:Array Value)(P:Program)(w:World):
  (results fn tmps).run P w=((asAddr (tmps.getD p undef)).run P w).andThen fun a w1=>(loadVar ty a).run P w1:=by
 simp only[results,h]
 simp[Sem.run_bind,Result.andThen]

end Go.Proofs.YtggcbnhckcenmaaGreatDoor
