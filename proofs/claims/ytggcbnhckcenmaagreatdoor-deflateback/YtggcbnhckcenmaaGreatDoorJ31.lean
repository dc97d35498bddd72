/-
  Of the proof: parts MtZ.
-/
import Derived.Laws.StructEq
import Derived.BigQuiet
import Derived.Sort.QuietTacIn
import Derived.Test.YtggcbnhckcenmaaGreatDoorJ20
import Derived.Test.YtggcbnhckcenmaaGreatDoorJ12
import Derived.Test.YtggcbnhckcenmaaGreatDoorJ11
import Derived.Test.YtggcbnhckcenmaaGreatDoorJ3
import Derived.Test.YtggcbnhckcenmaaGreatDoorJ13
import Derived.Test.YtggcbnhckcenmaaGreatDoorJ19
import Derived.Test.YtggcbnhckcenmaaGreatDoorJ16
import Derived.Test.YtggcbnhckcenmaaGreatDoorJ5

namespace Go.Proofs.YtggcbnhckcenmaaGreatDoor
open Go.RowKit Go.Shelf

attribute [local go_sem] Oper.semAt_some
theorem results_cell_one{fn:Func}{p:Tmp}{ty:TypeId}(h:fn.results=#[.cell p ty])(tmps:Array Value)(P:Program)(w:World):
  (results fn tmps).run P w=((asAddr (tmps.getD p undef)).run P w).andThen fun a w1=>(loadVar ty a).run P w1:=by
 simp only[results,h]
 simp[Sem.run_bind,Result.andThen]

end Go.Proofs.YtggcbnhckcenmaaGreatDoor
