import Derived.Laws.BytesArg
import Derived.Laws.StructEq
import Derived.Lib.SlBytesConst
import Derived.BigQuiet
import Derived.Sort.QuietTacIn
import Derived.Test.YtllcnlnbpikhdaaGreatDoorJ29
import Derived.Test.YtllcnlnbpikhdaaGreatDoorJ15
import Derived.Test.YtllcnlnbpikhdaaGreatDoorJ8
namespace Go.Proofs.YtllcnlnbpikhdaaGreatDoor
open Go.RowKit Go.Shelf
attribute [local go_sem] Oper.semAt_some
theorem br{fn:Func}{p:Tmp}{ty:TypeId}(h:fn.results=#[.cell p ty])(tmps:Array Value)(P:Program)(w:World):
  (results fn tmps).run P w=((asAddr (tmps.getD p undef)).run P w).andThen λa w1=>(loadVar ty a).run P w1:=by
 simp only[results,h];simp[Sem.run_bind,Result.andThen]
end Go.Proofs.YtllcnlnbpikhdaaGreatDoor
