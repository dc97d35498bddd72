import Derived.Test.YtggcbnhckcenmaaGreatDoorInAw
import Derived.Laws.BytesArg
namespace Go.Proofs.YtggcbnhckcenmaaGreatDoor
open Go.RowKit

theorem str_of{w:World}{g n c:Nat}{bs:List Nat}(h:Row w (.slice (some ⟨g,0,none⟩) n c) bs)(hn:bs.length=n):(convert 22 9 (.slice (some ⟨g,0,none⟩) n c)).run Tryz.prog w=.ok (.string (strOfNums (bs.map (fun b=>((b:Nat):Int))))) w:=by
 subst hn
 exact run_convert_bytes_arg (P:=Tryz.prog) w 22 5 Tryz.underlying22 Tryz.underlying5 g 0 bs.length c (bs.map (fun b=>((b:Nat):Int))) (by simp) (fun i hi=>by rw[Nat.zero_add,Row.cell h i hi];simp[List.getD,hi]) 9 Tryz.underlying9

theorem Row.addr{w:World}{a:Option Addr}{n c:Nat}{bs:List Nat}(h:Row w (.slice a n c) bs)(hb:bs≠[]):∃g,a=some ⟨g,0,none⟩:=by
 obtain⟨ao,cap,e,hg⟩:=h.shape
 simp only[Value.slice.injEq]at e
 rw[e.1]
 exact hg hb

end Go.Proofs.YtggcbnhckcenmaaGreatDoor
