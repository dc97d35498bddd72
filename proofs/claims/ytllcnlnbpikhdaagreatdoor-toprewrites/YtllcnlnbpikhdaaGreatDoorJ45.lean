import Derived.Laws.BytesArg
import Derived.Test.YtllcnlnbpikhdaaGreatDoorJ44
namespace Go.Proofs.YtllcnlnbpikhdaaGreatDoor
open Go.RowKit
theorem IsRow.lenCap{k:IntKind}{w:World}{a:Option Addr}{len cap:Nat}{zs:List Int}(h:IsRow k w a len cap zs):len<=cap:=by
 rcases h with⟨_,h2,h3,_⟩ | ⟨x,_,h1,_⟩
 ·omega
 ·exact h1
end Go.Proofs.YtllcnlnbpikhdaaGreatDoor
