import Derived.Test.YtggcbnhckcenmaaGreatDoorLnRef
import Derived.Test.YtggcbnhckcenmaaGreatDoorRowX
import Derived.Test.YtggcbnhckcenmaaGreatDoorBlk
import Derived.Test.YtggcbnhckcenmaaGreatDoorHNextW
import Derived.Test.YtggcbnhckcenmaaGreatDoorOf
import Derived.Deep.RegionLaw
namespace Go.Proofs.YtggcbnhckcenmaaGreatDoor
open Go.RowKit

theorem RW.kept{F:Nat→Prop}{w0 w' w2:World}{go n:Nat}{ns:List Nat}{p:Nat→Prop}{rs:List (Option Addr×Nat×Nat)}(h:RW w0 w' go n ns p rs)(hk:Kept F w' w2)(h1:∀k,k<w0.heap.size→¬F k)(h2:¬F go)(h3:∀s (hs:s<rs.length),p s→∀k,(slV rs[s]).ownBlock=some k→¬F k):RW w0 w2 go n ns p rs:=
 ⟨h.row.kept hk (fun k e=>by simp[Value.ownBlock]at e;subst e;exact h2),fun s hs hp=>⟨(h.have' s hs hp).1.kept hk (fun k e=>h3 s hs hp k e),(h.have' s hs hp).2⟩,h.none',Same.then h.same hk h1⟩

end Go.Proofs.YtggcbnhckcenmaaGreatDoor
