import Derived.Test.YtggcbnhckcenmaaGreatDoorRef
namespace Go.Proofs.YtggcbnhckcenmaaGreatDoor
open Go.RowKit

theorem Grows.ofNil{w wr:World}{v v':Value}{bs:List Nat}(h:Grows w wr v v' bs)(hv:v.ownBlock=none):Kept (fun _=>False) w wr∧∀k,v'.ownBlock=some k→w.heap.size≤k:=by
 refine⟨h.kept.mono (fun x _ e=>by rw[hv]at e;cases e),fun k hk=>?_⟩
 rcases h.own with e | e
 ·rw[e,hv]at hk;cases hk
 ·exact e k hk

end Go.Proofs.YtggcbnhckcenmaaGreatDoor
