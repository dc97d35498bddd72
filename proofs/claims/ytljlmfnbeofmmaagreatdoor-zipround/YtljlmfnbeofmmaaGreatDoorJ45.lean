import Derived.Lib.SlBytesConst
import Derived.Test.YtljlmfnbeofmmaaGreatDoorJ19
import Derived.Test.YtljlmfnbeofmmaaGreatDoorJ6
namespace Go.Proofs.YtljlmfnbeofmmaaGreatDoor
open Go.RowKit Go.Shelf
theorem JQ(w:World)(cs:List Nat)(n:Nat)(hn:cs.length=n):Src (w.alloc (.cells (cs.map bh).toArray 5)) (λk=>k=w.heap.size) (.slice (some ⟨w.heap.size,0,none⟩) n n) cs:=by subst hn;refine⟨_,_,rfl,λ_=>⟨_,_,rfl,rfl,λj hj=>?_⟩⟩;simp[bh,hj]
end Go.Proofs.YtljlmfnbeofmmaaGreatDoor
