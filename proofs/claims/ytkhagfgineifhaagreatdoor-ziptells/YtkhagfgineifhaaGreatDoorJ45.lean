import Derived.Lib.SlBytesConst
import Derived.Test.YtkhagfgineifhaaGreatDoorJ19
import Derived.Test.YtkhagfgineifhaaGreatDoorJ6
namespace Go.Proofs.YtkhagfgineifhaaGreatDoor
open Go.RowKit Go.Shelf
theorem J3(w:World)(cs:List Nat)(n:Nat)(hn:cs.length=n):Src (w.alloc (.cells (cs.map be).toArray 5)) (λk=>k=w.heap.size) (.slice (some ⟨w.heap.size,0,none⟩) n n) cs:=by subst hn;refine⟨_,_,rfl,λ_=>⟨_,_,rfl,rfl,λj hj=>?_⟩⟩;simp[be,hj]
end Go.Proofs.YtkhagfgineifhaaGreatDoor
