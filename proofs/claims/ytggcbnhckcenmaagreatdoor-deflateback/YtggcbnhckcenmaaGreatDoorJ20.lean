/-
  Of the proof: parts MtK.
-/
import Derived.Laws.BytesArg
import Derived.Laws.StructEq
import Derived.Lib.SlBytesConst
import Derived.Test.YtggcbnhckcenmaaGreatDoorJ12
import Derived.Test.YtggcbnhckcenmaaGreatDoorJ19
import Derived.Test.YtggcbnhckcenmaaGreatDoorJ13

namespace Go.Proofs.YtggcbnhckcenmaaGreatDoor
open Go.RowKit

theorem mcell_mark(w:World)(C:Array Value)(t:TypeId)(fr:Nat×Nat)(j:Nat):(w.alloc (.cells C t fr)).cell? ⟨w.heap.size,j,none⟩=C[j]?:=by
 have:(w.alloc (.cells C t fr)).heap[w.heap.size]? = some (.cells C t fr):=by
  show(w.heap.push _)[w.heap.size]? = _
  simp
 simp only[World.cell?,this]
 simp

theorem msrc_mark(w:World)(cs:List Nat)(n:Nat)(fr:Nat×Nat)(hn:cs.length=n):Src (w.alloc (.cells (cs.map byteV).toArray 5 fr)) (fun k=>k=w.heap.size) (.slice (some ⟨w.heap.size,0,none⟩) n n) cs:=by
 subst hn
 refine⟨_,_,rfl,fun _=>⟨_,_,rfl,rfl,fun j hj=>?_⟩⟩
 rw[Nat.zero_add,mcell_mark]
 simp[byteV,hj]

theorem tlit_src(w:World)(ts:List TK)(n:Nat)(hn:ts.length=n):TkSrc (w.alloc (.cells (ts.flatMap tkC).toArray 33)) (fun j=>j=w.heap.size) (.slice (some ⟨w.heap.size,0,none⟩) n n) ts:=by
 refine⟨_,n,by rw[hn],by omega,fun _=>⟨w.heap.size,0,rfl,rfl,fun j hj i hi=>?_⟩⟩
 rw[Nat.zero_add,(Blk.new w (ts.flatMap tkC).toArray 33).cell (j*3+i)]
 rw[List.getElem?_toArray,flat_get tkC_ok ts j i hj hi]

end Go.Proofs.YtggcbnhckcenmaaGreatDoor
