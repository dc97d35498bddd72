import Derived.Laws.IdiomStrings
import Derived.Test.YtllcnlnbpikhdaaGreatDoorJ24
namespace Go.Proofs.YtllcnlnbpikhdaaGreatDoor
open Go.RowKit
theorem K4(w:World)(s:ByteArray):∃G w',(convert 9 22 (.string s)).run Tryz.prog w=.ok (.slice (some ⟨w.heap.size,0,none⟩) s.size G) w'/\Same w w'/\Src w' (λk=>k=w.heap.size) (.slice (some ⟨w.heap.size,0,none⟩) s.size G) (sb s)/\w'.heap.size=w.heap.size+1:=by
 refine⟨_,_,run_bytes_of_string (P:=Tryz.prog) w 9 22 5 s Tryz.underlying9 Tryz.underlying22 Tryz.underlying5,((Kept.refl _ w).drew).alloc _,?_,by simp⟩;refine⟨some ⟨w.heap.size,0,none⟩,_,by rw[dU],λ_=>⟨w.heap.size,0,rfl,rfl,?_⟩⟩;intro j hj;have BT:j<s.data.size:=by rw[dU]at hj;exact hj
 rw[Nat.zero_add];have hb:(w.drew.alloc (Obj.cells (bytesRow s (grownCap w s.size 0 5)) 5 ((bytesRow s (grownCap w s.size 0 5)).size,(bytesRow s (grownCap w s.size 0 5)).size+1))).cell? ⟨w.heap.size,j,none⟩=(bytesRow s (grownCap w s.size 0 5))[j]?:=by have h9:∀(W:World) (C:Array Value) (t:TypeId) (z:Nat×Nat),(W.alloc (.cells C t z)).cell? ⟨W.heap.size,j,none⟩=C[j]?:=(by intro W C t z;unfold World.alloc;simp[World.cell?]);exact h9 w.drew _ _ _
 rw[hb];unfold bytesRow;rw[Array.getElem?_append_left (by simpa using BT)];simp only[sb,Array.getElem?_map,List.getElem_map,Array.getElem_toList];rw[Array.getElem?_eq_getElem BT];rfl
end Go.Proofs.YtllcnlnbpikhdaaGreatDoor
