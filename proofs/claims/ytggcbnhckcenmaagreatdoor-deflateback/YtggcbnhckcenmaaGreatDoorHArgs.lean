import Derived.Test.YtggcbnhckcenmaaGreatDoorHRis
import Derived.Test.YtggcbnhckcenmaaGreatDoorArgs
namespace Go.Proofs.YtggcbnhckcenmaaGreatDoor
open Go.RowKit

theorem Same.bel{w w':World}(h:Same w w'):Below w.heap.size w w':=Kept.below h (Nat.le_refl _) (fun _ _ e=>e)

theorem IsRow.ints{w:World}{a:Option Addr}{len cap:Nat}{zs:List Int}(h:IsRow .i64 w a len cap zs):SrcE intV w (fun k=>k<w.heap.size) (.slice a len cap) (zs.take len)∧(zs.take len).length=len:=by
 have hl:=h.len_le
 have hlen:(zs.take len).length=len:=by simp;omega
 refine⟨⟨a,cap,by rw[hlen],?_,fun hne=>?_⟩,hlen⟩
 ·rw[hlen]
  rcases h with⟨_,rfl,_,_⟩ | ⟨x,_,h1,_⟩
  ·exact Nat.zero_le _
  ·exact h1
 ·have hpos:0<len:=by
   rcases Nat.eq_zero_or_pos len with e | e
   ·subst e;simp at hne
   ·exact e
  obtain⟨b,o,rfl,hc⟩:=h.at 0 hpos
  refine⟨b,o,rfl,World.block_lt_of_cell? w _ hc,fun j hj=>?_⟩
  obtain⟨b',o',e,hc'⟩:=h.at j (by omega)
  simp only[Option.some.injEq,Addr.mk.injEq,and_true]at e
  obtain⟨rfl,rfl⟩:=e
  rw[hc']
  have hz:j<zs.length:=by omega
  simp[intV,List.getD,hz]

end Go.Proofs.YtggcbnhckcenmaaGreatDoor
