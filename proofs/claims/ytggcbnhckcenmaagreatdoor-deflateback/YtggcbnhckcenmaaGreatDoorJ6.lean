/-
  Of the proof: parts HArgs, HRef.
-/
import Derived.Test.YtggcbnhckcenmaaGreatDoorJ4
import Derived.Test.YtggcbnhckcenmaaGreatDoorJ5

namespace Go.Proofs.YtggcbnhckcenmaaGreatDoor
open Go.RowKit

theorem Same.bel{w w':World}(h:Same w w'):Below w.heap.size w w':=Kept.below h (Nat.le_refl _) (fun _ _ e=>e)

theorem IsRow.ints{w:World}{a:Option Addr}{len cap:Nat}{zs:List Int}(h:IsRow .i64 w a len cap zs):SrcE intV w (fun k=>k<w.heap.size) (.slice a len cap) (zs.take len)∧(zs.take len).length=len:=by
 have hl:=h.len_le
 have hlen:(zs.take len).length=len:=by simp;omega
 refine⟨⟨a,cap,by rw[hlen],?_,fun hne=>?_⟩,hlen⟩
 ·rw[hlen]
  rcases h with⟨_,rfl,_,_⟩ | ⟨x,_,h1,_⟩
  ·exact Nat.zero_le _
  ·exact h1
 ·have hpos:0<len:=by
   rcases Nat.eq_zero_or_pos len with e | e
   ·subst e;simp at hne
   ·exact e
  obtain⟨b,o,rfl,hc⟩:=h.at 0 hpos
  refine⟨b,o,rfl,World.block_lt_of_cell? w _ hc,fun j hj=>?_⟩
  obtain⟨b',o',e,hc'⟩:=h.at j (by omega)
  simp only[Option.some.injEq,Addr.mk.injEq,and_true]at e
  obtain⟨rfl,rfl⟩:=e
  rw[hc']
  have hz:j<zs.length:=by omega
  simp[intV,List.getD,hz]

end Go.Proofs.YtggcbnhckcenmaaGreatDoor

namespace Go.Proofs.YtggcbnhckcenmaaGreatDoor
open Go.RowKit

set_option maxHeartbeats 1000000 in
theorem power_any(w:World)(n:Nat)(hn:n≤15):Calls Tryz.prog 107 #[.int .i64 (n:Nat)] w fun e w'=>e=.returned (.int .i64 ((2 ^ n:Nat):Int))∧w'=w:=by
 go_enter Tryz.func107,Tryz.ntmps107
 go_wp2_with fail
 go_loopg [3,4] n (fun q zp zi wr=>∃(i p:Nat),n-i≤q∧i≤n∧p≤32768∧zi=.int .i64 (i:Nat)∧zp=.int .i64 (p:Nat)∧wr=w∧Hid (p=2 ^ i))
 case atStart=>exact⟨0,1,by omega,by omega,by omega,rfl,rfl,rfl,hid rfl⟩
 case round=>
  obtain⟨i,p,hq,hi,hp,rfl,rfl,rfl,HP⟩:=hrel
  by_cases hlt:i<n
  ·have hp2:2*p≤32768:=by
    rw[HP.out]
    have h2:2 ^ (i+1)≤2 ^ 15:=Nat.pow_le_pow_right (by omega) (by omega)
    rw[Nat.pow_succ]at h2
    have h3:(2:Nat) ^ 15=32768:=by decide
    omega
   go_wp2_with fail
   go_roundg (gk-1)
   case measure=>omega
   case rel=>exact⟨i+1,2*p,by omega,by omega,hp2,by go_num,by congr 1<;>omega,rfl,hid (by rw[HP.out,Nat.pow_succ];omega)⟩
  ·have hin:i=n:=by omega
   subst hin
   go_wp2_with fail
   go_ret
   exact⟨by rw[←HP.out];rfl,rfl⟩

end Go.Proofs.YtggcbnhckcenmaaGreatDoor
