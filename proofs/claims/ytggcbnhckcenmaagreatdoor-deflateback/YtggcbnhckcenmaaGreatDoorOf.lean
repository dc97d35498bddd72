import Derived.Test.YtggcbnhckcenmaaGreatDoorRef2
namespace Go.Proofs.YtggcbnhckcenmaaGreatDoor
open Go.RowKit

set_option maxHeartbeats 2000000 in
theorem refOf_any(w:World)(v:Value)(I:Nat→Prop)(cs:List Nat)(hsrc:Src w I v cs)(hlen:cs.length≤100000000)(hb:∀b∈cs,b<256):
  Calls Tryz.prog 98 #[v] w fun e w'=>∃v',e=.returned v'∧Grows w w' (.slice none 0 0) v' (ofBytes cs):=by
 obtain⟨ao,cap,rfl,_⟩:=id hsrc
 have HS:Hid (Src w I (.slice ao cs.length cap) cs):=hsrc
 have HB:Hid (∀b∈cs,b<256):=hb
 clear hsrc hb
 go_enter Tryz.func98,Tryz.ntmps98
 go_wp2
 go_loopg [3,4] cs.length (fun k x y wr=>∃j:Nat,j≤cs.length∧cs.length-j≤k∧y=.int .i64 (j:Nat)∧Grows w wr (.slice none 0 0) x (ofBytes (cs.take j)))
 case atStart=>exact⟨0,by omega,by omega,rfl,Grows.refl (World.ownsRow_nil _ _ _ _)⟩
 case round=>
  obtain⟨j,hj,hjk,rfl,hg⟩:=hrel
  have HG:Hid (Grows w wr (.slice none 0 0) u3 (ofBytes (cs.take j))):=hg
  have hk0:=(hg.ofNil rfl).1
  have HS2:Hid (Src wr I (.slice ao cs.length cap) cs):=HS.out.kept hk0 (fun _ _ _ e=>e)
  clear hg hk0
  by_cases hlt:j<cs.length
  ·obtain⟨b,o,rfl,_,hcell⟩:∃b o,ao=some ⟨b,o,none⟩∧True∧wr.cell? ⟨b,o+j,none⟩=some (.int .u8 (cs[j]:Nat)):=by
    obtain⟨ao',cap',e1,e2⟩:=HS2.out
    injection e1 with e3 _ _
    subst e3
    obtain⟨b,o,e4,_,e5⟩:=e2 (by intro e;rw[e]at hlt;simp at hlt)
    exact⟨b,o,e4,trivial,e5 j hlt⟩
   obtain⟨x,hx⟩:∃x,x=cs[j]:=⟨_,rfl⟩
   have hx2:x<256:=by rw[hx];exact HB.out _ (List.getElem_mem _)
   rw[←hx]at hcell
   have HX:Hid (ofBytes (cs.take (j+1))=ofBytes (cs.take j)++bitsOf x 8):=by
    show _=_
    rw[List.take_succ_eq_append_getElem hlt,ofBytes_append,hx];simp[ofBytes]
   obtain⟨ps,hps⟩:∃ps,ps=ofBytes (cs.take j):=⟨_,rfl⟩
   have hpl:ps.length≤800000000:=by rw[hps,ofBytes_length,List.length_take];omega
   have HG2:Hid (Grows w wr (.slice none 0 0) u3 ps):=by rw[hps];exact HG.out
   have HX2:Hid (ofBytes (cs.take (j+1))=ps++bitsOf x 8):=by rw[hps];exact HX.out
   clear hx hps HG HX
   obtain⟨g0,hg0⟩:∃g0,g0=gk:=⟨_,rfl⟩
   subst hg0
   go_wp2_with fail
   go_loopg [3,5,6] 8 (fun k x3 x5 x6 wx=>∃t u:Nat,t≤8∧8-t≤k∧x6=.int .i64 (t:Nat)∧x5=.int .u8 (u:Nat)∧u=x / 2 ^ t∧Grows w wx (.slice none 0 0) x3 (ps++bitsOf x t))
   case atStart=>exact⟨0,x,by omega,by omega,rfl,rfl,by simp,by simpa[bitsOf]using HG2.out⟩
   case round=>
    obtain⟨t,u,ht,htk,rfl,rfl,hu,hg⟩:=hrel
    have HU:Hid (u=x / 2 ^ t):=hu
    have hu2:u<256:=by rw[hu];exact Nat.lt_of_le_of_lt (Nat.div_le_self _ _) hx2
    have HG3:Hid (Grows w wr (.slice none 0 0) u3 (ps++bitsOf x t)):=hg
    have HL2:Hid ((ps++bitsOf x t).length+[u % 2].length≤1000000000000):=by show _≤_;rw[List.length_append,bitsOf_length];simp;omega
    clear hu hg HG2 hcell
    by_cases hlt2:t<8
    ·go_wp2_with (at_builtin;refine wpList_append_row _ rfl (.tmp 21) (.tmp 24) rfl u3 (ps++bitsOf x t) rfl (World.ownsRow.alloc HG3.out.row _) ⟨wr.heap.size,0,none⟩ 1 1 [u % 2] rfl rfl (bytesAt_int _ _ _ (by omega)) HL2.out ?_)
     intro v' w1 hrow hgr hv'
     have R:Hid (Grows w w1 (.slice none 0 0) v' (ps++bitsOf x (t+1))):=by
      have h:=HG3.out.app (x:=u % 2) (by rw[List.append_assoc];exact hrow) hgr (by simpa using hv')
      rw[List.append_assoc,HU.out]at h
      exact h
     clear hrow hgr hv' HL2
     go_wp2_with fail
     go_roundg (gk-1)
     case measure=>omega
     case rel=>exact⟨t+1,u / 2,by omega,by omega,by go_num,by go_num,by rw[HU.out,Nat.div_div_eq_div_mul,←Nat.pow_succ],R.out⟩
    ·have ht8:t=8:=by omega
     subst ht8
     clear HL2
     go_wp2_with fail
     go_roundg (g0-1)
     case measure=>omega
     case rel=>exact⟨j+1,by omega,by omega,by go_num,by rw[HX2.out];exact HG3.out⟩
  ·have hjl:j=cs.length:=by omega
   go_wp2_with fail
   go_ret
   have h:=HG.out
   rw[List.take_of_length_le (by omega)]at h
   exact⟨_,rfl,h⟩

set_option maxHeartbeats 1000000 in
theorem refNumber_any(w:World)(v:Value)(I:Nat→Prop)(ls:List Nat)(hsrc:Src w I v ls)(hb:∀b∈ls,b<2)(a n:Nat)(hn:n≤32)(hl:a+n≤ls.length)(hlen:ls.length≤1000000000000):
  Calls Tryz.prog 133 #[v,.int .i64 (a:Nat),.int .i64 (n:Nat)] w fun e w'=>e=.returned (.int .u32 (n2 ls / 2 ^ a % 2 ^ n:Nat))∧w'=w:=by
 obtain⟨ao,cap,rfl,hsa⟩:=id hsrc
 rw[←n2_part ls hb a n hl]
 have HSA:Hid (ls≠[]→∃b o,ao=some ⟨b,o,none⟩∧I b∧∀j (_:j<ls.length),w.cell? ⟨b,o+j,none⟩=some (.int .u8 (ls[j]:Nat))):=hsa
 have HB:Hid (∀b∈ls,b<2):=hb
 obtain⟨R,hR⟩:∃R,R=n2 ((ls.drop a).take n):=⟨_,rfl⟩
 rw[←hR]
 have HR:Hid (R=n2 ((ls.drop a).take n)):=hR
 clear hsrc hsa hb hR
 go_enter Tryz.func133,Tryz.ntmps133
 go_wp2
 go_loopg [7,8] n (fun k x y wr=>∃(i X:Nat),i≤n∧i≤k∧y=.int .i64 ((i:Int)-1)∧x=.int .u32 (X:Nat)∧X=n2 ((ls.drop (a+i)).take (n-i))∧wr=w)
 case atStart=>exact⟨n,0,by omega,by omega,rfl,rfl,by simp[n2],rfl⟩
 case round=>
  obtain⟨i,X,hi,hik,rfl,rfl,hX,rfl⟩:=hrel
  have HX:Hid (X=n2 ((ls.drop (a+i)).take (n-i))):=hX
  by_cases h0:i=0
  ·have H0:Hid (i=0):=h0
   have hneg:(i:Int)-1<0:=by omega
   clear hX h0
   go_wp2
   go_ret
   refine⟨?_,rfl⟩
   have:X=R:=by rw[HX.out,HR.out,H0.out];simp
   subst this
   rfl
  ·obtain⟨t,ht⟩:∃t,i=t+1:=⟨i-1,by omega⟩
   subst ht
   have hat:a+t<ls.length:=by omega
   obtain⟨b,o,rfl,_,hcell⟩:=HSA.out (by intro e;rw[e]at hat;simp at hat)
   have hc:=hcell (a+t) hat
   obtain⟨x,hx⟩:∃x,x=ls[a+t]:=⟨_,rfl⟩
   have hx2:x<2:=by rw[hx];exact HB.out _ (List.getElem_mem _)
   rw[←hx]at hc
   have hXb:X<2147483648:=by
    rw[hX]
    exact Nat.lt_of_lt_of_le (n2_take_lt ls HB.out _ _) (Nat.le_trans (Nat.pow_le_pow_right (by omega) (show n-(t+1)≤31 by omega)) (by decide))
   have HN:Hid (2*X+x=n2 ((ls.drop (a+t)).take (n-t))):=by
    show _=_
    rw[show n-t=(n-(t+1))+1 by omega,List.drop_eq_getElem_cons hat,List.take_succ_cons,n2,←hx,hX,show a+t+1=a+(t+1)by omega]
    omega
   clear hX hcell hx
   go_wp2
   go_roundg t
   case measure=>omega
   case rel=>exact⟨t,2*X+x,by omega,by omega,by go_num,by go_num,HN.out,rfl⟩

end Go.Proofs.YtggcbnhckcenmaaGreatDoor
