/-
  Of the proof: parts Args, RowsOf, ChTa, VaF, VaG.
-/
import Derived.ProofKit
import Derived.OpenShut
import Derived.Deep.Slices
import Derived.Deep.Strs
import Derived.Test.YtcfociogljhbiaaGreatDoorJ2
import Derived.Test.YtcfociogljhbiaaGreatDoorJ4
import Derived.Test.YtcfociogljhbiaaGreatDoorJ6

namespace Go.Proofs.YtcfociogljhbiaaGreatDoor
open Go.ChangeShapes Go.WideShapes Go.ChangeAt Go.RowKit
theorem spot_none{w:World}{x:Addr}{v:Value}(h:w.cell? (x.add 0)=some v):x=⟨x.block,x.off,none⟩:=by
 have e:x.add 0=x:=by unfold Addr.add;simp
 rw[e]at h
 cases hx:x.spot with
 | none=>cases x;simp_all
 | some n=>
  exfalso
  simp only[World.cell?]at h
  split at h
  ·rw[if_pos (by simp[hx])]at h;cases h
  ·cases h

end Go.Proofs.YtcfociogljhbiaaGreatDoor

namespace Go.Proofs.YtcfociogljhbiaaGreatDoor
open Go.ChangeShapes Go.WideShapes Go.ChangeAt Go.RowKit Go.Deep

theorem add_zero12(x:Addr):x.add 0=x:=by unfold Addr.add;simp

section
variable {H:Type} {enc:TypeId×Value→H} {W:World} {x:DataW H×List MemPlace}
end

end Go.Proofs.YtcfociogljhbiaaGreatDoor

namespace Go.Proofs.YtcfociogljhbiaaGreatDoor
open Go.ChangeShapes Go.WideShapes Go.ChangeAt Go.RowKit Go.Deep Go.Maps

structure Cm where
 t:Int
 a:Option Addr
 n:Nat
 c:Nat
 ws:List Wr

structure CmOk(W:World)(I:Nat→Prop)(x:Cm):Prop where
 src:SrcC 5 wrE W I (.slice x.a x.n x.c) x.ws
 len:x.ws.length=x.n
 num:-9223372036854775808≤x.t∧x.t≤9223372036854775807
 big:x.ws.length≤9223372036854775807

theorem CmOk.kept{W W':World}{I F:Nat→Prop}{x:Cm}(h:CmOk W I x)(hk:Kept F W W')(hF:∀k,I k→k<W.heap.size→¬F k):CmOk W' I x:=⟨h.src.kept wrE_ok hk hF,h.len,h.num,h.big⟩

section
variable {H:Type} {enc:TypeId×Value→H} {W:World} {fuel:Nat} {x:DataW H×List MemPlace}
end

def cmC(x:Cm):List Value:=[.int .i64 x.t,.slice x.a x.n x.c]
section
variable {H:Type} {enc:TypeId×Value→H} {W:World} {fuel:Nat} {x:DataW H×List MemPlace} {cs:Array Value}
end

end Go.Proofs.YtcfociogljhbiaaGreatDoor

namespace Go.Proofs.YtcfociogljhbiaaGreatDoor
open Go.RowKit Go.Maps Go.Sort Go.Shelf

theorem cmC_ok:EncOk cmC 2:=⟨fun _=>rfl,fun x u hu=>by simp[cmC]at hu;rcases hu with rfl | rfl<;>rfl,by decide⟩

structure Cms(W:World)(I:Nat→Prop)(v:Value)(cs:List Cm):Prop where
 src:SrcC 2 cmC W I v cs
 ok:∀c∈cs,CmOk W I c
 big:cs.length≤9223372036854775807

theorem Cms.same{W W':World}{I:Nat→Prop}{v:Value}{cs:List Cm}(h:Cms W I v cs)(hk:Same W W'):Cms W' I v cs:=⟨h.src.kept cmC_ok hk (fun _ _ _ f=>f),fun c hc=>(h.ok c hc).kept hk (fun _ _ _ f=>f),h.big⟩

def risC(last:Int):List Cm→Bool
 | []=>true
 | c::r=>decide (last<c.t) && risC c.t r

set_option maxRecDepth 100000 in
set_option maxHeartbeats 1000000 in
theorem indexC_any(w:World)(v:Value)(cs:List Cm)(I:Nat→Prop)(f:Nat)(q:Value)(p:Cm→Bool)(hs:Cms w I v cs)(hmf:∀args w,(callFunc f args).run Tryz.prog w=.ok (.enter f args) w)
  (hp:∀r wx,r∈cs→Same w wx→Calls Tryz.prog f #[q,.agg (cmC r).toArray] wx fun e w'=>e=.returned (.bool (p r))∧Same wx w'):
  Calls Tryz.prog 141 #[v,.func (.func f) #[q] #[]] w fun e w'=>e=.returned (.int .i64 (ixL p cs))∧Same w w':=by
 have hn:=hs.big
 obtain⟨a,cap,rfl,hcap,hcel⟩:=hs.src
 obtain⟨len,hlen⟩:∃n,n=cs.length:=⟨_,rfl⟩
 rw[←hlen]at hn ⊢
 have HC:Hid (cs≠[]→∃b o,a=some ⟨b,o,none⟩∧I b∧∀j (_:j<cs.length) i (_:i<2),w.cell? ⟨b,o+(j*2+i),none⟩=(cmC cs[j])[i]?):=hcel
 have HP:Hid (∀r wx,r∈cs→Same w wx→Calls Tryz.prog f #[q,.agg (cmC r).toArray] wx fun e w'=>e=.returned (.bool (p r))∧Same wx w'):=hp
 have HL:Hid (len=cs.length∧len≤cap∧len≤9223372036854775807):=hid ⟨hlen,by rw[hlen];exact hcap,hn⟩
 clear hcel hp hlen hcap hn hs
 go_enter Tryz.func141,Tryz.ntmps141
 go_wp2_with fail
 go_loopg [8] len (fun k z wr=>∃i:Nat,len-i≤k∧i≤len∧z=.int .i64 (i:Nat)∧Hid (∀j (hj:j<i) (hj2:j<cs.length),p cs[j]=false)∧Hid (Same w wr))
 case atStart=>exact⟨0,by omega,by omega,rfl,hid (fun j hj _=>by omega),hid (Kept.refl _ _)⟩
 case round=>
  obtain⟨i,hk,hil,rfl,HF,HK⟩:=hrel
  by_cases hlt:i<len
  ·have hli:decide (i<len)=true:=by simp;omega
   have hlt2:i<cs.length:=by have:=HL.out.1;omega
   obtain⟨b,o,ha,_,hcc⟩:=HC.out (fun e=>by rw[e]at hlt2;simp at hlt2)
   subst ha
   have hcw:∀q u,q<2→(cmC cs[i])[q]? = some u→wr.cell? ⟨b,o+(i*2+q),none⟩=some u:=fun q u hq e=>HK.out.cell (by rw[hcc i hlt2 q hq,e]) (fun f=>f)
   obtain⟨r,hr⟩:∃r,r=cs[i]:=⟨_,rfl⟩
   rw[←hr]at hcw
   have k0:=hcw 0 (.int .i64 r.t) (by decide) rfl
   have k1:=hcw 1 (.slice r.a r.n r.c) (by decide) rfl
   have HC2:=HP.out r wr (by rw[hr];exact List.getElem_mem _) HK.out
   unfold cmC at HC2
   have hiw:IntKind.i64.wrap ((i:Int)+1)=((i+1:Nat):Int):=by have:=HL.out.2.2;rw[IntKind.wrap_i64];omega
   have HR:Hid (r=cs[i]):=hr
   clear hcc hcw hr
   rw[Nat.add_zero]at k0
   simp only[←Nat.add_assoc]at k1
   cases hb:p r with
   | true=>
    rw[hb]at HC2
    have HB:Hid (p r=true):=hb
    clear hb
    go_wp2_with fail
    refine HC2.mono ?_
    rintro e w2 ⟨rfl,hk2⟩
    have HK2:Hid (Same w w2):=hid (Same.trans HK.out hk2)
    clear hk2 HC2
    go_wp2_with fail
    go_ret
    refine⟨?_,HK2.out⟩
    rw[ixL_hit p cs i hlt2 (by rw[←HR.out];exact HB.out) (fun j hj=>HF.out j hj (by omega))]
    rfl
   | false=>
    rw[hb]at HC2
    have HB:Hid (p r=false):=hb
    clear hb
    go_wp2_with fail
    refine HC2.mono ?_
    rintro e w2 ⟨rfl,hk2⟩
    have HK2:Hid (Same w w2):=hid (Same.trans HK.out hk2)
    clear hk2 HC2
    go_wp2_with fail
    go_roundg (gk-1)
    case measure=>omega
    case rel=>
     refine⟨i+1,by omega,by omega,by go_num,hid (fun j hj hj2=>?_),HK2⟩
     rcases Nat.lt_or_ge j i with h1 | h1
     ·exact HF.out j h1 hj2
     ·obtain rfl:j=i:=by omega
      rw[←HR.out]
      exact HB.out
  ·have hli:decide (i<len)=false:=by simp;omega
   obtain rfl:i=len:=by omega
   go_wp2_with fail
   go_ret
   refine⟨?_,HK.out⟩
   rw[ixL_none p cs (fun j hj=>HF.out j (by have:=HL.out.1;omega) hj)]
   rfl

set_option maxRecDepth 100000 in
set_option maxHeartbeats 1000000 in
theorem rising13_any(w:World)(v:Value)(cs:List Cm)(I:Nat→Prop)(hs:Cms w I v cs):
  Calls Tryz.prog 140 #[v] w fun e w'=>e=.returned (.bool (risC 0 cs))∧Same w w':=by
 have hn:=hs.big
 obtain⟨a,cap,rfl,hcap,hcel⟩:=hs.src
 obtain⟨len,hlen⟩:∃n,n=cs.length:=⟨_,rfl⟩
 rw[←hlen]at hn ⊢
 have HC:Hid (cs≠[]→∃b o,a=some ⟨b,o,none⟩∧I b∧∀j (_:j<cs.length) i (_:i<2),w.cell? ⟨b,o+(j*2+i),none⟩=(cmC cs[j])[i]?):=hcel
 have HL:Hid (len=cs.length∧len≤cap∧len≤9223372036854775807):=hid ⟨hlen,by rw[hlen];exact hcap,hn⟩
 clear hcel hlen hcap hn hs
 go_enter Tryz.func140,Tryz.ntmps140
 go_wp2_with fail
 go_loopg [3,8] len (fun k z3 z8 wr=>∃(i:Nat) (last:Int),len-i≤k∧i≤len∧z3=.int .i64 last∧z8=.int .i64 (i:Nat)∧Hid (risC 0 cs=risC last (cs.drop i))∧Hid (Same w wr))
 case atStart=>exact⟨0,0,by omega,by omega,rfl,rfl,hid rfl,hid (Kept.refl _ _)⟩
 case round=>
  obtain⟨i,last,hk,hil,rfl,rfl,HF,HK⟩:=hrel
  by_cases hlt:i<len
  ·have hli:decide (i<len)=true:=by simp;omega
   have hlt2:i<cs.length:=by have:=HL.out.1;omega
   obtain⟨b,o,ha,_,hcc⟩:=HC.out (fun e=>by rw[e]at hlt2;simp at hlt2)
   subst ha
   have hcw:∀q u,q<2→(cmC cs[i])[q]? = some u→wr.cell? ⟨b,o+(i*2+q),none⟩=some u:=fun q u hq e=>HK.out.cell (by rw[hcc i hlt2 q hq,e]) (fun f=>f)
   obtain⟨r,hr⟩:∃r,r=cs[i]:=⟨_,rfl⟩
   rw[←hr]at hcw
   have k0:=hcw 0 (.int .i64 r.t) (by decide) rfl
   have k1:=hcw 1 (.slice r.a r.n r.c) (by decide) rfl
   have hiw:IntKind.i64.wrap ((i:Int)+1)=((i+1:Nat):Int):=by have:=HL.out.2.2;rw[IntKind.wrap_i64];omega
   have HD:Hid (risC last (cs.drop i)=(decide (last<r.t) && risC r.t (cs.drop (i+1)))):=hid (by rw[List.drop_eq_getElem_cons hlt2,←hr];rfl)
   clear hcc hcw hr
   rw[Nat.add_zero]at k0
   simp only[←Nat.add_assoc]at k1
   by_cases hb:r.t≤last
   ·have hbd:decide (r.t≤last)=true:=decide_eq_true hb
    have HB:Hid (risC 0 cs=false):=hid (by rw[HF.out,HD.out,decide_eq_false (by omega)];rfl)
    clear hb
    go_wp2_with fail
    go_ret
    exact⟨by rw[HB.out];rfl,HK.out.alloc _⟩
   ·have hbd:decide (r.t≤last)=false:=decide_eq_false hb
    have HB:Hid (risC 0 cs=risC r.t (cs.drop (i+1))):=hid (by rw[HF.out,HD.out,decide_eq_true (by omega)];rfl)
    clear hb
    go_wp2_with fail
    go_roundg (gk-1)
    case measure=>omega
    case rel=>exact⟨i+1,r.t,by omega,by omega,rfl,by go_num,HB,hid (HK.out.alloc _)⟩
  ·have hli:decide (i<len)=false:=by simp;omega
   obtain rfl:i=len:=by omega
   go_wp2_with fail
   go_ret
   refine⟨?_,HK.out⟩
   rw[HF.out,List.drop_eq_nil_of_le (by have:=HL.out.1;omega)]
   rfl

end Go.Proofs.YtcfociogljhbiaaGreatDoor

namespace Go.Proofs.YtcfociogljhbiaaGreatDoor
open Go.RowKit Go.Maps Go.Sort Go.Shelf

def chkS(s:Vst)(cs:List Cm):Int×Int:=
 if risC 0 cs then(if s.st.isEmpty then(-1,0) else(ixL (fun c=>claS s c.t c.ws) cs,0)) else(-1,130)

theorem Tryz.enters13k:∀args w,(callFunc 142 args).run Tryz.prog w=.ok (.enter 142 args) w:=enters_of Tryz.func142 (by kernel_rfl) rfl

section
variable {K:Nat} {w:World} {p mr ml ms:Nat} {s:Vst}

set_option maxRecDepth 100000 in
set_option maxHeartbeats 1000000 in
theorem vcheck_any(h:Vk K w p mr ml ms s)(v:Value)(cs:List Cm)(I:Nat→Prop)(hs:Cms w I v cs):Calls Tryz.prog 105 #[.pointer (some ⟨p,0,none⟩),v] w fun e w'=>e=.returned (.tuple #[.int .i64 (chkS s cs).1,.int .i64 (chkS s cs).2])∧Same w w':=by
 obtain⟨a,cap,hv,_,_⟩:=hs.src
 obtain⟨len,hlen⟩:∃n,n=cs.length:=⟨_,rfl⟩
 rw[←hlen]at hv
 have HRi:=rising13_any w v cs I hs
 have HIx:Hid (∀w',Same w w'→Calls Tryz.prog 141 #[v,.func (.func 142) #[.pointer (some ⟨p,0,none⟩)] #[]] w' fun e w2=>e=.returned (.int .i64 (ixL (fun c=>claS s c.t c.ws) cs))∧Same w' w2):=hid (fun w' hk=>
  indexC_any w' v cs I _ _ _ (hs.same hk) Tryz.enters13k (fun c wx hc hkx=>vclash_any ((h.same hk).same hkx) c.t _ c.ws I (((hs.ok c hc).kept (hk.trans hkx) (fun _ _ _ f=>f)).src) (hs.ok c hc).big))
 have HLn:Hid (∀w',Same w w'→w'.cell? ⟨p,3,none⟩=some (.map (some ms))∧(Builtin.len_ #[167] 3 #[.map (some ms)]).run Tryz.prog w'=.ok (.int .i64 (s.st.length:Nat)) w'):=hid (fun w' hk=>⟨(h.same hk).blk.cell 3,(h.same hk).sm.len _ _ Tryz.underlying167 _⟩)
 obtain⟨b,hb⟩:∃b,b=risC 0 cs:=⟨_,rfl⟩
 rw[←hb]at HRi
 subst hv
 cases b with
 | false=>
  have HR:Hid (chkS s cs=(-1,130)):=hid (by unfold chkS;rw[←hb];rfl)
  rw[HR.out]
  clear h hs hb hlen
  go_enter Tryz.func105,Tryz.ntmps105
  go_wp2_with fail
  refine HRi.mono ?_
  rintro e w2 ⟨rfl,hk2⟩
  go_wp2_with fail
  go_ret2
  exact⟨rfl,hk2⟩
 | true=>
  obtain⟨m,hm⟩:∃m,m=s.st.length:=⟨_,rfl⟩
  rw[←hm]at HLn
  by_cases hz:m=0
  ·have HR:Hid (chkS s cs=(-1,0)):=hid (by unfold chkS;rw[←hb,if_pos rfl,if_pos (by rw[List.isEmpty_iff];exact List.eq_nil_of_length_eq_zero (by omega))])
   rw[HR.out]
   subst hz
   clear h hs hb hlen hm
   go_enter Tryz.func105,Tryz.ntmps105
   go_wp2_with fail
   refine HRi.mono ?_
   rintro e w2 ⟨rfl,hk2⟩
   obtain⟨p3,hl⟩:=HLn.out w2 hk2
   go_wp2_with fail
   go_ret2
   exact⟨rfl,hk2⟩
  ·have HR:Hid (chkS s cs=(ixL (fun c=>claS s c.t c.ws) cs,0)):=hid (by unfold chkS;rw[←hb,if_pos rfl,if_neg (by rw[List.isEmpty_iff];intro e;rw[e]at hm;exact hz hm)])
   rw[HR.out]
   have hz1:((m:Int)==0)=false:=by simp;omega
   have hz2:(m==0)=false:=by simp;omega
   have hz3:decide (m=0)=false:=by simp;omega
   clear h hs hb hlen hm hz
   go_enter Tryz.func105,Tryz.ntmps105
   go_wp2_with fail
   refine HRi.mono ?_
   rintro e w2 ⟨rfl,hk2⟩
   obtain⟨p3,hl⟩:=HLn.out w2 hk2
   have HIx2:=HIx.out w2 hk2
   go_wp2_with fail
   refine HIx2.mono ?_
   rintro e w3 ⟨rfl,hk3⟩
   go_wp2_with fail
   go_ret2
   exact⟨rfl,hk2.trans hk3⟩

end

end Go.Proofs.YtcfociogljhbiaaGreatDoor
