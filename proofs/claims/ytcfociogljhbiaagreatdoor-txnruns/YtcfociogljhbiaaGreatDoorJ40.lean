/-
  Of the proof: parts UbS, UdA, UdB, UdC, UdD, UdE.
-/
import Derived.Deep.RegionHeld3
import Derived.Deep.CutRange
import Derived.Test.YtcfociogljhbiaaGreatDoorJ39
import Derived.Test.YtcfociogljhbiaaGreatDoorJ2
import Derived.Test.YtcfociogljhbiaaGreatDoorJ31

namespace Go.Proofs.YtcfociogljhbiaaGreatDoor
open Go.RowKit Go.Maps Go.Sort Go.Shelf

variable {S:Ts} {P:Rs14} {ow:Nm} {mv:Mv} {t:Tx14}

theorem risP_of:∀(l:List (Int×List Wr)) (last:Int),(∀c∈l,last<c.1)→l.Pairwise (fun c d=>c.1<d.1)→risP last l=true
 | [],_,_,_=>rfl
 | c::r,last,h,hp=>by
  obtain⟨p1,p2⟩:=List.pairwise_cons.1 hp
  rw[risP,risP_of r c.1 p1 p2,decide_eq_true (h c (List.mem_cons_self ..))]
  rfl

def ConR(P:Rs14)(t:Tx14):Prop:=∃i,t.snap≤i∧∃ws,P.ws[i]? = some ws∧∃w∈ws,keO w∈t.rd∨w.b∈t.ls

theorem wsT_len(P:Rs14):(wsT P).length=P.ws.length:=by unfold wsT;simp

theorem wsT_get(P:Rs14)(i:Nat)(h:i<(wsT P).length):(wsT P)[i]=(P.first+(i:Int)+1,P.ws[i]'(by rw[wsT_len]at h;exact h)):=by
 simp only[wsT,List.getElem_mapIdx]

theorem wsT_mem{P:Rs14}{c:Int×List Wr}{s:Nat}(h:c∈(wsT P).drop s):∃i,s≤i∧∃hi:i<P.ws.length,c=(P.first+(i:Int)+1,P.ws[i]):=by
 obtain⟨j,hj,e⟩:=List.getElem_of_mem h
 rw[List.length_drop,wsT_len]at hj
 rw[List.getElem_drop]at e
 refine⟨s+j,by omega,by omega,?_⟩
 rw[←e,wsT_get]

theorem con_rel(h:Rl S P)(hx:TxR S P ow mv t)(he:t.st≠[]):S.con mv=true↔ConR P t:=by
 have htt:=hx.own.tt
 have hnow:=h.now
 have hwl:=h.wl
 have e1:(S.M.now-1-mv.t).toNat=P.ws.length-t.snap:=by omega
 have hcl:=h.cl
 have e2:S.cl.drop (S.cl.length-(P.ws.length-t.snap))=(wsT P).drop t.snap:=by
  conv=>lhs;rw[hcl.1]
  rw[List.drop_drop,List.length_drop,wsT_len]
  congr 1
  have:=hx.cl
  have:=hx.sn
  omega
 have he2:mv.emp=false:=by
  rw[hx.emp]
  cases hs:t.st with
  | nil=>exact absurd hs he
  | cons _ _=>rfl
 have e3:risP 0 ((wsT P).drop t.snap)=true:=by
  refine risP_of _ _ (fun c hc=>?_) ?_
  ·obtain⟨i,_,_,e⟩:=wsT_mem hc
   rw[e]
   have:=h.fi
   show 0<P.first+(i:Int)+1
   omega
  ·refine List.Pairwise.drop ?_
   rw[List.pairwise_iff_getElem]
   intro i j hi hj hij
   rw[wsT_get,wsT_get]
   show P.first+(i:Int)+1<P.first+(j:Int)+1
   omega
 unfold Ts.con
 rw[e1,e2]
 unfold chkP
 rw[if_pos e3,he2]
 simp only[Bool.false_eq_true,if_false]
 rw[ixL_any,List.any_eq_true]
 have hcla:∀c∈(wsT P).drop t.snap,claM mv c.1 c.2=true↔∃w∈c.2,keO w∈t.rd∨w.b∈t.ls:=fun c hc=>by
  obtain⟨i,hi,_,e⟩:=wsT_mem hc
  have hlt:mv.t<c.1:=by rw[e,htt];show P.first+(t.snap:Int)<P.first+(i:Int)+1;omega
  unfold claM
  rw[decide_eq_true hlt,Bool.true_and,List.any_eq_true]
  constructor
  ·rintro⟨w,hw,q⟩
   refine⟨w,hw,?_⟩
   unfold sawM at q
   rw[Bool.or_eq_true]at q
   exact q.imp (fun z=>(hx.rd _).1 z) (fun z=>(hx.ls _).1 z)
  ·rintro⟨w,hw,q⟩
   refine⟨w,hw,?_⟩
   unfold sawM
   rw[Bool.or_eq_true]
   exact q.imp (fun z=>(hx.rd _).2 z) (fun z=>(hx.ls _).2 z)
 constructor
 ·rintro⟨c,hc,q⟩
  obtain⟨i,hi,hl,e⟩:=wsT_mem hc
  obtain⟨w,hw,q⟩:=(hcla c hc).1 q
  rw[e]at hw
  exact⟨i,hi,P.ws[i],List.getElem?_eq_getElem hl,w,hw,q⟩
 ·rintro⟨i,hi,ws,hws,w,hw,q⟩
  obtain⟨hl,rfl⟩:=List.getElem?_eq_some_iff.1 hws
  have hc:(P.first+(i:Int)+1,P.ws[i])∈(wsT P).drop t.snap:=by
   rw[List.mem_iff_getElem]
   refine⟨i-t.snap,by rw[List.length_drop,wsT_len];omega,?_⟩
   rw[List.getElem_drop,wsT_get]
   have:t.snap+(i-t.snap)=i:=by omega
   simp only[this]
  exact⟨_,hc,(hcla _ hc).2 ⟨w,hw,q⟩⟩

def seeF(S:Ts)(P:Rs14)(t:Tx14):Vf:=upsW t.st (vkF S.M.V (P.first+t.snap+1))

theorem see_rel(hx:TxR S P ow mv t)(k:Ke):seeF S P t k=if seeT mv S.M k=true then some (seeD mv S.M k)else none:=by
 unfold seeF
 rw[ups_stW hx.st (fun k r hr=>(hx.own.key k r hr).1)]
 have hm:max (mv.t+1) S.M.floor=P.first+(t.snap:Int)+1:=by
  have:=hx.own.tt
  have:=hx.fl
  omega
 unfold seeT seeD
 cases hs:mv.st k with
 | some r=>simp only
 | none=>
  simp only
  rw[hm]
  rfl

theorem see_van(h:Rl S P)(hx:TxR S P ow mv t)(k:Ke)(hT:seeT mv S.M k=false):seeD mv S.M k=⟨#[]⟩:=by
 unfold seeT at hT
 unfold seeD
 cases hs:mv.st k with
 | some r=>rw[hs]at hT;exact hx.own.gone k r hs hT
 | none=>rw[hs]at hT;exact newV_van (h.van k.1 k.2) hT

theorem see_ste(hx:TxR S P ow mv t):StE (seeF S P t) (allL t.st (P.ss.getD t.snap [])):=hx.vis.all t.st

theorem see_lis(hx:TxR S P ow mv t)(b:Bx)(hl:(lisE (allL t.st (P.ss.getD t.snap [])) b).length≤200000):seeN mv S.M b=lisE (allL t.st (P.ss.getD t.snap [])) b:=by
 refine seeN_is ⟨lis_ris (see_ste hx).ris b,fun n=>?_⟩ hl
 rw[lis_mem (see_ste hx),see_rel hx]
 cases seeT mv S.M (b,n)<;>simp

theorem own_rel(hx:TxR S P ow mv t)(k:Ke):(mv.st k=none↔∀w∈t.st,keO w≠k):=by
 constructor
 ·intro hn w hw e
  have:=(hx.st.2 w).1 hw
  rw[e,hn]at this
  cases this
 ·intro hn
  cases hs:mv.st k with
  | none=>rfl
  | some r=>
   have hk:=(hx.own.key k r hs).1
   exact absurd hk (hn r ((hx.st.2 r).2 (by rw[hk];exact hs)))

theorem TxR.noted(hx:TxR S P ow mv t)(k:Ke):TxR S P ow (notM mv k) {t with rd:=if mv.st k=none then t.rd++[k]else t.rd}:=by
 unfold notM
 cases hs:mv.st k with
 | some r=>exact⟨hx.own,hx.tn,hx.sn,hx.st,hx.emp,by simpa using hx.rd,hx.ls,hx.fl,hx.vis,hx.cl⟩
 | none=>
  refine⟨hx.own.like rfl (fun _=>rfl),hx.tn,hx.sn,⟨hx.st.1,hx.st.2⟩,hx.emp,fun x=>?_,hx.ls,hx.fl,hx.vis,hx.cl⟩
  show(if k=x then true else mv.rd x)=true↔x∈(if (none:Option Wr)=none then t.rd++[k]else t.rd)
  rw[if_pos rfl,List.mem_append,List.mem_singleton,←hx.rd x]
  by_cases e:k=x
  ·rw[if_pos e];exact⟨fun _=>.inr e.symm,fun _=>rfl⟩
  ·rw[if_neg e];exact⟨fun q=>.inl q,fun q=>q.elim id (fun q2=>absurd q2.symm e)⟩

theorem TxR.listed(hx:TxR S P ow mv t)(b:Bx):TxR S P ow (lsM mv b) {t with ls:=t.ls++[b]}:=by
 refine⟨hx.own.like rfl (fun _=>rfl),hx.tn,hx.sn,⟨hx.st.1,hx.st.2⟩,hx.emp,hx.rd,fun x=>?_,hx.fl,hx.vis,hx.cl⟩
 show(if b=x then true else mv.ls x)=true↔x∈t.ls++[b]
 rw[List.mem_append,List.mem_singleton,←hx.ls x]
 by_cases e:b=x
 ·rw[if_pos e];exact⟨fun _=>.inr e.symm,fun _=>rfl⟩
 ·rw[if_neg e];exact⟨fun q=>.inl q,fun q=>q.elim id (fun q2=>absurd q2.symm e)⟩

def stgL(w:Wr):Bool→List Wr→List Wr
 | inn,[]=>if inn then []else [w]
 | inn,x::r=>(if !inn && !bef14 (keO x) (keO w)then [w]else [])++((if keO x=keO w then []else [x])++stgL w (inn || !bef14 (keO x) (keO w)) r)

theorem mem_stgL(w:Wr):∀(xs:List Wr) (inn:Bool) (y:Wr),y∈stgL w inn xs↔(y∈xs∧keO y≠keO w)∨(inn=false∧y=w)
 | [],inn,y=>by cases inn<;>simp[stgL]
 | x::r,inn,y=>by
  rw[stgL,List.mem_append,List.mem_append,mem_stgL w r]
  cases hb:bef14 (keO x) (keO w)<;>cases inn<;>by_cases hk:keO x=keO w<;>simp[hk]<;>grind

theorem ris_stgL(w:Wr):∀(xs:List Wr) (inn:Bool),xs.Pairwise ltW→(inn=true→∀x∈xs,ltW w x∨keO x=keO w)→(stgL w inn xs).Pairwise ltW
 | [],inn,_,_=>by
  cases inn
  ·exact List.pairwise_singleton _ _
  ·exact List.Pairwise.nil
 | x::r,inn,h,hin=>by
  obtain⟨h1,h2⟩:=List.pairwise_cons.1 h
  rw[stgL]
  by_cases hb:bef14 (keO x) (keO w)=true
  ·have hlt:ltW x w:=(bef14_iff _ _).1 hb
   have hk:¬keO x=keO w:=fun e=>by unfold ltW at hlt;rw[e]at hlt;exact ltK_irr _ hlt
   have hi:inn=false:=by
    cases inn with
    | false=>rfl
    | true=>
     rcases hin rfl x (List.mem_cons_self ..)with q | q
     ·exact absurd (ltK_trans (show ltK (keO w) (keO x)from q) hlt) (ltK_irr _)
     ·exact absurd q hk
   subst hi
   rw[hb,if_neg hk]
   simp only[Bool.not_false,Bool.not_true,Bool.and_false,Bool.false_eq_true,if_false,List.nil_append,Bool.or_false]
   refine List.pairwise_cons.2 ⟨fun y hy=>?_,ris_stgL w r false h2 (fun e=>by cases e)⟩
   rcases(mem_stgL w r false y).1 hy with⟨e,_⟩ | ⟨_,e⟩
   ·exact h1 y e
   ·rw[e];exact hlt
  ·have hb':bef14 (keO x) (keO w)=false:=by simpa using hb
   rw[hb']
   have hle:ltW w x∨keO x=keO w:=by
    rcases ltK_tri (keO x) (keO w)with q | q | q
    ·exact absurd ((bef14_iff _ _).2 q) hb
    ·exact .inr q
    ·exact .inl q
   have hall:∀y∈r,ltW w y:=fun y hy=>by
    have:=h1 y hy
    rcases hle with q | q
    ·exact ltK_trans (show ltK (keO w) (keO x)from q) this
    ·unfold ltW at this ⊢;rw[←q];exact this
   have hr:=ris_stgL w r true h2 (fun _ y hy=>.inl (hall y hy))
   have hxr:((if keO x=keO w then []else [x])++stgL w true r).Pairwise ltW:=by
    by_cases hk:keO x=keO w
    ·rw[if_pos hk];exact hr
    ·rw[if_neg hk]
     refine List.pairwise_cons.2 ⟨fun y hy=>?_,hr⟩
     rcases(mem_stgL w r true y).1 hy with⟨e,_⟩ | ⟨e,_⟩
     ·exact h1 y e
     ·cases e
   rw[Bool.not_false,Bool.or_true]
   cases inn
   ·refine List.pairwise_cons.2 ⟨fun y hy=>?_,hxr⟩
    have hy:y∈(if keO x=keO w then []else [x])++stgL w true r:=hy
    rcases List.mem_append.1 hy with hy | hy
    ·by_cases hk:keO x=keO w
     ·rw[if_pos hk]at hy;cases hy
     ·rw[if_neg hk]at hy
      rw[List.mem_singleton.1 hy]
      exact hle.resolve_right hk
    ·rcases(mem_stgL w r true y).1 hy with⟨e,_⟩ | ⟨e,_⟩
     ·exact hall y e
     ·cases e
   ·exact hxr

theorem stg_stW{r:Wr}{xs:List Wr}(h:StW mv xs):StW (stM mv r) (stgL r false xs):=by
 refine⟨ris_stgL r xs false h.1 (fun e=>by cases e),fun y=>?_⟩
 rw[mem_stgL]
 show _↔(if keO r=keO y then some r else mv.st (keO y))=some y
 rw[h.2]
 by_cases e:keO r=keO y
 ·rw[if_pos e]
  constructor
  ·rintro(⟨_,q⟩ | ⟨_,q⟩)
   ·exact absurd e.symm q
   ·rw[q]
  ·intro q
   injection q with q
   exact .inr ⟨rfl,q.symm⟩
 ·rw[if_neg e]
  constructor
  ·rintro(⟨q,_⟩ | ⟨_,q⟩)
   ·exact q
   ·exact absurd (by rw[q]) e
  ·intro q
   exact .inl ⟨q,fun q2=>e q2.symm⟩

theorem stgL_ne(w:Wr)(xs:List Wr):stgL w false xs≠[]:=fun e=>by
 have:=(mem_stgL w xs false w).2 (.inr ⟨rfl,rfl⟩)
 rw[e]at this
 cases this

theorem TxR.staged(hx:TxR S P ow mv t){ar en:Nm}(hn:namT ar en=true)(r:Wr)(hk:keO r=kyT ow ar en)(hd:r.data.size≤8192)(hg:r.there=false→r.data=⟨#[]⟩):TxR S P ow (stM mv r) {t with st:=stgL r false t.st}:=by
 refine⟨hx.own.stage hn r hk hd hg rfl (fun _=>rfl),hx.tn,hx.sn,stg_stW hx.st,?_,hx.rd,hx.ls,hx.fl,hx.vis,hx.cl⟩
 show false=(stgL r false t.st).isEmpty
 have:=stgL_ne r t.st
 cases h:stgL r false t.st with
 | nil=>exact absurd h this
 | cons _ _=>rfl

def RckT(P:Rs14)(f:Vf)(n t er:Int)(xs:List Wr):Prop:=
 ((∀x∈P.ts,x.num≠n)∧er=140∧t=0∧xs=[])∨∃x∈P.ts,x.num=n ∧
  ((x.st=[]∧er=0∧t=0∧xs=[])∨(x.st≠[]∧ConR P x∧er=142∧t=0∧xs=[]) ∨
   (x.st≠[]∧¬ConR P x∧∃D,IsDm (fun b n=>upsW x.st f (b,n)) D∧((¬FitD D∧er=145∧t=0∧xs=[])∨(FitD D∧er=0∧t=P.first+P.ss.length∧xs=x.st))))

theorem th_now(h:Rl S P)(k:Ke):thNow S.M k=(vkF S.M.V S.M.now k).isSome:=by
 unfold thNow vkF visV
 have e:max S.M.now S.M.floor=S.M.now:=by have:=h.fl;omega
 rw[e]
 cases(newV (S.M.V k.1 k.2) S.M.now).there<;>rfl

theorem ck_same(h:Rl S P){n:Nb}{t er t' er':Int}{xs xs':List Wr}(hc:CkT S n t er xs)(hr:RckT P (vkF S.M.V S.M.now) n.v t' er' xs'):t'=t∧er'=er∧xs'=xs∧(xs≠[]→∀D,IsDm (fun b n=>upsW xs (vkF S.M.V S.M.now) (b,n)) D→FitD D):=by
 rcases hc with⟨hn,rfl,rfl,rfl⟩ | ⟨ow,mv,ys,hn,hy,_,hc⟩
 ·rcases hr with⟨_,rfl,rfl,rfl⟩ | ⟨x,hx,hxn,_⟩
  ·exact⟨rfl,rfl,rfl,fun e=>absurd rfl e⟩
  ·exact absurd hxn (h.gone hn x hx)
 ·obtain⟨i,hi,hin,hone,hti⟩:=h.here hn
  rcases hr with⟨hno,_⟩ | ⟨x,hx,hxn,hr⟩
  ·exact absurd hin (hno _ (List.getElem_mem hi))
  ·obtain⟨j,hj,rfl⟩:=List.getElem_of_mem hx
   have:=hone j hj hxn
   subst this
   obtain rfl:ys=P.ts[j].st:=hy.det hti.st
   have hfit:P.ts[j].st≠[]→∀D D',IsDm (visF S.M.V S.M.now) D→IsDm (fun b n=>upsW P.ts[j].st (vkF S.M.V S.M.now) (b,n)) D'→(manyB (cntW (thNow S.M) P.ts[j].st (cntD ow.s D))=false↔FitD D'):=fun _ D D' hD hD'=>by
    have hcu:=h.cur
    have hown:∀w∈P.ts[j].st,w.b.tn=ow.s:=fun w hw=>by
     have h1:=(hti.st.2 w).1 hw
     exact(hti.own.key _ w h1).2.1
    have c1:=CtL.dump (f:=vkF S.M.V S.M.now) hD hcu ow
    have c2:=CtL.steps (th:=thNow S.M) P.ts[j].st c1 hcu (ltW_ne hti.st.1) (fun w hw=>⟨hown w hw,th_now h _⟩)
    rw[many_fit c2 (hcu.all _) hD',fit_all hcu hD (h.fit D hD) P.ts[j].st hown hD']
   rcases hc with⟨c1,rfl,rfl,rfl⟩ | ⟨c1,c2,rfl,rfl,rfl⟩ | ⟨c1,c2,D,hD,c3⟩
   ·rcases hr with⟨_,rfl,rfl,rfl⟩ | ⟨r1,_⟩ | ⟨r1,_⟩
    ·exact⟨rfl,rfl,rfl,fun e=>absurd rfl e⟩
    ·exact absurd c1 r1
    ·exact absurd c1 r1
   ·have hcr:=(con_rel h hti c1).1 c2
    rcases hr with⟨r1,_⟩ | ⟨_,_,rfl,rfl,rfl⟩ | ⟨_,r2,_⟩
    ·exact absurd r1 c1
    ·exact⟨rfl,rfl,rfl,fun e=>absurd rfl e⟩
    ·exact absurd hcr r2
   ·have hcr:¬ConR P P.ts[j]:=fun q=>by rw[(con_rel h hti c1).2 q]at c2;cases c2
    rcases hr with⟨r1,_⟩ | ⟨_,r2,_⟩ | ⟨_,_,D',hD',r3⟩
    ·exact absurd r1 c1
    ·exact absurd r2 hcr
    ·have hf:=hfit c1 D D' hD hD'
     rcases c3 with⟨q,rfl,rfl,rfl⟩ | ⟨q,rfl,rfl,rfl⟩
     ·rcases r3 with⟨_,rfl,rfl,rfl⟩ | ⟨z,_⟩
      ·exact⟨rfl,rfl,rfl,fun e=>absurd rfl e⟩
      ·rw[hf.2 z]at q;cases q
     ·rcases r3 with⟨z,_⟩ | ⟨z,rfl,rfl,rfl⟩
      ·exact absurd (hf.1 q) z
      ·exact⟨h.now.symm,rfl,rfl,fun _ D2 hD2=>(hfit c1 D D2 hD hD2).1 q⟩

end Go.Proofs.YtcfociogljhbiaaGreatDoor

namespace Go.Proofs.YtcfociogljhbiaaGreatDoor
open Go.RowKit Go.Maps Go.Sort Go.Shelf

structure Sq(α:Type) where
 a:Option Addr
 n:Nat
 c:Nat
 l:List α

def Sq.v{α:Type}(x:Sq α):Value:=.slice x.a x.n x.c
def sqE{α:Type}(x:Sq α):List Value:=[x.v]
theorem sqE_ok{α:Type}:EncOk (sqE (α:=α)) 1:=⟨fun _=>rfl,fun x u hu=>by simp[sqE]at hu;rw[hu];rfl,by decide⟩

structure Ti where
 q:Nat
 num:Int
 snap:Nat
 tn:Nm
 s:Sq Wr
 r:Sq Ke
 b:Sq Bx

def tiE(x:Ti):List Value:=[.pointer (some ⟨x.q,0,none⟩)]
theorem tiE_ok:EncOk tiE 1:=⟨fun _=>rfl,fun x u hu=>by simp[tiE]at hu;rw[hu];rfl,by decide⟩
def ke3V(k:Ke):List Value:=[.string k.1.tn,.string k.1.ar,.string k.2.s]
theorem ke3_ok:EncOk ke3V 3:=⟨fun _=>rfl,fun x u hu=>by simp[ke3V]at hu;rcases hu with rfl | rfl | rfl<;>rfl,by decide⟩
def bx2V(b:Bx):List Value:=[.string b.tn,.string b.ar]
theorem bx2_ok:EncOk bx2V 2:=⟨fun _=>rfl,fun x u hu=>by simp[bx2V]at hu;rcases hu with rfl | rfl<;>rfl,by decide⟩

def Ti.tx(x:Ti):Tx14:=⟨x.num,x.snap,x.tn,x.s.l,x.r.l,x.b.l⟩
def Ti.cs(x:Ti):Array Value:=#[.int .i64 x.num,.int .i64 (x.snap:Nat),.string x.tn.s,x.s.v,x.r.v,x.b.v]

structure Ri where
 first:Int
 s:Sq (Sq Et)
 w:Sq (Sq Wr)
 t:Sq Ti
 nx:Int

def Ri.abs(R:Ri):Rs14:=⟨R.first,R.s.l.map (·.l),R.w.l.map (·.l),R.t.l.map Ti.tx,R.nx⟩

structure RmT(X B:Nat)(W:World)(x:Ti):Prop where
 blk:Blk W x.q x.cs 155
 s:RowC B 65 5 wrE W x.s.v x.s.l
 r:RowC B 63 3 ke3V W x.r.v x.r.l
 b:RowC B 128 2 bx2V W x.b.v x.b.l
 low:B≤x.q
 big:x.s.l.length≤X∧x.r.l.length≤X∧x.b.l.length≤X∧x.snap≤X

def ApT(x y:Ti):Prop:=x.q≠y.q∧(∀k,x.r.v.ownBlock=some k→¬y.r.v.ownBlock=some k)∧(∀k,x.b.v.ownBlock=some k→¬y.b.v.ownBlock=some k)

theorem ApT.symm{x y:Ti}(h:ApT x y):ApT y x:=⟨h.1.symm,fun k e e2=>h.2.1 k e2 e,fun k e e2=>h.2.2 k e2 e⟩

structure Rm(X B:Nat)(W:World)(p:Nat)(R:Ri):Prop where
 blk:Blk W p #[.int .i64 R.first,R.s.v,R.w.v,R.t.v,.int .i64 R.nx] 103
 rs:RowC B 96 1 sqE W R.s.v R.s.l
 ri:∀x∈R.s.l,RowC B 150 4 etE W x.v x.l
 rw:RowC B 57 1 sqE W R.w.v R.w.l
 wi:∀x∈R.w.l,RowC B 65 5 wrE W x.v x.l
 rt:RowC B 151 1 tiE W R.t.v R.t.l
 ti:∀x∈R.t.l,RmT X B W x
 ap:R.t.l.Pairwise ApT
 low:B≤p
 big:R.s.l.length≤X∧R.w.l.length≤X∧R.t.l.length≤256∧(∀x∈R.s.l,x.l.length≤X)∧(∀x∈R.w.l,x.l.length≤X)

def Rown(R:Ri)(p k:Nat):Prop:=k=p∨R.s.v.ownBlock=some k∨(∃x∈R.s.l,x.v.ownBlock=some k)∨R.w.v.ownBlock=some k∨(∃x∈R.w.l,x.v.ownBlock=some k)∨R.t.v.ownBlock=some k∨(∃x∈R.t.l,k=x.q∨x.s.v.ownBlock=some k∨x.r.v.ownBlock=some k∨x.b.v.ownBlock=some k)

theorem RmT.kept{X B:Nat}{W W':World}{x:Ti}(h:RmT X B W x){F:Nat→Prop}(hk:Kept F W W')(hF:∀k,(k=x.q∨x.s.v.ownBlock=some k∨x.r.v.ownBlock=some k∨x.b.v.ownBlock=some k)→¬F k):RmT X B W' x:=
 ⟨h.blk.kept hk (hF _ (.inl rfl)),h.s.kept hk (fun k e=>hF k (.inr (.inl e))),h.r.kept hk (fun k e=>hF k (.inr (.inr (.inl e)))),h.b.kept hk (fun k e=>hF k (.inr (.inr (.inr e)))),h.low,h.big⟩

theorem RmT.more{X X' B:Nat}{W:World}{x:Ti}(h:RmT X B W x)(hX:X≤X'):RmT X' B W x:=⟨h.blk,h.s,h.r,h.b,h.low,by have:=h.big;omega⟩

theorem Rm.kept{X B:Nat}{W W':World}{p:Nat}{R:Ri}(h:Rm X B W p R){F:Nat→Prop}(hk:Kept F W W')(hF:∀k,Rown R p k→¬F k):Rm X B W' p R where
 blk:=h.blk.kept hk (hF p (.inl rfl))
 rs:=h.rs.kept hk (fun k e=>hF k (.inr (.inl e)))
 ri:=fun x hx=>(h.ri x hx).kept hk (fun k e=>hF k (.inr (.inr (.inl ⟨x,hx,e⟩))))
 rw:=h.rw.kept hk (fun k e=>hF k (.inr (.inr (.inr (.inl e)))))
 wi:=fun x hx=>(h.wi x hx).kept hk (fun k e=>hF k (.inr (.inr (.inr (.inr (.inl ⟨x,hx,e⟩))))))
 rt:=h.rt.kept hk (fun k e=>hF k (.inr (.inr (.inr (.inr (.inr (.inl e)))))))
 ti:=fun x hx=>(h.ti x hx).kept hk (fun k e=>hF k (.inr (.inr (.inr (.inr (.inr (.inr ⟨x,hx,e⟩)))))))
 ap:=h.ap
 low:=h.low
 big:=h.big

theorem Rm.same{X B:Nat}{W W':World}{p:Nat}{R:Ri}(h:Rm X B W p R)(hk:Same W W'):Rm X B W' p R:=h.kept hk (fun _ _ f=>f)

theorem Rm.more{X X' B:Nat}{W:World}{p:Nat}{R:Ri}(h:Rm X B W p R)(hX:X≤X'):Rm X' B W p R:=
 ⟨h.blk,h.rs,h.ri,h.rw,h.wi,h.rt,fun x hx=>(h.ti x hx).more hX,h.ap,h.low,by have:=h.big;omega,by have:=h.big;omega,h.big.2.2.1,fun x hx=>Nat.le_trans (h.big.2.2.2.1 x hx) hX,fun x hx=>Nat.le_trans (h.big.2.2.2.2 x hx) hX⟩

theorem Rm.own{X B:Nat}{W:World}{p:Nat}{R:Ri}(h:Rm X B W p R){k:Nat}(hk:Rown R p k):B≤k∧k<W.heap.size:=by
 rcases hk with rfl | e | ⟨x,hx,e⟩ | e | ⟨x,hx,e⟩ | e | ⟨x,hx,e⟩
 ·exact⟨h.low,h.blk.lt⟩
 ·exact⟨h.rs.ge e,h.rs.lt e⟩
 ·exact⟨(h.ri x hx).ge e,(h.ri x hx).lt e⟩
 ·exact⟨h.rw.ge e,h.rw.lt e⟩
 ·exact⟨(h.wi x hx).ge e,(h.wi x hx).lt e⟩
 ·exact⟨h.rt.ge e,h.rt.lt e⟩
 ·have ht:=h.ti x hx
  rcases e with rfl | e | e | e
  ·exact⟨ht.low,ht.blk.lt⟩
  ·exact⟨ht.s.ge e,ht.s.lt e⟩
  ·exact⟨ht.r.ge e,ht.r.lt e⟩
  ·exact⟨ht.b.ge e,ht.b.lt e⟩

theorem Rm.setT{X X' B:Nat}{W W':World}{p:Nat}{R:Ri}(h:Rm X B W p R){i:Nat}(hi:i<R.t.l.length){x':Ti}(hq:x'.q=R.t.l[i].q)(hk:Kept (fun k=>k=R.t.l[i].q∨R.t.l[i].r.v.ownBlock=some k∨R.t.l[i].b.v.ownBlock=some k) W W')(ht:RmT X' B W' x')(hX:X≤X')(h1:∀k,x'.r.v.ownBlock=some k→R.t.l[i].r.v.ownBlock=some k∨W.heap.size≤k)(h2:∀k,x'.b.v.ownBlock=some k→R.t.l[i].b.v.ownBlock=some k∨W.heap.size≤k)(h3:∀k,x'.s.v.ownBlock=some k→R.t.l[i].s.v.ownBlock=some k∨W.heap.size≤k):Rm X' B W' p {R with t:={R.t with l:=R.t.l.set i x'}}∧(∀k,Rown {R with t:={R.t with l:=R.t.l.set i x'}} p k→Rown R p k∨W.heap.size≤k):=by
 have hm:=List.getElem_mem hi
 have hti:=h.ti _ hm
 have hrow:∀{α:Type} {t k:Nat} {en:α→List Value} {v:Value} {xs:List α},RowC B t k en W v xs→t≠155→t≠63→t≠128→RowC B t k en W' v xs:=fun hr n1 n2 n3=>hr.kept hk (fun k e q=>by
  rcases q with rfl | q | q
  ·exact hr.offB hti.blk n1 e
  ·exact hr.offR hti.r n2 k e q
  ·exact hr.offR hti.b n3 k e q)
 have hap:∀j (hj:j<R.t.l.length),j≠i→ApT R.t.l[j] R.t.l[i]:=fun j hj hji=>by
  have hp:=List.pairwise_iff_getElem.1 h.ap
  rcases Nat.lt_trichotomy j i with q | q | q
  ·exact hp j i hj hi q
  ·exact absurd q hji
  ·exact(hp i j hi hj q).symm
 have hoth:∀j (hj:j<R.t.l.length),j≠i→RmT X' B W' R.t.l[j]:=fun j hj hji=>by
  have hj':=h.ti _ (List.getElem_mem hj)
  have a:=hap j hj hji
  refine(hj'.kept hk (fun k e q=>?_)).more hX
  rcases e with rfl | e | e | e
  ·rcases q with q | q | q
   ·exact a.1 q
   ·exact hti.r.offB hj'.blk (by decide) q
   ·exact hti.b.offB hj'.blk (by decide) q
  ·rcases q with rfl | q | q
   ·exact hj'.s.offB hti.blk (by decide) e
   ·exact hj'.s.offR hti.r (by decide) k e q
   ·exact hj'.s.offR hti.b (by decide) k e q
  ·rcases q with rfl | q | q
   ·exact hj'.r.offB hti.blk (by decide) e
   ·exact a.2.1 k e q
   ·exact hj'.r.offR hti.b (by decide) k e q
  ·rcases q with rfl | q | q
   ·exact hj'.b.offB hti.blk (by decide) e
   ·exact hj'.b.offR hti.r (by decide) k e q
   ·exact a.2.2 k e q
 have hsetE:(R.t.l.set i x').flatMap tiE=R.t.l.flatMap tiE:=by
  apply List.ext_getElem?
  intro m
  have e1:∀l:List Ti,(l.flatMap tiE)[m]? = l[m]?.map (fun y=>Value.pointer (some ⟨y.q,0,none⟩)):=fun l=>by
   have:l.flatMap tiE=l.map (fun y=>Value.pointer (some ⟨y.q,0,none⟩)):=by
    induction l with
    | nil=>rfl
    | cons y r ih=>rw[List.flatMap_cons,ih];rfl
   rw[this,List.getElem?_map]
  rw[e1,e1]
  by_cases e:i=m
  ·subst e
   rw[List.getElem?_set_self hi,List.getElem?_eq_getElem hi,Option.map_some,Option.map_some,hq]
  ·rw[List.getElem?_set_ne e]
 constructor
 ·refine⟨h.blk.kept hk (fun q=>?_),hrow h.rs (by decide) (by decide) (by decide),fun x hx=>hrow (h.ri x hx) (by decide) (by decide) (by decide),hrow h.rw (by decide) (by decide) (by decide),fun x hx=>hrow (h.wi x hx) (by decide) (by decide) (by decide),?_,fun x hx=>?_,?_,h.low,?_⟩
  ·rcases q with q | q | q
   ·have hb:=hti.blk
    rw[←q]at hb
    have h9:=h.blk
    unfold Blk at hb h9
    rw[hb]at h9
    injection h9 with h9
    injection h9 with _ h9 _
    exact absurd h9 (by decide)
   ·exact hti.r.offB h.blk (by decide) q
   ·exact hti.b.offB h.blk (by decide) q
  ·show RowC B _ 1 tiE W' R.t.v (R.t.l.set i x')
   have h9:=hrow h.rt (by decide) (by decide) (by decide)
   unfold RowC at h9 ⊢
   rw[List.length_set,hsetE]
   exact h9
  ·obtain⟨j,hj,rfl⟩:=List.getElem_of_mem hx
   have hj':j<R.t.l.length:=by simpa using hj
   by_cases e:j=i
   ·subst e
    have e9:(R.t.l.set j x')[j]'hj=x':=by simp
    show RmT X' B W' ((R.t.l.set j x')[j]'hj)
    rw[e9]
    exact ht
   ·have e9:(R.t.l.set i x')[j]'hj=R.t.l[j]:=List.getElem_set_ne (Ne.symm e) hj
    show RmT X' B W' ((R.t.l.set i x')[j]'hj)
    rw[e9]
    exact hoth j hj' e
  ·show(R.t.l.set i x').Pairwise ApT
   rw[List.pairwise_iff_getElem]
   intro a b ha hb hab
   have ha':a<R.t.l.length:=by simpa using ha
   have hb':b<R.t.l.length:=by simpa using hb
   have hnew:∀j (hj:j<R.t.l.length),j≠i→ApT x' R.t.l[j]:=fun j hj hji=>by
    have hj9:=h.ti _ (List.getElem_mem hj)
    have a:=(hap j hj hji).symm
    refine⟨by rw[hq];exact a.1,fun k e e2=>?_,fun k e e2=>?_⟩
    ·rcases h1 k e with q | q
     ·exact a.2.1 k q e2
     ·have:=hj9.r.lt e2;omega
    ·rcases h2 k e with q | q
     ·exact a.2.2 k q e2
     ·have:=hj9.b.lt e2;omega
   by_cases ea:a=i
   ·subst ea
    have e1:(R.t.l.set a x')[a]'ha=x':=by simp
    have e2:(R.t.l.set a x')[b]'hb=R.t.l[b]:=List.getElem_set_ne (by omega) hb
    rw[e1,e2]
    exact hnew b hb' (by omega)
   ·have e1:(R.t.l.set i x')[a]'ha=R.t.l[a]:=List.getElem_set_ne (Ne.symm ea) ha
    rw[e1]
    by_cases eb:b=i
    ·subst eb
     have e2:(R.t.l.set b x')[b]'hb=x':=by simp
     rw[e2]
     exact(hnew a ha' ea).symm
    ·have e2:(R.t.l.set i x')[b]'hb=R.t.l[b]:=List.getElem_set_ne (Ne.symm eb) hb
     rw[e2]
     exact List.pairwise_iff_getElem.1 h.ap a b ha' hb' hab
  ·have:=h.big
   refine⟨Nat.le_trans this.1 hX,Nat.le_trans this.2.1 hX,by show(R.t.l.set i x').length≤256;rw[List.length_set];exact this.2.2.1,fun x hx=>Nat.le_trans (this.2.2.2.1 x hx) hX,fun x hx=>Nat.le_trans (this.2.2.2.2 x hx) hX⟩
 ·intro k hk9
  rcases hk9 with e | e | e | e | e | e | ⟨x,hx,e⟩
  ·exact .inl (.inl e)
  ·exact .inl (.inr (.inl e))
  ·exact .inl (.inr (.inr (.inl e)))
  ·exact .inl (.inr (.inr (.inr (.inl e))))
  ·exact .inl (.inr (.inr (.inr (.inr (.inl e)))))
  ·exact .inl (.inr (.inr (.inr (.inr (.inr (.inl e))))))
  ·rcases List.mem_or_eq_of_mem_set hx with q | q
   ·exact .inl (.inr (.inr (.inr (.inr (.inr (.inr ⟨x,q,e⟩))))))
   ·subst q
    have hin:∀z:(k=R.t.l[i].q∨R.t.l[i].s.v.ownBlock=some k∨R.t.l[i].r.v.ownBlock=some k∨R.t.l[i].b.v.ownBlock=some k),Rown R p k:=fun z=>.inr (.inr (.inr (.inr (.inr (.inr ⟨_,hm,z⟩)))))
    rcases e with e | e | e | e
    ·exact .inl (hin (.inl (e.trans hq)))
    ·exact(h3 k e).imp (fun z=>hin (.inr (.inl z))) id
    ·exact(h1 k e).imp (fun z=>hin (.inr (.inr (.inl z)))) id
    ·exact(h2 k e).imp (fun z=>hin (.inr (.inr (.inr z)))) id

def Rf(X B:Nat)(W:World)(p:Nat)(P:Rs14)(G:Nat→Prop):Prop:=∃R,Rm X B W p R∧R.abs=P∧(∀k,G k↔Rown R p k)

def RfA(X B:Nat)(w:World)(p:Nat)(G:Nat→Prop)(P:Rs14)(w':World):Prop:=∃G',Rf X B w' p P G'∧(∀k,k<w.heap.size→G' k→G k)∧Kept G w w'

theorem Rf.kept{X B:Nat}{W W':World}{p:Nat}{P:Rs14}{G F:Nat→Prop}(h:Rf X B W p P G)(hk:Kept F W W')(hF:∀k,G k→¬F k):Rf X B W' p P G:=by
 obtain⟨R,h1,h2,h3⟩:=h
 exact⟨R,h1.kept hk (fun k e=>hF k ((h3 k).2 e)),h2,h3⟩

theorem Rf.same{X B:Nat}{W W':World}{p:Nat}{P:Rs14}{G:Nat→Prop}(h:Rf X B W p P G)(hk:Same W W'):Rf X B W' p P G:=h.kept hk (fun _ _ f=>f)

theorem Rf.lt{X B:Nat}{W:World}{p:Nat}{P:Rs14}{G:Nat→Prop}(h:Rf X B W p P G){k:Nat}(hk:G k):B≤k∧k<W.heap.size:=by
 obtain⟨R,h1,h2,h3⟩:=h
 exact h1.own ((h3 k).1 hk)

theorem RfA.of{X' B:Nat}{w w':World}{p:Nat}{P':Rs14}{G:Nat→Prop}{R R':Ri}(h3:∀k,G k↔Rown R p k)(h1':Rm X' B w' p R')(h2':R'.abs=P')(ho:∀k,Rown R' p k→Rown R p k∨w.heap.size≤k)(hk:Kept (Rown R p) w w'):RfA X' B w p G P' w':=
 ⟨fun k=>Rown R' p k,⟨R',h1',h2',fun _=>Iff.rfl⟩,fun k hlt e=>(h3 k).2 ((ho k e).resolve_right (by omega)),hk.mono (fun k _ e=>(h3 k).2 e)⟩

end Go.Proofs.YtcfociogljhbiaaGreatDoor

namespace Go.Proofs.YtcfociogljhbiaaGreatDoor
open Go.RowKit Go.Maps Go.Sort Go.Shelf Go.Lib

theorem Rm.cell1{X B:Nat}{W:World}{p:Nat}{R:Ri}(h:Rm X B W p R):W.cell? ⟨p,0,none⟩=some (.int .i64 R.first)∧W.cell? ⟨p,1,none⟩=some (.slice R.s.a R.s.n R.s.c)∧W.cell? ⟨p,2,none⟩=some (.slice R.w.a R.w.n R.w.c)∧W.cell? ⟨p,3,none⟩=some (.slice R.t.a R.t.n R.t.c)∧W.cell? ⟨p,4,none⟩=some (.int .i64 R.nx):=⟨h.blk.cell 0,h.blk.cell 1,h.blk.cell 2,h.blk.cell 3,h.blk.cell 4⟩

theorem Rm.state{X B:Nat}{W:World}{p:Nat}{R:Ri}(h:Rm X B W p R)(i:Nat)(hi:i<R.s.l.length):∃g,R.s.a=some ⟨g,0,none⟩∧W.cell? ⟨g,i,none⟩=some (.slice R.s.l[i].a R.s.l[i].n R.s.l[i].c):=row_at sqE_ok h.rs i hi

theorem Rm.txn{X B:Nat}{W:World}{p:Nat}{R:Ri}(h:Rm X B W p R)(i:Nat)(hi:i<R.t.l.length):∃g,R.t.a=some ⟨g,0,none⟩∧W.cell? ⟨g,i,none⟩=some (.pointer (some ⟨R.t.l[i].q,0,none⟩)):=row_at tiE_ok h.rt i hi

set_option maxRecDepth 100000 in
set_option maxHeartbeats 1000000 in
theorem rnow14{X B:Nat}{w:World}{p:Nat}{R:Ri}(h:Rm X B w p R)(hX:X≤100000)(hf:0≤R.first∧R.first≤1000000000):Calls Tryz.prog 56 #[.pointer (some ⟨p,0,none⟩)] w fun e w'=>e=.returned (.int .i64 (R.first+R.s.l.length-1))∧Same w w':=by
 obtain⟨k0,k1,_⟩:=h.cell1
 have hn:R.s.n=R.s.l.length:=row_len h.rs
 rw[hn]at k1
 obtain⟨n,hn2⟩:∃n,n=R.s.l.length:=⟨_,rfl⟩
 have HB:Hid (n≤100000∧0≤R.first∧R.first≤1000000000):=hid ⟨by have:=h.big;omega,hf⟩
 obtain⟨f,hf2⟩:∃f,f=R.first:=⟨_,rfl⟩
 obtain⟨sa,hsa⟩:∃f,f=R.s.a:=⟨_,rfl⟩
 obtain⟨sc,hsc⟩:∃f,f=R.s.c:=⟨_,rfl⟩
 rw[←hn2,←hsa,←hsc]at k1
 rw[←hf2]at k0 HB ⊢
 rw[←hn2]
 have i1:IntKind.i64.wrap (f+(n:Int))=f+(n:Int):=by rw[IntKind.wrap_i64];have:=HB.out;omega
 have i2:IntKind.i64.wrap (f+(n:Int)-1)=f+(n:Int)-1:=by rw[IntKind.wrap_i64];have:=HB.out;omega
 clear h hn hn2 hf hf2 hsa hsc
 go_enter Tryz.func56,Tryz.ntmps56
 go_wp2_with fail
 go_quiet (fail)
 go_wp2_with fail
 go_ret
 exact⟨rfl,(Kept.refl _ _).drewN _⟩

set_option maxRecDepth 100000 in
set_option maxHeartbeats 1000000 in
theorem rstate14{X B:Nat}{w:World}{p:Nat}{R:Ri}(h:Rm X B w p R)(hX:X≤100000)(m:Nat)(hm:R.s.l.length=m+1):Calls Tryz.prog 53 #[.pointer (some ⟨p,0,none⟩)] w fun e w'=>e=.returned (R.s.l[m]'(by omega)).v∧Same w w':=by
 obtain⟨_,k1,_⟩:=h.cell1
 have hn:R.s.n=R.s.l.length:=row_len h.rs
 obtain⟨g,hg,k2⟩:=h.state m (by omega)
 rw[hn,hm,hg]at k1
 have HB:Hid (m≤100000):=hid (by have:=h.big;omega)
 obtain⟨x,hx⟩:∃x,x=R.s.l[m]'(by omega):=⟨_,rfl⟩
 rw[←hx]at k2
 have hxv:(R.s.l[m]'(by omega)).v=.slice x.a x.n x.c:=by rw[hx];rfl
 rw[hxv]
 obtain⟨sc,hsc⟩:∃f,f=R.s.c:=⟨_,rfl⟩
 rw[←hsc]at k1
 have i0:((m+1:Nat):Int)-1=(m:Int):=by omega
 have i1:IntKind.i64.wrap (m:Int)=(m:Int):=by rw[IntKind.wrap_i64];have:=HB.out;omega
 have i2:(m:Int)<((m+1:Nat):Int):=by omega
 have i3:(m:Int)+1-1=(m:Int):=by omega
 have i4:(m:Int)<(m:Int)+1:=by omega
 clear h hn hm hg hx hxv hsc
 go_enter Tryz.func53,Tryz.ntmps53
 go_wp2_with fail
 go_quiet (fail)
 go_wp2_with fail
 go_ret
 exact⟨rfl,(Kept.refl _ _).drewN _⟩

def atI(l:List Ti)(n:Int):Int:=match l.findIdx? (fun t=>decide (t.num=n))with | some i=>(i:Nat) | none=>-1

theorem atI_none{l:List Ti}{n:Int}(h:∀x∈l,x.num≠n):atI l n=-1:=by
 unfold atI
 have:l.findIdx? (fun t=>decide (t.num=n))=none:=by
  rw[List.findIdx?_eq_none_iff]
  intro x hx
  exact decide_eq_false (h x hx)
 rw[this]

theorem atI_some{l:List Ti}{n:Int}{i:Nat}(hi:i<l.length)(h:l[i].num=n)(h1:∀j (hj:j<l.length),l[j].num=n→j=i):atI l n=(i:Nat):=by
 unfold atI
 have:l.findIdx? (fun t=>decide (t.num=n))=some i:=by
  rw[List.findIdx?_eq_some_iff_getElem]
  exact⟨hi,decide_eq_true h,fun j hj=>by
   intro q
   have:=h1 j (by omega) (by simpa using q)
   omega⟩
 rw[this]

set_option maxRecDepth 100000 in
set_option maxHeartbeats 1000000 in
theorem rat14{X B:Nat}{w:World}{p:Nat}{R:Ri}(h:Rm X B w p R)(num:Int):Calls Tryz.prog 88 #[.pointer (some ⟨p,0,none⟩),.int .i64 num] w fun e w'=>e=.returned (.int .i64 (atI R.t.l num))∧w'=w:=by
 obtain⟨_,_,_,k3,_⟩:=h.cell1
 have hn:R.t.n=R.t.l.length:=row_len h.rt
 have HT:Hid (∀i (hi:i<R.t.l.length),(∃g,R.t.a=some ⟨g,0,none⟩∧w.cell? ⟨g,i,none⟩=some (.pointer (some ⟨R.t.l[i].q,0,none⟩)))∧w.cell? ⟨R.t.l[i].q,0,none⟩=some (.int .i64 R.t.l[i].num)):=hid (fun i hi=>⟨h.txn i hi,(h.ti _ (List.getElem_mem hi)).blk.cell 0⟩)
 obtain⟨n,hn2⟩:∃n,n=R.t.n:=⟨_,rfl⟩
 have HN:Hid (n=R.t.l.length∧n≤256):=hid ⟨by omega,by have:=h.big;omega⟩
 obtain⟨ta,hta⟩:∃f,f=R.t.a:=⟨_,rfl⟩
 obtain⟨tc,htc⟩:∃f,f=R.t.c:=⟨_,rfl⟩
 obtain⟨l,hl⟩:∃l,l=R.t.l:=⟨_,rfl⟩
 rw[←hn2,←hta,←htc]at k3
 rw[←hl]at HN ⊢
 rw[←hta]at HT
 subst hl
 clear h hn hn2 hta htc
 go_enter Tryz.func88,Tryz.ntmps88
 go_wp2_with fail
 go_loopg [5] n (fun q z wr=>wr=w∧∃i:Nat,z=.int .i64 (i:Nat)∧i≤n∧n-i≤q∧Hid (∀j (hj:j<R.t.l.length),j<i→R.t.l[j].num≠num))
 case atStart=>exact⟨rfl,0,rfl,by omega,by omega,hid (fun j hj h=>by omega)⟩
 case round=>
  obtain⟨rfl,i,rfl,hi,hiq,HI⟩:=hrel
  by_cases hlt:i<n
  ·have f1:decide ((i:Int)<(n:Int))=true:=by simp;omega
   have f2:decide (i<n)=true:=by simp;omega
   have hix:i<R.t.l.length:=by rw[←HN.out.1];exact hlt
   obtain⟨⟨g,hg,c1⟩,c2⟩:=HT.out i hix
   subst hg
   obtain⟨x,hx⟩:∃x,x=R.t.l[i]:=⟨_,rfl⟩
   rw[←hx]at c1 c2
   have i1:(0:Int)≤(i:Int):=by omega
   have i2:(i:Int)<(n:Int):=by omega
   have hiw:IntKind.i64.wrap ((i:Int)+1)=((i+1:Nat):Int):=by rw[IntKind.wrap_i64];have:=HN.out;omega
   have HLT:=hid hlt
   have HXI:Hid (x=R.t.l[i]'hix):=hid hx
   clear hlt hx
   by_cases he:x.num=num
   ·have s1:(x.num==num)=true:=by simpa using he
    have HF:Hid (atI R.t.l num=(i:Nat)):=hid (by
     unfold atI
     have:R.t.l.findIdx? (fun t=>decide (t.num=num))=some i:=by
      rw[List.findIdx?_eq_some_iff_getElem]
      exact⟨hix,by rw[←HXI.out];exact decide_eq_true he,fun j hj=>by simpa using HI.out j (by omega) hj⟩
     rw[this])
    clear he
    go_wp2_with fail
    go_ret
    exact⟨by rw[HF.out];rfl,rfl⟩
   ·have s1:(x.num==num)=false:=by simpa using he
    have HNE:Hid (x.num≠num):=hid he
    clear he
    go_wp2_with fail
    go_roundg (gk-1)
    case measure=>have:=HLT.out;omega
    case rel=>exact⟨rfl,i+1,by go_num,HLT.out,by omega,hid (fun j hj h=>by
     by_cases hji:j<i
     ·exact HI.out j hj hji
     ·obtain rfl:j=i:=by omega
      have:=HNE.out
      rwa [HXI.out]at this)⟩
  ·have f1:decide ((i:Int)<(n:Int))=false:=by simp;omega
   have f2:decide (i<n)=false:=by simp;omega
   have HZ:Hid (atI R.t.l num=-1):=hid (atI_none (fun x hx=>by
    obtain⟨j,hj,rfl⟩:=List.getElem_of_mem hx
    exact HI.out j hj (by have:=HN.out;omega)))
   clear hlt
   go_wp2_with fail
   go_ret
   exact⟨by rw[HZ.out];rfl,rfl⟩

def ownL(l:List Wr)(k:Ke):Int:=match l.findIdx? (fun x=>decide (keO x=k))with | some i=>(i:Nat) | none=>-1

theorem ownL_neg(l:List Wr)(k:Ke):ownL l k<0↔∀x∈l,keO x≠k:=by
 unfold ownL
 cases h:l.findIdx? (fun x=>decide (keO x=k)) with
 | none=>
  rw[List.findIdx?_eq_none_iff]at h
  simp only
  constructor
  ·intro _ x hx
   simpa using h x hx
  ·intro _
   decide
 | some i=>
  rw[List.findIdx?_eq_some_iff_getElem]at h
  obtain⟨hi,h1,_⟩:=h
  simp only
  constructor
  ·intro q;omega
  ·intro q
   exact absurd (by simpa using h1) (q _ (List.getElem_mem hi))

set_option maxRecDepth 100000 in
set_option maxHeartbeats 1000000 in
theorem rown14{X B:Nat}{w:World}{x:Ti}(h:RmT X B w x)(hX:X≤1000000)(k:Ke):Calls Tryz.prog 83 #[.pointer (some ⟨x.q,0,none⟩),.agg #[.string k.1.tn,.string k.1.ar,.string k.2.s]] w fun e w'=>e=.returned (.int .i64 (ownL x.s.l k))∧Same w w':=by
 have hn:x.s.n=x.s.l.length:=row_len h.s
 have HR:Hid (∀w',Same w w'→RowC B 65 5 wrE w' (.slice x.s.a x.s.n x.s.c) x.s.l∧w'.cell? ⟨x.q,3,none⟩=some (.slice x.s.a x.s.n x.s.c)):=hid (fun w' hk=>⟨h.s.kept hk (fun _ _ f=>f),(h.blk.kept hk (fun f=>f)).cell 3⟩)
 obtain⟨n,hn2⟩:∃n,n=x.s.n:=⟨_,rfl⟩
 have HN:Hid (n=x.s.l.length∧n≤1000000):=hid ⟨by omega,by have:=h.big;omega⟩
 obtain⟨a,ha⟩:∃f,f=x.s.a:=⟨_,rfl⟩
 obtain⟨c,hc⟩:∃f,f=x.s.c:=⟨_,rfl⟩
 obtain⟨es,hes⟩:∃l,l=x.s.l:=⟨_,rfl⟩
 obtain⟨xq,hxq⟩:∃l,l=x.q:=⟨_,rfl⟩
 rw[←hn2,←ha,←hc,←hes,←hxq]at HR
 rw[←hes]at HN ⊢
 rw[←hxq]
 clear h hn hn2 ha hc hes hxq hX
 go_enter Tryz.func83,Tryz.ntmps83
 go_wp2_with fail
 obtain⟨w1,hw1⟩:∃W,W=w.alloc (.cells #[.string k.1.tn,.string k.1.ar,.string k.2.s] 63):=⟨_,rfl⟩
 obtain⟨g,hg⟩:∃g,g=w.heap.size:=⟨_,rfl⟩
 have HB1:Hid (Blk w1 g #[.string k.1.tn,.string k.1.ar,.string k.2.s] 63∧Same w w1):=hid (by rw[hw1,hg];exact⟨Blk.new w _ _,(Kept.refl _ _).alloc _⟩)
 try rw[←hw1]
 try rw[←hg]
 clear hw1 hg
 go_loopg [5] n (fun q z wr=>∃i:Nat,z=.int .i64 (i:Nat)∧i≤n∧n-i≤q∧Hid ((∀j (hj:j<es.length),j<i→keO es[j]≠k)∧Same w1 wr))
 case atStart=>exact⟨0,rfl,by omega,by omega,hid ⟨fun j hj h=>by omega,Kept.refl _ _⟩⟩
 case round=>
  obtain⟨i,rfl,hi,hiq,HI⟩:=hrel
  obtain⟨hrr,k3⟩:=HR.out wr (HB1.out.2.trans HI.out.2)
  by_cases hlt:i<n
  ·have f1:decide ((i:Int)<(n:Int))=true:=by simp;omega
   have f2:decide (i<n)=true:=by simp;omega
   have hix:i<es.length:=by rw[←HN.out.1];exact hlt
   obtain⟨b,rfl,r0,r1,r2⟩:∃g,a=some ⟨g,0,none⟩∧wr.cell? ⟨g,i*5,none⟩=some (.string es[i].b.tn)∧wr.cell? ⟨g,i*5+1,none⟩=some (.string es[i].b.ar)∧wr.cell? ⟨g,i*5+2,none⟩=some (.string es[i].n.s):=by
    obtain⟨ao,cp,e,hag,_⟩:=hrr.shape
    obtain⟨g,rfl⟩:=hag (by rintro rfl;simp at hix)
    injection e with e1 _ _
    subst e1
    exact⟨g,rfl,RowC.cell wrE_ok hrr i 0 hix (by decide),RowC.cell wrE_ok hrr i 1 hix (by decide),RowC.cell wrE_ok hrr i 2 hix (by decide)⟩
   obtain⟨y,hy⟩:∃x,x=es[i]:=⟨_,rfl⟩
   rw[←hy]at r0 r1 r2
   have q0:wr.cell? ⟨g,0,none⟩=some (.string k.1.tn):=(HB1.out.1.kept HI.out.2 (fun f=>f)).cell 0
   have q1:wr.cell? ⟨g,1,none⟩=some (.string k.1.ar):=(HB1.out.1.kept HI.out.2 (fun f=>f)).cell 1
   have q2:wr.cell? ⟨g,2,none⟩=some (.string k.2.s):=(HB1.out.1.kept HI.out.2 (fun f=>f)).cell 2
   have c1:(0:Int)≤(i:Int):=by omega
   have c2:(i:Int)<(n:Int):=by omega
   have s1:=streq14 y.b.tn k.1.tn
   have s2:=streq14 y.b.ar k.1.ar
   have s3:=streq14 y.n.s k.2.s
   obtain⟨d1,e1⟩:∃q,q=decide (y.b.tn=k.1.tn):=⟨_,rfl⟩
   obtain⟨d2,e2⟩:∃q,q=decide (y.b.ar=k.1.ar):=⟨_,rfl⟩
   obtain⟨d3,e3⟩:∃q,q=decide (y.n.s=k.2.s):=⟨_,rfl⟩
   have HEQ:Hid ((d1 && d2 && d3)=decide (keO y=k)):=hid (by
    rw[e1,e2,e3,←Bool.decide_and,←Bool.decide_and]
    exact decide_eq_decide.2 ⟨fun e=>Prod.ext (Bx.ext' e.1.1 e.1.2) (Nm.ext' e.2),fun e=>by rw[←e];exact⟨⟨rfl,rfl⟩,rfl⟩⟩)
   rw[←e1]at s1
   rw[←e2]at s2
   rw[←e3]at s3
   have HLT:=hid hlt
   have hiw:IntKind.i64.wrap ((i:Int)+1)=((i+1:Nat):Int):=by rw[IntKind.wrap_i64];have:=HN.out;omega
   have HXI:Hid (y=es[i]):=hid hy
   have HIX:=hid hix
   clear hlt hy e1 e2 e3 hrr
   cases d1<;>cases d2<;>cases d3
   case true.true.true=>
    have HE:Hid (keO y=k):=hid (of_decide_eq_true HEQ.out.symm)
    go_wp2_with fail
    go_quiet (fail)
    go_wp2_with fail
    go_ret
    refine⟨?_,HB1.out.2.trans (HI.out.2.trans (by first | exact(Kept.refl _ _).drewN _ | exact Kept.refl _ _))⟩
    have hf:ownL es k=(i:Int):=by
     unfold ownL
     have:es.findIdx? (fun x=>decide (keO x=k))=some i:=by
      rw[List.findIdx?_eq_some_iff_getElem]
      exact⟨HIX.out,by rw[←HXI.out];exact decide_eq_true HE.out,fun j hj=>by simpa using HI.out.1 j (by have:=HIX.out;omega) hj⟩
     rw[this]
    rw[hf]
    rfl
   all_goals
    have HNE:Hid (keO y≠k):=hid (of_decide_eq_false HEQ.out.symm)
    go_wp2_with fail
    go_quiet (fail)
    go_wp2_with fail
    go_roundg (gk-1)
    case measure=>have:=HLT.out;omega
    case rel=>exact⟨i+1,by go_num,HLT.out,by omega,hid ⟨fun j hj h=>by
     by_cases hji:j<i
     ·exact HI.out.1 j hj hji
     ·obtain rfl:j=i:=by omega
      have:=HNE.out
      rwa [HXI.out]at this,HI.out.2.trans (by first | exact(Kept.refl _ _).drewN _ | exact Kept.refl _ _)⟩⟩
  ·have f1:decide ((i:Int)<(n:Int))=false:=by simp;omega
   have f2:decide (i<n)=false:=by simp;omega
   have HZ:Hid (ownL es k=-1):=hid (by
    unfold ownL
    have:es.findIdx? (fun x=>decide (keO x=k))=none:=by
     rw[List.findIdx?_eq_none_iff]
     intro x hx
     obtain⟨j,hj,rfl⟩:=List.getElem_of_mem hx
     exact decide_eq_false (HI.out.1 j hj (by have:=HN.out;omega))
    rw[this])
   clear hlt hrr
   go_wp2_with fail
   go_ret
   exact⟨by rw[HZ.out];rfl,HB1.out.2.trans HI.out.2⟩

set_option maxRecDepth 100000 in
set_option maxHeartbeats 2000000 in
theorem rsees14{X B:Nat}{w:World}{p:Nat}{R:Ri}(h:Rm X B w p R)(hX:X≤100000)(hB:B≤w.heap.size){x:Ti}(hxm:x∈R.t.l){y:Sq Et}(hym:R.s.l[x.snap]? = some y):Calls Tryz.prog 84 #[.pointer (some ⟨p,0,none⟩),.pointer (some ⟨x.q,0,none⟩)] w fun e w'=>∃v,e=.returned v∧RowC B 150 4 etE w' v (allL x.s.l y.l)∧Same w w':=by
 have hti:=h.ti _ hxm
 obtain⟨_,k1,_⟩:=h.cell1
 obtain⟨hs,hy⟩:=List.getElem?_eq_some_iff.1 hym
 obtain⟨g,hg,k2'⟩:=h.state _ hs
 rw[hy]at k2'
 have t1:w.cell? ⟨x.q,1,none⟩=some (.int .i64 (x.snap:Nat)):=hti.blk.cell 1
 have t3:w.cell? ⟨x.q,3,none⟩=some (.slice x.s.a x.s.n x.s.c):=hti.blk.cell 3
 have hn:R.s.n=R.s.l.length:=row_len h.rs
 have hri':RowC B 150 4 etE w (.slice y.a y.n y.c) y.l:=by have:=h.ri _ (List.getElem_mem hs);rw[hy]at this;exact this
 have hyl:y.l.length≤X:=by have:=h.big.2.2.2.1 _ (List.getElem_mem hs);rw[hy]at this;exact this
 rw[hg]at k1
 have HC:Hid (∀w',Same w w'→Calls Tryz.prog 90 #[.slice y.a y.n y.c,.slice x.s.a x.s.n x.s.c] w' fun e w2=>∃v,e=.returned v∧RowC B 150 4 etE w2 v (allL x.s.l y.l)∧Same w' w2):=hid (fun w' hk=>rall14 w' B y.a y.n y.c y.l (hri'.kept hk (fun _ _ f=>f)) (Nat.le_trans hB hk.size) x.s.a x.s.n x.s.c x.s.l ((SrcC.ofRow wrE_ok (hti.s.kept hk (fun _ _ f=>f))).mono (fun j e=>(hti.s.kept hk (fun _ _ f=>f)).lt e)) (by have:=hti.big;omega))
 obtain⟨xq,hxq⟩:∃l,l=x.q:=⟨_,rfl⟩
 obtain⟨sn,hsn⟩:∃l,l=x.snap:=⟨_,rfl⟩
 obtain⟨ya,hya⟩:∃l,l=y.a:=⟨_,rfl⟩
 obtain⟨yn,hyn⟩:∃l,l=y.n:=⟨_,rfl⟩
 obtain⟨yc,hyc⟩:∃l,l=y.c:=⟨_,rfl⟩
 obtain⟨za,hza⟩:∃l,l=x.s.a:=⟨_,rfl⟩
 obtain⟨zn,hzn⟩:∃l,l=x.s.n:=⟨_,rfl⟩
 obtain⟨zc,hzc⟩:∃l,l=x.s.c:=⟨_,rfl⟩
 obtain⟨sl,hsl⟩:∃l,l=R.s.n:=⟨_,rfl⟩
 obtain⟨sc,hsc⟩:∃l,l=R.s.c:=⟨_,rfl⟩
 have i1:(0:Int)≤(sn:Int):=by omega
 have i2:(sn:Int)<(sl:Int):=by omega
 rw[←hxq,←hsn]at t1
 rw[←hxq,←hza,←hzn,←hzc]at t3
 rw[←hsn,←hya,←hyn,←hyc]at k2'
 rw[←hya,←hyn,←hyc,←hza,←hzn,←hzc]at HC
 rw[←hsl,←hsc]at k1
 rw[←hxq]
 clear h hti hn hri' hyl hX hB hg hs hy hym hxm hxq hsn hya hyn hyc hza hzn hzc hsl hsc
 go_enter Tryz.func84,Tryz.ntmps84
 go_wp2_with fail
 go_region_held3 (fun w'=>w'.cell? ⟨p,1,none⟩=some (.slice (some ⟨g,0,none⟩) sl sc)∧w'.cell? ⟨xq,1,none⟩=some (.int .i64 (sn:Nat))∧w'.cell? ⟨xq,3,none⟩=some (.slice za zn zc)∧w'.cell? ⟨g,sn,none⟩=some (.slice ya yn yc))
  (first
   | (go_split_ands;exact⟨hkc.cell (by assumption) (fun f=>f),hkc.cell (by assumption) (fun f=>f),hkc.cell (by assumption) (fun f=>f),hkc.cell (by assumption) (fun f=>f)⟩)
   | go_keep)
  (first
   | (go_at_call 90;refine(HC.out _ (by first | exact Kept.refl _ _ | exact(Kept.refl _ _).drew)).mono ?_;rintro e wk ⟨vv,rfl,hrv,hkc⟩;have HRV:=hid hrv;clear hrv;have HKK:Hid (Same w wk):=hid (by first | exact Kept.undrewC hkc | exact hkc)))
 go_wp2_with fail
 go_ret
 exact⟨_,rfl,HRV.out,HKK.out⟩

end Go.Proofs.YtcfociogljhbiaaGreatDoor

namespace Go.Proofs.YtcfociogljhbiaaGreatDoor
open Go.RowKit Go.Maps Go.Sort Go.Shelf Go.Lib

def namR(ls:Bool)(ar en:ByteArray):Bool:=sho ar && (ls || nam8 (sb en))

set_option maxRecDepth 100000 in
set_option maxHeartbeats 1000000 in
theorem ropen_none{X B:Nat}{w:World}{p:Nat}{R:Ri}(h:Rm X B w p R)(num:Int)(hno:∀x∈R.t.l,x.num≠num)(ar en:ByteArray)(ls:Bool):Calls Tryz.prog 82 #[.pointer (some ⟨p,0,none⟩),.int .i64 num,.string ar,.string en,.bool ls] w fun e w'=>e=.returned (.tuple #[.pointer none,.int .i64 140])∧Same w w':=by
 have HA:=rat14 h num
 rw[atI_none hno]at HA
 clear h hno
 go_enter Tryz.func82,Tryz.ntmps82
 go_wp2_with fail
 refine HA.mono ?_
 rintro e w1 ⟨rfl,rfl⟩
 go_wp2_with fail
 go_ret2
 exact⟨rfl,Kept.refl _ _⟩

set_option maxRecDepth 100000 in
set_option maxHeartbeats 1000000 in
theorem ropen_bad{X B:Nat}{w:World}{p:Nat}{R:Ri}(h:Rm X B w p R)(num:Int){i:Nat}(hi:i<R.t.l.length)(he:R.t.l[i].num=num)(h1:∀j (hj:j<R.t.l.length),R.t.l[j].num=num→j=i)(ar en:ByteArray)(ls:Bool)(hn:namR ls ar en=false):Calls Tryz.prog 82 #[.pointer (some ⟨p,0,none⟩),.int .i64 num,.string ar,.string en,.bool ls] w fun e w'=>e=.returned (.tuple #[.pointer none,.int .i64 143])∧Same w w':=by
 have HA:=rat14 h num
 rw[atI_some hi he h1]at HA
 have c1:decide ((i:Int)<0)=false:=decide_eq_false (by omega)
 have HS:=short14r_any w ar
 clear h he h1 hi
 go_enter Tryz.func82,Tryz.ntmps82
 go_wp2_with fail
 refine HA.mono ?_
 rintro e w1 ⟨rfl,rfl⟩
 go_wp2_with fail
 refine HS.mono ?_
 rintro e w2 ⟨rfl,hk2⟩
 have HK2:=hid hk2
 have HN:=rname14 w2 en
 clear HA HS hk2
 unfold namR at hn
 cases hs:sho ar with
 | false=>
  clear hn hs
  go_wp2_with fail
  go_ret2
  exact⟨rfl,HK2.out⟩
 | true=>
  rw[hs,Bool.true_and,Bool.or_eq_false_iff]at hn
  obtain⟨rfl,hn⟩:=hn
  rw[hn]at HN
  clear hs hn
  go_wp2_with fail
  refine HN.mono ?_
  rintro e w3 ⟨rfl,rfl⟩
  go_wp2_with fail
  go_ret2
  exact⟨rfl,HK2.out⟩

set_option maxRecDepth 100000 in
set_option maxHeartbeats 1000000 in
theorem ropen_good{X B:Nat}{w:World}{p:Nat}{R:Ri}(h:Rm X B w p R)(num:Int){i:Nat}(hi:i<R.t.l.length)(he:R.t.l[i].num=num)(h1:∀j (hj:j<R.t.l.length),R.t.l[j].num=num→j=i)(ar en:ByteArray)(ls:Bool)(hn:namR ls ar en=true):Calls Tryz.prog 82 #[.pointer (some ⟨p,0,none⟩),.int .i64 num,.string ar,.string en,.bool ls] w fun e w'=>e=.returned (.tuple #[.pointer (some ⟨R.t.l[i].q,0,none⟩),.int .i64 0])∧Same w w':=by
 have HA:=rat14 h num
 rw[atI_some hi he h1]at HA
 have c1:decide ((i:Int)<0)=false:=decide_eq_false (by omega)
 have HS:=short14r_any w ar
 have hl:R.t.n=R.t.l.length:=row_len h.rt
 have HC:Hid (∀w',Same w w'→w'.cell? ⟨p,3,none⟩=some (.slice R.t.a R.t.n R.t.c)∧∃g,R.t.a=some ⟨g,0,none⟩∧w'.cell? ⟨g,i,none⟩=some (.pointer (some ⟨R.t.l[i].q,0,none⟩))):=hid (fun w' hk=>⟨(h.same hk).cell1.2.2.2.1,(h.same hk).txn i hi⟩)
 obtain⟨q,hq⟩:∃q,q=R.t.l[i].q:=⟨_,rfl⟩
 obtain⟨ta,hta⟩:∃q,q=R.t.a:=⟨_,rfl⟩
 obtain⟨tn,htn⟩:∃q,q=R.t.n:=⟨_,rfl⟩
 obtain⟨tc,htc⟩:∃q,q=R.t.c:=⟨_,rfl⟩
 rw[←hq,←hta,←htn,←htc]at HC
 rw[←hq]
 have i1:(0:Int)≤(i:Int):=by omega
 have i2:(i:Int)<(tn:Int):=by omega
 clear h he h1 hi hq hl hta htn htc
 go_enter Tryz.func82,Tryz.ntmps82
 go_wp2_with fail
 refine HA.mono ?_
 rintro e w1 ⟨rfl,rfl⟩
 go_wp2_with fail
 refine HS.mono ?_
 rintro e w2 ⟨rfl,hk2⟩
 have HK2:=hid hk2
 have HN:=rname14 w2 en
 obtain⟨k3,g,rfl,k4⟩:=HC.out w2 hk2
 clear HA HS hk2
 unfold namR at hn
 rw[Bool.and_eq_true]at hn
 obtain⟨hs,hn⟩:=hn
 rw[hs]
 clear hs
 cases ls with
 | true=>
  clear hn
  go_wp2_with fail
  go_ret2
  exact⟨rfl,HK2.out⟩
 | false=>
  have hn:nam8 (sb en)=true:=by simpa using hn
  rw[hn]at HN
  clear hn
  go_wp2_with fail
  refine HN.mono ?_
  rintro e w3 ⟨rfl,rfl⟩
  go_wp2_with fail
  go_ret2
  exact⟨rfl,HK2.out⟩

set_option maxRecDepth 100000 in
set_option maxHeartbeats 1000000 in
theorem rowner_none{X B:Nat}{w:World}{p:Nat}{R:Ri}(h:Rm X B w p R)(num:Int)(hno:∀x∈R.t.l,x.num≠num):Calls Tryz.prog 50 #[.pointer (some ⟨p,0,none⟩),.int .i64 num] w fun e w'=>e=.returned (.tuple #[.string ⟨#[]⟩,.int .i64 140])∧w'=w:=by
 have HA:=rat14 h num
 rw[atI_none hno]at HA
 clear h hno
 go_enter Tryz.func50,Tryz.ntmps50
 go_wp2_with fail
 refine HA.mono ?_
 rintro e w1 ⟨rfl,rfl⟩
 go_wp2_with fail
 go_ret2
 exact⟨rfl,rfl⟩

set_option maxRecDepth 100000 in
set_option maxHeartbeats 1000000 in
theorem rowner_some{X B:Nat}{w:World}{p:Nat}{R:Ri}(h:Rm X B w p R)(num:Int){i:Nat}(hi:i<R.t.l.length)(he:R.t.l[i].num=num)(h1:∀j (hj:j<R.t.l.length),R.t.l[j].num=num→j=i):Calls Tryz.prog 50 #[.pointer (some ⟨p,0,none⟩),.int .i64 num] w fun e w'=>e=.returned (.tuple #[.string R.t.l[i].tn.s,.int .i64 0])∧w'=w:=by
 have HA:=rat14 h num
 rw[atI_some hi he h1]at HA
 have c1:decide ((i:Int)<0)=false:=decide_eq_false (by omega)
 have hl:R.t.n=R.t.l.length:=row_len h.rt
 have k3:=h.cell1.2.2.2.1
 obtain⟨g,hg,k4⟩:=h.txn i hi
 have k5:w.cell? ⟨R.t.l[i].q,2,none⟩=some (.string R.t.l[i].tn.s):=(h.ti _ (List.getElem_mem hi)).blk.cell 2
 rw[hg]at k3
 obtain⟨x,hx⟩:∃q,q=R.t.l[i]:=⟨_,rfl⟩
 rw[←hx]at k4 k5 ⊢
 obtain⟨tn,htn⟩:∃q,q=R.t.n:=⟨_,rfl⟩
 obtain⟨tc,htc⟩:∃q,q=R.t.c:=⟨_,rfl⟩
 rw[←htn,←htc]at k3
 have i1:(0:Int)≤(i:Int):=by omega
 have i2:(i:Int)<(tn:Int):=by omega
 clear h he h1 hi hl hg hx htn htc
 go_enter Tryz.func50,Tryz.ntmps50
 go_wp2_with fail
 refine HA.mono ?_
 rintro e w1 ⟨rfl,rfl⟩
 go_wp2_with fail
 go_ret2
 exact⟨rfl,rfl⟩

def intE(z:Int):Value:=.int .i64 z
theorem intE_one(l:List Int):∀u∈l.map intE,u.oneCell'=true:=by
 intro u hu
 obtain⟨x,_,rfl⟩:=List.mem_map.1 hu
 rfl
theorem Tryz.infoInt14:(Tryz.prog.info? 3).map (fun i=>(i.zero,i.size,i.bytes))=some (some (.int .i64 0),1,8):=by kernel_rfl

set_option maxRecDepth 100000 in
set_option maxHeartbeats 1000000 in
theorem ropens14{X B:Nat}{w:World}{p:Nat}{R:Ri}(h:Rm X B w p R):Calls Tryz.prog 52 #[.pointer (some ⟨p,0,none⟩)] w fun e w'=>∃v,e=.returned v∧RowE w.heap.size 3 intE w' v (R.t.l.map (·.num))∧Same w w':=by
 have hn:R.t.n=R.t.l.length:=row_len h.rt
 have HT:Hid (∀w',Same w w'→w'.cell? ⟨p,3,none⟩=some (.slice R.t.a R.t.n R.t.c)∧∀i (hi:i<R.t.l.length),(∃g,R.t.a=some ⟨g,0,none⟩∧w'.cell? ⟨g,i,none⟩=some (.pointer (some ⟨R.t.l[i].q,0,none⟩)))∧w'.cell? ⟨R.t.l[i].q,0,none⟩=some (.int .i64 R.t.l[i].num)):=hid (fun w' hk=>⟨(h.same hk).cell1.2.2.2.1,fun i hi=>⟨(h.same hk).txn i hi,((h.same hk).ti _ (List.getElem_mem hi)).blk.cell 0⟩⟩)
 obtain⟨n,hn2⟩:∃n,n=R.t.n:=⟨_,rfl⟩
 have HN:Hid (n=R.t.l.length∧n≤256):=hid ⟨by omega,by have:=h.big;omega⟩
 obtain⟨ta,hta⟩:∃f,f=R.t.a:=⟨_,rfl⟩
 obtain⟨tc,htc⟩:∃f,f=R.t.c:=⟨_,rfl⟩
 rw[←hn2,←hta,←htc]at HT
 clear h hn hn2 hta htc
 go_enter Tryz.func52,Tryz.ntmps52
 go_wp2_with fail
 go_loopg [3,4] n (fun q z3 z4 wr=>∃(i:Nat) (a5:Option Addr) (m5 q5:Nat),z3=.slice a5 m5 q5∧z4=.int .i64 (i:Nat)∧i≤n∧n-i≤q∧Hid (RowE w.heap.size 3 intE wr (.slice a5 m5 q5) ((R.t.l.map (·.num)).take i)∧Same w wr))
 case atStart=>exact⟨0,none,0,0,rfl,rfl,by omega,by omega,hid ⟨RowE.nil,Kept.refl _ _⟩⟩
 case round=>
  obtain⟨i,a5,m5,q5,rfl,rfl,hi,hiq,HI⟩:=hrel
  obtain⟨k3,HTR⟩:=HT.out wr HI.out.2
  by_cases hlt:i<n
  ·have f1:decide ((i:Int)<(n:Int))=true:=by simp;omega
   have f2:decide (i<n)=true:=by simp;omega
   have hix:i<R.t.l.length:=by rw[←HN.out.1];exact hlt
   obtain⟨⟨g,hg,c1⟩,c2⟩:=HTR i hix
   subst hg
   obtain⟨x,hx⟩:∃x,x=R.t.l[i]:=⟨_,rfl⟩
   rw[←hx]at c1 c2
   have HTK:Hid ((R.t.l.map (·.num)).take (i+1)=(R.t.l.map (·.num)).take i++[x.num]):=hid (by rw[List.take_succ_eq_append_getElem (by rw[List.length_map];exact hix),List.getElem_map,←hx])
   have HLL:Hid (((R.t.l.map (·.num)).take i).length≤256∧w.heap.size≤wr.heap.size):=hid ⟨by rw[List.length_take];have:=HN.out;omega,HI.out.2.size⟩
   have i1:(0:Int)≤(i:Int):=by omega
   have i2:(i:Int)<(n:Int):=by omega
   have hiw:IntKind.i64.wrap ((i:Int)+1)=((i+1:Nat):Int):=by rw[IntKind.wrap_i64];have:=HN.out;omega
   have HLT:=hid hlt
   clear hlt hx hix HTR
   go_wp2_with (at_builtin;refine wpList_append_e _ intE intE_one w.heap.size 75 3 (.int .i64 0) 8 Tryz.underlying75 Tryz.infoInt14 rfl (by decide) rfl (.tmp 14) (.tmp 25) rfl (.slice a5 m5 q5) ((R.t.l.map (·.num)).take i) rfl (HI.out.1.kept (show Same wr _ from(Kept.refl _ _).alloc _) (fun _ _ f=>f)) ⟨wr.heap.size,0,none⟩ 1 1 [x.num] rfl rfl (cellsAt_new _ _ _) (by have:=HLL.out;simp only[List.length_singleton];omega) (by have:=HLL.out.2;simp;omega) ?_)
   intro v7 w7 hr7 hg7
   have H7:Hid (RowE w.heap.size 3 intE w7 v7 ((R.t.l.map (·.num)).take (i+1))∧Same w w7):=hid ⟨by rw[HTK.out];exact hr7,Kept.grown (Same.trans HI.out.2 ((Kept.refl _ wr).alloc _)) hg7 (fun k e=>.inr (RowE.ge HI.out.1 e))⟩
   obtain⟨a7,c7,hv7,_⟩:=hr7.shape
   obtain⟨l7,hl7⟩:∃n,n=((R.t.l.map (·.num)).take i++[x.num]).length:=⟨_,rfl⟩
   rw[←hl7]at hv7
   subst hv7
   clear hr7 hg7 hl7 k3 c1 c2
   go_wp2_with fail
   go_roundg (gk-1)
   case measure=>have:=HLT.out;omega
   case rel=>exact⟨i+1,_,_,_,rfl,by go_num,HLT.out,by omega,H7⟩
  ·have f1:decide ((i:Int)<(n:Int))=false:=by simp;omega
   have f2:decide (i<n)=false:=by simp;omega
   have HZ:Hid ((R.t.l.map (·.num)).take i=R.t.l.map (·.num)):=hid (List.take_of_length_le (by rw[List.length_map];have:=HN.out;omega))
   clear hlt HTR
   go_wp2_with fail
   go_ret
   exact⟨_,rfl,by have:=HI.out.1;rw[HZ.out]at this;exact this,HI.out.2⟩

theorem Rm.setTs{X B:Nat}{W W':World}{p:Nat}{R:Ri}(h:Rm X B W p R){t':Sq Ti}(hk:Kept (·=p) W W')(hb:Blk W' p #[.int .i64 R.first,R.s.v,R.w.v,t'.v,.int .i64 R.nx] 103)(hr:RowC B 151 1 tiE W' t'.v t'.l)(hsub:t'.l.Sublist R.t.l):Rm X B W' p {R with t:=t'}:=by
 have hoff:∀{α:Type} {t k:Nat} {en:α→List Value} {v:Value} {xs:List α},RowC B t k en W v xs→t≠103→RowC B t k en W' v xs:=fun hr n=>hr.kept hk (fun k e q=>hr.offB h.blk n (by rw[←q];exact e))
 refine⟨hb,hoff h.rs (by decide),fun x hx=>hoff (h.ri x hx) (by decide),hoff h.rw (by decide),fun x hx=>hoff (h.wi x hx) (by decide),hr,fun x hx=>?_,h.ap.sublist hsub,h.low,?_⟩
 ·have ht:=h.ti x (hsub.subset hx)
  refine ht.kept hk (fun k e q=>?_)
  have q:k=p:=q
  subst q
  rcases e with e | e | e | e
  ·have h9:=ht.blk
   have h8:=h.blk
   rw[←e]at h9
   unfold Blk at h9 h8
   rw[h9]at h8
   injection h8 with h8
   injection h8 with _ h8 _
   exact absurd h8 (by decide)
  ·exact ht.s.offB h.blk (by decide) e
  ·exact ht.r.offB h.blk (by decide) e
  ·exact ht.b.offB h.blk (by decide) e
 ·have:=h.big
  exact⟨this.1,this.2.1,Nat.le_trans hsub.length_le this.2.2.1,this.2.2.2.1,this.2.2.2.2⟩

theorem Tryz.infoTp14:(Tryz.prog.info? 151).map (fun i=>(i.zero,i.size,i.bytes))=some (some (.pointer none),1,8):=by kernel_rfl

theorem cellsAt_tp(w:World)(x:Ti):CellsAt (w.alloc (.cells #[.pointer (some ⟨x.q,0,none⟩)] 151)) ⟨w.heap.size,0,none⟩ ([x].flatMap tiE):=cellsAt_new _ _ _

set_option maxRecDepth 100000 in
set_option maxHeartbeats 1000000 in
theorem rclose14{X B:Nat}{w:World}{p:Nat}{R:Ri}(h:Rm X B w p R)(hB:B≤w.heap.size)(num:Int):Calls Tryz.prog 92 #[.pointer (some ⟨p,0,none⟩),.int .i64 num] w fun e w'=>e=.returned (.tuple #[])∧∃t',t'.l=R.t.l.filter (fun x=>!decide (x.num=num))∧Rm X B w' p {R with t:=t'}∧(∀k,Rown {R with t:=t'} p k→Rown R p k∨w.heap.size≤k)∧Kept (·=p) w w':=by
 have hn:R.t.n=R.t.l.length:=row_len h.rt
 have HT:Hid (∀w',Same w w'→w'.cell? ⟨p,3,none⟩=some (.slice R.t.a R.t.n R.t.c)∧w'.frozen? ⟨p,3,none⟩=false∧∀i (hi:i<R.t.l.length),(∃g,R.t.a=some ⟨g,0,none⟩∧w'.cell? ⟨g,i,none⟩=some (.pointer (some ⟨R.t.l[i].q,0,none⟩)))∧w'.cell? ⟨R.t.l[i].q,0,none⟩=some (.int .i64 R.t.l[i].num)):=hid (fun w' hk=>⟨(h.same hk).cell1.2.2.2.1,(h.same hk).blk.frozen 3,fun i hi=>⟨(h.same hk).txn i hi,((h.same hk).ti _ (List.getElem_mem hi)).blk.cell 0⟩⟩)
 have HM:=hid h
 have HB:=hid hB
 obtain⟨n,hn2⟩:∃n,n=R.t.n:=⟨_,rfl⟩
 have HN:Hid (n=R.t.l.length∧n≤256):=hid ⟨by omega,by have:=h.big;omega⟩
 obtain⟨ta,hta⟩:∃f,f=R.t.a:=⟨_,rfl⟩
 obtain⟨tc,htc⟩:∃f,f=R.t.c:=⟨_,rfl⟩
 rw[←hn2,←hta,←htc]at HT
 clear h hn hn2 hta htc hB
 go_enter Tryz.func92,Tryz.ntmps92
 go_wp2_with fail
 go_loopg [4,5] n (fun q z3 z4 wr=>∃(i:Nat) (a5:Option Addr) (m5 q5:Nat),z3=.slice a5 m5 q5∧z4=.int .i64 (i:Nat)∧i≤n∧n-i≤q∧Hid (RowC w.heap.size 151 1 tiE wr (.slice a5 m5 q5) ((R.t.l.take i).filter (fun x=>!decide (x.num=num)))∧Same w wr))
 case atStart=>exact⟨0,none,0,0,rfl,rfl,by omega,by omega,hid ⟨RowC.nil,Kept.refl _ _⟩⟩
 case round=>
  obtain⟨i,a5,m5,q5,rfl,rfl,hi,hiq,HI⟩:=hrel
  obtain⟨k3,z3,HTR⟩:=HT.out wr HI.out.2
  by_cases hlt:i<n
  ·have f1:decide ((i:Int)<(n:Int))=true:=by simp;omega
   have f2:decide (i<n)=true:=by simp;omega
   have hix:i<R.t.l.length:=by rw[←HN.out.1];exact hlt
   obtain⟨⟨g,hg,c1⟩,c2⟩:=HTR i hix
   subst hg
   obtain⟨x,hx⟩:∃x,x=R.t.l[i]:=⟨_,rfl⟩
   rw[←hx]at c1 c2
   have HTK:Hid ((R.t.l.take (i+1)).filter (fun x=>!decide (x.num=num))=(R.t.l.take i).filter (fun x=>!decide (x.num=num))++(if x.num=num then []else [x])):=hid (by
    rw[List.take_succ_eq_append_getElem hix,List.filter_append,←hx]
    by_cases e:x.num=num<;>simp[e])
   have HLL:Hid (((R.t.l.take i).filter (fun x=>!decide (x.num=num))).length≤256∧w.heap.size≤wr.heap.size):=hid ⟨by have h1:=List.length_filter_le (fun x:Ti=>!decide (x.num=num)) (R.t.l.take i);rw[List.length_take]at h1;have:=HN.out;omega,HI.out.2.size⟩
   have i1:(0:Int)≤(i:Int):=by omega
   have i2:(i:Int)<(n:Int):=by omega
   have hiw:IntKind.i64.wrap ((i:Int)+1)=((i+1:Nat):Int):=by rw[IntKind.wrap_i64];have:=HN.out;omega
   have HLT:=hid hlt
   clear hlt hx hix HTR
   by_cases he:x.num=num
   ·have s1:(x.num != num)=false:=by simpa using he
    have HE:Hid ((R.t.l.take (i+1)).filter (fun x=>!decide (x.num=num))=(R.t.l.take i).filter (fun x=>!decide (x.num=num))):=hid (by rw[HTK.out,if_pos he,List.append_nil])
    clear he
    go_wp2_with fail
    go_roundg (gk-1)
    case measure=>have:=HLT.out;omega
    case rel=>exact⟨i+1,_,_,_,rfl,by go_num,HLT.out,by omega,hid ⟨by rw[HE.out];exact HI.out.1,HI.out.2⟩⟩
   ·have s1:(x.num != num)=true:=by simpa using he
    have HE:Hid ((R.t.l.take (i+1)).filter (fun x=>!decide (x.num=num))=(R.t.l.take i).filter (fun x=>!decide (x.num=num))++[x]):=hid (by rw[HTK.out,if_neg he])
    clear he
    go_wp2_with (at_builtin;refine wpList_append_c _ tiE 1 tiE_ok (by decide) w.heap.size 101 151 (.pointer none) 8 Tryz.underlying101 Tryz.infoTp14 rfl (by decide) rfl (.tmp 27) (.tmp 35) rfl (.slice a5 m5 q5) ((R.t.l.take i).filter (fun x=>!decide (x.num=num))) rfl (HI.out.1.kept (show Same wr _ from(Kept.refl _ _).alloc _) (fun _ _ f=>f)) ⟨wr.heap.size,0,none⟩ 1 1 [x] rfl rfl (cellsAt_tp _ x) (by have:=HLL.out;simp only[List.length_singleton];omega) (by have:=HLL.out.2;simp;omega) ?_)
    intro v7 w7 hr7 hg7
    have H7:Hid (RowC w.heap.size 151 1 tiE w7 v7 ((R.t.l.take (i+1)).filter (fun x=>!decide (x.num=num)))∧Same w w7):=hid ⟨by rw[HE.out];exact hr7,Kept.grown (Same.trans HI.out.2 ((Kept.refl _ wr).alloc _)) hg7 (fun k e=>.inr (RowC.ge HI.out.1 e))⟩
    obtain⟨a7,c7,hv7,_⟩:=hr7.shape
    obtain⟨l7,hl7⟩:∃n,n=((R.t.l.take i).filter (fun x=>!decide (x.num=num))++[x]).length:=⟨_,rfl⟩
    rw[←hl7]at hv7
    subst hv7
    clear hr7 hg7 hl7 k3 c1 c2 z3
    go_wp2_with fail
    go_roundg (gk-1)
    case measure=>have:=HLT.out;omega
    case rel=>exact⟨i+1,_,_,_,rfl,by go_num,HLT.out,by omega,H7⟩
  ·have f1:decide ((i:Int)<(n:Int))=false:=by simp;omega
   have f2:decide (i<n)=false:=by simp;omega
   have HZ:Hid (R.t.l.take i=R.t.l):=hid (List.take_of_length_le (by have:=HN.out;omega))
   clear hlt HTR
   go_wp2_with fail
   go_end0
   have hr:=HI.out.1
   rw[HZ.out]at hr
   have hmw:=HM.out.same HI.out.2
   have hkp:Kept (·=p) wr (wr.setCell ⟨p,3,none⟩ (.slice a5 m5 q5)):=(Kept.refl _ wr).setCell _ _ (.inl rfl)
   have hb2:Blk (wr.setCell ⟨p,3,none⟩ (.slice a5 m5 q5)) p #[.int .i64 R.first,R.s.v,R.w.v,.slice a5 m5 q5,.int .i64 R.nx] 103:=by simpa using hmw.blk.set 3 (.slice a5 m5 q5)
   refine⟨rfl,⟨a5,m5,q5,R.t.l.filter (fun x=>!decide (x.num=num))⟩,rfl,hmw.setTs hkp hb2 ?_ List.filter_sublist,fun k e=>?_,Kept.trans HI.out.2 hkp (fun _ _ f=>f.elim) (fun _ _ e=>e)⟩
   ·exact(hr.kept hkp (fun k e q=>hr.offB hmw.blk (by decide) (by rw[←q];exact e))).base HB.out
   ·rcases e with e | e | e | e | e | e | ⟨x,hx,e⟩
    ·exact .inl (.inl e)
    ·exact .inl (.inr (.inl e))
    ·exact .inl (.inr (.inr (.inl e)))
    ·exact .inl (.inr (.inr (.inr (.inl e))))
    ·exact .inl (.inr (.inr (.inr (.inr (.inl e)))))
    ·exact .inr (hr.ge e)
    ·exact .inl (.inr (.inr (.inr (.inr (.inr (.inr ⟨x,(List.mem_filter.1 hx).1,e⟩))))))

end Go.Proofs.YtcfociogljhbiaaGreatDoor

namespace Go.Proofs.YtcfociogljhbiaaGreatDoor
open Go.RowKit Go.Maps Go.Sort Go.Shelf Go.Lib

theorem stgL_len(x:Wr):∀(es:List Wr) (inn:Bool),(stgL x inn es).length≤es.length+(if inn=true then 0 else 1)
 | [],inn=>by cases inn<;>simp[stgL]
 | y::r,inn=>by
  rw[stgL,List.length_append,List.length_append,List.length_cons]
  have:=stgL_len x r (inn || !bef14 (keO y) (keO x))
  generalize bef14 (keO y) (keO x)=bf at this ⊢
  cases inn<;>cases bf<;>by_cases e:keO y=keO x<;>simp[e]at this ⊢<;>omega

theorem wi_b3{a b:Bool}(h:(!a && !b)=false):(a || !b)=a:=by cases a<;>cases b<;>simp_all
theorem wi_b4{a b:Bool}(h:(!a && !b)=true):(a || !b)=true:=by cases a<;>cases b<;>simp_all

set_option maxRecDepth 100000 in
set_option maxHeartbeats 4000000 in
theorem rstage14s{X B:Nat}{w:World}{t:Ti}(h:RmT X B w t)(hX:X≤100000)(hB:B≤w.heap.size)(x:Wr):Calls Tryz.prog 87 #[.pointer (some ⟨t.q,0,none⟩),.agg #[.string x.b.tn,.string x.b.ar,.string x.n.s,.bool x.there,.string x.data]] w fun e w'=>e=.returned (.tuple #[])∧∃s':Sq Wr,s'.l=stgL x false t.s.l∧RmT (X+1) B w' {t with s:=s'}∧(∀k,s'.v.ownBlock=some k→w.heap.size≤k)∧Kept (·=t.q) w w':=by
 have HM:=hid h
 have HBB:=hid hB
 have hn9:t.s.n=t.s.l.length:=row_len h.s
 obtain⟨_,_,hsh,hag,_⟩:=h.s.shape
 have HR:Hid (∀w',Same w w'→RowC B 65 5 wrE w' (.slice t.s.a t.s.n t.s.c) t.s.l∧w'.cell? ⟨t.q,3,none⟩=some (.slice t.s.a t.s.n t.s.c)∧w'.frozen? ⟨t.q,3,none⟩=false):=hid (fun w' hk=>⟨h.s.kept hk (fun _ _ f=>f),(h.blk.kept hk (fun f=>f)).cell 3,(h.blk.kept hk (fun f=>f)).frozen 3⟩)
 obtain⟨n,hn2⟩:∃n,n=t.s.n:=⟨_,rfl⟩
 obtain⟨a,ha⟩:∃f,f=t.s.a:=⟨_,rfl⟩
 obtain⟨c,hc⟩:∃f,f=t.s.c:=⟨_,rfl⟩
 obtain⟨es,hes⟩:∃l,l=t.s.l:=⟨_,rfl⟩
 have HN:Hid (n=es.length∧n≤100000∧(es≠[]→∃g,a=some ⟨g,0,none⟩)):=hid ⟨by rw[hn2,hes];exact hn9,by have:=h.big;omega,by rw[hes,ha];intro e;obtain⟨g,q⟩:=hag e;injection hsh with e1 _ _;exact⟨g,e1.trans q⟩⟩
 rw[←hn2,←ha,←hc,←hes]at HR
 rw[←hes]
 have HES:Hid (es=t.s.l):=hid hes
 clear h hn9 hsh hag hn2 ha hc hes hB
 go_enter Tryz.func87,Tryz.ntmps87
 go_wp2_with fail
 obtain⟨w1,hw1⟩:∃W,W=w.alloc (.cells #[.string x.b.tn,.string x.b.ar,.string x.n.s,.bool x.there,.string x.data] 65):=⟨_,rfl⟩
 obtain⟨g,hg⟩:∃g,g=w.heap.size:=⟨_,rfl⟩
 have HB:Hid (Blk w1 g #[.string x.b.tn,.string x.b.ar,.string x.n.s,.bool x.there,.string x.data] 65∧Same w w1):=hid (by rw[hw1,hg];exact⟨Blk.new w _ _,(Kept.refl _ _).alloc _⟩)
 have HSZ:Hid (w.heap.size≤w1.heap.size):=hid HB.out.2.size
 rw[←hw1,←hg]
 clear hw1 hg
 have HX:Hid (∀w',Same w1 w'→w'.cell? ⟨g,0,none⟩=some (.string x.b.tn)∧w'.cell? ⟨g,1,none⟩=some (.string x.b.ar)∧w'.cell? ⟨g,2,none⟩=some (.string x.n.s)∧w'.cell? ⟨g,3,none⟩=some (.bool x.there)∧w'.cell? ⟨g,4,none⟩=some (.string x.data)):=hid (fun w' hk=>by
  have hb:=HB.out.1.kept hk (fun f=>f)
  exact⟨hb.cell 0,hb.cell 1,hb.cell 2,hb.cell 3,hb.cell 4⟩)
 go_loopg [4,5,6] n (fun q z5 z6 z7 wr=>∃(i:Nat) (inn:Bool) (a5:Option Addr) (m5 q5:Nat) (out:List Wr),z5=.slice a5 m5 q5∧z6=.bool inn∧z7=.int .i64 (i:Nat)∧i≤n∧n-i≤q∧Hid (RowC w1.heap.size 65 5 wrE wr (.slice a5 m5 q5) out∧Same w1 wr∧out++stgL x inn (es.drop i)=stgL x false es∧out.length≤2*i))
 case atStart=>exact⟨0,false,none,0,0,[],rfl,rfl,rfl,by omega,by omega,hid ⟨RowC.nil,Kept.refl _ _,rfl,Nat.le_refl _⟩⟩
 case round=>
  obtain⟨i,inn,a5,m5,q5,out,rfl,rfl,rfl,hi,hiq,HI⟩:=hrel
  obtain⟨_,k3,z3⟩:=HR.out wr (HB.out.2.trans HI.out.2.1)
  by_cases hlt:i<n
  ·have f1:decide ((i:Int)<(n:Int))=true:=by simp;omega
   have f2:decide (i<n)=true:=by simp;omega
   have hix:i<es.length:=by rw[←HN.out.1];exact hlt
   obtain⟨b,hb⟩:=HN.out.2.2 (fun e=>by rw[e]at hix;simp at hix)
   subst hb
   obtain⟨y,hy⟩:∃y,y=es[i]:=⟨_,rfl⟩
   have HY:Hid (∀w',Same w1 w'→w'.cell? ⟨b,i*5,none⟩=some (.string y.b.tn)∧w'.cell? ⟨b,i*5+1,none⟩=some (.string y.b.ar)∧w'.cell? ⟨b,i*5+2,none⟩=some (.string y.n.s)∧w'.cell? ⟨b,i*5+3,none⟩=some (.bool y.there)∧w'.cell? ⟨b,i*5+4,none⟩=some (.string y.data)∧w'.cell? ⟨t.q,3,none⟩=some (.slice (some ⟨b,0,none⟩) n c)):=hid (fun w' hk=>by
    obtain⟨hr,k,_⟩:=HR.out w' (HB.out.2.trans hk)
    rw[hy]
    exact⟨RowC.cell wrE_ok hr i 0 hix (by decide),RowC.cell wrE_ok hr i 1 hix (by decide),RowC.cell wrE_ok hr i 2 hix (by decide),RowC.cell wrE_ok hr i 3 hix (by decide),RowC.cell wrE_ok hr i 4 hix (by decide),k⟩)
   obtain⟨bf,hbf⟩:∃z,z=bef14 (keO y) (keO x):=⟨_,rfl⟩
   have HLS:Hid (∀w',Calls Tryz.prog 25 #[.agg #[.string y.b.tn,.string y.b.ar,.string y.n.s],.agg #[.string x.b.tn,.string x.b.ar,.string x.n.s]] w' fun e w2=>e=.returned (.bool bf)∧Same w' w2):=hid (fun w'=>(rless14 w' (keO y) (keO x)).mono (fun e w2 h9=>⟨by rw[hbf];exact h9.1,h9.2.same⟩))
   have HCO:Hid (stgL x inn (es.drop i)=(if (!inn && !bf)=true then [x]else [])++((if keO y=keO x then []else [y])++stgL x (inn || !bf) (es.drop (i+1)))):=hid (by
    rw[List.drop_eq_getElem_cons hix,stgL,←hy,←hbf])
   have c1:(0:Int)≤(i:Int):=by omega
   have c2:(i:Int)<(n:Int):=by omega
   have hiw:IntKind.i64.wrap ((i:Int)+1)=((i+1:Nat):Int):=by rw[IntKind.wrap_i64];have:=HN.out;omega
   have HLT:Hid (i<n∧n≤100000):=hid ⟨hlt,HN.out.2.1⟩
   obtain⟨k0,k4,k5,k6,k7⟩:=HX.out wr HI.out.2.1
   obtain⟨k1,k8,k9,_,_,_⟩:=HY.out wr HI.out.2.1
   clear hlt hix hy hbf z3
   go_upto_region 6 with fail
   go_cut [31]from 7 to 56 (fun z wx=>z=.bool (!inn && !bf)∧Hid (Same wr wx))
   case first=>
    cases inn with
    | true=>
     go_wp2_with fail
     go_quiet (fail)
     go_wp2_with fail
     go_meet
     exact⟨rfl,hid ((Kept.refl _ _).drewN _)⟩
    | false=>
     go_region_held3 (fun w'=>w'.cell? ⟨t.q,3,none⟩=some (.slice (some ⟨b,0,none⟩) n c)∧w'.cell? ⟨g,0,none⟩=some (.string x.b.tn)∧w'.cell? ⟨g,1,none⟩=some (.string x.b.ar)∧w'.cell? ⟨g,2,none⟩=some (.string x.n.s)∧w'.cell? ⟨b,i*5,none⟩=some (.string y.b.tn)∧w'.cell? ⟨b,i*5+1,none⟩=some (.string y.b.ar)∧w'.cell? ⟨b,i*5+2,none⟩=some (.string y.n.s))
      (first
       | (go_split_ands;exact⟨hkc.cell (by assumption) (fun f=>f),hkc.cell (by assumption) (fun f=>f),hkc.cell (by assumption) (fun f=>f),hkc.cell (by assumption) (fun f=>f),hkc.cell (by assumption) (fun f=>f),hkc.cell (by assumption) (fun f=>f),hkc.cell (by assumption) (fun f=>f)⟩)
       | go_keep)
      (first
       | (go_at_call 25;refine(HLS.out _).mono ?_;rintro e wk ⟨rfl,hkc⟩;have HKK:Hid (Same wr wk):=hid (by first | exact Kept.undrewV hkc | exact Kept.undrewC hkc | exact hkc)))
     go_wp2_with fail
     go_meet
     exact⟨rfl,HKK⟩
   case rest=>
    obtain⟨rfl,HX1⟩:=hcut
    clear k0 k1 k4 k5 k6 k7 k8 k9 k3
    have HW1:Hid (Same w1 wc):=hid (HI.out.2.1.trans HX1.out)
    have HO1:Hid (RowC w1.heap.size 65 5 wrE wc (.slice a5 m5 q5) out∧out.length≤2*i∧w1.heap.size≤wc.heap.size):=hid ⟨HI.out.1.kept HX1.out (fun _ _ f=>f),HI.out.2.2.2,HW1.out.size⟩
    obtain⟨bp,hbp⟩:∃z,z=(!inn && !bf):=⟨_,rfl⟩
    obtain⟨i2,hi2⟩:∃z,z=(inn || !bf):=⟨_,rfl⟩
    rw[←hbp,←hi2]at HCO
    rw[←hbp]
    have HBP:Hid (bp=false→i2=inn):=hid (fun e=>by rw[e]at hbp;rw[hi2];exact wi_b3 hbp.symm)
    have HBT:Hid (bp=true→i2=true):=hid (fun e=>by rw[e]at hbp;rw[hi2];exact wi_b4 hbp.symm)
    clear hbp hi2 HLS
    go_upto_if 31 with fail
    go_cut [4,5]from 7 to 56 (fun z5 z6 wx=>∃(a6:Option Addr) (m6 q6:Nat),z5=.slice a6 m6 q6∧z6=.bool i2∧Hid (RowC w1.heap.size 65 5 wrE wx (.slice a6 m6 q6) (out++(if bp=true then [x]else []))∧Same w1 wx))
    case first=>
     cases bp with
     | false=>
      have HE:=hid (HBP.out rfl)
      go_wp2_with fail
      go_meet
      exact⟨_,_,_,rfl,by rw[HE.out],hid ⟨by simpa using HO1.out.1,HW1.out⟩⟩
     | true=>
      have HE:=hid (HBT.out rfl)
      obtain⟨k0,k4,k5,k6,k7⟩:=HX.out wc HW1.out
      go_wp2_with (at_builtin;refine wpList_append_c _ wrE 5 wrE_ok (by decide) w1.heap.size 57 65 (.agg #[.string ⟨#[]⟩,.string ⟨#[]⟩,.string ⟨#[]⟩,.bool false,.string ⟨#[]⟩]) 72 Tryz.underlying57 Tryz.infoWr rfl (by decide) rfl (.tmp 32) (.tmp 34) rfl (.slice a5 m5 q5) out rfl (HO1.out.1.kept (show Same _ _ from(Kept.refl _ _).alloc _) (fun _ _ f=>f)) ⟨wc.heap.size,0,none⟩ 1 1 [x] rfl rfl (cellsAt_wr _ x) (by have:=HO1.out;have:=HLT.out;simp only[List.length_singleton];omega) (by have:=HO1.out;simp;omega) ?_)
      intro v7 w7 hr7 hg7
      have H7:Hid (RowC w1.heap.size 65 5 wrE w7 v7 (out++[x])∧Same w1 w7):=hid ⟨hr7,Kept.grown (Same.trans HW1.out ((Kept.refl _ wc).alloc _)) hg7 (fun k e=>.inr (RowC.ge HO1.out.1 e))⟩
      obtain⟨a7,c7,hv7,_⟩:=hr7.shape
      obtain⟨l7,hl7⟩:∃n,n=(out++[x]).length:=⟨_,rfl⟩
      rw[←hl7]at hv7
      subst hv7
      clear hr7 hg7 hl7 k0 k4 k5 k6 k7
      go_wp2_with fail
      go_meet
      exact⟨_,_,_,rfl,by rw[HE.out],H7⟩
    case rest=>
     obtain⟨a6,m6,q6,rfl,rfl,HO⟩:=hcut
     obtain⟨k0,k4,k5,_,_⟩:=HX.out wc HO.out.2
     obtain⟨k1,k7,k8,_,_,k3⟩:=HY.out wc HO.out.2
     have s1:=streq14 y.b.tn x.b.tn
     have s2:=streq14 y.b.ar x.b.ar
     have s3:=streq14 y.n.s x.n.s
     obtain⟨d1,e1⟩:∃q,q=decide (y.b.tn=x.b.tn):=⟨_,rfl⟩
     obtain⟨d2,e2⟩:∃q,q=decide (y.b.ar=x.b.ar):=⟨_,rfl⟩
     obtain⟨d3,e3⟩:∃q,q=decide (y.n.s=x.n.s):=⟨_,rfl⟩
     have HEQ:Hid ((d1 && d2 && d3)=decide (keO y=keO x)):=hid (by
      rw[e1,e2,e3,←Bool.decide_and,←Bool.decide_and]
      exact decide_eq_decide.2 ⟨fun e=>Prod.ext (Bx.ext' e.1.1 e.1.2) (Nm.ext' e.2),fun e=>by
       unfold keO at e
       injection e with e4 e5
       rw[e4,e5]
       exact⟨⟨rfl,rfl⟩,rfl⟩⟩)
     rw[←e1]at s1
     rw[←e2]at s2
     rw[←e3]at s3
     clear e1 e2 e3
     go_upto_region 9 with fail
     go_cut [46]from 7 to 56 (fun z wx=>z=.bool (!(d1 && d2 && d3))∧Hid (Same wc wx))
     case first=>
      cases d1<;>cases d2<;>cases d3
      all_goals go_quiet (fail)
      all_goals go_wp2_with fail
      all_goals go_meet
      all_goals exact⟨rfl,hid ((Kept.refl _ _).drewN _)⟩
     case rest=>
      obtain⟨rfl,HX2⟩:=hcut
      clear k0 k1 k4 k5 k7 k8 s1 s2 s3 k3
      obtain⟨ne,hne⟩:∃z,z=(!(d1 && d2 && d3)):=⟨_,rfl⟩
      have HNE:Hid ((if keO y=keO x then([]:List Wr)else [y])=if ne=true then [y]else []):=hid (by
       rw[hne,HEQ.out]
       by_cases e:keO y=keO x
       ·simp[e]
       ·simp[e])
      rw[←hne]
      clear hne
      rename_i _ wc0 _ wc
      have HW2:Hid (Same w1 wc):=hid (HO.out.2.trans HX2.out)
      have HO2:Hid (RowC w1.heap.size 65 5 wrE wc (.slice a6 m6 q6) (out++(if bp=true then [x]else []))∧(out++(if bp=true then [x]else [])).length≤2*i+1∧w1.heap.size≤wc.heap.size):=hid ⟨HO.out.1.kept HX2.out (fun _ _ f=>f),by rw[List.length_append];have:=HO1.out.2.1;split<;>simp<;>omega,HW2.out.size⟩
      have HFI:Hid (((out++(if bp=true then [x]else []))++(if ne=true then [y]else []))++stgL x i2 (es.drop (i+1))=stgL x false es):=hid (by
       rw[←HI.out.2.2.1,HCO.out,HNE.out]
       simp only[List.append_assoc])
      obtain⟨o2,ho2⟩:∃z,z=out++(if bp=true then [x]else []):=⟨_,rfl⟩
      rw[←ho2]at HO2 HFI
      clear ho2
      cases ne with
      | false=>
       go_wp2_with fail
       go_roundg (gk-1)
       case measure=>have:=HLT.out;omega
       case rel=>exact⟨i+1,i2,_,_,_,o2,rfl,rfl,by go_num,HLT.out.1,by omega,hid ⟨HO2.out.1,HW2.out,by simpa using HFI.out,by have:=HO2.out.2.1;omega⟩⟩
      | true=>
       obtain⟨k1,k7,k8,k9,k10,k3⟩:=HY.out wc HW2.out
       go_wp2_with (at_builtin;refine wpList_append_c _ wrE 5 wrE_ok (by decide) w1.heap.size 57 65 (.agg #[.string ⟨#[]⟩,.string ⟨#[]⟩,.string ⟨#[]⟩,.bool false,.string ⟨#[]⟩]) 72 Tryz.underlying57 Tryz.infoWr rfl (by decide) rfl (.tmp 47) (.tmp 55) rfl (.slice a6 m6 q6) o2 rfl (HO2.out.1.kept (show Same _ _ from(Kept.refl _ _).alloc _) (fun _ _ f=>f)) ⟨wc.heap.size,0,none⟩ 1 1 [y] rfl rfl (cellsAt_wr _ y) (by have:=HO2.out;have:=HLT.out;simp only[List.length_singleton];omega) (by have:=HO2.out;simp;omega) ?_)
       intro v7 w7 hr7 hg7
       have H7:Hid (RowC w1.heap.size 65 5 wrE w7 v7 (o2++[y])∧Same w1 w7):=hid ⟨hr7,Kept.grown (Same.trans HW2.out ((Kept.refl _ wc).alloc _)) hg7 (fun k e=>.inr (RowC.ge HO2.out.1 e))⟩
       obtain⟨a7,c7,hv7,_⟩:=hr7.shape
       obtain⟨l7,hl7⟩:∃n,n=(o2++[y]).length:=⟨_,rfl⟩
       rw[←hl7]at hv7
       subst hv7
       clear hr7 hg7 hl7 k1 k7 k8 k9 k10 k3
       go_wp2_with fail
       go_roundg (gk-1)
       case measure=>have:=HLT.out;omega
       case rel=>exact⟨i+1,i2,_,_,_,o2++[y],rfl,rfl,by go_num,HLT.out.1,by omega,hid ⟨H7.out.1,H7.out.2,by simpa using HFI.out,by have:=HO2.out.2.1;rw[List.length_append];simp;omega⟩⟩
  ·have f1:decide ((i:Int)<(n:Int))=false:=by simp;omega
   have f2:decide (i<n)=false:=by simp;omega
   have HZ:Hid (out++(if inn=true then []else [x])=stgL x false es∧out.length≤200000):=hid ⟨by
    have h9:=HI.out.2.2.1
    rw[List.drop_eq_nil_of_le (by have:=HN.out;omega),stgL]at h9
    exact h9,by have:=HI.out.2.2.2;have:=HN.out;omega⟩
   have HO1:Hid (w1.heap.size≤wr.heap.size):=hid HI.out.2.1.size
   obtain⟨k0,k4,k5,k6,k7⟩:=HX.out wr HI.out.2.1
   have HLN:Hid ((stgL x false es).length≤es.length+1):=hid (by have:=stgL_len x es false;simpa using this)
   have HFIN:Hid (∀(W:World) (av:Option Addr) (nv cv:Nat),Same w1 W→RowC w1.heap.size 65 5 wrE W (.slice av nv cv) (stgL x false es)→es=t.s.l→∃s':Sq Wr,s'.l=stgL x false es∧RmT (X+1) B (W.setCell ⟨t.q,3,none⟩ (.slice av nv cv)) {t with s:=s'}∧(∀k,s'.v.ownBlock=some k→w.heap.size≤k)∧Kept (·=t.q) w (W.setCell ⟨t.q,3,none⟩ (.slice av nv cv))):=hid (fun W av nv cv hkW hrW hel=>by
    have hs:Same w W:=HB.out.2.trans hkW
    have hm:RmT X B W t:=HM.out.kept hs (fun _ _ f=>f)
    have hkq:Kept (·=t.q) W (W.setCell ⟨t.q,3,none⟩ (.slice av nv cv)):=(Kept.refl _ W).setCell _ _ (.inl rfl)
    have hb2:Blk (W.setCell ⟨t.q,3,none⟩ (.slice av nv cv)) t.q #[.int .i64 t.num,.int .i64 (t.snap:Nat),.string t.tn.s,.slice av nv cv,t.r.v,t.b.v] 155:=by
     have:=hm.blk.set 3 (.slice av nv cv)
     unfold Ti.cs at this
     simpa using this
    refine⟨⟨av,nv,cv,stgL x false es⟩,rfl,⟨hb2,(hrW.kept hkq (fun k e q=>hrW.offB hm.blk (by decide) (by rw[←q];exact e))).base (Nat.le_trans HBB.out HSZ.out),hm.r.kept hkq (fun k e q=>hm.r.offB hm.blk (by decide) (by rw[←q];exact e)),hm.b.kept hkq (fun k e q=>hm.b.offB hm.blk (by decide) (by rw[←q];exact e)),hm.low,?_⟩,fun k e=>Nat.le_trans HSZ.out (hrW.ge e),Kept.trans hs hkq (fun _ _ f=>f.elim) (fun _ _ e=>e)⟩
    have h1:=hm.big
    have h2:=HLN.out
    rw[hel]at h2
    refine⟨?_,by have:=h1.2.1;exact Nat.le_succ_of_le this,by have:=h1.2.2.1;exact Nat.le_succ_of_le this,by have:=h1.2.2.2;exact Nat.le_succ_of_le this⟩
    show(stgL x false es).length≤X+1
    rw[hel]
    omega)
   clear hlt
   cases inn with
   | true=>
    have HE:Hid (stgL x false es=out):=hid (by rw[←HZ.out.1];simp)
    go_wp2_with fail
    go_end0
    exact⟨rfl,HFIN.out wr a5 m5 q5 HI.out.2.1 (by rw[HE.out];exact HI.out.1) HES.out⟩
   | false=>
    go_wp2_with (at_builtin;refine wpList_append_c _ wrE 5 wrE_ok (by decide) w1.heap.size 57 65 (.agg #[.string ⟨#[]⟩,.string ⟨#[]⟩,.string ⟨#[]⟩,.bool false,.string ⟨#[]⟩]) 72 Tryz.underlying57 Tryz.infoWr rfl (by decide) rfl (.tmp 59) (.tmp 61) rfl (.slice a5 m5 q5) out rfl (HI.out.1.kept (show Same _ _ from(Kept.refl _ _).alloc _) (fun _ _ f=>f)) ⟨wr.heap.size,0,none⟩ 1 1 [x] rfl rfl (cellsAt_wr _ x) (by have:=HZ.out;simp only[List.length_singleton];omega) (by have:=HO1.out;simp;omega) ?_)
    intro v7 w7 hr7 hg7
    have H7:Hid (RowC w1.heap.size 65 5 wrE w7 v7 (stgL x false es)∧Same w1 w7):=hid ⟨by rw[←HZ.out.1];simpa using hr7,Kept.grown (Same.trans HI.out.2.1 ((Kept.refl _ wr).alloc _)) hg7 (fun k e=>.inr (RowC.ge HI.out.1 e))⟩
    obtain⟨a7,c7,hv7,_⟩:=hr7.shape
    obtain⟨l7,hl7⟩:∃n,n=(out++[x]).length:=⟨_,rfl⟩
    rw[←hl7]at hv7
    subst hv7
    clear hr7 hg7 hl7 k0 k4 k5 k6 k7 k3 z3
    obtain⟨_,k3,z3⟩:=HR.out w7 (HB.out.2.trans H7.out.2)
    go_wp2_with fail
    go_end0
    exact⟨rfl,HFIN.out w7 a7 l7 c7 H7.out.2 H7.out.1 HES.out⟩

end Go.Proofs.YtcfociogljhbiaaGreatDoor

namespace Go.Proofs.YtcfociogljhbiaaGreatDoor
open Go.RowKit Go.Maps Go.Sort Go.Shelf Go.Lib

def claT(t:Tx14)(z:Wr):Prop:=keO z∈t.rd∨z.b∈t.ls

theorem row_k{α:Type}{B t k:Nat}{en:α→List Value}{w:World}{a:Option Addr}{n c:Nat}{xs:List α}(ok:EncOk en k)(h:RowC B t k en w (.slice a n c) xs)(i:Nat)(hi:i<xs.length):∃g,a=some ⟨g,0,none⟩∧∀j,j<k→w.cell? ⟨g,i*k+j,none⟩=(en xs[i])[j]?:=by
 obtain⟨_,_,e,hg,_⟩:=h.shape
 injection e with e1 e2 e3
 obtain⟨g,e4⟩:=hg (fun q=>by rw[q]at hi;simp at hi)
 have ea:a=some ⟨g,0,none⟩:=e1.trans e4
 subst ea
 exact⟨g,rfl,fun j hj=>RowC.cell ok h i j hi hj⟩

set_option maxRecDepth 100000 in
set_option maxHeartbeats 4000000 in
theorem rconf14{X B:Nat}{w:World}{p:Nat}{R:Ri}(h:Rm X B w p R)(hX:X≤100000){x:Ti}(hxm:x∈R.t.l)(hs:x.snap≤R.w.l.length):Calls Tryz.prog 89 #[.pointer (some ⟨p,0,none⟩),.pointer (some ⟨x.q,0,none⟩)] w fun e w'=>∃b,e=.returned (.bool b)∧(b=true↔ConR R.abs x.tx)∧Same w w':=by
 have HM:Hid (∀w',Same w w'→Rm X B w' p R):=hid (fun w' hk=>h.same hk)
 have HT:Hid (∀w',Same w w'→RmT X B w' x):=hid (fun w' hk=>(h.same hk).ti x hxm)
 have t1:w.cell? ⟨x.q,1,none⟩=some (.int .i64 (x.snap:Nat)):=(h.ti x hxm).blk.cell 1
 obtain⟨n,hn⟩:∃n,n=R.w.l.length:=⟨_,rfl⟩
 have HN:Hid (n=R.w.l.length∧n≤100000∧x.snap≤n∧x.r.l.length≤100000∧x.b.l.length≤100000):=hid ⟨hn,by have:=h.big;omega,by omega,by have:=(h.ti x hxm).big;omega,by have:=(h.ti x hxm).big;omega⟩
 have HCC:Hid (∀w',Same w w'→w'.cell? ⟨p,2,none⟩=some (.slice R.w.a n R.w.c)∧w'.cell? ⟨x.q,4,none⟩=some (.slice x.r.a x.r.l.length x.r.c)∧w'.cell? ⟨x.q,5,none⟩=some (.slice x.b.a x.b.l.length x.b.c)):=hid (fun w' hk=>by
  have hm:=h.same hk
  have ht:=hm.ti x hxm
  refine⟨?_,?_,?_⟩
  ·rw[hn,←row_len hm.rw];exact hm.cell1.2.2.1
  ·rw[←row_len ht.r];exact ht.blk.cell 4
  ·rw[←row_len ht.b];exact ht.blk.cell 5)
 have HWS:Hid (∀(i:Nat) (y:Sq Wr) (w':World),R.w.l[i]? = some y→Same w w'→∃g,R.w.a=some ⟨g,0,none⟩∧w'.cell? ⟨g,i,none⟩=some (.slice y.a y.l.length y.c)∧RowC B 65 5 wrE w' (.slice y.a y.l.length y.c) y.l∧y.l.length≤100000):=hid (fun i y w' hy hk=>by
  have hm:=h.same hk
  obtain⟨hi',rfl⟩:=List.getElem?_eq_some_iff.1 hy
  obtain⟨g,hg,hc⟩:=row_at sqE_ok hm.rw i hi'
  have hw:=hm.wi _ (List.getElem_mem hi')
  have hln:R.w.l[i].n=R.w.l[i].l.length:=row_len hw
  have hw':RowC B 65 5 wrE w' (.slice R.w.l[i].a R.w.l[i].l.length R.w.l[i].c) R.w.l[i].l:=by rw[←hln];exact hw
  refine⟨g,hg,?_,hw',Nat.le_trans (hm.big.2.2.2.2 _ (List.getElem_mem hi')) hX⟩
  rw[hc,←hln]
  rfl)
 have HCON:Hid (ConR R.abs x.tx↔∃(i:Nat) (y:Sq Wr),x.snap≤i∧R.w.l[i]? = some y∧∃z∈y.l,claT x.tx z):=hid (by
  unfold ConR claT
  constructor
  ·rintro⟨i,h1,ws,h2,z,h3,h4⟩
   have h2:(R.w.l.map (·.l))[i]? = some ws:=h2
   rw[List.getElem?_map]at h2
   cases hg:R.w.l[i]? with
   | none=>rw[hg]at h2;cases h2
   | some y=>
    rw[hg]at h2
    injection h2 with h2
    have h2:y.l=ws:=h2
    exact⟨i,y,h1,hg,z,by rw[h2];exact h3,h4⟩
  ·rintro⟨i,y,h1,hy,z,h3,h4⟩
   refine⟨i,h1,y.l,?_,z,h3,h4⟩
   show(R.w.l.map (·.l))[i]? = _
   rw[List.getElem?_map,hy]
   rfl)
 obtain⟨sn,hsn⟩:∃s,s=x.snap:=⟨_,rfl⟩
 rw[←hsn]at t1 HN HCON
 obtain⟨xq,hxq⟩:∃s,s=x.q:=⟨_,rfl⟩
 rw[←hxq]at t1 HCC
 rw[←hxq]
 clear h hxm hs hn hsn hxq hX
 go_enter Tryz.func89,Tryz.ntmps89
 go_wp2_with fail
 clear t1
 go_loopg [5] n (fun q z wr=>∃i:Nat,z=.int .i64 (i:Nat)∧sn≤i∧i≤n∧n-i≤q∧Hid ((∀(i':Nat) (y:Sq Wr),sn≤i'→i'<i→R.w.l[i']? = some y→∀z∈y.l,¬claT x.tx z)∧Same w wr))
 case atStart=>exact⟨sn,rfl,Nat.le_refl _,HN.out.2.2.1,by omega,hid ⟨fun i' _ h1 h2=>by omega,Kept.refl _ _⟩⟩
 case round=>
  obtain⟨i,rfl,hsi,hi,hiq,HI⟩:=hrel
  obtain⟨k2,_,_⟩:=HCC.out wr HI.out.2
  by_cases hlt:i<n
  ·have f1:decide ((i:Int)<(n:Int))=true:=by simp;omega
   have f2:decide (i<n)=true:=by simp;omega
   have hix:i<R.w.l.length:=by rw[←HN.out.1];exact hlt
   obtain⟨y,hy⟩:∃y,R.w.l[i]? = some y:=⟨_,List.getElem?_eq_getElem hix⟩
   have HY:Hid (∀w',Same w w'→∃g,R.w.a=some ⟨g,0,none⟩∧w'.cell? ⟨g,i,none⟩=some (.slice y.a y.l.length y.c)∧RowC B 65 5 wrE w' (.slice y.a y.l.length y.c) y.l∧y.l.length≤100000):=hid (fun w' hk=>HWS.out i y w' hy hk)
   have HYI:Hid (R.w.l[i]? = some y∧sn≤i):=hid ⟨hy,hsi⟩
   have c1:(0:Int)≤(i:Int):=by omega
   have c2:(i:Int)<(n:Int):=by omega
   have hiw:IntKind.i64.wrap ((i:Int)+1)=((i+1:Nat):Int):=by rw[IntKind.wrap_i64];have:=HN.out;omega
   have HLT:=hid hlt
   obtain⟨m,hm⟩:∃m,m=y.l.length:=⟨_,rfl⟩
   rw[←hm]at HY
   have HMM:Hid (m=y.l.length∧m≤100000):=hid ⟨hm,by obtain⟨_,_,_,_,q⟩:=HY.out w (Kept.refl _ _);exact q⟩
   obtain⟨G,rfl⟩:∃G,G=gk:=⟨_,rfl⟩
   clear hlt hy hm hsi hix
   go_wp2_with fail
   clear k2
   go_loopg [6] m (fun q z wr=>∃j:Nat,z=.int .i64 (j:Nat)∧j≤m∧m-j≤q∧Hid ((∀(j':Nat) (hj:j'<y.l.length),j'<j→¬claT x.tx y.l[j'])∧Same w wr))
   case atStart=>exact⟨0,rfl,by omega,by omega,hid ⟨fun j' _ h1=>by omega,HI.out.2⟩⟩
   case round=>
    obtain⟨j,rfl,hj,hjq,HJ⟩:=hrel
    obtain⟨k2,_,_⟩:=HCC.out wr HJ.out.2
    obtain⟨g,hg,k3,hrow,hml⟩:=HY.out wr HJ.out.2
    rw[hg]at k2
    by_cases hltj:j<m
    ·have f3:decide ((j:Int)<(m:Int))=true:=by simp;omega
     have f4:decide (j<m)=true:=by simp;omega
     have hjx:j<y.l.length:=by rw[←HMM.out.1];exact hltj
     obtain⟨b,hb,hcs⟩:=row_k wrE_ok hrow j hjx
     rw[hb]at k3
     obtain⟨Zq,hz⟩:∃z,z=y.l[j]:=⟨_,rfl⟩
     have z0:wr.cell? ⟨b,j*5,none⟩=some (.string Zq.b.tn):=by have:=hcs 0 (by decide);rw[←hz]at this;exact this
     have z1:wr.cell? ⟨b,j*5+1,none⟩=some (.string Zq.b.ar):=by have:=hcs 1 (by decide);rw[←hz]at this;exact this
     have z2:wr.cell? ⟨b,j*5+2,none⟩=some (.string Zq.n.s):=by have:=hcs 2 (by decide);rw[←hz]at this;exact this
     have HZ:Hid (Zq=y.l[j]'hjx):=hid hz
     have c3:(0:Int)≤(j:Int):=by omega
     have c4:(j:Int)<(m:Int):=by omega
     have hjw:IntKind.i64.wrap ((j:Int)+1)=((j+1:Nat):Int):=by rw[IntKind.wrap_i64];have:=HMM.out;omega
     have HLJ:=hid hltj
     have HYES:Hid (claT x.tx Zq→ConR R.abs x.tx):=hid (fun hc=>HCON.out.2 ⟨i,y,HYI.out.2,HYI.out.1,Zq,by rw[HZ.out];exact List.getElem_mem _,hc⟩)
     obtain⟨G2,rfl⟩:∃G2,G2=gk:=⟨_,rfl⟩
     clear hltj hz hcs hrow
     go_wp2_with fail
     obtain⟨w6,hw6⟩:∃W,W=wr.alloc (.cells #[.string Zq.b.tn,.string Zq.b.ar,.string Zq.n.s] 63):=⟨_,rfl⟩
     obtain⟨kg,hkg⟩:∃g,g=wr.heap.size:=⟨_,rfl⟩
     have HKB:Hid (Blk w6 kg #[.string Zq.b.tn,.string Zq.b.ar,.string Zq.n.s] 63∧Same w w6):=hid (by rw[hw6,hkg];exact⟨Blk.new wr _ _,HJ.out.2.trans ((Kept.refl _ _).alloc _)⟩)
     rw[←hw6,←hkg]
     clear hw6 hkg k2 k3 z0 z1 z2 hb hg hml
     have HNR:Hid (x.r.l.length≤100000∧x.b.l.length≤100000):=hid ⟨HN.out.2.2.2.1,HN.out.2.2.2.2⟩
     obtain⟨rn,hrn⟩:∃m,m=x.r.l.length:=⟨_,rfl⟩
     obtain⟨bn,hbn⟩:∃m,m=x.b.l.length:=⟨_,rfl⟩
     have HCC2:Hid (∀w',Same w6 w'→w'.cell? ⟨xq,4,none⟩=some (.slice x.r.a rn x.r.c)∧w'.cell? ⟨xq,5,none⟩=some (.slice x.b.a bn x.b.c)):=hid (fun w' hk=>by rw[hrn,hbn];exact(HCC.out w' (HKB.out.2.trans hk)).2)
     have HRN:Hid (rn=x.r.l.length∧rn≤100000∧bn=x.b.l.length∧bn≤100000):=hid ⟨hrn,by rw[hrn];exact HNR.out.1,hbn,by rw[hbn];exact HNR.out.2⟩
     clear hrn hbn
     go_loopg [8] rn (fun q z wr=>∃r:Nat,z=.int .i64 (r:Nat)∧r≤rn∧rn-r≤q∧Hid ((∀(r':Nat) (hr:r'<x.r.l.length),r'<r→x.r.l[r']≠keO Zq)∧Same w6 wr))
     case atStart=>exact⟨0,rfl,by omega,by omega,hid ⟨fun r' _ h1=>by omega,Kept.refl _ _⟩⟩
     case round=>
      obtain⟨r,rfl,hr,hrq,HRR⟩:=hrel
      obtain⟨k4,k5⟩:=HCC2.out wr HRR.out.2
      by_cases hltr:r<rn
      ·have f5:decide ((r:Int)<(rn:Int))=true:=by simp;omega
       have f6:decide (r<rn)=true:=by simp;omega
       have hrx:r<x.r.l.length:=by rw[←HRN.out.1];exact hltr
       have hrow:=(HT.out wr (HKB.out.2.trans HRR.out.2)).r
       have hrow:RowC B 63 3 ke3V wr (.slice x.r.a rn x.r.c) x.r.l:=by rw[HRN.out.1,←row_len hrow];exact hrow
       obtain⟨b,hb,hcs⟩:=row_k ke3_ok hrow r hrx
       rw[hb]at k4
       obtain⟨u,hu⟩:∃u,u=x.r.l[r]:=⟨_,rfl⟩
       have u0:wr.cell? ⟨b,r*3,none⟩=some (.string u.1.tn):=by have:=hcs 0 (by decide);rw[←hu]at this;exact this
       have u1:wr.cell? ⟨b,r*3+1,none⟩=some (.string u.1.ar):=by have:=hcs 1 (by decide);rw[←hu]at this;exact this
       have u2:wr.cell? ⟨b,r*3+2,none⟩=some (.string u.2.s):=by have:=hcs 2 (by decide);rw[←hu]at this;exact this
       have hbk:=HKB.out.1.kept HRR.out.2 (fun f=>f)
       have q0:wr.cell? ⟨kg,0,none⟩=some (.string Zq.b.tn):=hbk.cell 0
       have q1:wr.cell? ⟨kg,1,none⟩=some (.string Zq.b.ar):=hbk.cell 1
       have q2:wr.cell? ⟨kg,2,none⟩=some (.string Zq.n.s):=hbk.cell 2
       have HU:Hid (u=x.r.l[r]'hrx):=hid hu
       have c5:(0:Int)≤(r:Int):=by omega
       have c6:(r:Int)<(rn:Int):=by omega
       have hrw:IntKind.i64.wrap ((r:Int)+1)=((r+1:Nat):Int):=by rw[IntKind.wrap_i64];have:=HRN.out;omega
       have HLR:=hid hltr
       have s1:=streq14 u.1.tn Zq.b.tn
       have s2:=streq14 u.1.ar Zq.b.ar
       have s3:=streq14 u.2.s Zq.n.s
       obtain⟨d1,e1⟩:∃q,q=decide (u.1.tn=Zq.b.tn):=⟨_,rfl⟩
       obtain⟨d2,e2⟩:∃q,q=decide (u.1.ar=Zq.b.ar):=⟨_,rfl⟩
       obtain⟨d3,e3⟩:∃q,q=decide (u.2.s=Zq.n.s):=⟨_,rfl⟩
       have HEQ:Hid ((d1 && d2 && d3)=decide (u=keO Zq)):=hid (by
        rw[e1,e2,e3,←Bool.decide_and,←Bool.decide_and]
        exact decide_eq_decide.2 ⟨fun e=>Prod.ext (Bx.ext' e.1.1 e.1.2) (Nm.ext' e.2),fun e=>by rw[e];exact⟨⟨rfl,rfl⟩,rfl⟩⟩)
       rw[←e1]at s1
       rw[←e2]at s2
       rw[←e3]at s3
       clear hltr hu hcs hrow hb hbk e1 e2 e3
       cases d1<;>cases d2<;>cases d3
       case true.true.true=>
        have HE:Hid (ConR R.abs x.tx):=hid (HYES.out (.inl (by rw[←of_decide_eq_true HEQ.out.symm,HU.out];exact List.getElem_mem _)))
        go_wp2_with fail
        go_quiet (fail)
        go_wp2_with fail
        go_ret
        exact⟨true,rfl,by simp[HE.out],HKB.out.2.trans (HRR.out.2.trans (by first | exact(Kept.refl _ _).drewN _ | exact Kept.refl _ _))⟩
       all_goals
        have HNE:Hid (u≠keO Zq):=hid (of_decide_eq_false HEQ.out.symm)
        go_wp2_with fail
        go_quiet (fail)
        go_wp2_with fail
        go_roundg (gk-1)
        case measure=>have:=HLR.out;omega
        case rel=>exact⟨r+1,by go_num,HLR.out,by omega,hid ⟨fun r' hr' h1=>by
         by_cases hrr:r'<r
         ·exact HRR.out.1 r' hr' hrr
         ·obtain rfl:r'=r:=by omega
          have:=HNE.out
          rwa [HU.out]at this,HRR.out.2.trans (by first | exact(Kept.refl _ _).drewN _ | exact Kept.refl _ _)⟩⟩
      ·have f5:decide ((r:Int)<(rn:Int))=false:=by simp;omega
       have f6:decide (r<rn)=false:=by simp;omega
       have HNRD:Hid (keO Zq∉x.r.l):=hid (fun hm=>by
        obtain⟨r',hr',e⟩:=List.getElem_of_mem hm
        exact HRR.out.1 r' hr' (by have:=HRN.out;omega) e)
       have HW7:Hid (Same w6 wr):=hid HRR.out.2
       clear hltr HRR
       go_wp2_with fail
       clear k4 k5
       go_loopg [9] bn (fun q z wr=>∃r:Nat,z=.int .i64 (r:Nat)∧r≤bn∧bn-r≤q∧Hid ((∀(r':Nat) (hr:r'<x.b.l.length),r'<r→x.b.l[r']≠Zq.b)∧Same w6 wr))
       case atStart=>exact⟨0,rfl,by omega,by omega,hid ⟨fun r' _ h1=>by omega,HW7.out⟩⟩
       case round=>
        obtain⟨r,rfl,hr,hrq,HRR⟩:=hrel
        obtain⟨_,k5⟩:=HCC2.out wr HRR.out.2
        by_cases hltr:r<bn
        ·have f7:decide ((r:Int)<(bn:Int))=true:=by simp;omega
         have f8:decide (r<bn)=true:=by simp;omega
         have hrx:r<x.b.l.length:=by rw[←HRN.out.2.2.1];exact hltr
         have hrow:=(HT.out wr (HKB.out.2.trans HRR.out.2)).b
         have hrow:RowC B 128 2 bx2V wr (.slice x.b.a bn x.b.c) x.b.l:=by rw[HRN.out.2.2.1,←row_len hrow];exact hrow
         obtain⟨b,hb,hcs⟩:=row_k bx2_ok hrow r hrx
         rw[hb]at k5
         obtain⟨u,hu⟩:∃u,u=x.b.l[r]:=⟨_,rfl⟩
         have u0:wr.cell? ⟨b,r*2,none⟩=some (.string u.tn):=by have:=hcs 0 (by decide);rw[←hu]at this;exact this
         have u1:wr.cell? ⟨b,r*2+1,none⟩=some (.string u.ar):=by have:=hcs 1 (by decide);rw[←hu]at this;exact this
         have hbk:=HKB.out.1.kept HRR.out.2 (fun f=>f)
         have q0:wr.cell? ⟨kg,0,none⟩=some (.string Zq.b.tn):=hbk.cell 0
         have q1:wr.cell? ⟨kg,1,none⟩=some (.string Zq.b.ar):=hbk.cell 1
         have HU:Hid (u=x.b.l[r]'hrx):=hid hu
         have c5:(0:Int)≤(r:Int):=by omega
         have c6:(r:Int)<(bn:Int):=by omega
         have hrw:IntKind.i64.wrap ((r:Int)+1)=((r+1:Nat):Int):=by rw[IntKind.wrap_i64];have:=HRN.out;omega
         have HLR:=hid hltr
         have s1:=streq14 u.tn Zq.b.tn
         have s2:=streq14 u.ar Zq.b.ar
         obtain⟨d1,e1⟩:∃q,q=decide (u.tn=Zq.b.tn):=⟨_,rfl⟩
         obtain⟨d2,e2⟩:∃q,q=decide (u.ar=Zq.b.ar):=⟨_,rfl⟩
         have HEQ:Hid ((d1 && d2)=decide (u=Zq.b)):=hid (by
          rw[e1,e2,←Bool.decide_and]
          exact decide_eq_decide.2 ⟨fun e=>Bx.ext' e.1 e.2,fun e=>by rw[e];exact⟨rfl,rfl⟩⟩)
         rw[←e1]at s1
         rw[←e2]at s2
         clear hltr hu hcs hrow hb hbk e1 e2
         cases d1<;>cases d2
         case true.true=>
          have HE:Hid (ConR R.abs x.tx):=hid (HYES.out (.inr (by rw[←of_decide_eq_true HEQ.out.symm,HU.out];exact List.getElem_mem _)))
          go_wp2_with fail
          go_quiet (fail)
          go_wp2_with fail
          go_ret
          exact⟨true,rfl,by simp[HE.out],HKB.out.2.trans (HRR.out.2.trans (by first | exact(Kept.refl _ _).drewN _ | exact Kept.refl _ _))⟩
         all_goals
          have HNE:Hid (u≠Zq.b):=hid (of_decide_eq_false HEQ.out.symm)
          go_wp2_with fail
          go_quiet (fail)
          go_wp2_with fail
          go_roundg (gk-1)
          case measure=>have:=HLR.out;omega
          case rel=>exact⟨r+1,by go_num,HLR.out,by omega,hid ⟨fun r' hr' h1=>by
           by_cases hrr:r'<r
           ·exact HRR.out.1 r' hr' hrr
           ·obtain rfl:r'=r:=by omega
            have:=HNE.out
            rwa [HU.out]at this,HRR.out.2.trans (by first | exact(Kept.refl _ _).drewN _ | exact Kept.refl _ _)⟩⟩
        ·have f7:decide ((r:Int)<(bn:Int))=false:=by simp;omega
         have f8:decide (r<bn)=false:=by simp;omega
         have HNO:Hid (¬claT x.tx Zq):=hid (fun hc=>by
          rcases hc with hc | hc
          ·exact HNRD.out hc
          ·obtain⟨r',hr',e⟩:=List.getElem_of_mem hc
           exact HRR.out.1 r' hr' (by have:=HRN.out;have:r'<x.b.l.length:=hr';omega) e)
         clear hltr
         go_wp2_with fail
         go_roundg (G2-1)
         case measure=>have:=HLJ.out;omega
         case rel=>exact⟨j+1,by go_num,HLJ.out,by omega,hid ⟨fun j' hj' h1=>by
          by_cases hjj:j'<j
          ·exact HJ.out.1 j' hj' hjj
          ·obtain rfl:j'=j:=by omega
           have:=HNO.out
           rwa [HZ.out]at this,HKB.out.2.trans HRR.out.2⟩⟩
    ·have f3:decide ((j:Int)<(m:Int))=false:=by simp;omega
     have f4:decide (j<m)=false:=by simp;omega
     have HNO:Hid (∀z∈y.l,¬claT x.tx z):=hid (fun z hz=>by
      obtain⟨j',hj',rfl⟩:=List.getElem_of_mem hz
      exact HJ.out.1 j' hj' (by have:=HMM.out;omega))
     clear hltj hrow
     go_wp2_with fail
     go_roundg (G-1)
     case measure=>have:=HLT.out;omega
     case rel=>exact⟨i+1,by go_num,by have:=HYI.out.2;omega,HLT.out,by omega,hid ⟨fun i' y' h1 h2 h3=>by
      by_cases hii:i'<i
      ·exact HI.out.1 i' y' h1 hii h3
      ·obtain rfl:i'=i:=by omega
       rw[HYI.out.1]at h3
       injection h3 with h3
       subst h3
       exact HNO.out,HJ.out.2⟩⟩
  ·have f1:decide ((i:Int)<(n:Int))=false:=by simp;omega
   have f2:decide (i<n)=false:=by simp;omega
   have HE:Hid (¬ConR R.abs x.tx):=hid (fun hc=>by
    obtain⟨i',y,h1,h2,z,h3,h4⟩:=HCON.out.1 hc
    have h5:=(List.getElem?_eq_some_iff.1 h2).1
    exact HI.out.1 i' y h1 (by have:=HN.out;omega) h2 z h3 h4)
   clear hlt
   go_wp2_with fail
   go_ret
   exact⟨false,rfl,by simp[HE.out],HI.out.2⟩

end Go.Proofs.YtcfociogljhbiaaGreatDoor
