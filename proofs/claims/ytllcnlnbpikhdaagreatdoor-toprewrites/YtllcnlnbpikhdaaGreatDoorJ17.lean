import Derived.WalkMore
import Derived.Test.YtllcnlnbpikhdaaGreatDoorJ16
set_option maxHeartbeats 8000000
set_option maxRecDepth 100000
namespace Go.Proofs.YtllcnlnbpikhdaaGreatDoor
open Go.RowKit
def Eo(n d:Nat):Value:=.agg #[.int .u8 0,.int .i64 (n:Nat),.int .i64 (d:Nat)]
theorem vX(w:World)(vd:Value)(aa:Option Addr)(na ca dQ:Nat)(h:na≤dQ):
  Calls Tryz.prog 135 #[.agg #[vd,.slice aa na ca],.int .i64 (dQ:Nat)] w λe w'=>e=.returned (Eo 0 0)/\Same w w':=by
 have g1:decide (na<=dQ)=true:=by simp;omega
 clear h;go_enter Tryz.func135,Tryz.ntmps135;go_wp2_with fail;go_step3;go_wp2_with fail;rw[Exit.noGoto_ret];refine bodyPost_ret (v:=Eo 0 0) (by simp[results,Tryz.results135,go_sem,Eo]) rfl ?_;exact⟨rfl,(((Kept.refl _ w).alloc _).alloc _).alloc _⟩
structure MS(w wr:World)(vd va:Value)(n d:Nat):Prop where
 b0:Blk wr w.heap.size #[vd,va] 157
 b1:Blk wr (w.heap.size+1) #[.int .u8 0,.int .i64 0,.int .i64 0] 133
 b2:Blk wr (w.heap.size+1+1) #[.int .u8 0,.int .i64 (n:Nat),.int .i64 (d:Nat)] 133
 same:Same w wr
theorem MS.drewN{w wr:World}{vd va:Value}{n d:Nat}(h:MS w wr vd va n d)(k:Nat):MS w (wr.drewN k) vd va n d:=⟨h.b0,h.b1,h.b2,h.same.drewN k⟩
theorem MS.start(w:World)(vd va:Value):MS w (((w.alloc (.cells #[vd,va] 157)).alloc (.cells #[.int .u8 0,.int .i64 0,.int .i64 0] 133)).alloc (.cells #[.int .u8 0,.int .i64 0,.int .i64 0] 133)) vd va 0 0:=by
 have k1:Same (w.alloc (.cells #[vd,va] 157)) (((w.alloc (.cells #[vd,va] 157)).alloc (.cells #[.int .u8 0,.int .i64 0,.int .i64 0] 133)).alloc (.cells #[.int .u8 0,.int .i64 0,.int .i64 0] 133)):=((Kept.refl _ _).alloc _).alloc _;have k2:Same ((w.alloc (.cells #[vd,va] 157)).alloc (.cells #[.int .u8 0,.int .i64 0,.int .i64 0] 133)) (((w.alloc (.cells #[vd,va] 157)).alloc (.cells #[.int .u8 0,.int .i64 0,.int .i64 0] 133)).alloc (.cells #[.int .u8 0,.int .i64 0,.int .i64 0] 133)):=(Kept.refl _ _).alloc _;refine⟨(Blk.new w _ _).kept k1 (λf=>f),?_,?_,(((Kept.refl _ w).alloc _).alloc _).alloc _⟩
 ·have:=(Blk.new (w.alloc (.cells #[vd,va] 157)) #[.int .u8 0,.int .i64 0,.int .i64 0] 133).kept k2 (λf=>f);simpa using this
 ·have:=Blk.new ((w.alloc (.cells #[vd,va] 157)).alloc (.cells #[.int .u8 0,.int .i64 0,.int .i64 0] 133)) #[.int .u8 0,.int .i64 0,.int .i64 0] 133;simpa using this
theorem MS.store{w wr:World}{vd va:Value}{n d:Nat}(h:MS w wr vd va n d)(m e:Nat):
  MS w (((wr.setCell ⟨w.heap.size+1+1,0,none⟩ (.int .u8 0)).setCell ⟨w.heap.size+1+1,1,none⟩ (.int .i64 (m:Nat))).setCell ⟨w.heap.size+1+1,2,none⟩ (.int .i64 (e:Nat))) vd va m e:=by
 have hk:Kept (λj=>j=w.heap.size+1+1) wr (((wr.setCell ⟨w.heap.size+1+1,0,none⟩ (.int .u8 0)).setCell ⟨w.heap.size+1+1,1,none⟩ (.int .i64 (m:Nat))).setCell ⟨w.heap.size+1+1,2,none⟩ (.int .i64 (e:Nat))):=
  (((Kept.refl (λj=>j=w.heap.size+1+1) wr).setCell _ _ (.inl rfl)).setCell _ _ (.inl rfl)).setCell _ _ (.inl rfl)
 refine⟨h.b0.kept hk (by omega),h.b1.kept hk (by omega),?_,Same.then h.same hk (λx hx e=>by omega)⟩;have:=((h.b2.set 0 (.int .u8 0)).set 1 (.int .i64 (m:Nat))).set 2 (.int .i64 (e:Nat));simpa using this
theorem EH{data:List Nat}{q i:Nat}(hs:eI data q i=true):oH data q<(q:Int)/\-1<=oH data q/\(0<=oH data q->eI data (oH data q).toNat i=true):=by
 rcases kj data q with⟨p,h1,h2,h3,_⟩ | ⟨h1,_⟩
 ·rw[h1];refine⟨by omega,by omega,λ_=>?_⟩;rw[Int.toNat_natCast,jR hs];exact h3
 ·rw[h1];exact⟨by omega,by omega,λh=>by omega⟩
theorem MS.answer{w wr:World}{vd va:Value}{n d:Nat}(h:MS w wr vd va n d)(m e:Nat):
  Blk (((wr.setCell ⟨w.heap.size+1,0,none⟩ (.int .u8 0)).setCell ⟨w.heap.size+1,1,none⟩ (.int .i64 (m:Nat))).setCell ⟨w.heap.size+1,2,none⟩ (.int .i64 (e:Nat))) (w.heap.size+1) #[.int .u8 0,.int .i64 (m:Nat),.int .i64 (e:Nat)] 133 /\
  Same w (((wr.setCell ⟨w.heap.size+1,0,none⟩ (.int .u8 0)).setCell ⟨w.heap.size+1,1,none⟩ (.int .i64 (m:Nat))).setCell ⟨w.heap.size+1,2,none⟩ (.int .i64 (e:Nat))):=by
 have hk:Kept (λj=>j=w.heap.size+1) wr (((wr.setCell ⟨w.heap.size+1,0,none⟩ (.int .u8 0)).setCell ⟨w.heap.size+1,1,none⟩ (.int .i64 (m:Nat))).setCell ⟨w.heap.size+1,2,none⟩ (.int .i64 (e:Nat))):=
  (((Kept.refl (λj=>j=w.heap.size+1) wr).setCell _ _ (.inl rfl)).setCell _ _ (.inl rfl)).setCell _ _ (.inl rfl)
 refine⟨?_,Same.then h.same hk (λx hx e=>by omega)⟩;have:=((h.b1.set 0 (.int .u8 0)).set 1 (.int .i64 (m:Nat))).set 2 (.int .i64 (e:Nat));simpa using this
theorem CB{data:List Nat}{q i:Nat}(hq:q<i)(hs:eI data q i=true)(hl:i+3<=data.length):jw data i (i-q)=jD data i (i-q) (258-3) 3:=by
 have h:=(iO data q i).1 hs;refine FO 3 (by decide) (λj hj=>⟨by omega,?_⟩)
 match j,hj with
 | 0,_=>rw[show i+0-(i-q)=q by omega,Nat.add_zero];exact h.1.symm
 | 1,_=>rw[show i+1-(i-q)=q+1 by omega];exact h.2.1.symm
 | 2,_=>rw[show i+2-(i-q)=q+2 by omega];exact h.2.2.symm
theorem vI(w:World)(ad:Option Addr)(L cd:Nat)(I J:Nat→Prop)(data:List Nat)(aa:Option Addr)(na ca dQ:Nat)(hd:Src w I (.slice ad L cd) data)(ha:SrcE bI w J (.slice aa na ca) (nT data))(hL:data.length=L)(Kx:L-2=na)(MX:dQ<na)(ag:L≤20000):
  Calls Tryz.prog 135 #[.agg #[.slice ad L cd,.slice aa na ca],.int .i64 (dQ:Nat)] w λe w'=>e=.returned (Eo (bD data dQ).1 (bD data dQ).2)/\Same w w':=by
 have g1:decide (na<=dQ)=false:=by simp;omega
 obtain⟨b,o,xT,bO⟩:∃b o,ad=some ⟨b,o,none⟩/\∀j (_:j<data.length),w.cell? ⟨b,o+j,none⟩=some (.int .u8 (data[j]:Nat)):=by obtain⟨ao',cap',e1,e2⟩:=hd;injection e1 with e3 _ _;subst e3;obtain⟨b,o,e4,_,e5⟩:=e2 (by intro e;rw[e]at hL;simp at hL;omega);exact⟨b,o,e4,e5⟩
 subst xT;obtain⟨b',o',xT,G3⟩:∃b o,aa=some ⟨b,o,none⟩/\∀j,j<na->w.cell? ⟨b,o+j,none⟩=some (.int .i64 (oH data j)):=by obtain⟨ao',cap',e1,_,e2⟩:=ha;injection e1 with e3 _ _;subst e3;obtain⟨b,o,e4,_,e5⟩:=e2 (by intro e;have:=congrArg List.length e;rw[gM]at this;simp at this;omega);refine⟨b,o,e4,λj hj=>?_⟩;have h1:j<(nT data).length:=(by rw[gM];omega);have h2:=e5 j h1;rw[Bc data j (by omega) h1]at h2;exact h2
 subst xT;have HC:Hid (∀wr j,Same w wr->j<L->wr.cell? ⟨b,o+j,none⟩=some (.int .u8 (data.getD j 0:Nat))):=hid (λwr j hk hj=>by
  have BT:j<data.length:=(by omega);have:=hk.cell (bO j BT) (λf=>f);rw[this];simp[List.getD,BT])
 have HCA:Hid (∀wr j,Same w wr->j<na->wr.cell? ⟨b',o'+j,none⟩=some (.int .i64 (oH data j))):=hid (λwr j hk hj=>hk.cell (G3 j hj) (λf=>f));obtain⟨most,xY⟩:∃m,m=min 258 (L-dQ):=⟨_,rfl⟩
 have hm1:min (258:Int) ((L:Int)-(dQ:Int))=(most:Int):=by omega
 have hm3:3<=most/\most<=258/\dQ+most<=L:=by omega
 have HMX:Hid (∀e,jw data dQ e<=most):=hid (λe=>by rw[xY,<-hL];exact JI data dQ e (by omega));have HMO:Hid (most=258\/dQ+most=L):=hid (by omega);have HLD:Hid (data.length=L):=hL;have HNA:Hid (L-2=na):=Kx;have hat:dQ<L:=by omega
 obtain⟨W0,Ed⟩:∃W0,W0=(((w.alloc (.cells #[.slice (some ⟨b,o,none⟩) L cd,.slice (some ⟨b',o',none⟩) na ca] 157)).alloc (.cells #[.int .u8 0,.int .i64 0,.int .i64 0] 133)).alloc (.cells #[.int .u8 0,.int .i64 0,.int .i64 0] 133)):=⟨_,rfl⟩
 have KE:Hid (MS w W0 (.slice (some ⟨b,o,none⟩) L cd) (.slice (some ⟨b',o',none⟩) na ca) 0 0):=hid (by rw[Ed];exact MS.start w _ _);have cA:=HCA.out (((w.alloc (.cells #[.slice (some ⟨b,o,none⟩) L cd,.slice (some ⟨b',o',none⟩) na ca] 157)).alloc (.cells #[.int .u8 0,.int .i64 0,.int .i64 0] 133)).alloc (.cells #[.int .u8 0,.int .i64 0,.int .i64 0] 133)) dQ ((((Kept.refl _ w).alloc _).alloc _).alloc _) MX;obtain⟨f0,MP⟩:∃f,f=oH data dQ:=⟨_,rfl⟩
 rw[<-MP]at cA;have HF0:Hid (f0=oH data dQ):=MP;clear hd ha bO G3 xY hL Kx MP;go_enter Tryz.func135,Tryz.ntmps135;go_wp2_with fail;go_step3;go_wp2_with fail
 all_goals
  first
   | (have e6:(258:Int)=(most:Int):=by omega
      rw[e6])
   | (have e6:(L:Int)-(dQ:Int)=(most:Int):=by omega
      rw[e6])
  clear e6 h hm1;go_step3;go_wp2_with fail;rw[<-Ed];clear Ed cA g1;go_loopg [7] (dQ+1) (λq zf wr=>∃(fr:Int) (n d:Nat),zf=.int .i64 fr/\(fr+1).toNat<=q/\fr<(dQ:Int)/\-1<=fr/\n<most/\d<=dQ/\Hid (Found data dQ fr n d)/\Hid (0<=fr->eI data fr.toNat dQ=true)/\Hid (MS w wr (.slice (some ⟨b,o,none⟩) L cd) (.slice (some ⟨b',o',none⟩) na ca) n d))
  case atStart=>
   rcases kj data dQ with⟨q,h1,h2,h3,_⟩ | ⟨h1,_⟩
   ·have e:=HF0.out.trans h1;exact⟨f0,0,0,rfl,by omega,by omega,by omega,by omega,by omega,hid (by rw[HF0.out];exact Found.start),hid (λ_=>by rw[e];exact h3),KE⟩
   ·have e:=HF0.out.trans h1;exact⟨f0,0,0,rfl,by omega,by omega,by omega,by omega,by omega,hid (by rw[HF0.out];exact Found.start),hid (λ_=>by omega),KE⟩
  case round=>
   obtain⟨fr,n,d,rfl,hq,Rf,hf1,Eq,TU,HFO,HSA,HM⟩:=hrel;by_cases hneg:fr=-1
   ·subst hneg;have HEQ:Hid ((n,d)=bD data dQ):=hid HFO.out.done;have f0:wr.cell? ⟨w.heap.size+1+1,0,none⟩=some (.int .u8 0):=HM.out.b2.cell 0;have f1:wr.cell? ⟨w.heap.size+1+1,1,none⟩=some (.int .i64 (n:Nat)):=HM.out.b2.cell 1;have f2:wr.cell? ⟨w.heap.size+1+1,2,none⟩=some (.int .i64 (d:Nat)):=HM.out.b2.cell 2;have r0:wr.cell? ⟨w.heap.size+1,0,none⟩=some (.int .u8 0):=HM.out.b1.cell 0;have r1:wr.cell? ⟨w.heap.size+1,1,none⟩=some (.int .i64 0):=HM.out.b1.cell 1;have r2:wr.cell? ⟨w.heap.size+1,2,none⟩=some (.int .i64 0):=HM.out.b1.cell 2;have z0:wr.frozen? ⟨w.heap.size+1,0,none⟩=false:=HM.out.b1.frozen 0;have z1:wr.frozen? ⟨w.heap.size+1,1,none⟩=false:=HM.out.b1.frozen 1;have z2:wr.frozen? ⟨w.heap.size+1,2,none⟩=false:=HM.out.b1.frozen 2;have HAN:=hid (HM.out.answer n d);clear hq Rf hf1;go_wp2_with fail;rw[Exit.noGoto_ret];have q0:=HAN.out.1.cell 0;have q1:=HAN.out.1.cell 1;have q2:=HAN.out.1.cell 2;have hS:=HAN.out.2;generalize (((wr.setCell ⟨w.heap.size+1,0,none⟩ (.int .u8 0)).setCell ⟨w.heap.size+1,1,none⟩ (.int .i64 (n:Nat))).setCell ⟨w.heap.size+1,2,none⟩ (.int .i64 (d:Nat)))=WF at q0 q1 q2 hS ⊢;simp at q0 q1 q2;refine bodyPost_ret (v:=Eo n d) (by simp[results,Tryz.results135,go_sem,Eo,q0,q1,q2]) rfl ?_;exact⟨by rw[<-HEQ.out],hS⟩
   ·obtain⟨G,hG⟩:∃G,G=gk:=⟨_,rfl⟩
    obtain⟨q,rfl⟩:∃q:Nat,fr=(q:Int):=⟨fr.toNat,by omega⟩
    have M7:q<dQ:=(by omega);have XB:q+1<=G:=(by omega);have gq:((q:Int) != -1)=true:=by first | (simp;done) | (simp;omega)
    have HSQ:Hid (eI data q dQ=true):=hid (by have:=HSA.out (by omega);simpa using this);have HNX:=hid (EH HSQ.out);obtain⟨p1,Es⟩:∃p,p=q+n:=⟨_,rfl⟩
    obtain⟨p2,Az⟩:∃p,p=dQ+n:=⟨_,rfl⟩
    have a1:(q:Int)+(n:Int)=(p1:Int):=(by omega);have a2:(dQ:Int)+(n:Int)=(p2:Int):=(by omega);have l1:p1<L:=(by omega);have l2:p2<L:=(by omega);have SL:IntKind.i64.wrap (p1:Int)=(p1:Int):=(by rw[IntKind.wrap_i64];omega);have OA:IntKind.i64.wrap (p2:Int)=(p2:Int):=(by rw[IntKind.wrap_i64];omega);have c1:=HC.out wr p1 HM.out.same l1;have c2:=HC.out wr p2 HM.out.same l2;obtain⟨x1,fO⟩:∃x,x=data.getD p1 0:=⟨_,rfl⟩
    obtain⟨x2,fX⟩:∃x,x=data.getD p2 0:=⟨_,rfl⟩
    rw[<-fO]at c1;rw[<-fX]at c2;have e0:wr.cell? ⟨w.heap.size,0,none⟩=some (.slice (some ⟨b,o,none⟩) L cd):=HM.out.b0.cell 0;have e1:wr.cell? ⟨w.heap.size,1,none⟩=some (.slice (some ⟨b',o',none⟩) na ca):=HM.out.b0.cell 1;have f1:wr.cell? ⟨w.heap.size+1+1,1,none⟩=some (.int .i64 (n:Nat)):=HM.out.b2.cell 1;have cq:=HCA.out wr q HM.out.same (by omega);have Ym:q<na:=(by omega);obtain⟨f',Iy⟩:∃f,f=oH data q:=⟨_,rfl⟩
    rw[<-Iy]at cq;have HF':Hid (f'=oH data q):=Iy;by_cases hx:x1=x2
    ·have HMB:Hid (jw data dQ (dQ-q)=jD data dQ (dQ-q) (258-3) 3):=hid (CB M7 HSQ.out (by rw[HLD.out];omega));have gx:((x1:Int) != (x2:Int))=false:=(by simp[hx]);clear hx fO fX Es Az hneg hf1 Rf hq Iy;go_wp2_with fail;go_quiet (fail);go_wp2_with fail;go_loopg [8] most (λk zm wq=>∃(m:Nat),zm=.int .i64 (m:Nat)/\most-m<=k/\3<=m/\m<=most/\Hid (jw data dQ (dQ-q)=jD data dQ (dQ-q) (258-m) m)/\Hid (MS w wq (.slice (some ⟨b,o,none⟩) L cd) (.slice (some ⟨b',o',none⟩) na ca) n d))
     case atStart=>exact⟨3,rfl,by omega,by omega,by omega,HMB,hid (HM.out.drewN _)⟩
     case round=>
      clear HMB HM c1 c2 e0 e1 f1 cq a1 a2 l1 l2 SL OA gx gq;obtain⟨m,rfl,rG,hm3,OR,HML,HM⟩:=hrel;obtain⟨dd,yk⟩:∃x,x=dQ-q:=⟨_,rfl⟩
      have ju:(dQ:Int)-(q:Int)=(dd:Int):=(by omega);have e0:wr.cell? ⟨w.heap.size,0,none⟩=some (.slice (some ⟨b,o,none⟩) L cd):=HM.out.b0.cell 0;have e1:wr.cell? ⟨w.heap.size,1,none⟩=some (.slice (some ⟨b',o',none⟩) na ca):=HM.out.b0.cell 1;have f0:wr.cell? ⟨w.heap.size+1+1,0,none⟩=some (.int .u8 0):=HM.out.b2.cell 0;have f1:wr.cell? ⟨w.heap.size+1+1,1,none⟩=some (.int .i64 (n:Nat)):=HM.out.b2.cell 1;have f2:wr.cell? ⟨w.heap.size+1+1,2,none⟩=some (.int .i64 (d:Nat)):=HM.out.b2.cell 2;have y0:wr.frozen? ⟨w.heap.size+1+1,0,none⟩=false:=HM.out.b2.frozen 0;have y1:wr.frozen? ⟨w.heap.size+1+1,1,none⟩=false:=HM.out.b2.frozen 1;have y2:wr.frozen? ⟨w.heap.size+1+1,2,none⟩=false:=HM.out.b2.frozen 2;have HST:=hid (HM.out.store m dd);obtain⟨WS,Qf⟩:∃W,W=(((wr.setCell ⟨w.heap.size+1+1,0,none⟩ (.int .u8 0)).setCell ⟨w.heap.size+1+1,1,none⟩ (.int .i64 (m:Nat))).setCell ⟨w.heap.size+1+1,2,none⟩ (.int .i64 (dd:Nat))):=⟨_,rfl⟩
      by_cases hfull:m=most
      ·have HEQ:Hid ((m,dd)=bD data dQ):=hid (by
        rw[yk];refine HFO.out.full M7 HSQ.out ?_ hm3 (by omega) (by rw[hfull];exact HMX.out);rw[HML.out];rcases HMO.out with h9 | h9
        ·rw[hfull,h9];rfl
        ·exact sv (by rw[HLD.out];omega))
       have gm:((m:Int)==(most:Int))=true:=(by simp[hfull]);rw[<-Qf]at HST;have f0:WS.cell? ⟨w.heap.size+1+1,0,none⟩=some (.int .u8 0):=HST.out.b2.cell 0;have f1:WS.cell? ⟨w.heap.size+1+1,1,none⟩=some (.int .i64 (m:Nat)):=HST.out.b2.cell 1;have f2:WS.cell? ⟨w.heap.size+1+1,2,none⟩=some (.int .i64 (dd:Nat)):=HST.out.b2.cell 2;have r0:WS.cell? ⟨w.heap.size+1,0,none⟩=some (.int .u8 0):=HST.out.b1.cell 0;have r1:WS.cell? ⟨w.heap.size+1,1,none⟩=some (.int .i64 0):=HST.out.b1.cell 1;have r2:WS.cell? ⟨w.heap.size+1,2,none⟩=some (.int .i64 0):=HST.out.b1.cell 2;have z0:WS.frozen? ⟨w.heap.size+1,0,none⟩=false:=HST.out.b1.frozen 0;have z1:WS.frozen? ⟨w.heap.size+1,1,none⟩=false:=HST.out.b1.frozen 1;have z2:WS.frozen? ⟨w.heap.size+1,2,none⟩=false:=HST.out.b1.frozen 2;have HAN:=hid (HST.out.answer m dd);clear hfull rG yk;go_upto_region 16 with fail
       rw[<-Qf];clear Qf;go_wp2_with fail;rw[Exit.noGoto_ret];have q0:=HAN.out.1.cell 0;have q1:=HAN.out.1.cell 1;have q2:=HAN.out.1.cell 2;have hS:=HAN.out.2;generalize (((WS.setCell ⟨w.heap.size+1,0,none⟩ (.int .u8 0)).setCell ⟨w.heap.size+1,1,none⟩ (.int .i64 (m:Nat))).setCell ⟨w.heap.size+1,2,none⟩ (.int .i64 (dd:Nat)))=WF at q0 q1 q2 hS ⊢;simp at q0 q1 q2;refine bodyPost_ret (v:=Eo m dd) (by simp[results,Tryz.results135,go_sem,Eo,q0,q1,q2]) rfl ?_;exact⟨by rw[<-HEQ.out],hS⟩
      ·have gm:((m:Int)==(most:Int))=false:=(by simp;omega);have Lw:m<most:=(by omega);obtain⟨p1,Es⟩:∃p,p=q+m:=⟨_,rfl⟩
       obtain⟨p2,Az⟩:∃p,p=dQ+m:=⟨_,rfl⟩
       have a1:(q:Int)+(m:Int)=(p1:Int):=(by omega);have a2:(dQ:Int)+(m:Int)=(p2:Int):=(by omega);have l1:p1<L:=(by omega);have l2:p2<L:=(by omega);have SL:IntKind.i64.wrap (p1:Int)=(p1:Int):=(by rw[IntKind.wrap_i64];omega);have OA:IntKind.i64.wrap (p2:Int)=(p2:Int):=(by rw[IntKind.wrap_i64];omega);have c1:=HC.out wr p1 HM.out.same l1;have c2:=HC.out wr p2 HM.out.same l2;obtain⟨Sl,Id⟩:∃x,x=data.getD p1 0:=⟨_,rfl⟩
       obtain⟨Rt,G8⟩:∃x,x=data.getD p2 0:=⟨_,rfl⟩
       rw[<-Id]at c1;rw[<-G8]at c2;have cq:=HCA.out wr q HM.out.same (by omega);rw[<-HF'.out]at cq;clear hfull Qf;by_cases hx:Sl=Rt
       ·have RL:Hid (jw data dQ (dQ-q)=jD data dQ (dQ-q) (258-(m+1)) (m+1)):=hid (by
         rw[HML.out,show 258-m=(258-(m+1))+1 by omega];refine rZ (by rw[HLD.out];omega) ?_;rw[show dQ+m-(dQ-q)=q+m by omega,<-Es,<-Az,<-Id,<-G8];exact hx.symm)
        have gx:((Sl:Int) != (Rt:Int))=false:=(by simp[hx]);clear hx Id G8 Es Az yk;go_wp2_with fail;go_quiet (fail);go_wp2_with fail;go_roundg (gk-1)
        case measure=>omega
        case rel=>exact⟨m+1,by go_num,by omega,by omega,by omega,RL,hid (HM.out.drewN _)⟩
       ·have HME:Hid (jw data dQ (dQ-q)=m):=hid (by
         rw[HML.out];refine sv (λh9=>hx ?_);have:=h9.2;rw[show dQ+m-(dQ-q)=q+m by omega,<-Es,<-Az,<-Id,<-G8]at this;exact this.symm)
        have gx:((Sl:Int) != (Rt:Int))=true:=(by simp;omega);clear hx Id G8 Es Az;by_cases m5:n<m
        ·have Qw:Hid (Found data dQ (oH data q) m dd):=hid (by
          have:=(HFO.out.more M7 HSQ.out (by rw[HME.out];exact hm3) (by rw[HME.out];exact m5)).1;rw[HME.out,<-yk]at this;exact this)
         have gn:decide (n<m)=true:=(by simp;omega);have QY:dd<=dQ:=(by omega);have HSTD:Hid (∀k,MS w (((wr.drewN k).setCell ⟨w.heap.size+1+1,0,none⟩ (.int .u8 0)).setCell ⟨w.heap.size+1+1,1,none⟩ (.int .i64 (m:Nat)) |>.setCell ⟨w.heap.size+1+1,2,none⟩ (.int .i64 (dd:Nat))) (.slice (some ⟨b,o,none⟩) L cd) (.slice (some ⟨b',o',none⟩) na ca) m dd):=hid (λk=>(HM.out.drewN k).store m dd);clear m5 yk;go_wp2_with fail;go_quiet (fail);go_upto_region 7 with fail
         have hMSN:=HSTD.out nq;generalize ((((wr.drewN nq).setCell ⟨w.heap.size+1+1,0,none⟩ (.int .u8 0)).setCell ⟨w.heap.size+1+1,1,none⟩ (.int .i64 (m:Nat))).setCell ⟨w.heap.size+1+1,2,none⟩ (.int .i64 (dd:Nat)))=WN at hMSN ⊢;have Qy:=hid hMSN;have e1:WN.cell? ⟨w.heap.size,1,none⟩=some (.slice (some ⟨b',o',none⟩) na ca):=hMSN.b0.cell 1;have UT:=HCA.out WN q hMSN.same (by omega);rw[<-HF'.out]at UT;clear hMSN HSTD;go_wp2_with fail;go_roundg (G-1)
         case measure=>omega
         case rel=>
          have h9:=HNX.out;exact⟨f',m,dd,rfl,by rw[HF'.out];omega,by rw[HF'.out];omega,by rw[HF'.out];omega,Lw,QY,by rw[HF'.out];exact Qw,by rw[HF'.out];exact hid h9.2.2,Qy⟩
        ·have Qw:Hid (Found data dQ (oH data q) n d):=hid (HFO.out.not M7 HSQ.out (by rw[HME.out];omega));have gn:decide (n<m)=false:=(by simp;omega);clear m5 yk;go_wp2_with fail;go_quiet (fail);go_wp2_with fail;go_roundg (G-1)
         case measure=>omega
         case rel=>
          have h9:=HNX.out;exact⟨f',n,d,rfl,by rw[HF'.out];omega,by rw[HF'.out];omega,by rw[HF'.out];omega,Eq,TU,by rw[HF'.out];exact Qw,by rw[HF'.out];exact hid h9.2.2,hid (HM.out.drewN _)⟩
    ·have gx:((x1:Int) != (x2:Int))=true:=(by simp;omega);have HF2:Hid (Found data dQ (oH data q) n d):=hid (HFO.out.not M7 HSQ.out (Lh (n:=n) (by
      rw[show dQ+n-(dQ-q)=q+n by omega,<-Es,<-Az,<-fO,<-fX];exact λe=>hx e.symm)))
     clear hx fO fX Es Az hneg hf1 Rf hq Iy;go_wp2_with fail;go_quiet (fail);go_wp2_with fail;go_roundg (gk-1)
     case measure=>omega
     case rel=>
      have h9:=HNX.out;exact⟨f',n,d,rfl,by rw[HF'.out];omega,by rw[HF'.out];omega,by rw[HF'.out];omega,Eq,TU,by rw[HF'.out];exact HF2,by rw[HF'.out];exact hid h9.2.2,hid (HM.out.drewN _)⟩
theorem lQ(w:World)(ad:Option Addr)(L cd:Nat)(I J:Nat→Prop)(data:List Nat)(aa:Option Addr)(na ca dQ:Nat)(hd:Src w I (.slice ad L cd) data)(ha:SrcE bI w J (.slice aa na ca) (nT data))(hL:data.length=L)(Kx:L-2=na)(ag:L≤20000):
  Calls Tryz.prog 135 #[.agg #[.slice ad L cd,.slice aa na ca],.int .i64 (dQ:Nat)] w λe w'=>e=.returned (Eo (bD data dQ).1 (bD data dQ).2)/\Same w w':=by
 by_cases h:dQ<na
 ·exact vI w ad L cd I J data aa na ca dQ hd ha hL Kx h ag
 ·rw[yD (by omega)];exact vX w _ aa na ca dQ (by omega)
end Go.Proofs.YtllcnlnbpikhdaaGreatDoor
