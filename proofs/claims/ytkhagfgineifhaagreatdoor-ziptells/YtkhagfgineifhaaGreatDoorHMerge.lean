import Derived.Test.YtkhagfgineifhaaGreatDoorHItem
set_option maxHeartbeats 4000000
set_option maxRecDepth 100000
namespace Go.Proofs.YtkhagfgineifhaaGreatDoor
open Go.RowKit
theorem Gh{a a':Option Addr}{n n' c c':Nat}(h1:a=a')(h2:n=n')(h3:c=c'):Value.slice a n c=.slice a' n' c':=by rw[h1,h2,h3]
def aQ(ns:List Nat):List Nat:=(aD ns).map (key ns)
theorem bj(ns:List Nat):(aQ ns).length=(aD ns).length:=by simp[aQ]
theorem Bj(ns:List Nat):Up (aQ ns):=List.pairwise_map.2 ((gR ns).imp (λ{a b} h=>by unfold Lt at h;omega))
theorem Hr(ns:List Nat)(r:Nat)(h:r<(aD ns).length):(aQ ns)[r]'(by rw[bj];exact h)=key ns (aD ns)[r]:=by simp[aQ]
theorem sV(ns:List Nat)(r:Nat)(h:r<(aD ns).length):(aQ ns).drop r=key ns (aD ns)[r]::(aQ ns).drop (r+1):=by rw[List.drop_eq_getElem_cons (by rw[bj];exact h),Hr ns r h]
structure Box2(w:World)(bu bc:Nat)(vu vc:Value)(I:Nat->Prop)(ns:List Nat):Prop where
 cu:w.cell? ⟨bu,0,none⟩=some vu
 cc:w.cell? ⟨bc,0,none⟩=some vc
 su:SrcE am w I vu (aD ns)
 sc:SrcE am w I vc ns
theorem Box2.same{w w':World}{bu bc:Nat}{vu vc:Value}{I:Nat->Prop}{ns:List Nat}(h:Box2 w bu bc vu vc I ns)(hk:Same w w'):Box2 w' bu bc vu vc I ns:=
 ⟨hk.cell h.cu (λh=>h),hk.cell h.cc (λh=>h),h.su.same hk,h.sc.same hk⟩
theorem Em(w:World)(B0 bu bc:Nat)(vu vc:Value)(I:Nat→Prop)(ns:List Nat)(its:List (Nat×Bool))(v:Value)(hb:Box2 w bu bc vu vc I ns)(bm:aD ns≠[])(hns:ns.length≤288)(hrow:TRow B0 w v its)(Il:its.length≤1000)
  (hW:∀x∈its,x.1<=40000000000000000) (hk:∀n∈ns,n<=1000000000000):
  Calls Tryz.prog 183 #[v,.pointer (some ⟨bu,0,none⟩),.pointer (some ⟨bc,0,none⟩)] w λe w'=>∃v',e=.returned v'/\TRow w.heap.size w' v' (mg (aQ ns) (cR (its.map (·.1))))/\Same w w':=by
 obtain⟨ps,Jf⟩:∃ps,ps=cR (its.map (·.1)):=⟨_,rfl⟩
 rw[<-Jf];have sg:ps.length=its.length / 2:=by rw[Jf,b6,List.length_map]
 have OE:(aD ns).length<=288:=Nat.le_trans (cJ ns) hns;have yN:0<(aD ns).length:=List.length_pos_iff.2 bm;obtain⟨b,o,cap,N9,_,_,_⟩:=hb.su.get 0 yN;subst N9;have cD:(aD ns).length<=cap:=by obtain⟨_,_,e,h,_⟩:=hb.su;simp only[Value.slice.injEq]at e;omega
 obtain⟨c0,oc,capc,Qo,_,_,_⟩:=hb.sc.get 0 (by have:=cJ ns;omega);subst Qo;obtain⟨ai,capi,rfl,OD,bZ⟩:=hrow.shape;have cu:=hb.cu;have HB:Hid (Box2 w bu bc (.slice (some ⟨b,o,none⟩) (aD ns).length cap) (.slice (some ⟨c0,oc,none⟩) ns.length capc) I ns):=hb;have HPS:Hid (ps=cR (its.map (·.1))/\ps.length=its.length / 2):=⟨Jf,sg⟩
 have HCELL:Hid (its≠[]->∃g,ai=some ⟨g,0,none⟩/\g<w.heap.size/\∀j (_:j<its.length),w.cell? ⟨g,j*2,none⟩=some (.int .i64 (its[j].1:Int))/\w.cell? ⟨g,j*2+1,none⟩=some (.bool its[j].2)):=bZ;have HWW:Hid (∀x∈its,x.1<=40000000000000000):=hW;have HKK:Hid (∀n∈ns,n<=1000000000000):=hk;obtain⟨m,hm⟩:∃m,m=(aD ns).length:=⟨_,rfl⟩
 have HMM:Hid (m=(aD ns).length):=hm;rw[<-hm]at OE yN cD HB cu;obtain⟨tot,KC⟩:∃tot,tot=mg (aQ ns) ps:=⟨_,rfl⟩
 have HTOT:Hid (tot=mg (aQ ns) ps/\tot.length<=800):=⟨KC,by rw[KC,sX,bj,sg,<-hm];omega⟩
 rw[<-KC];clear Jf sg hb hrow hW hk bZ bm KC;obtain⟨il,yr⟩:∃il,il=its.length:=⟨_,rfl⟩
 have HIL:Hid (il=its.length):=yr;rw[<-yr]at Il OD ⊢;clear yr hm;go_enter Tryz.func183,Tryz.ntmps183;go_wp2_with fail;go_loopg [5,6,7] il (fun q z5 z6 z7 wr=>∃(i j r px:Nat) (out:List (Nat×Bool)),il-i≤q∧i≤1002∧r≤m∧Hid (r<m→px=o+r)∧z6=.slice (some ⟨b,px,none⟩) (m-r) (cap-r)∧z7=.int .i64 (i:Nat) ∧
   Hid (out++mg ((aQ ns).drop r) (ps.drop j)=tot/\2*j<=il/\i=1+2*j)/\Hid (TRow w.heap.size wr z5 out)/\Hid (Same w wr))
 case atStart=>exact⟨1,0,0,o,[],by omega,by omega,by omega,hid (λ_=>rfl),rfl,rfl,hid ⟨by rw[HTOT.out.1];simp,by omega,by omega⟩,TRow.nil,Kept.refl _ _⟩
 case round=>
  obtain⟨i,j,r,px,out,hq,hi,hr,HPX,rfl,rfl,HF,HR,HK⟩:=hrel;obtain⟨IY,oY⟩:∃x,x=gk:=⟨_,rfl⟩
  rw[<-oY]at hq;have HG:Hid (IY=gk):=oY;clear oY;by_cases hlt:i<il
  ·have Q6:2*j+1<its.length:=(by have:=HIL.out;have:=HF.out.2.2;omega);obtain⟨gi,Us,Z3,ey⟩:=HCELL.out (by intro e;rw[e]at Q6;simp at Q6);subst Us;obtain⟨x1,ic⟩:∃x,x=its[2*j].1:=⟨_,rfl⟩
   obtain⟨x2,gh⟩:∃x,x=its[2*j+1].1:=⟨_,rfl⟩
   obtain⟨h,hh⟩:∃h,h=2*j:=⟨_,rfl⟩
   have vw:i=h+1:=(by have:=HF.out.2.2;omega);have c1:wr.cell? ⟨gi,h*2,none⟩=some (.int .i64 (x1:Int)):=(by rw[ic,hh];exact HK.out.cell (ey (2*j) (by omega)).1 (λh=>h));have c2:wr.cell? ⟨gi,i*2,none⟩=some (.int .i64 (x2:Int)):=(by rw[gh,vw,hh];exact HK.out.cell (ey (2*j+1) (by omega)).1 (λh=>h));have W9:x1<=40000000000000000:=(by rw[ic];exact HWW.out _ (List.getElem_mem _));have XS:x2<=40000000000000000:=(by rw[gh];exact HWW.out _ (List.getElem_mem _));obtain⟨P,hP⟩:∃P,P=x1+x2:=⟨_,rfl⟩
   have HP:Hid (ps.drop j=P::ps.drop (j+1)):=hid (by
    have P7:j<ps.length:=(by have:=HPS.out.2;omega);rw[List.drop_eq_getElem_cons P7,hP];congr 1;have h1:=HPS.out.1;subst h1;rw[gD _ _ P7];simp[ic,gh])
   have Z2:((x1:Int)+(x2:Int))=(P:Int):=(by omega);have RP:P<=80000000000000000:=(by omega);have jE:((i:Int)-1)=(h:Int):=(by omega);have Jl:h<il:=(by omega);clear ic gh ey hP vw hh;go_wp2_with fail;go_quiet (fail);have HR2:Hid (TRow w.heap.size (wr.drewN nq) u5 out):=HR;have HK2:Hid (Same w (wr.drewN nq)):=hid (HK.out.drewN nq);clear HR HK c1 c2;generalize wr.drewN nq=wq at HR2 HK2;go_wp2_with fail;go_loopg [5,6] (m-r) (λq z5 z6 wx=>∃(r px:Nat) (out:List (Nat×Bool)),m-r<=q/\r<=m/\Hid (r<m->px=o+r)/\z6=.slice (some ⟨b,px,none⟩) (m-r) (cap-r) /\
    Hid (out++mg ((aQ ns).drop r) (P::ps.drop (j+1))=tot)/\Hid (TRow w.heap.size wx z5 out)/\Hid (Same w wx))
   case atStart=>exact⟨r,px,out,by omega,by omega,HPX,rfl,hid (by rw[<-HP.out];exact HF.out.1),HR2,HK2⟩
   case round=>
    clear HR2 HK2;have HF0:Hid (2*j<=il/\i=1+2*j):=HF.out.2;clear HF hr HPX;obtain⟨r,px,out,Lx,hr,HPX,rfl,HF,HR,HK⟩:=hrel;have OR:out.length<=800:=(by have h1:=HF.out;have h2:=HTOT.out.2;rw[<-h1]at h2;simp at h2;omega);have dA:=HK.out.size;by_cases Lj:r<m
    ·have S4:=HPX.out Lj;subst S4;have uW:r<(aD ns).length:=(by have:=HMM.out;omega);have hbx:=HB.out.same HK.out;obtain⟨b2,o2,eS,e2,_,_,c3⟩:=hbx.su.get r uW;simp only[Value.slice.injEq,Option.some.injEq,Addr.mk.injEq,and_true]at e2;obtain⟨⟨rfl,rfl⟩,jC,rfl⟩:=e2;clear jC;obtain⟨s,hs⟩:∃s,s=(aD ns)[r]:=⟨_,rfl⟩
     have hsr:s<ns.length/\key ns s≠0:=aW.1 (by rw[hs];exact List.getElem_mem _);rw[<-hs]at c3;obtain⟨b3,o3,lp,e3,_,_,c4⟩:=hbx.sc.get s hsr.1;simp only[Value.slice.injEq,Option.some.injEq,Addr.mk.injEq,and_true]at e3;obtain⟨⟨rfl,rfl⟩,jC,rfl⟩:=e3;clear jC;rw[<-aZ hsr.1]at c4;obtain⟨y,hy⟩:∃y,y=key ns s:=⟨_,rfl⟩
     rw[<-hy]at c4;unfold am at c3 c4;have cb:=hbx.cc;have vn:y<=1000000000000:=(by rw[hy,aZ hsr.1];exact HKK.out _ (List.getElem_mem _));have hd:(aQ ns).drop r=y::(aQ ns).drop (r+1):=(by rw[sV ns r uW,<-hs,hy]);have Jj:=hsr.1;have O6:0<m-r:=(by omega);clear hs hsr hy hbx;by_cases mr:y<=P
     ·have HF2:Hid (out++[(y,false)]++mg ((aQ ns).drop (r+1)) (P::ps.drop (j+1))=tot):=hid (by
       have h1:=HF.out;rw[hd,kR _ _ mr]at h1;simpa using h1)
      clear hd;have Tk:decide (y<=P)=true:=(by simp[mr]);go_wp2_with fail;go_quiet (fail);have HR2:Hid (TRow w.heap.size (wr.drewN nq) u5 out):=HR;have HK2:Hid (Same w (wr.drewN nq)):=hid (HK.out.drewN nq);have Pc:(wr.drewN nq).cell? ⟨b,o+r,none⟩=some (.int .i64 (s:Int)):=c3;have PK:(wr.drewN nq).cell? ⟨c0,oc+s,none⟩=some (.int .i64 (y:Int)):=c4;have cb':(wr.drewN nq).cell? ⟨bc,0,none⟩=some (.slice (some ⟨c0,oc,none⟩) ns.length capc):=cb;have IL:w.heap.size<=(wr.drewN nq).heap.size:=dA;clear HR HK c3 c4 cb dA;generalize wr.drewN nq=wq at HR2 HK2 Pc PK cb' IL;go_wp2_with fail;go_region_law (refine ov w.heap.size rfl (.tmp 43) (.tmp 51) rfl u5 out (by simp[Act.eval]) (World.ownsRow.alloc HR2.out _) ⟨wq.heap.size,0,none⟩ (y,false) (by simp[Act.eval]) (mT _ _ _) (by omega) (by simp;omega) ?_;intro v' w1 hrow mw)
      all_goals
       have HR3:Hid (TRow w.heap.size w1 v' (out++[(y,false)])):=hrow;have HK3:Hid (Same w w1):=hid (Kept.grown ((HK2.out.alloc _).drew) mw (λk e=>.inr (HR2.out.ge e)));clear hrow mw HR2 HK2 Pc PK cb';go_wp2_with fail
       all_goals
        go_roundg (gk-1)
        case measure=>omega
        case rel=>
         refine⟨r+1,_,out++[(y,false)],by omega,by omega,?_,Gh rfl (by omega) (by omega),HF2,HR3,HK3⟩;exact hid (λ_=>by omega)
     ·have HF2:Hid (out++[(P,true)]++mg ((aQ ns).drop r) (ps.drop (j+1))=tot):=hid (by
       have h1:=HF.out;rw[hd,kQ _ _ mr,<-hd]at h1;simpa using h1)
      clear hd;have Tk:decide (y<=P)=false:=(by simp;omega);go_wp2_with fail;go_quiet (fail);have HR2:Hid (TRow w.heap.size (wr.drewN nq) u5 out):=HR;have HK2:Hid (Same w (wr.drewN nq)):=hid (HK.out.drewN nq);have IL:w.heap.size<=(wr.drewN nq).heap.size:=dA;clear HR HK c3 c4 cb dA;generalize wr.drewN nq=wq at HR2 HK2 IL;go_wp2_with (at_builtin;refine ee _ w.heap.size rfl (.tmp 55) (.tmp 58) rfl u5 out rfl (World.ownsRow.alloc HR2.out _) ⟨wq.heap.size,0,none⟩ (P,true) rfl (mT _ _ _) (by omega) (by simp;omega) ?_;intro v' w1 hrow mw);have HR3:Hid (TRow w.heap.size w1 v' (out++[(P,true)])):=hrow;have HK3:Hid (Same w w1):=hid (Kept.grown (HK2.out.alloc _) mw (λk e=>.inr (HR2.out.ge e)));clear hrow mw HR2 HK2;go_wp2_with fail;go_roundg (IY-1)
      case measure=>have:=HG.out;omega
      case rel=>exact⟨i+2,j+1,r,o+r,out++[(P,true)],by omega,by omega,by omega,hid (λ_=>rfl),rfl,by go_num,hid ⟨HF2.out,by have:=HF0.out;omega,by have:=HF0.out;omega⟩,HR3,HK3⟩
    ·have Th:r=m:=(by omega);have hd:(aQ ns).drop r=[]:=List.drop_eq_nil_of_le (by rw[bj];have:=HMM.out;omega);have HF2:Hid (out++[(P,true)]++mg ((aQ ns).drop r) (ps.drop (j+1))=tot):=hid (by
      have h1:=HF.out;rw[hd,mO]at h1;rw[hd];simpa using h1)
     have O6:m-r=0:=(by omega);clear hd Th;go_wp2_with fail;go_quiet (fail);have HR2:Hid (TRow w.heap.size (wr.drewN nq) u5 out):=HR;have HK2:Hid (Same w (wr.drewN nq)):=hid (HK.out.drewN nq);have IL:w.heap.size<=(wr.drewN nq).heap.size:=dA;clear HR HK dA;generalize wr.drewN nq=wq at HR2 HK2 IL;go_wp2_with (at_builtin;refine ee _ w.heap.size rfl (.tmp 55) (.tmp 58) rfl u5 out rfl (World.ownsRow.alloc HR2.out _) ⟨wq.heap.size,0,none⟩ (P,true) rfl (mT _ _ _) (by omega) (by simp;omega) ?_;intro v' w1 hrow mw);have HR3:Hid (TRow w.heap.size w1 v' (out++[(P,true)])):=hrow;have HK3:Hid (Same w w1):=hid (Kept.grown (HK2.out.alloc _) mw (λk e=>.inr (HR2.out.ge e)));clear hrow mw HR2 HK2;go_wp2_with fail;go_roundg (IY-1)
     case measure=>have:=HG.out;omega
     case rel=>exact⟨i+2,j+1,r,_,out++[(P,true)],by omega,by omega,by omega,HPX,by rw[O6],by go_num,hid ⟨HF2.out,by have:=HF0.out;omega,by have:=HF0.out;omega⟩,HR3,HK3⟩
  ·have K8:ps.drop j=[]:=List.drop_eq_nil_of_le (by have:=HPS.out.2;have:=HIL.out;have:=HF.out;omega);have HF1:Hid (out++mg ((aQ ns).drop r) []=tot):=hid (by have h:=HF.out.1;rw[K8]at h;exact h);clear K8 HF;go_wp2_with fail;go_loopg [5,62] (m-r) (λq z5 zk wx=>∃(k:Nat) (out:List (Nat×Bool)),m-r-k<=q/\k<=m-r/\zk=.int .i64 (k:Nat)/\Hid (out++mg ((aQ ns).drop (r+k)) []=tot)/\Hid (TRow w.heap.size wx z5 out)/\Hid (Same w wx))
   case atStart=>exact⟨0,out,by omega,by omega,rfl,HF1,HR,HK⟩
   case round=>
    clear HF1 HR HK;obtain⟨k,out,Lx,hk,rfl,HF,HR,HK⟩:=hrel;have OR:out.length<=800:=(by have h1:=HF.out;have h2:=HTOT.out.2;rw[<-h1]at h2;simp at h2;omega);have dA:=HK.out.size;by_cases Lj:k<m-r
    ·have S4:=HPX.out (by omega);subst S4;have uW:r+k<(aD ns).length:=(by have:=HMM.out;omega);have hbx:=HB.out.same HK.out;obtain⟨b2,o2,eS,e2,_,_,c3⟩:=hbx.su.get (r+k) uW;simp only[Value.slice.injEq,Option.some.injEq,Addr.mk.injEq,and_true]at e2;obtain⟨⟨rfl,rfl⟩,jC,rfl⟩:=e2;clear jC;obtain⟨s,hs⟩:∃s,s=(aD ns)[r+k]:=⟨_,rfl⟩
     have hsr:s<ns.length/\key ns s≠0:=aW.1 (by rw[hs];exact List.getElem_mem _);rw[<-hs]at c3;obtain⟨b3,o3,lp,e3,_,_,c4⟩:=hbx.sc.get s hsr.1;simp only[Value.slice.injEq,Option.some.injEq,Addr.mk.injEq,and_true]at e3;obtain⟨⟨rfl,rfl⟩,jC,rfl⟩:=e3;clear jC;rw[<-aZ hsr.1]at c4;obtain⟨y,hy⟩:∃y,y=key ns s:=⟨_,rfl⟩
     rw[<-hy]at c4;unfold am at c3 c4;rw[<-Nat.add_assoc]at c3;have cb:=hbx.cc;have vn:y<=1000000000000:=(by rw[hy,aZ hsr.1];exact HKK.out _ (List.getElem_mem _));have HF2:Hid (out++[(y,false)]++mg ((aQ ns).drop (r+(k+1))) []=tot):=hid (by
      have h1:=HF.out;rw[sV ns (r+k) uW,<-hs,<-hy,iE,List.map_cons,<-iE]at h1;rw[<-Nat.add_assoc];simpa using h1)
     have Jj:=hsr.1;clear hs hsr hy hbx;go_wp2_with (at_builtin;refine ee _ w.heap.size rfl (.tmp 66) (.tmp 72) rfl u5 out rfl (World.ownsRow.alloc HR.out _) ⟨wr.heap.size,0,none⟩ (y,false) rfl (mT _ _ _) (by omega) (by simp;omega) ?_;intro v' w1 hrow mw);have HR3:Hid (TRow w.heap.size w1 v' (out++[(y,false)])):=hrow;have HK3:Hid (Same w w1):=hid (Kept.grown (HK.out.alloc _) mw (λk e=>.inr (HR.out.ge e)));clear hrow mw HR HK;go_wp2_with fail;go_roundg (gk-1)
     case measure=>omega
     case rel=>exact⟨k+1,out++[(y,false)],by omega,by omega,by go_num,HF2,HR3,HK3⟩
    ·have hk2:k=m-r:=(by omega);subst hk2;have he:out=tot:=by
      have h1:=HF.out;rw[List.drop_eq_nil_of_le (by rw[bj];have:=HMM.out;omega),iE]at h1;simpa using h1
     have HE:Hid (out=tot):=he;clear he;go_wp2_with fail;go_ret;exact⟨_,rfl,by rw[<-HE.out];exact HR.out,HK.out⟩
end Go.Proofs.YtkhagfgineifhaaGreatDoor
