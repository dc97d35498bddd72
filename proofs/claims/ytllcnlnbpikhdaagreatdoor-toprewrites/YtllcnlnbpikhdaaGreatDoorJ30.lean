import Derived.Deep.RegionLaw
import Derived.Test.YtllcnlnbpikhdaaGreatDoorJ7
set_option maxHeartbeats 4000000
set_option maxRecDepth 100000
namespace Go.Proofs.YtllcnlnbpikhdaaGreatDoor
open Go.RowKit
def AU(x:Nat×Bool):List Value:=[.int .i64 (x.1:Int),.bool x.2]
def cS(its:List (Nat×Bool)):List Value:=its.flatMap AU
theorem tZ(its:List (Nat×Bool))(j:Nat)(h:j<its.length):(cS its)[j*2]? = some (.int .i64 (its[j].1:Int))/\(cS its)[j*2+1]? = some (.bool its[j].2):=by
 induction its generalizing j with
 | nil=>simp at h
 | cons a r ih=>
  cases j with
  | zero=>simp[cS,AU]
  | succ j=>
   have:=ih j (by simpa using h);have e:cS (a::r)=.int .i64 (a.1:Int)::.bool a.2::cS r:=rfl;rw[e,show(j+1)*2=j*2+1+1 by omega];simpa using this
abbrev TRow(B:Nat)(w:World)(v:Value)(its:List (Nat×Bool)):Prop:=w.ownsRow B 258 2 v its.length (cS its)
theorem TRow.kept{F:Nat->Prop}{B:Nat}{w w':World}{v:Value}{its:List (Nat×Bool)}(h:TRow B w v its)(hk:Kept F w w')(hn:∀k,v.ownBlock=some k->¬F k):TRow B w' v its:=by
 refine⟨h.1,?_⟩;rcases h.2 with Ao | ⟨g,cap,cur,rfl,hb,rN,rest⟩
 ·exact .inl Ao
 ·refine .inr ⟨g,cap,cur,rfl,hb,?_,rest⟩;rw[hk.block g (Array.getElem?_eq_some_iff.1 rN).1 (hn g rfl)];exact rN
theorem TRow.nil{B:Nat}{w:World}:TRow B w (.slice none 0 0) []:=World.ownsRow_nil w B _ 2
theorem TRow.lt{B:Nat}{w:World}{v:Value}{its:List (Nat×Bool)}(h:TRow B w v its){k:Nat}(hk:v.ownBlock=some k):k<w.heap.size:=(World.ownsRow.lt h k hk).2
theorem TRow.ge{B:Nat}{w:World}{v:Value}{its:List (Nat×Bool)}(h:TRow B w v its){k:Nat}(hk:v.ownBlock=some k):B<=k:=(World.ownsRow.lt h k hk).1
theorem TRow.shape{B:Nat}{w:World}{v:Value}{its:List (Nat×Bool)}(h:TRow B w v its):∃ao cap,v=.slice ao its.length cap/\its.length<=cap/\(its≠[]->∃g,ao=some ⟨g,0,none⟩/\g<w.heap.size/\∀j (_:j<its.length),w.cell? ⟨g,j*2,none⟩=some (.int .i64 (its[j].1:Int))/\w.cell? ⟨g,j*2+1,none⟩=some (.bool its[j].2)):=by
 rcases id h.2 with⟨rfl,hn⟩ | ⟨g,cap,cur,rfl,_,_,h1,h2,_⟩
 ·exact⟨none,0,by rw[hn],by omega,λhb=>absurd (List.eq_nil_of_length_eq_zero hn) hb⟩
 ·refine⟨_,cap,rfl,h1,λ_=>⟨g,rfl,h.lt rfl,λj hj=>?_⟩⟩;have hc:=tZ its j hj;exact⟨by rw[World.ownsRow.cellAt h (j*2) (by omega)];exact hc.1,by rw[World.ownsRow.cellAt h (j*2+1) (by omega)];exact hc.2⟩
theorem Tryz.infoT:(Tryz.prog.info? 258).map (λi=>(i.zero,i.size,i.bytes))=some (some (.agg #[.int .i64 0,.bool false]),2,16):=by kernel_rfl
theorem mR(w:World)(x:Nat)(b:Bool):aR (w.alloc (.cells #[.int .i64 (x:Int),.bool b] 258)) ⟨w.heap.size,0,none⟩ (AU (x,b)):=by
 intro j u hu
 match j,hu with
 | 0,hu=>simp[AU]at hu;subst hu;simp[cL]
 | 1,hu=>simp[AU]at hu;subst hu;simp[cL]
 | j+2,hu=>simp[AU]at hu
theorem dZ{ops:Array Oper}{rest:List Oper}{o:Oper}{a:Act}{Q:Exit→Act→World→Prop}(w:World)(B:Nat)(jL:o.guard=none)(s x:Operand)
  (ho:o.op=.call {callee:=.builtin .append,args:=#[s,x],argTypes:=#[256,256]})
  (v:Value) (its:List (Nat×Bool)) (hs:a.eval s=v) (hrow:TRow B w v its) (ad:Addr) (y:Nat×Bool) (hx:a.eval x=.slice (some ad) 1 1) (eO:aR w ad (AU y)) (ag:its.length+1<=1000000000) (hB:B<=w.heap.size)
  (h:∀v' w',TRow B w' v' (its++[y])->w.grownBy w' v.ownBlock->wpList Tryz.prog ops Q rest (a.put o.dst v') w'):wpList Tryz.prog ops Q (o::rest) a w:=by
 obtain⟨i0,hi,iq,iG,fW⟩:=info_parts Tryz.infoT;refine wpList_append_own w jL s x 256 ho B 258 i0 _ 2 16 Tryz.underlying256 hi iq iG fW rfl (by decide) v its.length (cS its) hs hrow ad 1 1 (AU y) hx rfl eO (by intro u hu;simp[AU]at hu;rcases hu with rfl | rfl<;>rfl) (by simp only[maxLen];omega) (by omega) hB ?_;intro v' w' h1 h2 _;refine h v' w' ?_ h2;have e:cS (its++[y])=cS its++AU y:=by simp[cS]
 unfold TRow;rw[List.length_append,e];exact h1
theorem nt{ops:Array Oper}{o:Oper}{a:Act}{w:World}{K:Act→World→Prop}{Q:Exit→Act→World→Prop}{E:Prop}(B:Nat)(jL:o.guard=none)(s x:Operand)
  (ho:o.op=.call {callee:=.builtin .append,args:=#[s,x],argTypes:=#[256,256]})
  (v:Value) (its:List (Nat×Bool)) (hs:a.eval s=v) (hrow:TRow B w v its) (ad:Addr) (y:Nat×Bool) (hx:a.eval x=.slice (some ad) 1 1) (eO:aR w ad (AU y)) (ag:its.length+1<=1000000000) (hB:B<=w.heap.size)
  (h:∀v' w',TRow B w' v' (its++[y])->w.grownBy w' v.ownBlock->K (a.put o.dst v') w'):if Region.wanted o (yielded ops a.tmps)=true then Oper.wp Tryz.prog o a w K Q else E:=by
 have hw:Region.wanted o (yielded ops a.tmps)=true:=by simp[Region.wanted,jL]
 rw[if_pos hw];obtain⟨i0,hi,iq,iG,fW⟩:=info_parts Tryz.infoT;refine wp_append_own w s x 256 ho B 258 i0 _ 2 16 Tryz.underlying256 hi iq iG fW rfl (by decide) v its.length (cS its) hs hrow ad 1 1 (AU y) hx rfl eO (by intro u hu;simp[AU]at hu;rcases hu with rfl | rfl<;>rfl) (by simp only[maxLen];omega) (by omega) hB ?_;intro v' w' h1 h2 _;refine h v' w' ?_ h2;have e:cS (its++[y])=cS its++AU y:=by simp[cS]
 unfold TRow;rw[List.length_append,e];exact h1
theorem ET{a a':Option Addr}{n n' c c':Nat}(h1:a=a')(h2:n=n')(h3:c=c'):Value.slice a n c=.slice a' n' c':=by rw[h1,h2,h3]
def aP(ns:List Nat):List Nat:=(aD ns).map (key ns)
theorem ba(ns:List Nat):(aP ns).length=(aD ns).length:=by simp[aP]
theorem AP(ns:List Nat):Up (aP ns):=List.pairwise_map.2 ((gH ns).imp (λ{a b} h=>by unfold Lt at h;omega))
theorem FW(ns:List Nat)(r:Nat)(h:r<(aD ns).length):(aP ns)[r]'(by rw[ba];exact h)=key ns (aD ns)[r]:=by simp[aP]
theorem sl(ns:List Nat)(r:Nat)(h:r<(aD ns).length):(aP ns).drop r=key ns (aD ns)[r]::(aP ns).drop (r+1):=by rw[List.drop_eq_getElem_cons (by rw[ba];exact h),FW ns r h]
structure Box2(w:World)(bu bc:Nat)(vu vc:Value)(I:Nat->Prop)(ns:List Nat):Prop where
 cu:w.cell? ⟨bu,0,none⟩=some vu
 cc:w.cell? ⟨bc,0,none⟩=some vc
 su:SrcE am w I vu (aD ns)
 sc:SrcE am w I vc ns
theorem Box2.same{w w':World}{bu bc:Nat}{vu vc:Value}{I:Nat->Prop}{ns:List Nat}(h:Box2 w bu bc vu vc I ns)(hk:Same w w'):Box2 w' bu bc vu vc I ns:=
 ⟨hk.cell h.cu (λh=>h),hk.cell h.cc (λh=>h),h.su.same hk,h.sc.same hk⟩
theorem Dt(w:World)(B0 bu bc:Nat)(vu vc:Value)(I:Nat→Prop)(ns:List Nat)(its:List (Nat×Bool))(v:Value)(hb:Box2 w bu bc vu vc I ns)(bh:aD ns≠[])(hns:ns.length≤288)(hrow:TRow B0 w v its)(Ii:its.length≤1000)
  (hW:∀x∈its,x.1<=40000000000000000) (hk:∀n∈ns,n<=1000000000000):
  Calls Tryz.prog 177 #[v,.pointer (some ⟨bu,0,none⟩),.pointer (some ⟨bc,0,none⟩)] w λe w'=>∃v',e=.returned v'/\TRow w.heap.size w' v' (mg (aP ns) (cR (its.map (·.1))))/\Same w w':=by
 obtain⟨ps,IE⟩:∃ps,ps=cR (its.map (·.1)):=⟨_,rfl⟩
 rw[<-IE];have rH:ps.length=its.length / 2:=by rw[IE,bX,List.length_map]
 have OL:(aD ns).length<=288:=Nat.le_trans (cI ns) hns;have ym:0<(aD ns).length:=List.length_pos_iff.2 bh;obtain⟨b,o,cap,M9,_,_,_⟩:=hb.su.get 0 ym;subst M9;have cj:(aD ns).length<=cap:=by obtain⟨_,_,e,h,_⟩:=hb.su;simp only[Value.slice.injEq]at e;omega
 obtain⟨c0,oc,capc,PK,_,_,_⟩:=hb.sc.get 0 (by have:=cI ns;omega);subst PK;obtain⟨ai,capi,rfl,Nw,bO⟩:=hrow.shape;have cu:=hb.cu;have HB:Hid (Box2 w bu bc (.slice (some ⟨b,o,none⟩) (aD ns).length cap) (.slice (some ⟨c0,oc,none⟩) ns.length capc) I ns):=hb;have HPS:Hid (ps=cR (its.map (·.1))/\ps.length=its.length / 2):=⟨IE,rH⟩
 have HCELL:Hid (its≠[]->∃g,ai=some ⟨g,0,none⟩/\g<w.heap.size/\∀j (_:j<its.length),w.cell? ⟨g,j*2,none⟩=some (.int .i64 (its[j].1:Int))/\w.cell? ⟨g,j*2+1,none⟩=some (.bool its[j].2)):=bO;have HWW:Hid (∀x∈its,x.1<=40000000000000000):=hW;have HKK:Hid (∀n∈ns,n<=1000000000000):=hk;obtain⟨m,hm⟩:∃m,m=(aD ns).length:=⟨_,rfl⟩
 have HMM:Hid (m=(aD ns).length):=hm;rw[<-hm]at OL ym cj HB cu;obtain⟨tot,JR⟩:∃tot,tot=mg (aP ns) ps:=⟨_,rfl⟩
 have HTOT:Hid (tot=mg (aP ns) ps/\tot.length<=800):=⟨JR,by rw[JR,sU,ba,rH,<-hm];omega⟩
 rw[<-JR];clear IE rH hb hrow hW hk bO bh JR;obtain⟨il,AA⟩:∃il,il=its.length:=⟨_,rfl⟩
 have HIL:Hid (il=its.length):=AA;rw[<-AA]at Ii Nw ⊢;clear AA hm;go_enter Tryz.func177,Tryz.ntmps177;go_wp2_with fail;go_loopg [5,6,7] il (fun q z5 z6 z7 wr=>∃(i j r px:Nat) (out:List (Nat×Bool)),il-i≤q∧i≤1002∧r≤m∧Hid (r<m→px=o+r)∧z6=.slice (some ⟨b,px,none⟩) (m-r) (cap-r)∧z7=.int .i64 (i:Nat) ∧
   Hid (out++mg ((aP ns).drop r) (ps.drop j)=tot/\2*j<=il/\i=1+2*j)/\Hid (TRow w.heap.size wr z5 out)/\Hid (Same w wr))
 case atStart=>exact⟨1,0,0,o,[],by omega,by omega,by omega,hid (λ_=>rfl),rfl,rfl,hid ⟨by rw[HTOT.out.1];simp,by omega,by omega⟩,TRow.nil,Kept.refl _ _⟩
 case round=>
  obtain⟨i,j,r,px,out,hq,hi,hr,HPX,rfl,rfl,HF,HR,HK⟩:=hrel;obtain⟨Ia,oI⟩:∃x,x=gk:=⟨_,rfl⟩
  rw[<-oI]at hq;have HG:Hid (Ia=gk):=oI;clear oI;by_cases hlt:i<il
  ·have PF:2*j+1<its.length:=(by have:=HIL.out;have:=HF.out.2.2;omega);obtain⟨gi,SY,Xv,fq⟩:=HCELL.out (by intro e;rw[e]at PF;simp at PF);subst SY;obtain⟨x1,fO⟩:∃x,x=its[2*j].1:=⟨_,rfl⟩
   obtain⟨x2,fX⟩:∃x,x=its[2*j+1].1:=⟨_,rfl⟩
   obtain⟨h,hh⟩:∃h,h=2*j:=⟨_,rfl⟩
   have uD:i=h+1:=(by have:=HF.out.2.2;omega);have c1:wr.cell? ⟨gi,h*2,none⟩=some (.int .i64 (x1:Int)):=(by rw[fO,hh];exact HK.out.cell (fq (2*j) (by omega)).1 (λh=>h));have c2:wr.cell? ⟨gi,i*2,none⟩=some (.int .i64 (x2:Int)):=(by rw[fX,uD,hh];exact HK.out.cell (fq (2*j+1) (by omega)).1 (λh=>h));have Xi:x1<=40000000000000000:=(by rw[fO];exact HWW.out _ (List.getElem_mem _));have WU:x2<=40000000000000000:=(by rw[fX];exact HWW.out _ (List.getElem_mem _));obtain⟨P,hP⟩:∃P,P=x1+x2:=⟨_,rfl⟩
   have HP:Hid (ps.drop j=P::ps.drop (j+1)):=hid (by
    have NM:j<ps.length:=(by have:=HPS.out.2;omega);rw[List.drop_eq_getElem_cons NM,hP];congr 1;have h1:=HPS.out.1;subst h1;rw[fY _ _ NM];simp[fO,fX])
   have XO:((x1:Int)+(x2:Int))=(P:Int):=(by omega);have RJ:P<=80000000000000000:=(by omega);have ju:((i:Int)-1)=(h:Int):=(by omega);have Ir:h<il:=(by omega);clear fO fX fq hP uD hh;go_wp2_with fail;go_quiet (fail);have HR2:Hid (TRow w.heap.size (wr.drewN nq) u5 out):=HR;have HK2:Hid (Same w (wr.drewN nq)):=hid (HK.out.drewN nq);clear HR HK c1 c2;generalize wr.drewN nq=wq at HR2 HK2;go_wp2_with fail;go_loopg [5,6] (m-r) (λq z5 z6 wx=>∃(r px:Nat) (out:List (Nat×Bool)),m-r<=q/\r<=m/\Hid (r<m->px=o+r)/\z6=.slice (some ⟨b,px,none⟩) (m-r) (cap-r) /\
    Hid (out++mg ((aP ns).drop r) (P::ps.drop (j+1))=tot)/\Hid (TRow w.heap.size wx z5 out)/\Hid (Same w wx))
   case atStart=>exact⟨r,px,out,by omega,by omega,HPX,rfl,hid (by rw[<-HP.out];exact HF.out.1),HR2,HK2⟩
   case round=>
    clear HR2 HK2;have HF0:Hid (2*j<=il/\i=1+2*j):=HF.out.2;clear HF hr HPX;obtain⟨r,px,out,KB,hr,HPX,rfl,HF,HR,HK⟩:=hrel;have Pc:out.length<=800:=(by have h1:=HF.out;have h2:=HTOT.out.2;rw[<-h1]at h2;simp at h2;omega);have cX:=HK.out.size;by_cases PR:r<m
    ·have RV:=HPX.out PR;subst RV;have uj:r<(aD ns).length:=(by have:=HMM.out;omega);have hbx:=HB.out.same HK.out;obtain⟨b2,o2,eG,e2,_,_,c3⟩:=hbx.su.get r uj;simp only[Value.slice.injEq,Option.some.injEq,Addr.mk.injEq,and_true]at e2;obtain⟨⟨rfl,rfl⟩,jt,rfl⟩:=e2;clear jt;obtain⟨s,hs⟩:∃s,s=(aD ns)[r]:=⟨_,rfl⟩
     have hsr:s<ns.length/\key ns s≠0:=aU.1 (by rw[hs];exact List.getElem_mem _);rw[<-hs]at c3;obtain⟨b3,o3,kR,e3,_,_,c4⟩:=hbx.sc.get s hsr.1;simp only[Value.slice.injEq,Option.some.injEq,Addr.mk.injEq,and_true]at e3;obtain⟨⟨rfl,rfl⟩,jt,rfl⟩:=e3;clear jt;rw[<-aY hsr.1]at c4;obtain⟨y,hy⟩:∃y,y=key ns s:=⟨_,rfl⟩
     rw[<-hy]at c4;unfold am at c3 c4;have cb:=hbx.cc;have AF:y<=1000000000000:=(by rw[hy,aY hsr.1];exact HKK.out _ (List.getElem_mem _));have hd:(aP ns).drop r=y::(aP ns).drop (r+1):=(by rw[sl ns r uj,<-hs,hy]);have Ip:=hsr.1;have Kz:0<m-r:=(by omega);clear hs hsr hy hbx;by_cases md:y<=P
     ·have HF2:Hid (out++[(y,false)]++mg ((aP ns).drop (r+1)) (P::ps.drop (j+1))=tot):=hid (by
       have h1:=HF.out;rw[hd,kD _ _ md]at h1;simpa using h1)
      clear hd;have Rd:decide (y<=P)=true:=(by simp[md]);go_wp2_with fail;go_quiet (fail);have HR2:Hid (TRow w.heap.size (wr.drewN nq) u5 out):=HR;have HK2:Hid (Same w (wr.drewN nq)):=hid (HK.out.drewN nq);have OJ:(wr.drewN nq).cell? ⟨b,o+r,none⟩=some (.int .i64 (s:Int)):=c3;have OU:(wr.drewN nq).cell? ⟨c0,oc+s,none⟩=some (.int .i64 (y:Int)):=c4;have cb':(wr.drewN nq).cell? ⟨bc,0,none⟩=some (.slice (some ⟨c0,oc,none⟩) ns.length capc):=cb;have Hg:w.heap.size<=(wr.drewN nq).heap.size:=cX;clear HR HK c3 c4 cb cX;generalize wr.drewN nq=wq at HR2 HK2 OJ OU cb' Hg;go_wp2_with fail;go_region_law (refine nt w.heap.size rfl (.tmp 43) (.tmp 51) rfl u5 out (by simp[Act.eval]) (World.ownsRow.alloc HR2.out _) ⟨wq.heap.size,0,none⟩ (y,false) (by simp[Act.eval]) (mR _ _ _) (by omega) (by simp;omega) ?_;intro v' w1 hrow me)
      all_goals
       have HR3:Hid (TRow w.heap.size w1 v' (out++[(y,false)])):=hrow;have HK3:Hid (Same w w1):=hid (Kept.grown ((HK2.out.alloc _).drew) me (λk e=>.inr (HR2.out.ge e)));clear hrow me HR2 HK2 OJ OU cb';go_wp2_with fail
       all_goals
        go_roundg (gk-1)
        case measure=>omega
        case rel=>
         refine⟨r+1,_,out++[(y,false)],by omega,by omega,?_,ET rfl (by omega) (by omega),HF2,HR3,HK3⟩;exact hid (λ_=>by omega)
     ·have HF2:Hid (out++[(P,true)]++mg ((aP ns).drop r) (ps.drop (j+1))=tot):=hid (by
       have h1:=HF.out;rw[hd,kk _ _ md,<-hd]at h1;simpa using h1)
      clear hd;have Rd:decide (y<=P)=false:=(by simp;omega);go_wp2_with fail;go_quiet (fail);have HR2:Hid (TRow w.heap.size (wr.drewN nq) u5 out):=HR;have HK2:Hid (Same w (wr.drewN nq)):=hid (HK.out.drewN nq);have Hg:w.heap.size<=(wr.drewN nq).heap.size:=cX;clear HR HK c3 c4 cb cX;generalize wr.drewN nq=wq at HR2 HK2 Hg;go_wp2_with (at_builtin;refine dZ _ w.heap.size rfl (.tmp 55) (.tmp 58) rfl u5 out rfl (World.ownsRow.alloc HR2.out _) ⟨wq.heap.size,0,none⟩ (P,true) rfl (mR _ _ _) (by omega) (by simp;omega) ?_;intro v' w1 hrow me);have HR3:Hid (TRow w.heap.size w1 v' (out++[(P,true)])):=hrow;have HK3:Hid (Same w w1):=hid (Kept.grown (HK2.out.alloc _) me (λk e=>.inr (HR2.out.ge e)));clear hrow me HR2 HK2;go_wp2_with fail;go_roundg (Ia-1)
      case measure=>have:=HG.out;omega
      case rel=>exact⟨i+2,j+1,r,o+r,out++[(P,true)],by omega,by omega,by omega,hid (λ_=>rfl),rfl,by go_num,hid ⟨HF2.out,by have:=HF0.out;omega,by have:=HF0.out;omega⟩,HR3,HK3⟩
    ·have Q4:r=m:=(by omega);have hd:(aP ns).drop r=[]:=List.drop_eq_nil_of_le (by rw[ba];have:=HMM.out;omega);have HF2:Hid (out++[(P,true)]++mg ((aP ns).drop r) (ps.drop (j+1))=tot):=hid (by
      have h1:=HF.out;rw[hd,mj]at h1;rw[hd];simpa using h1)
     have Kz:m-r=0:=(by omega);clear hd Q4;go_wp2_with fail;go_quiet (fail);have HR2:Hid (TRow w.heap.size (wr.drewN nq) u5 out):=HR;have HK2:Hid (Same w (wr.drewN nq)):=hid (HK.out.drewN nq);have Hg:w.heap.size<=(wr.drewN nq).heap.size:=cX;clear HR HK cX;generalize wr.drewN nq=wq at HR2 HK2 Hg;go_wp2_with (at_builtin;refine dZ _ w.heap.size rfl (.tmp 55) (.tmp 58) rfl u5 out rfl (World.ownsRow.alloc HR2.out _) ⟨wq.heap.size,0,none⟩ (P,true) rfl (mR _ _ _) (by omega) (by simp;omega) ?_;intro v' w1 hrow me);have HR3:Hid (TRow w.heap.size w1 v' (out++[(P,true)])):=hrow;have HK3:Hid (Same w w1):=hid (Kept.grown (HK2.out.alloc _) me (λk e=>.inr (HR2.out.ge e)));clear hrow me HR2 HK2;go_wp2_with fail;go_roundg (Ia-1)
     case measure=>have:=HG.out;omega
     case rel=>exact⟨i+2,j+1,r,_,out++[(P,true)],by omega,by omega,by omega,HPX,by rw[Kz],by go_num,hid ⟨HF2.out,by have:=HF0.out;omega,by have:=HF0.out;omega⟩,HR3,HK3⟩
  ·have J9:ps.drop j=[]:=List.drop_eq_nil_of_le (by have:=HPS.out.2;have:=HIL.out;have:=HF.out;omega);have HF1:Hid (out++mg ((aP ns).drop r) []=tot):=hid (by have h:=HF.out.1;rw[J9]at h;exact h);clear J9 HF;go_wp2_with fail;go_loopg [5,62] (m-r) (λq z5 zk wx=>∃(k:Nat) (out:List (Nat×Bool)),m-r-k<=q/\k<=m-r/\zk=.int .i64 (k:Nat)/\Hid (out++mg ((aP ns).drop (r+k)) []=tot)/\Hid (TRow w.heap.size wx z5 out)/\Hid (Same w wx))
   case atStart=>exact⟨0,out,by omega,by omega,rfl,HF1,HR,HK⟩
   case round=>
    clear HF1 HR HK;obtain⟨k,out,KB,hk,rfl,HF,HR,HK⟩:=hrel;have Pc:out.length<=800:=(by have h1:=HF.out;have h2:=HTOT.out.2;rw[<-h1]at h2;simp at h2;omega);have cX:=HK.out.size;by_cases PR:k<m-r
    ·have RV:=HPX.out (by omega);subst RV;have uj:r+k<(aD ns).length:=(by have:=HMM.out;omega);have hbx:=HB.out.same HK.out;obtain⟨b2,o2,eG,e2,_,_,c3⟩:=hbx.su.get (r+k) uj;simp only[Value.slice.injEq,Option.some.injEq,Addr.mk.injEq,and_true]at e2;obtain⟨⟨rfl,rfl⟩,jt,rfl⟩:=e2;clear jt;obtain⟨s,hs⟩:∃s,s=(aD ns)[r+k]:=⟨_,rfl⟩
     have hsr:s<ns.length/\key ns s≠0:=aU.1 (by rw[hs];exact List.getElem_mem _);rw[<-hs]at c3;obtain⟨b3,o3,kR,e3,_,_,c4⟩:=hbx.sc.get s hsr.1;simp only[Value.slice.injEq,Option.some.injEq,Addr.mk.injEq,and_true]at e3;obtain⟨⟨rfl,rfl⟩,jt,rfl⟩:=e3;clear jt;rw[<-aY hsr.1]at c4;obtain⟨y,hy⟩:∃y,y=key ns s:=⟨_,rfl⟩
     rw[<-hy]at c4;unfold am at c3 c4;rw[<-Nat.add_assoc]at c3;have cb:=hbx.cc;have AF:y<=1000000000000:=(by rw[hy,aY hsr.1];exact HKK.out _ (List.getElem_mem _));have HF2:Hid (out++[(y,false)]++mg ((aP ns).drop (r+(k+1))) []=tot):=hid (by
      have h1:=HF.out;rw[sl ns (r+k) uj,<-hs,<-hy,iw,List.map_cons,<-iw]at h1;rw[<-Nat.add_assoc];simpa using h1)
     have Ip:=hsr.1;clear hs hsr hy hbx;go_wp2_with (at_builtin;refine dZ _ w.heap.size rfl (.tmp 66) (.tmp 72) rfl u5 out rfl (World.ownsRow.alloc HR.out _) ⟨wr.heap.size,0,none⟩ (y,false) rfl (mR _ _ _) (by omega) (by simp;omega) ?_;intro v' w1 hrow me);have HR3:Hid (TRow w.heap.size w1 v' (out++[(y,false)])):=hrow;have HK3:Hid (Same w w1):=hid (Kept.grown (HK.out.alloc _) me (λk e=>.inr (HR.out.ge e)));clear hrow me HR HK;go_wp2_with fail;go_roundg (gk-1)
     case measure=>omega
     case rel=>exact⟨k+1,out++[(y,false)],by omega,by omega,by go_num,HF2,HR3,HK3⟩
    ·have hk2:k=m-r:=(by omega);subst hk2;have he:out=tot:=by
      have h1:=HF.out;rw[List.drop_eq_nil_of_le (by rw[ba];have:=HMM.out;omega),iw]at h1;simpa using h1
     have HE:Hid (out=tot):=he;clear he;go_wp2_with fail;go_ret;exact⟨_,rfl,by rw[<-HE.out];exact HR.out,HK.out⟩
theorem Tryz.infoL:(Tryz.prog.info? 256).map (λi=>(i.zero,i.size,i.bytes))=some (some (Io (none,0,0)),1,24):=by kernel_rfl
abbrev rq(B:Nat):=RowE B 256 Io
theorem zB(ws:List Nat)(M:Nat)(h:∀x∈ws,x<=M)(t:Nat):∀x∈cK ws t,x.1<=2 ^ t*M:=by
 induction t with
 | zero=>
  intro x hx;simp[cK,iw]at hx;obtain⟨a,ha,rfl⟩:=hx;simpa using h a ha
 | succ t ih=>
  intro x hx;have fO:x.1∈(mg ws (cR ((cK ws t).map (·.1)))).map (·.1):=List.mem_map.2 ⟨x,hx,rfl⟩;have h1:1*M<=2 ^ (t+1)*M:=Nat.mul_le_mul_right _ (Nat.two_pow_pos _);rcases List.mem_append.1 ((mF _ _).mem_iff.1 fO)with h2 | h2
  ·have:=h _ h2;omega
  ·obtain⟨k,hk,e⟩:=List.getElem_of_mem h2;have hl:=bX ((cK ws t).map (·.1));rw[List.length_map]at hl;rw[fY _ _ hk]at e;have a1:=ih _ (List.getElem_mem (show 2*k<(cK ws t).length by omega));have a2:=ih _ (List.getElem_mem (show 2*k+1<(cK ws t).length by omega));simp only[List.getElem_map]at e;have e2:2 ^ (t+1)*M=2 ^ t*M+2 ^ t*M:=(by rw[Nat.pow_succ,Nat.mul_assoc,Nat.mul_comm 2 M,<-Nat.mul_assoc];omega);omega
theorem Lj(ns:List Nat)(hk:∀n∈ns,n<=1000000000000)(t:Nat)(ht:t<=15):∀x∈cK (aP ns) t,x.1<=40000000000000000:=by
 intro x hx;have h1:=zB (aP ns) 1000000000000 (by
  intro y hy;obtain⟨s,hs,rfl⟩:=List.mem_map.1 hy;have:=(aU.1 hs).1;rw[aY this];exact hk _ (List.getElem_mem _)) t x hx
 have h2:2 ^ t<=2 ^ 15:=Nat.pow_le_pow_right (by omega) ht;have h3:(2:Nat) ^ 15=32768:=by decide
 have h4:2 ^ t*1000000000000<=32768*1000000000000:=Nat.mul_le_mul_right _ (by omega);omega
def Levs(B:Nat)(w:World)(ns:List Nat)(vs:List (Option Addr×Nat×Nat)):Prop:=∀t (h:t<vs.length),TRow B w (Io vs[t]) (cK (aP ns) t)
theorem Levs.kept{F:Nat->Prop}{B:Nat}{w w':World}{ns:List Nat}{vs:List (Option Addr×Nat×Nat)}(h:Levs B w ns vs)(hk:Kept F w w')(hF:∀k,B<=k->k<w.heap.size->¬F k):Levs B w' ns vs:=
 λt ht=>(h t ht).kept hk (λk e=>hF k ((h t ht).ge e) ((h t ht).lt e))
theorem TRow.apart{B B':Nat}{w:World}{v v':Value}{its:List (Nat×Bool)}{vs:List (Option Addr×Nat×Nat)}(h:TRow B w v its)(h':rq B' w v' vs){j g:Nat}(hj:v.ownBlock=some j)(hg:v'.ownBlock=some g):j≠g:=by
 rintro rfl;rcases h.2 with⟨rfl,_⟩ | ⟨g1,c1,OC,rfl,_,e1,_⟩
 ·simp[Value.ownBlock]at hj
 ·rcases h'.2 with⟨rfl,_⟩ | ⟨g2,c2,Mm,rfl,_,e2,_⟩
  ·simp[Value.ownBlock]at hg
  ·simp[Value.ownBlock]at hj hg;subst hj hg;rw[e1]at e2;simp at e2
theorem zY(w:World)(vu vc:Value)(I:Nat→Prop)(ns:List Nat)(most:Nat)(hu:SrcE am w I vu (aD ns))(hc:SrcE am w I vc ns)(bh:aD ns≠[])(hns:ns.length≤288)(hk:∀n∈ns,n≤1000000000000)(hm1:1≤most)(hm:most≤15):
  Calls Tryz.prog 143 #[vc,vu,.int .i64 (most:Nat)] w λe w'=>(∃g cap vs,e=.returned (.slice (some ⟨g,0,none⟩) most cap)/\rq w.heap.size w' (.slice (some ⟨g,0,none⟩) most cap) vs/\Levs w.heap.size w' ns vs/\most<=cap)/\Same w w':=by
 obtain⟨au,capu,M9,fO,fX⟩:=id hu;obtain⟨ac,capc,PK,MH,Ej⟩:=id hc;clear fO fX MH Ej;obtain⟨nu,uC⟩:∃nu,nu=(aD ns).length:=⟨_,rfl⟩
 obtain⟨nc,Et⟩:∃nc,nc=ns.length:=⟨_,rfl⟩
 rw[<-uC]at M9;rw[<-Et]at PK;subst M9 PK;clear uC Et;generalize hVU:Value.slice au nu capu=vu at *
 generalize hVC:Value.slice ac nc capc=vc at *
 have hk0:Same w ((w.alloc (.cells #[vc] 138)).alloc (.cells #[vu] 138)):=((Kept.refl _ w).alloc _).alloc _;have hz:(w.alloc (.cells #[vc] 138)).heap.size=w.heap.size+1:=by simp
 obtain⟨w1,hw1⟩:∃w1,w1=(w.alloc (.cells #[vc] 138)).alloc (.cells #[vu] 138):=⟨_,rfl⟩
 have iG:w.heap.size+2<=w1.heap.size:=by rw[hw1];simp
 have HB:Hid (Box2 w1 (w.heap.size+1) w.heap.size vu vc I ns):=hid (by
  rw[hw1];refine⟨?_,?_,hu.same hk0,hc.same hk0⟩
  ·rw[<-hz];simp
  ·simp)
 have HK0:Hid (Same w w1):=hid (by rw[hw1];exact hk0);have HM:=λwx (h:Same w1 wx)=>fun(its:List (Nat×Bool)) (v:Value)=>fun(hr:TRow 0 wx v its) (h1:its.length<=1000) (h2:∀x∈its,x.1<=40000000000000000)=>Dt wx 0 _ _ vu vc I ns its v (HB.out.same h) bh hns hr h1 h2 hk
 have HMM:Hid (∀wx,Same w1 wx->∀(its:List (Nat×Bool)) (v:Value),TRow 0 wx v its->its.length<=1000->(∀x∈its,x.1<=40000000000000000)->Calls Tryz.prog 177 #[v,.pointer (some ⟨w.heap.size+1,0,none⟩),.pointer (some ⟨w.heap.size,0,none⟩)] wx λe w'=>∃v',e=.returned v'/\TRow wx.heap.size w' v' (mg (aP ns) (cR (its.map (·.1))))/\Same wx w'):=HM;have HLEN:Hid (∀t,(cK (aP ns) t).length<=1000):=hid (λt=>by
  have h1:=(lP (aP ns) t).2;have h2:=cI ns;rw[ba]at h1;omega)
 have HOK:Hid (∀t,t<=15->∀x∈cK (aP ns) t,x.1<=40000000000000000):=hid (λt ht=>Lj ns hk t ht);clear hk0 HM hu hc hk hz;have HC0:=HMM.out w1 (Kept.refl _ _) [] (.slice none 0 0) TRow.nil (by simp) (by simp);subst hVU hVC;go_enter Tryz.func143,Tryz.ntmps143;go_wp2_with fail;rw[<-hw1];clear hw1;refine HC0.mono ?_;rintro e w2 ⟨v2,rfl,hr2,hk2⟩;obtain⟨a2,c2,oe,_,_⟩:=hr2.shape;subst oe;have HR2:Hid (TRow w.heap.size w2 (.slice a2 (mg (aP ns) (cR (List.map (λx:Nat×Bool=>x.1) []))).length c2) (cK (aP ns) 0)):=hid (by
  refine⟨hr2.1,?_⟩;rcases hr2.2 with h | ⟨g,cap,cur,e,hb,rest⟩
  ·exact .inl h
  ·exact .inr ⟨g,cap,cur,e,by omega,rest⟩)
 have HK2:Hid (Same w1 w2):=hk2;have kV:=hk2.size;clear hr2 hk2 HC0;generalize (mg (aP ns) (cR (List.map (λx:Nat×Bool=>x.1) []))).length=n2 at HR2 ⊢;go_wp2_with fail;go_loopg [8] most (λq z wr=>∃(k cap g:Nat) (vs:List (Option Addr×Nat×Nat)),most-k<=q/\1<=k/\k<=most/\k<=cap/\z=.slice (some ⟨g,0,none⟩) k cap/\Hid (rq w1.heap.size wr (.slice (some ⟨g,0,none⟩) k cap) vs)/\Hid (Levs w.heap.size wr ns vs)/\Hid (Same w1 wr))
 case atStart=>
  have hk3:Same w2 (w2.alloc (.cells #[.slice a2 n2 c2] 256)):=(Kept.refl _ w2).alloc _;have hrow:rq w1.heap.size (w2.alloc (.cells #[.slice a2 n2 c2] 256)) (.slice (some ⟨w2.heap.size,0,none⟩) 1 1) [(a2,n2,c2)]:=
   ⟨rfl,.inr ⟨w2.heap.size,1,#[.slice a2 n2 c2],rfl,kV,heap_alloc_new w2 _,Nat.le_refl _,by simp only[maxLen];omega,rfl,rfl⟩⟩
  refine⟨1,1,w2.heap.size,[(a2,n2,c2)],by omega,by omega,by omega,by omega,rfl,hrow,?_,Same.trans HK2.out hk3⟩;refine hid (λt ht=>?_);have:t=0:=(by simpa using ht);subst this;exact TRow.kept HR2.out hk3 (λ_ _ h=>h)
 case round=>
  obtain⟨k,cap,g,vs,hq,hk1,XU,Ev,rfl,HR,HL,HK⟩:=hrel;clear HR2 HK2;have IB:vs.length=k:=HR.out.len;by_cases hlt:k<most
  ·have ce:k-1<vs.length:=(by omega);obtain⟨la,ln,lc,hl⟩:∃la ln lc,vs[k-1]=(la,ln,lc):=⟨_,_,_,rfl⟩
   have cl:wr.cell? ⟨g,k-1,none⟩=some (.slice la ln lc):=(by rw[HR.out.cell (k-1) ce,hl];rfl);have htr:TRow 0 wr (.slice la ln lc) (cK (aP ns) (k-1)):=by
    have h:=HL.out (k-1) ce;rw[hl]at h;refine⟨h.1,?_⟩;rcases h.2 with h | ⟨g,cap,cur,e,hb,rest⟩
    ·exact .inl h
    ·exact .inr ⟨g,cap,cur,e,Nat.zero_le _,rest⟩
   have HC:=HMM.out wr HK.out _ _ htr (HLEN.out _) (HOK.out _ (by omega));have ju:((k:Int)-1)=((k-1:Nat):Int):=(by omega);have VO:vs.length<=15:=(by omega);have HVL:Hid (vs.length=k):=IB;clear htr hl ce IB;go_wp2_with fail;refine HC.mono ?_;rintro e w3 ⟨v3,rfl,hr3,hk3⟩;obtain⟨a3,c3,pc,_,_⟩:=hr3.shape;subst pc;have e3:mg (aP ns) (cR ((cK (aP ns) (k-1)).map (·.1)))=cK (aP ns) k:=by
    conv=>rhs;rw[show k=(k-1)+1 by omega]
    rfl
   rw[e3]at hr3 ⊢;have hs3:=hk3.size;have hs1:=HK.out.size;have HR3:Hid (TRow wr.heap.size w3 (.slice a3 (cK (aP ns) k).length c3) (cK (aP ns) k)):=hr3;have HK3:Hid (Same wr w3):=hk3;have HRo:Hid (rq w1.heap.size w3 (.slice (some ⟨g,0,none⟩) k cap) vs):=hid (HR.out.same hk3);have HLo:Hid (Levs w.heap.size w3 ns vs):=hid (HL.out.kept hk3 (λ_ _ _ h=>h));have S4:g<wr.heap.size:=HR.out.lt rfl;clear hr3 hk3 e3 HC HR HL cl;generalize (cK (aP ns) k).length=n3 at *
   go_wp2_with (at_builtin;refine aX _ Io IM w1.heap.size 215 256 (Io (none,0,0)) 24 Tryz.underlying215 Tryz.infoL rfl (by decide) rfl (.tmp 17) (.tmp 26) rfl (.slice (some ⟨g,0,none⟩) k cap) vs rfl (World.ownsRow.alloc HRo.out _) ⟨w3.heap.size,0,none⟩ 1 1 [(a3,n3,c3)] rfl rfl (bw _ _ _) (by simp;omega) (by simp;omega) ?_;intro v' w4 hrow me)
   obtain⟨g4,rJ,IA,pv,WA,js⟩:=RowE.some hrow (by simp);rw[show(vs++[(a3,n3,c3)]).length=k+1 by simp[HVL.out]]at IA js;subst IA;have Iq:Kept (·=g) w3 w4:=Kept.grown ((Kept.refl _ w3).alloc _) me (λj e=>by simp[Value.ownBlock]at e;exact .inl e.symm);have UO:w1.heap.size<=g:=HRo.out.ge rfl;have HR5:Hid (rq w1.heap.size w4 (.slice (some ⟨g4,0,none⟩) (k+1) rJ) (vs++[(a3,n3,c3)])):=hrow;have HK5:Hid (Same w1 w4):=hid (Same.then (Same.trans HK.out HK3.out) Iq (λx hx e=>by omega));have HL5:Hid (Levs w.heap.size w4 ns (vs++[(a3,n3,c3)])):=hid (by
    intro t ht;by_cases h:t<vs.length
    ·rw[List.getElem_append_left h];exact TRow.kept (HLo.out t h) Iq (λj hj e=>TRow.apart (HLo.out t h) HRo.out hj (g:=g) rfl e)
    ·have htk:t=k:=(by rw[List.length_append]at ht;simp at ht;have:=HVL.out;omega);rw[List.getElem_append_right (by omega)];subst htk;simp only[HVL.out,Nat.sub_self,List.getElem_cons_zero];have h3:=TRow.kept HR3.out Iq (λj hj e=>TRow.apart HR3.out HRo.out hj (g:=g) rfl e);refine⟨h3.1,?_⟩;rcases h3.2 with h | ⟨g,cap,cur,e,hb,rest⟩
     ·exact .inl h
     ·exact .inr ⟨g,cap,cur,e,by omega,rest⟩)
   clear hrow me Iq HRo HLo HR3;go_wp2_with fail;go_roundg (gk-1)
   case measure=>omega
   case rel=>exact⟨k+1,rJ,g4,vs++[(a3,n3,c3)],by omega,by omega,by omega,js,rfl,HR5,HL5,HK5⟩
  ·have hk2:k=most:=(by omega);subst hk2;go_wp2_with fail;go_ret;exact⟨⟨g,cap,vs,rfl,RowE.base HR.out (by omega),HL.out,Ev⟩,Same.trans HK0.out HK.out⟩
end Go.Proofs.YtllcnlnbpikhdaaGreatDoor
