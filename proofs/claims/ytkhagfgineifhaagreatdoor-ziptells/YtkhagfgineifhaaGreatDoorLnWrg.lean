import Derived.Test.YtkhagfgineifhaaGreatDoorLnWrt
set_option maxHeartbeats 4000000
set_option maxRecDepth 100000
namespace Go.Proofs.YtkhagfgineifhaaGreatDoor
open Go.RowKit
def F1(w w':World)(p:Nat)(s:Value)(X:List Nat)(xs ys:List Nat):Prop:=
 ∃s' many cs sn,(cs=cZ (ba (xs++ys))/\many=dL cs 19/\sn=eW (xs++ys))/\l6 xs ys many cs sn/\sn.length<=xs.length+ys.length/\WS w w' p s s' (X++bB xs.length ys.length many cs sn)
theorem An{zl zd:List Int}(h:G4 zl zd=true):257<=zl.length/\zl.length<=286/\1<=zd.length/\zd.length<=30/\cG zl=true/\cG zd=true:=by unfold G4 at h;simp only[Bool.and_eq_true,decide_eq_true_eq]at h;obtain⟨⟨⟨⟨⟨h1,h2⟩,h3⟩,h4⟩,h5⟩,h6⟩:=h;exact⟨h1,h2,h3,h4,h5,h6⟩
theorem qx{zl:List Int}(h:cG zl=true):∀n∈zl.map Int.toNat,n<=15:=by have hb:=(fh zl).1 h;intro x hx;obtain⟨z,hz,rfl⟩:=List.mem_map.1 hx;have:=hb z hz;omega
theorem CL(w:World)(p:Nat)(s:Value)(X:List Nat)(al ad:Option Addr)(L cl D cd:Nat)(I J:Nat→Prop)(zl zd:List Int)(hA:SrcE bI w I (.slice al L cl) zl)(hB:SrcE bI w J (.slice ad D cd) zd)(hm:G4 zl zd=true)
  (hws:WS w w p s s X) (hX:X.length<=100000) (hT:Tab w) (Ij:¬Fp p s 0):
  Calls Tryz.prog 96 #[.pointer (some ⟨p,0,none⟩),.slice al L cl,.slice ad D cd] w λe w'=>e=.returned (.int .i64 0)/\F1 w w' p s X (zl.map Int.toNat) (zd.map Int.toNat):=by
 have yp:=hA.at.1;have EU:=hB.at.1;obtain⟨h1,h2,h3,h4,KY,K6⟩:=An hm;rw[<-yp]at h1 h2;rw[<-EU]at h3 h4;have HHD:=KA (zl.map Int.toNat) (zd.map Int.toNat) (qx KY) (qx K6) (by rw[List.length_map,<-yp];exact h1) (by rw[List.length_map,<-yp];exact h2) (by rw[List.length_map,<-EU];exact h3) (by rw[List.length_map,<-EU];exact h4);rw[<-List.map_append]at HHD;have MP:=us ((zl++zd).map Int.toNat);have h15:∀n∈(zl++zd).map Int.toNat,n<=15:=qx (by rw[lK,KY,K6];rfl);have Im:=qi ((zl++zd).map Int.toNat) h15;have LK:=qj ((zl++zd).map Int.toNat) h15;obtain⟨ns,hns⟩:∃ns,ns=(zl++zd).map Int.toNat:=⟨_,rfl⟩
 have rO:ns.length=L+D:=by rw[hns,List.length_map,List.length_append,<-yp,<-EU]
 have sq:(zl.map Int.toNat).length=L:=by rw[List.length_map,<-yp]
 have vn:(zd.map Int.toNat).length=D:=by rw[List.length_map,<-EU]
 rw[<-hns]at HHD MP Im LK;obtain⟨cs,eY⟩:∃cs,cs=cZ (ba ns):=⟨_,rfl⟩
 rw[<-eY]at HHD;obtain⟨come,tR⟩:∃x,x=dL cs 19:=⟨_,rfl⟩
 rw[<-tR]at HHD;have HHO:Hid (l6 (zl.map Int.toNat) (zd.map Int.toNat) come cs (eW ns)):=HHD;have jV:=HHD.m1;have WY:=HHD.m2;have Nk:=λW=>gL W (L:Int) 257 286
 have Nb:=λW=>gL W (D:Int) 1 30
 have e1:AP (L:Int) 257 286=true:=by unfold AP;have h1:(257:Int)<=(L:Int):=(by omega);have h2:(L:Int)<=286:=(by omega);simp[h1,h2]
 have e2:AP (D:Int) 1 30=true:=by unfold AP;have h1:(1:Int)<=(D:Int):=(by omega);have h2:(D:Int)<=30:=(by omega);simp[h1,h2]
 rw[e1]at Nk;rw[e2]at Nb;obtain⟨b1,o1,rfl⟩:∃b o,al=some ⟨b,o,none⟩:=by obtain⟨b1,o1,_,e3,_⟩:=hA.get 0 (by omega);simp only[Value.slice.injEq]at e3;exact⟨b1,o1,e3.1⟩
 obtain⟨b2,o2,rfl⟩:∃b o,ad=some ⟨b,o,none⟩:=by obtain⟨b2,o2,_,e4,_⟩:=hB.get 0 (by omega);simp only[Value.slice.injEq]at e4;exact⟨b2,o2,e4.1⟩
 obtain⟨W,hW⟩:∃W,W=w.alloc (.cells #[.slice (some ⟨b1,o1,none⟩) L cl,.slice (some ⟨b2,o2,none⟩) D cd] 143):=⟨_,rfl⟩
 have hk0:Same w W:=by rw[hW];exact(Kept.refl _ w).alloc _
 have HCC:=xJ W w.heap.size L cl D cd ⟨b1,o1,none⟩ ⟨b2,o2,none⟩ I J zl zd (by rw[hW];simp) (by rw[hW];simp) (hA.same hk0) (hB.same hk0) (by omega) (by omega) (by omega);have HK0:Hid (Same w W):=hk0;have HPA:Hid (sP (zl++zd)=.ok (ba ns)):=hid (by rw[qA (by rw[List.length_append];omega) (by rw[lK,KY,K6];rfl),<-hns]);have HLN:Hid ((zl++zd).length<=10000000):=hid (by rw[List.length_append];omega);have HIS:Hid (∀t∈ba ns,0<=t.1/\t.1<=18):=hid (λt ht=>⟨(LK t ht).1,(LK t ht).2.1⟩);have HPL:Hid ((ba ns).length<=1000):=hid (by have:=sK ns;omega);have HPN:Hid ((eW ns).length<=L+D):=hid (by omega);have HCAST:Hid ((eW ns).map (λx=>((x.1:Int),(x.2:Int)))=ba ns):=Im;have HCS:Hid (cs=cZ (ba ns)):=eY;have HNS:Hid (ns=zl.map Int.toNat++zd.map Int.toNat):=hid (by rw[hns,List.map_append]);have HCO:Hid (come=dL cs 19):=tR;have HXY:Hid ((zl.map Int.toNat).length=L/\(zd.map Int.toNat).length=D):=hid ⟨sq,vn⟩;have HWS:Hid (WS w w p s s X):=hws;have HT:Hid (Tab w):=hT;have HPG:Hid (¬Fp p s 0):=Ij;have HFP:Hid (∀k,Fp p s k->k<w.heap.size):=hid (λk h=>hws.wr.fp_lt h);obtain⟨l1,kY⟩:∃x,x=L-257:=⟨_,rfl⟩
 obtain⟨d1,Cq⟩:∃x,x=D-1:=⟨_,rfl⟩
 obtain⟨c1,fF⟩:∃x,x=come-4:=⟨_,rfl⟩
 have HVAL:Hid (l1=L-257/\d1=D-1/\c1=come-4):=hid ⟨kY,Cq,fF⟩;have Vq:(L:Int)-257=(l1:Int):=by omega
 have V4:(D:Int)-1=(d1:Int):=by omega
 have Vh:(come:Int)-4=(c1:Int):=by omega
 have RJ:l1<2 ^ 5:=by omega
 have Rn:d1<2 ^ 5:=by omega
 have Rw:c1<2 ^ 4:=by omega
 have V0:IntKind.u32.wrap (l1:Int)=(l1:Int):=by rw[IntKind.wrap_u32];omega
 have WC:IntKind.u32.wrap (d1:Int)=(d1:Int):=by rw[IntKind.wrap_u32];omega
 have Xd:IntKind.u32.wrap (c1:Int)=(c1:Int):=by rw[IntKind.wrap_u32];omega
 clear hA hB hm hk0 KY K6 yp EU HHD MP h15 Im LK hns eY tR hws hT Ij rO sq vn kY Cq fF e1 e2 h3 h4;go_enter Tryz.func96,Tryz.ntmps96;go_wp2_with fail;refine(Nk _).mono ?_;rintro e wx ⟨rfl,XF⟩;subst XF;go_wp2_with fail;refine(Nb _).mono ?_;rintro e w0 ⟨rfl,lQ⟩;subst lQ;clear Nk Nb;go_wp2_with fail;rw[<-hW];clear hW;refine HCC.mono ?_;rintro e w3 ⟨v3,rfl,hr3,hk3⟩;have HK3:Hid (Same w0 w3):=hid (Same.trans HK0.out hk3);have HPK:=CE w3 _ _ _ (SrcE.ofRow hr3) HLN.out;rw[HPA.out]at HPK;clear hr3 hk3 HCC;go_wp2_with fail;refine HPK.mono ?_;rintro e w4 ⟨v4,rfl,hr4,hk4⟩;have HR4:Hid (fN w3.heap.size w4 v4 (ba ns)):=hr4;have HK4:Hid (Same w0 w4):=hid (Same.trans HK3.out hk4);have HCL:=ph w4 _ _ (ba ns) (SrcC.ofRow stC_ok hr4) HIS.out HPL.out;rw[<-HCS.out]at HCL;clear hr4 hk4 HPK;go_wp2_with fail;refine HCL.mono ?_;rintro e w5 ⟨⟨g,ng,capg,rfl,hrg,sv⟩,hk5⟩;have UL:=hrg.len;rw[HCS.out,iK]at UL;subst UL;have HRG:Hid (NRow 0 w5 (.slice (some ⟨g,0,none⟩) 19 capg) cs):=hrg;have HK5:Hid (Same w0 w5):=hid (Same.trans HK4.out hk5);have HR5:Hid (fN w3.heap.size w5 v4 (ba ns)):=hid (RowC.kept HR4.out hk5 (λ_ _ f=>f));have HT5:Hid (Tab w5):=hid (HT.out.kept HK5.out (λf=>f));have HCM:=Am w5 g capg cs hrg HT5.out;rw[<-HCO.out]at HCM;have HG5:Hid (w4.heap.size<=g/\g<w5.heap.size):=hid ⟨sv,hrg.lt (k:=g) rfl⟩;have uV:=HK3.out.size;have ES:=HK4.out.size;have KG:=HK5.out.size;have HV4:Hid (∀k,v4.ownBlock=some k->w3.heap.size<=k/\k<w5.heap.size):=hid (λk e=>⟨HR5.out.ge e,HR5.out.lt e⟩);have HWS5:Hid (WS w5 w5 p s s X):=hid (WS.start (HWS.out.wr.kept HK5.out (λ_ _ f=>f)) HWS.out.bit);clear hrg hk5 sv HCL;go_wp2_with fail;refine HCM.mono ?_;rintro e w6 ⟨rfl,hw6⟩;subst hw6;have HP1:=jm w6 w6 p s s X l1 5 HWS5.out (by decide) RJ (by omega);clear HCM;go_wp2_with fail;refine HP1.mono ?_;rintro e w7 ⟨rfl,⟨s7,PD⟩,_⟩;have HP2:=jm w6 w7 p s s7 _ d1 5 PD (by decide) Rn (by rw[List.length_append,af];omega);clear HP1;go_wp2_with fail;refine HP2.mono ?_;rintro e w8 ⟨rfl,⟨s8,Pq⟩,_⟩;have HP3:=jm w6 w8 p s s8 _ c1 4 Pq (by decide) Rw (by rw[List.length_append,List.length_append,af,af];omega);clear HP2 PD;go_wp2_with fail;refine HP3.mono ?_;rintro e w9 ⟨rfl,⟨s9,EH⟩,_⟩;obtain⟨X3,QF⟩:∃X3,X3=X++aj l1 5++aj d1 5++aj c1 4:=⟨_,rfl⟩
 rw[<-QF]at EH;have HX3:Hid (X3=X++aj l1 5++aj d1 5++aj c1 4/\X3.length<=100014):=hid ⟨QF,by rw[QF];simp only[List.length_append,af];omega⟩;have HWS9:Hid (WS w6 w9 p s s9 X3):=EH;clear HP3 Pq EH QF;go_wp2_with fail;go_loopg [11,57] come (λq _ zi wr=>∃(i:Nat) (si:Value),come-i<=q/\i<=come/\zi=.int .i64 (i:Nat)/\Hid (WS w6 wr p s si (X3++aP cs i)))
 case atStart=>exact⟨0,s9,by omega,by omega,rfl,hid (by simpa[aP]using HWS9.out)⟩
 case round=>
  clear HWS9;obtain⟨i,si,hq,hi,rfl,HWI⟩:=hrel;have uQ:=HWI.out.kept;by_cases hlt:i<come
  ·have ct:=(HT5.out.kept uQ HPG.out) i (by omega);have IG:=uJ i (by omega);obtain⟨oi,IX⟩:∃x,x=ord.getD i 0:=⟨_,rfl⟩
   rw[<-IX]at ct IG;have HRW:Hid (NRow 0 wr (.slice (some ⟨g,0,none⟩) 19 capg) cs):=hid (HRG.out.kept uQ (λk e f=>by simp[Value.ownBlock]at e;subst e;have h1:=HFP.out _ f;have h2:=HG5.out;omega));have ey:=HRG.out.len;obtain⟨x,hx⟩:∃x,x=cs.getD oi 0:=⟨_,rfl⟩
   have jC:x=cs[oi]'(by omega):=(by rw[hx,List.getD_eq_getElem?_getD,List.getElem?_eq_getElem (by omega)];rfl);have Sd:x<=7:=(by rw[jC];exact HHO.out.c7 _ (List.getElem_mem _));have cg:wr.cell? ⟨g,oi,none⟩=some (.int .i64 (x:Nat)):=(by rw[HRW.out.cell oi (by omega),jC];rfl);have LC:IntKind.u32.wrap (x:Int)=(x:Int):=(by rw[IntKind.wrap_u32];omega);have HPT:=jm w6 wr p s si _ x 3 HWI.out (by decide) (by omega) (by rw[List.length_append,cP];have:=HX3.out.2;omega);have HBT:Hid (X3++aP cs (i+1)=X3++aP cs i++aj x 3):=hid (by rw[aP,<-IX,<-hx,List.append_assoc]);clear hx jC IX uQ HRW;go_wp2_with fail;refine HPT.mono ?_;rintro e wy ⟨rfl,⟨sy,PP⟩,_⟩;have Wo:Hid (WS w6 wy p s sy (X3++aP cs (i+1))):=hid (by rw[HBT.out];exact PP);clear PP HPT ct cg;go_wp2_with fail;go_roundg (gk-1)
   case measure=>omega
   case rel=>exact⟨i+1,sy,by omega,by omega,by go_num,Wo⟩
  ·have RO:i=come:=(by omega);subst RO;clear hq hlt;have HFS:Hid (∀k,Fp p si k->k<w0.heap.size\/w6.heap.size<=k):=hid (λk hf=>by
    rcases hf with e | e
    ·exact .inl (HFP.out k (.inl e))
    ·rcases HWI.out.own k e with h | h
     ·exact .inl (HFP.out k (.inr h))
     ·exact .inr h)
   have hrow:fN w3.heap.size wr v4 (ba ns):=RowC.kept HR5.out uQ (λk e f=>by have h1:=HFP.out k f;have h2:=(HV4.out k e).1;omega);have Qg:NRow 0 wr (.slice (some ⟨g,0,none⟩) 19 capg) cs:=HRG.out.kept uQ (λk e f=>by simp[Value.ownBlock]at e;subst e;have h1:=HFP.out _ f;have h2:=HG5.out;omega);have hsrc:StSrc wr (λk=>v4.ownBlock=some k) v4 ((eW ns).map (λx=>((x.1:Int),(x.2:Int)))):=(by rw[HCAST.out];exact SrcC.ofRow stC_ok hrow);have HWT:=ql wr p g capg si (X3++aP cs i) v4 _ cs (eW ns) (WS.start HWI.out.wr HWI.out.bit) (by rw[List.length_append,cP];have:=HX3.out.2;omega) hsrc
    (λk e f=>by have h1:=HV4.out k e;have h2:=HFS.out k f;omega) Qg (λf=>by have h1:=HG5.out;have h2:=HFS.out g f;omega) HHO.out.c7 HHO.out.ok HHO.out.st (by have:=HPN.out;omega)
   clear hrow Qg hsrc uQ;go_wp2_with fail;refine HWT.mono ?_;rintro e wz ⟨⟨u,rfl⟩,sz,oW⟩;have HWZ:Hid (WS w0 wz p s sz (X++bB L D i cs (eW ns))):=hid (by
    have h:=(WS.trans HWI.out (Kept.refl _ wr) oW).base HK5.out;have e:X++bB L D i cs (eW ns)=X3++aP cs i++(eW ns).flatMap (aC cs):=(by rw[HX3.out.1,HVAL.out.1,HVAL.out.2.1,HVAL.out.2.2];unfold bB;simp only[List.append_assoc]);rw[e];exact h)
   clear oW HWT;go_wp2_with fail;go_ret;refine⟨rfl,sz,i,cs,eW ns,⟨by rw[<-HNS.out];exact HCS.out,HCO.out,by rw[<-HNS.out]⟩,HHO.out,?_,?_⟩
   ·rw[HXY.out.1,HXY.out.2];exact HPN.out
   ·rw[HXY.out.1,HXY.out.2];exact HWZ.out
end Go.Proofs.YtkhagfgineifhaaGreatDoor
