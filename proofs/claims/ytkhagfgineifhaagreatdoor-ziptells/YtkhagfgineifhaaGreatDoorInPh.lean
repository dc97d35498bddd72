import Derived.Test.YtkhagfgineifhaaGreatDoorInPg
import Derived.Test.YtkhagfgineifhaaGreatDoorLnRd
set_option maxHeartbeats 4000000
set_option maxRecDepth 100000
namespace Go.Proofs.YtkhagfgineifhaaGreatDoor
open Go.RowKit
def BroA(w w':World)(p:Nat)(s:Value)(bs:List Nat)(e:Ending):Except Nat ((List Nat×List Nat)×Nat)->Prop
 | .error er=>e=.returned (.tuple #[.pointer none,.int .i64 (er:Nat)])/\er≠0/\∃c',c'<=8*bs.length/\St w' p s bs c'
 | .ok (x,c')=>(∃k,e=.returned (.tuple #[.pointer (some ⟨k,0,none⟩),.int .i64 0])/\CodesP w' k x.1 x.2 (Cd w.heap.size w'.heap.size))/\c'<=8*bs.length/\St w' p s bs c'
theorem BroA.err{w w':World}{p:Nat}{s:Value}{bs:List Nat}{e:Ending}{er:Nat}(h:BroA w w' p s bs e (.error er)):e=.returned (.tuple #[.pointer none,.int .i64 (er:Nat)])/\er≠0/\∃c',c'<=8*bs.length/\St w' p s bs c':=h
theorem BroA.ok{w w':World}{p:Nat}{s:Value}{bs:List Nat}{e:Ending}{x:List Nat×List Nat}{c':Nat}(h:BroA w w' p s bs e (.ok (x,c'))):(∃k,e=.returned (.tuple #[.pointer (some ⟨k,0,none⟩),.int .i64 0])/\CodesP w' k x.1 x.2 (Cd w.heap.size w'.heap.size))/\c'<=8*bs.length/\St w' p s bs c':=h
theorem J1{ls:List Nat}{c e:Nat}(h:b8 ls c=.error e):o7 ls c=.error (if e=10 then 55 else 52):=by unfold o7 ep;rw[h]
theorem tY{ls:List Nat}{c n:Nat}{l d:List Nat}(h:b8 ls c=.ok ((l,d),n))(hb:l.getD 256 0=0\/bw l≠0\/(bR d=true/\bw d≠0)):o7 ls c=.error 52:=by unfold o7 ep;rw[h];simp only;rw[if_pos hb]
theorem Hj{ls:List Nat}{c n:Nat}{l d:List Nat}(h:b8 ls c=.ok ((l,d),n))(hb:¬(l.getD 256 0=0\/bw l≠0\/(bR d=true/\bw d≠0))):o7 ls c=.ok ((l,d),c+n):=by unfold o7 ep;rw[h];simp only;rw[if_neg hb]
theorem yh(l:List Nat):bR l=false↔iI l=0:=by
 constructor
 ·intro h;have:=xU l 0 (λn hn=>by
   unfold bR at h;rw[List.any_eq_false]at h;have:=h n hn;simpa using this)
  omega
 ·intro h;unfold bR;rw[List.any_eq_false];intro n hn;have:=(kN l 0).2.1 n hn;unfold iI at h;simp;omega
theorem vZ(w:World)(v:Value)(I:Nat→Prop)(ns:List Nat)(hs:SrcE am w I v ns)(h0:0<ns.length)(hl:ns.length≤288)(h15:∀x∈ns,x≤15)(hb:bw ns≠0):
  Calls Tryz.prog 163 #[v] w λe w'=>e=.returned (.tuple #[.pointer none,.int .i64 (bw ns:Nat)])/\Same w w':=by
 have e:=xE ns h0 hl h15;have h:=BV w v I (ns.map (fun(n:Nat)=>(n:Int))) (hs.recode (by rw[List.map_map];rfl)) (by rw[List.length_map];omega) (by rw[e];exact hb);rw[e]at h;exact h
theorem uG(w:World)(p c:Nat)(s:Value)(bs:List Nat)(hs:St w p s bs c)(hc:c≤8*bs.length)(ag:bs.length≤100000000)(hT:Tab w)(Ij:p≠0):
  Calls Tryz.prog 167 #[.pointer (some ⟨p,0,none⟩)] w λe w'=>BroA w w' p s bs e (o7 (ae bs) c)/\Kept (·=p) w w':=by
 have HR:=DW w p c s bs hs hc ag hT Ij;have ml:p<w.heap.size:=hs.lt;have HP:Hid (∀j,Fp p s j->j<w.heap.size):=hid (λj h=>hs.fp_lt h);clear hs hT;cases hrf:b8 (ae bs) c with
 | error er=>
  rw[hrf]at HR;have HE:Hid (o7 (ae bs) c=.error (if er=10 then 55 else 52)):=hid (J1 hrf);have HC:Hid (c<=8*bs.length):=hc;clear hrf hc;by_cases Ib:er=10
  ·have HE2:Hid (o7 (ae bs) c=.error 55):=hid (by rw[HE.out,if_pos Ib]);subst Ib;clear HE;go_enter Tryz.func167,Tryz.ntmps167;go_wp2_with fail;refine HR.mono ?_;rintro e w2 ⟨⟨rfl,cE,hs2⟩,hk2⟩;have HS2:Hid (St w2 p s bs c):=hs2;have HK2:Hid (Kept (·=p) w w2):=hk2;clear hs2 hk2 cE HR;go_wp2_with fail;go_ret2;rw[HE2.out];exact⟨⟨rfl,by decide,c,HC.out,HS2.out⟩,HK2.out⟩
  ·have lL:((er:Int)==10)=false:=(by simp;omega);have HE2:Hid (o7 (ae bs) c=.error 52):=hid (by rw[HE.out,if_neg Ib]);clear Ib HE;go_enter Tryz.func167,Tryz.ntmps167;go_wp2_with fail;refine HR.mono ?_;rintro e w2 ⟨⟨rfl,cE,hs2⟩,hk2⟩;have X9:((er:Int) != 0)=true:=(by simp;omega);have HS2:Hid (St w2 p s bs c):=hs2;have HK2:Hid (Kept (·=p) w w2):=hk2;clear hs2 hk2 cE HR;go_wp2_with fail;go_ret2;rw[HE2.out];exact⟨⟨rfl,by decide,c,HC.out,HS2.out⟩,HK2.out⟩
 | ok r=>
  obtain⟨⟨l,d⟩,n⟩:=r;rw[hrf]at HR;obtain⟨a1,a2,a3,a4,a5,a6⟩:=oK hrf;have HRF:Hid (b8 (ae bs) c=.ok ((l,d),n)):=hrf;have HLL:Hid (257<=l.length/\l.length<=286/\0<d.length/\d.length<=30/\(∀x∈l,x<=15)/\∀x∈d,x<=15):=hid ⟨a1,a2,a3,a4,a5,a6⟩;clear hrf hc a1 a2 a3 a4 a5 a6;go_enter Tryz.func167,Tryz.ntmps167;go_wp2_with fail;refine HR.mono ?_;rintro e w2 ⟨⟨⟨va,vb,rfl,O5,Fd⟩,cS,hs2⟩,hk2⟩;have HRA:Hid (NRow w.heap.size w2 va l):=O5;have HRB:Hid (NRow w.heap.size w2 vb d):=Fd;have HS2:Hid (St w2 p s bs (c+n)):=hs2;have HC2:Hid (c+n<=8*bs.length):=cS;have HK2:Hid (Kept (·=p) w w2):=hk2;have lr:=hk2.size;have yE:256<l.length:=(by have:=HLL.out;omega);obtain⟨ga,capa,A9,ZX,Xb,_⟩:=HRA.out.some (λe=>by rw[e]at yE;simp at yE);obtain⟨gb,capb,LP,Xx,VT,_⟩:=HRB.out.some (λe=>by have:=HLL.out.2.2.1;rw[e]at this;simp at this);obtain⟨la,O7⟩:∃la,la=l.length:=⟨_,rfl⟩
  obtain⟨lb,pK⟩:∃lb,lb=d.length:=⟨_,rfl⟩
  rw[<-O7]at A9;rw[<-pK]at LP;subst A9 LP;obtain⟨KD,hx⟩:∃x,x=l[256]:=⟨_,rfl⟩
  have XB:w2.cell? ⟨ga,256,none⟩=some (.int .i64 (KD:Nat)):=(by rw[hx];exact HRA.out.cell 256 yE);have HX:Hid (l.getD 256 0=KD):=hid (by rw[hx];simp[List.getD,yE]);have S6:257<=la:=(by omega);clear O5 Fd hs2 cS hk2 HR hx yE O7 pK;by_cases h0:KD=0
  ·subst h0;have HE:Hid (o7 (ae bs) c=.error 52):=hid (tY HRF.out (.inl HX.out));go_wp2_with fail;go_ret2;rw[HE.out];exact⟨⟨rfl,by decide,c+n,HC2.out,HS2.out⟩,HK2.out⟩
  ·have Vr:((KD:Int)==0)=false:=(by simp;omega);have HX0:Hid (¬l.getD 256 0=0):=hid (by rw[HX.out];exact h0);obtain⟨W,hW⟩:∃W,W=w2.alloc (.cells #[.pointer none,.pointer none] 238):=⟨_,rfl⟩
   have hkW:Same w2 W:=(by rw[hW];exact(Kept.refl _ w2).alloc _);have HBW:Hid (Blk W w2.heap.size #[.pointer none,.pointer none] 238):=hid (by rw[hW];exact Blk.new w2 _ _);have HKW:Hid (Kept (·=p) w W):=hid (HK2.out.trans hkW (λ_ _ h=>h) (λ_ _ f=>f.elim));have HRAW:Hid (NRow w.heap.size W (.slice (some ⟨ga,0,none⟩) la capa) l):=hid (HRA.out.same hkW);have HRBW:Hid (NRow w.heap.size W (.slice (some ⟨gb,0,none⟩) lb capb) d):=hid (HRB.out.same hkW);have HSW:Hid (St W p s bs (c+n)):=hid (HS2.out.kept hkW (λ_ _ f=>f));clear h0 HX hkW HRA HRB HS2;by_cases ey:bw l=0
   ·have HOKL:Hid (Lok l):=hid ⟨by have:=HLL.out;omega,by have:=HLL.out;omega,HLL.out.2.2.2.2.1,ey⟩;have HCL:Hid (bw l=0):=ey;have HN:=nn W _ _ l (SrcE.ofRow HRAW.out) HOKL.out;clear ey;go_wp2_with fail;rw[<-hW];refine HN.mono ?_;rintro e w3 ⟨⟨dd,vc,vs,rfl,fR,yA⟩,hk3⟩;have Qz:W.heap.size=w2.heap.size+1:=(by rw[hW];simp);have HDEC:Hid (Dec w3 dd vc vs l):=fR;have HDF:Hid (∀k,DF dd vc vs k->w2.heap.size+1<=k):=hid (λk hk=>by have:=yA k hk;omega);have HB3:Hid (Blk w3 w2.heap.size #[.pointer none,.pointer none] 238):=hid (HBW.out.kept hk3 (λf=>f));have HS3:Hid (St w3 p s bs (c+n)):=hid (HSW.out.kept hk3 (λ_ _ f=>f));have HR3:Hid (NRow w.heap.size w3 (.slice (some ⟨gb,0,none⟩) lb capb) d):=hid (HRBW.out.same hk3);have HK3:Hid (Kept (·=p) w w3):=hid (HKW.out.trans hk3 (λ_ _ h=>h) (λ_ _ f=>f.elim));have z0:w3.cell? ⟨w2.heap.size,0,none⟩=some (.pointer none):=HB3.out.cell 0;have tO:w3.frozen? ⟨w2.heap.size,0,none⟩=false:=HB3.out.frozen 0;have HKs:Hid (Kept (·=w2.heap.size) w3 (w3.setCell ⟨w2.heap.size,0,none⟩ (.pointer (some ⟨dd,0,none⟩)))):=hid ((Kept.refl (·=w2.heap.size) w3).setCell ⟨w2.heap.size,0,none⟩ _ (.inl rfl));obtain⟨w4,hw4⟩:∃w4,w4=w3.setCell ⟨w2.heap.size,0,none⟩ (.pointer (some ⟨dd,0,none⟩)):=⟨_,rfl⟩
    rw[<-hw4]at HKs;have HB4:Hid (Blk w4 w2.heap.size #[.pointer (some ⟨dd,0,none⟩),.pointer none] 238):=hid (by
     have:=HB3.out.set 0 (.pointer (some ⟨dd,0,none⟩));rw[hw4];simpa using this)
    have HR4:Hid (NRow w.heap.size w4 (.slice (some ⟨gb,0,none⟩) lb capb) d):=hid (HR3.out.kept HKs.out (λk e h=>by
     have e1:gb=k:=(by simpa[Value.ownBlock]using e);omega))
    have HD4:Hid (Dec w4 dd vc vs l):=hid (HDEC.out.kept HKs.out (λk hk e=>by have:=HDF.out k hk;omega));have HS4:Hid (St w4 p s bs (c+n)):=hid (HS3.out.kept HKs.out (λk hk e=>by have:=HP.out k hk;omega));have HK4:Hid (Kept (·=p) w w4):=hid (HK3.out.trans HKs.out (λ_ _ h=>h) (λk hk e=>by omega));have HMX:=BW w4 _ _ d (SrcE.ofRow HR4.out) (by have:=HLL.out;omega) HLL.out.2.2.1 (λx hx=>by have:=HLL.out.2.2.2.2.2 x hx;omega);have ES:=HK4.out.size;have Sy:w2.heap.size<w4.heap.size:=HB4.out.lt;clear fR yA hk3 HN HBW HKW HRAW HRBW HSW HDEC HB3 HR3 HS3 HK3 HKs;obtain⟨mx,rP⟩:∃mx,mx=iI d:=⟨_,rfl⟩
    rw[<-rP]at HMX;have HM:Hid (mx=iI d):=rP;clear rP hW;go_wp2_with fail;rw[<-hw4];refine HMX.mono ?_;rintro e w5 ⟨rfl,jU⟩;subst jU;clear HMX hw4;by_cases hu:mx=0
    ·subst hu;have HU:Hid (bR d=false):=hid ((yh d).2 HM.out.symm);have HE:Hid (o7 (ae bs) c=.ok ((l,d),c+n)):=hid (Hj HRF.out (λh=>by
      rcases h with h | h | ⟨h,_⟩
      ·exact HX0.out h
      ·exact h HCL.out
      ·rw[HU.out]at h;cases h))
     go_wp2_with fail;go_ret2;rw[HE.out];exact⟨⟨⟨_,rfl,dd,vc,vs,_,HB4.out,HD4.out,λj hj=>⟨by have:=HDF.out j hj;omega,HD4.out.lt hj⟩,.inl ⟨HU.out,rfl⟩,⟨lr,Sy⟩⟩,HC2.out,HS4.out⟩,HK4.out⟩
    ·have Zq:((mx:Int)==0)=false:=(by simp;omega);have HU:Hid (bR d=true):=hid (by
      cases Xj:bR d with
      | true=>rfl
      | false=>exact absurd (HM.out.trans ((yh d).1 Xj)) hu)
     clear hu;by_cases Ct:bw d=0
     ·have HOKD:Hid (Lok d):=hid ⟨HLL.out.2.2.1,by have:=HLL.out;omega,HLL.out.2.2.2.2.2,Ct⟩;have HE:Hid (o7 (ae bs) c=.ok ((l,d),c+n)):=hid (Hj HRF.out (λh=>by
       rcases h with h | h | ⟨_,h⟩
       ·exact HX0.out h
       ·exact h HCL.out
       ·exact h Ct))
      have HN:=nn w5 _ _ d (SrcE.ofRow HR4.out) HOKD.out;clear Ct;go_wp2_with fail;refine HN.mono ?_;rintro e w6 ⟨⟨d2,LN,LE,rfl,fR,yA⟩,hk6⟩;have HD2:Hid (Dec w6 d2 LN LE d):=fR;have HDF2:Hid (∀k,DF d2 LN LE k->w5.heap.size<=k):=yA;have HB6:Hid (Blk w6 w2.heap.size #[.pointer (some ⟨dd,0,none⟩),.pointer none] 238):=hid (HB4.out.kept hk6 (λf=>f));have HD6:Hid (Dec w6 dd vc vs l):=hid (HD4.out.kept hk6 (λ_ _ f=>f));have HS6:Hid (St w6 p s bs (c+n)):=hid (HS4.out.kept hk6 (λ_ _ f=>f));have HK6:Hid (Kept (·=p) w w6):=hid (HK4.out.trans hk6 (λ_ _ h=>h) (λ_ _ f=>f.elim));have z1:w6.cell? ⟨w2.heap.size,1,none⟩=some (.pointer none):=HB6.out.cell 1;have py:w6.frozen? ⟨w2.heap.size,1,none⟩=false:=HB6.out.frozen 1;clear fR yA hk6 HN;go_wp2_with fail;go_ret2;have kX:Kept (·=w2.heap.size) w6 (w6.setCell ⟨w2.heap.size,1,none⟩ (.pointer (some ⟨d2,0,none⟩))):=(Kept.refl (·=w2.heap.size) w6).setCell ⟨w2.heap.size,1,none⟩ _ (.inl rfl);have hB7:Blk (w6.setCell ⟨w2.heap.size,1,none⟩ (.pointer (some ⟨d2,0,none⟩))) w2.heap.size #[.pointer (some ⟨dd,0,none⟩),.pointer (some ⟨d2,0,none⟩)] 238:=(by have:=HB6.out.set 1 (.pointer (some ⟨d2,0,none⟩));simpa using this);have hD7:=HD6.out.kept kX (λk hk e=>by have:=HDF.out k hk;omega);have hD8:=HD2.out.kept kX (λk hk e=>by have:=HDF2.out k hk;omega);rw[HE.out];refine⟨⟨⟨_,rfl,dd,vc,vs,_,hB7,hD7,λj hj=>⟨by have:=HDF.out j hj;omega,hD7.lt hj⟩,.inr ⟨HU.out,d2,LN,LE,rfl,hD8,λj hj=>⟨by have:=HDF2.out j hj;omega,hD8.lt hj⟩⟩,⟨lr,hB7.lt⟩⟩,HC2.out,HS6.out.kept kX (λk hk e=>by have:=HP.out k hk;omega)⟩,Kept.trans HK6.out kX (λ_ _ h=>h) (λk hk e=>by omega)⟩
     ·have HE:Hid (o7 (ae bs) c=.error 52):=hid (tY HRF.out (.inr (.inr ⟨HU.out,Ct⟩)));have HN:=vZ w5 _ _ d (SrcE.ofRow HR4.out) HLL.out.2.2.1 (by have:=HLL.out;omega) HLL.out.2.2.2.2.2 Ct;have Vi:((bw d:Int) != 0)=true:=(by simp;omega);generalize bw d=cd at *
      clear Ct;go_wp2_with fail;refine HN.mono ?_;rintro e w6 ⟨rfl,hk6⟩;have HB6:Hid (Blk w6 w2.heap.size #[.pointer (some ⟨dd,0,none⟩),.pointer none] 238):=hid (HB4.out.kept hk6 (λf=>f));have HS6:Hid (St w6 p s bs (c+n)):=hid (HS4.out.kept hk6 (λ_ _ f=>f));have HK6:Hid (Kept (·=p) w w6):=hid (HK4.out.trans hk6 (λ_ _ h=>h) (λ_ _ f=>f.elim));have z1:w6.cell? ⟨w2.heap.size,1,none⟩=some (.pointer none):=HB6.out.cell 1;have py:w6.frozen? ⟨w2.heap.size,1,none⟩=false:=HB6.out.frozen 1;clear hk6 HN;go_wp2_with fail;go_ret2;have kX:Kept (·=w2.heap.size) w6 (w6.setCell ⟨w2.heap.size,1,none⟩ (.pointer none)):=(Kept.refl (·=w2.heap.size) w6).setCell ⟨w2.heap.size,1,none⟩ _ (.inl rfl);rw[HE.out];exact⟨⟨rfl,by decide,c+n,HC2.out,HS6.out.kept kX (λk hk e=>by have:=HP.out k hk;omega)⟩,Kept.trans HK6.out kX (λ_ _ h=>h) (λk hk e=>by omega)⟩
   ·have HE:Hid (o7 (ae bs) c=.error 52):=hid (tY HRF.out (.inr (.inl ey)));have HN:=vZ W _ _ l (SrcE.ofRow HRAW.out) (by have:=HLL.out;omega) (by have:=HLL.out;omega) HLL.out.2.2.2.2.1 ey;have X2:((bw l:Int) != 0)=true:=(by simp;omega);generalize bw l=cl at *
    clear ey;go_wp2_with fail;rw[<-hW];clear hW;refine HN.mono ?_;rintro e w3 ⟨rfl,hk3⟩;have HB3:Hid (Blk w3 w2.heap.size #[.pointer none,.pointer none] 238):=hid (HBW.out.kept hk3 (λf=>f));have HS3:Hid (St w3 p s bs (c+n)):=hid (HSW.out.kept hk3 (λ_ _ f=>f));have HK3:Hid (Kept (·=p) w w3):=hid (HKW.out.trans hk3 (λ_ _ h=>h) (λ_ _ f=>f.elim));have z0:w3.cell? ⟨w2.heap.size,0,none⟩=some (.pointer none):=HB3.out.cell 0;have tO:w3.frozen? ⟨w2.heap.size,0,none⟩=false:=HB3.out.frozen 0;clear hk3 HN;go_wp2_with fail;go_ret2;have kX:Kept (·=w2.heap.size) w3 (w3.setCell ⟨w2.heap.size,0,none⟩ (.pointer none)):=(Kept.refl (·=w2.heap.size) w3).setCell ⟨w2.heap.size,0,none⟩ _ (.inl rfl);rw[HE.out];exact⟨⟨rfl,by decide,c+n,HC2.out,HS3.out.kept kX (λk hk e=>by have:=HP.out k hk;omega)⟩,Kept.trans HK3.out kX (λ_ _ h=>h) (λk hk e=>by omega)⟩
end Go.Proofs.YtkhagfgineifhaaGreatDoor
