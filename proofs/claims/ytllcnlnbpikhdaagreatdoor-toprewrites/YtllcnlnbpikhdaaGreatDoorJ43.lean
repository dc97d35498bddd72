import Derived.Test.YtllcnlnbpikhdaaGreatDoorJ35
import Derived.Test.YtllcnlnbpikhdaaGreatDoorJ42
set_option maxHeartbeats 4000000
set_option maxRecDepth 100000
namespace Go.Proofs.YtllcnlnbpikhdaaGreatDoor
open Go.RowKit
def BroA(w w':World)(p:Nat)(s:Value)(bs:List Nat)(e:Ending):Except Nat ((List Nat×List Nat)×Nat)->Prop
 | .error er=>e=.returned (.tuple #[.pointer none,.int .i64 (er:Nat)])/\er≠0/\∃c',c'<=8*bs.length/\St w' p s bs c'
 | .ok (x,c')=>(∃k,e=.returned (.tuple #[.pointer (some ⟨k,0,none⟩),.int .i64 0])/\CodesP w' k x.1 x.2 (AZ w.heap.size w'.heap.size))/\c'<=8*bs.length/\St w' p s bs c'
theorem BroA.err{w w':World}{p:Nat}{s:Value}{bs:List Nat}{e:Ending}{er:Nat}(h:BroA w w' p s bs e (.error er)):e=.returned (.tuple #[.pointer none,.int .i64 (er:Nat)])/\er≠0/\∃c',c'<=8*bs.length/\St w' p s bs c':=h
theorem BroA.ok{w w':World}{p:Nat}{s:Value}{bs:List Nat}{e:Ending}{x:List Nat×List Nat}{c':Nat}(h:BroA w w' p s bs e (.ok (x,c'))):(∃k,e=.returned (.tuple #[.pointer (some ⟨k,0,none⟩),.int .i64 0])/\CodesP w' k x.1 x.2 (AZ w.heap.size w'.heap.size))/\c'<=8*bs.length/\St w' p s bs c':=h
theorem I6{ls:List Nat}{c e:Nat}(h:bZ ls c=.error e):oN ls c=.error (if e=10 then 55 else 52):=by unfold oN ed;rw[h]
theorem tU{ls:List Nat}{c n:Nat}{l d:List Nat}(h:bZ ls c=.ok ((l,d),n))(hb:l.getD 256 0=0\/bm l≠0\/(bR d=true/\bm d≠0)):oN ls c=.error 52:=by unfold oN ed;rw[h];simp only;rw[if_pos hb]
theorem Fa{ls:List Nat}{c n:Nat}{l d:List Nat}(h:bZ ls c=.ok ((l,d),n))(hb:¬(l.getD 256 0=0\/bm l≠0\/(bR d=true/\bm d≠0))):oN ls c=.ok ((l,d),c+n):=by unfold oN ed;rw[h];simp only;rw[if_neg hb]
theorem vT(l:List Nat):bR l=false↔iu l=0:=by
 constructor
 ·intro h;have:=xQ l 0 (λn hn=>by
   unfold bR at h;rw[List.any_eq_false]at h;have:=h n hn;simpa using this)
  omega
 ·intro h;unfold bR;rw[List.any_eq_false];intro n hn;have:=(kn l 0).2.1 n hn;unfold iu at h;simp;omega
theorem uV(w:World)(v:Value)(I:Nat→Prop)(ns:List Nat)(hs:SrcE am w I v ns)(h0:0<ns.length)(hl:ns.length≤288)(h15:∀x∈ns,x≤15)(hb:bm ns≠0):
  Calls Tryz.prog 152 #[v] w λe w'=>e=.returned (.tuple #[.pointer none,.int .i64 (bm ns:Nat)])/\Same w w':=by
 have e:=vF ns h0 hl h15;have h:=A3 w v I (ns.map (fun(n:Nat)=>(n:Int))) (hs.recode (by rw[List.map_map];rfl)) (by rw[List.length_map];omega) (by rw[e];exact hb);rw[e]at h;exact h
theorem tv(w:World)(p c:Nat)(s:Value)(bs:List Nat)(hs:St w p s bs c)(hc:c≤8*bs.length)(ag:bs.length≤100000000)(hT:Tab w)(Ic:p≠0):
  Calls Tryz.prog 156 #[.pointer (some ⟨p,0,none⟩)] w λe w'=>BroA w w' p s bs e (oN (ae bs) c)/\Kept (·=p) w w':=by
 have HR:=DS w p c s bs hs hc ag hT Ic;have lY:p<w.heap.size:=hs.lt;have HP:Hid (∀j,Fp p s j->j<w.heap.size):=hid (λj h=>hs.fp_lt h);clear hs hT;cases hrf:bZ (ae bs) c with
 | error er=>
  rw[hrf]at HR;have HE:Hid (oN (ae bs) c=.error (if er=10 then 55 else 52)):=hid (I6 hrf);have HC:Hid (c<=8*bs.length):=hc;clear hrf hc;by_cases Hm:er=10
  ·have HE2:Hid (oN (ae bs) c=.error 55):=hid (by rw[HE.out,if_pos Hm]);subst Hm;clear HE;go_enter Tryz.func156,Tryz.ntmps156;go_wp2_with fail;refine HR.mono ?_;rintro e w2 ⟨⟨rfl,cw,hs2⟩,hk2⟩;have HS2:Hid (St w2 p s bs c):=hs2;have HK2:Hid (Kept (·=p) w w2):=hk2;clear hs2 hk2 cw HR;go_wp2_with fail;go_ret2;rw[HE2.out];exact⟨⟨rfl,by decide,c,HC.out,HS2.out⟩,HK2.out⟩
  ·have l9:((er:Int)==10)=false:=(by simp;omega);have HE2:Hid (oN (ae bs) c=.error 52):=hid (by rw[HE.out,if_neg Hm]);clear Hm HE;go_enter Tryz.func156,Tryz.ntmps156;go_wp2_with fail;refine HR.mono ?_;rintro e w2 ⟨⟨rfl,cw,hs2⟩,hk2⟩;have Wv:((er:Int) != 0)=true:=(by simp;omega);have HS2:Hid (St w2 p s bs c):=hs2;have HK2:Hid (Kept (·=p) w w2):=hk2;clear hs2 hk2 cw HR;go_wp2_with fail;go_ret2;rw[HE2.out];exact⟨⟨rfl,by decide,c,HC.out,HS2.out⟩,HK2.out⟩
 | ok r=>
  obtain⟨⟨l,d⟩,n⟩:=r;rw[hrf]at HR;obtain⟨a1,a2,a3,a4,a5,a6⟩:=oG hrf;have HRF:Hid (bZ (ae bs) c=.ok ((l,d),n)):=hrf;have HLL:Hid (257<=l.length/\l.length<=286/\0<d.length/\d.length<=30/\(∀x∈l,x<=15)/\∀x∈d,x<=15):=hid ⟨a1,a2,a3,a4,a5,a6⟩;clear hrf hc a1 a2 a3 a4 a5 a6;go_enter Tryz.func156,Tryz.ntmps156;go_wp2_with fail;refine HR.mono ?_;rintro e w2 ⟨⟨⟨va,vb,rfl,On,Ew⟩,cm,hs2⟩,hk2⟩;have HRA:Hid (NRow w.heap.size w2 va l):=On;have HRB:Hid (NRow w.heap.size w2 vb d):=Ew;have HS2:Hid (St w2 p s bs (c+n)):=hs2;have HC2:Hid (c+n<=8*bs.length):=cm;have HK2:Hid (Kept (·=p) w w2):=hk2;have kV:=hk2.size;have x6:256<l.length:=(by have:=HLL.out;omega);obtain⟨ga,capa,At,Xy,Xc,_⟩:=HRA.out.some (λe=>by rw[e]at x6;simp at x6);obtain⟨gb,capb,KG,UO,WH,_⟩:=HRB.out.some (λe=>by have:=HLL.out.2.2.1;rw[e]at this;simp at this);obtain⟨la,OZ⟩:∃la,la=l.length:=⟨_,rfl⟩
  obtain⟨lb,rL⟩:∃lb,lb=d.length:=⟨_,rfl⟩
  rw[<-OZ]at At;rw[<-rL]at KG;subst At KG;obtain⟨J3,hx⟩:∃x,x=l[256]:=⟨_,rfl⟩
  have Wi:w2.cell? ⟨ga,256,none⟩=some (.int .i64 (J3:Nat)):=(by rw[hx];exact HRA.out.cell 256 x6);have HX:Hid (l.getD 256 0=J3):=hid (by rw[hx];simp[List.getD,x6]);have Rz:257<=la:=(by omega);clear On Ew hs2 cm hk2 HR hx x6 OZ rL;by_cases h0:J3=0
  ·subst h0;have HE:Hid (oN (ae bs) c=.error 52):=hid (tU HRF.out (.inl HX.out));go_wp2_with fail;go_ret2;rw[HE.out];exact⟨⟨rfl,by decide,c+n,HC2.out,HS2.out⟩,HK2.out⟩
  ·have VK:((J3:Int)==0)=false:=(by simp;omega);have HX0:Hid (¬l.getD 256 0=0):=hid (by rw[HX.out];exact h0);obtain⟨W,hW⟩:∃W,W=w2.alloc (.cells #[.pointer none,.pointer none] 229):=⟨_,rfl⟩
   have hkW:Same w2 W:=(by rw[hW];exact(Kept.refl _ w2).alloc _);have HBW:Hid (Blk W w2.heap.size #[.pointer none,.pointer none] 229):=hid (by rw[hW];exact Blk.new w2 _ _);have HKW:Hid (Kept (·=p) w W):=hid (HK2.out.trans hkW (λ_ _ h=>h) (λ_ _ f=>f.elim));have HRAW:Hid (NRow w.heap.size W (.slice (some ⟨ga,0,none⟩) la capa) l):=hid (HRA.out.same hkW);have HRBW:Hid (NRow w.heap.size W (.slice (some ⟨gb,0,none⟩) lb capb) d):=hid (HRB.out.same hkW);have HSW:Hid (St W p s bs (c+n)):=hid (HS2.out.kept hkW (λ_ _ f=>f));clear h0 HX hkW HRA HRB HS2;by_cases fq:bm l=0
   ·have HOKL:Hid (Lok l):=hid ⟨by have:=HLL.out;omega,by have:=HLL.out;omega,HLL.out.2.2.2.2.1,fq⟩;have HCL:Hid (bm l=0):=fq;have HN:=mX W _ _ l (SrcE.ofRow HRAW.out) HOKL.out;clear fq;go_wp2_with fail;rw[<-hW];refine HN.mono ?_;rintro e w3 ⟨⟨dd,vc,vs,rfl,fI,yc⟩,hk3⟩;have PS:W.heap.size=w2.heap.size+1:=(by rw[hW];simp);have HDEC:Hid (Dec w3 dd vc vs l):=fI;have HDF:Hid (∀k,DF dd vc vs k->w2.heap.size+1<=k):=hid (λk hk=>by have:=yc k hk;omega);have HB3:Hid (Blk w3 w2.heap.size #[.pointer none,.pointer none] 229):=hid (HBW.out.kept hk3 (λf=>f));have HS3:Hid (St w3 p s bs (c+n)):=hid (HSW.out.kept hk3 (λ_ _ f=>f));have HR3:Hid (NRow w.heap.size w3 (.slice (some ⟨gb,0,none⟩) lb capb) d):=hid (HRBW.out.same hk3);have HK3:Hid (Kept (·=p) w w3):=hid (HKW.out.trans hk3 (λ_ _ h=>h) (λ_ _ f=>f.elim));have z0:w3.cell? ⟨w2.heap.size,0,none⟩=some (.pointer none):=HB3.out.cell 0;have tg:w3.frozen? ⟨w2.heap.size,0,none⟩=false:=HB3.out.frozen 0;have HKs:Hid (Kept (·=w2.heap.size) w3 (w3.setCell ⟨w2.heap.size,0,none⟩ (.pointer (some ⟨dd,0,none⟩)))):=hid ((Kept.refl (·=w2.heap.size) w3).setCell ⟨w2.heap.size,0,none⟩ _ (.inl rfl));obtain⟨w4,hw4⟩:∃w4,w4=w3.setCell ⟨w2.heap.size,0,none⟩ (.pointer (some ⟨dd,0,none⟩)):=⟨_,rfl⟩
    rw[<-hw4]at HKs;have HB4:Hid (Blk w4 w2.heap.size #[.pointer (some ⟨dd,0,none⟩),.pointer none] 229):=hid (by
     have:=HB3.out.set 0 (.pointer (some ⟨dd,0,none⟩));rw[hw4];simpa using this)
    have HR4:Hid (NRow w.heap.size w4 (.slice (some ⟨gb,0,none⟩) lb capb) d):=hid (HR3.out.kept HKs.out (λk e h=>by
     have e1:gb=k:=(by simpa[Value.ownBlock]using e);omega))
    have HD4:Hid (Dec w4 dd vc vs l):=hid (HDEC.out.kept HKs.out (λk hk e=>by have:=HDF.out k hk;omega));have HS4:Hid (St w4 p s bs (c+n)):=hid (HS3.out.kept HKs.out (λk hk e=>by have:=HP.out k hk;omega));have HK4:Hid (Kept (·=p) w w4):=hid (HK3.out.trans HKs.out (λ_ _ h=>h) (λk hk e=>by omega));have HMX:=BK w4 _ _ d (SrcE.ofRow HR4.out) (by have:=HLL.out;omega) HLL.out.2.2.1 (λx hx=>by have:=HLL.out.2.2.2.2.2 x hx;omega);have D8:=HK4.out.size;have QE:w2.heap.size<w4.heap.size:=HB4.out.lt;clear fI yc hk3 HN HBW HKW HRAW HRBW HSW HDEC HB3 HR3 HS3 HK3 HKs;obtain⟨mx,rn⟩:∃mx,mx=iu d:=⟨_,rfl⟩
    rw[<-rn]at HMX;have HM:Hid (mx=iu d):=rn;clear rn hW;go_wp2_with fail;rw[<-hw4];refine HMX.mono ?_;rintro e w5 ⟨rfl,l5⟩;subst l5;clear HMX hw4;by_cases hu:mx=0
    ·subst hu;have HU:Hid (bR d=false):=hid ((vT d).2 HM.out.symm);have HE:Hid (oN (ae bs) c=.ok ((l,d),c+n)):=hid (Fa HRF.out (λh=>by
      rcases h with h | h | ⟨h,_⟩
      ·exact HX0.out h
      ·exact h HCL.out
      ·rw[HU.out]at h;cases h))
     go_wp2_with fail;go_ret2;rw[HE.out];exact⟨⟨⟨_,rfl,dd,vc,vs,_,HB4.out,HD4.out,λj hj=>⟨by have:=HDF.out j hj;omega,HD4.out.lt hj⟩,.inl ⟨HU.out,rfl⟩,⟨kV,QE⟩⟩,HC2.out,HS4.out⟩,HK4.out⟩
    ·have YH:((mx:Int)==0)=false:=(by simp;omega);have HU:Hid (bR d=true):=hid (by
      cases Xo:bR d with
      | true=>rfl
      | false=>exact absurd (HM.out.trans ((vT d).1 Xo)) hu)
     clear hu;by_cases BV:bm d=0
     ·have HOKD:Hid (Lok d):=hid ⟨HLL.out.2.2.1,by have:=HLL.out;omega,HLL.out.2.2.2.2.2,BV⟩;have HE:Hid (oN (ae bs) c=.ok ((l,d),c+n)):=hid (Fa HRF.out (λh=>by
       rcases h with h | h | ⟨_,h⟩
       ·exact HX0.out h
       ·exact h HCL.out
       ·exact h BV))
      have HN:=mX w5 _ _ d (SrcE.ofRow HR4.out) HOKD.out;clear BV;go_wp2_with fail;refine HN.mono ?_;rintro e w6 ⟨⟨d2,KM,Mg,rfl,fI,yc⟩,hk6⟩;have HD2:Hid (Dec w6 d2 KM Mg d):=fI;have HDF2:Hid (∀k,DF d2 KM Mg k->w5.heap.size<=k):=yc;have HB6:Hid (Blk w6 w2.heap.size #[.pointer (some ⟨dd,0,none⟩),.pointer none] 229):=hid (HB4.out.kept hk6 (λf=>f));have HD6:Hid (Dec w6 dd vc vs l):=hid (HD4.out.kept hk6 (λ_ _ f=>f));have HS6:Hid (St w6 p s bs (c+n)):=hid (HS4.out.kept hk6 (λ_ _ f=>f));have HK6:Hid (Kept (·=p) w w6):=hid (HK4.out.trans hk6 (λ_ _ h=>h) (λ_ _ f=>f.elim));have z1:w6.cell? ⟨w2.heap.size,1,none⟩=some (.pointer none):=HB6.out.cell 1;have o6:w6.frozen? ⟨w2.heap.size,1,none⟩=false:=HB6.out.frozen 1;clear fI yc hk6 HN;go_wp2_with fail;go_ret2;have kI:Kept (·=w2.heap.size) w6 (w6.setCell ⟨w2.heap.size,1,none⟩ (.pointer (some ⟨d2,0,none⟩))):=(Kept.refl (·=w2.heap.size) w6).setCell ⟨w2.heap.size,1,none⟩ _ (.inl rfl);have hB7:Blk (w6.setCell ⟨w2.heap.size,1,none⟩ (.pointer (some ⟨d2,0,none⟩))) w2.heap.size #[.pointer (some ⟨dd,0,none⟩),.pointer (some ⟨d2,0,none⟩)] 229:=(by have:=HB6.out.set 1 (.pointer (some ⟨d2,0,none⟩));simpa using this);have hD7:=HD6.out.kept kI (λk hk e=>by have:=HDF.out k hk;omega);have hD8:=HD2.out.kept kI (λk hk e=>by have:=HDF2.out k hk;omega);rw[HE.out];refine⟨⟨⟨_,rfl,dd,vc,vs,_,hB7,hD7,λj hj=>⟨by have:=HDF.out j hj;omega,hD7.lt hj⟩,.inr ⟨HU.out,d2,KM,Mg,rfl,hD8,λj hj=>⟨by have:=HDF2.out j hj;omega,hD8.lt hj⟩⟩,⟨kV,hB7.lt⟩⟩,HC2.out,HS6.out.kept kI (λk hk e=>by have:=HP.out k hk;omega)⟩,Kept.trans HK6.out kI (λ_ _ h=>h) (λk hk e=>by omega)⟩
     ·have HE:Hid (oN (ae bs) c=.error 52):=hid (tU HRF.out (.inr (.inr ⟨HU.out,BV⟩)));have HN:=uV w5 _ _ d (SrcE.ofRow HR4.out) HLL.out.2.2.1 (by have:=HLL.out;omega) HLL.out.2.2.2.2.2 BV;have UE:((bm d:Int) != 0)=true:=(by simp;omega);generalize bm d=cd at *
      clear BV;go_wp2_with fail;refine HN.mono ?_;rintro e w6 ⟨rfl,hk6⟩;have HB6:Hid (Blk w6 w2.heap.size #[.pointer (some ⟨dd,0,none⟩),.pointer none] 229):=hid (HB4.out.kept hk6 (λf=>f));have HS6:Hid (St w6 p s bs (c+n)):=hid (HS4.out.kept hk6 (λ_ _ f=>f));have HK6:Hid (Kept (·=p) w w6):=hid (HK4.out.trans hk6 (λ_ _ h=>h) (λ_ _ f=>f.elim));have z1:w6.cell? ⟨w2.heap.size,1,none⟩=some (.pointer none):=HB6.out.cell 1;have o6:w6.frozen? ⟨w2.heap.size,1,none⟩=false:=HB6.out.frozen 1;clear hk6 HN;go_wp2_with fail;go_ret2;have kI:Kept (·=w2.heap.size) w6 (w6.setCell ⟨w2.heap.size,1,none⟩ (.pointer none)):=(Kept.refl (·=w2.heap.size) w6).setCell ⟨w2.heap.size,1,none⟩ _ (.inl rfl);rw[HE.out];exact⟨⟨rfl,by decide,c+n,HC2.out,HS6.out.kept kI (λk hk e=>by have:=HP.out k hk;omega)⟩,Kept.trans HK6.out kI (λ_ _ h=>h) (λk hk e=>by omega)⟩
   ·have HE:Hid (oN (ae bs) c=.error 52):=hid (tU HRF.out (.inr (.inl fq)));have HN:=uV W _ _ l (SrcE.ofRow HRAW.out) (by have:=HLL.out;omega) (by have:=HLL.out;omega) HLL.out.2.2.2.2.1 fq;have Uo:((bm l:Int) != 0)=true:=(by simp;omega);generalize bm l=cl at *
    clear fq;go_wp2_with fail;rw[<-hW];clear hW;refine HN.mono ?_;rintro e w3 ⟨rfl,hk3⟩;have HB3:Hid (Blk w3 w2.heap.size #[.pointer none,.pointer none] 229):=hid (HBW.out.kept hk3 (λf=>f));have HS3:Hid (St w3 p s bs (c+n)):=hid (HSW.out.kept hk3 (λ_ _ f=>f));have HK3:Hid (Kept (·=p) w w3):=hid (HKW.out.trans hk3 (λ_ _ h=>h) (λ_ _ f=>f.elim));have z0:w3.cell? ⟨w2.heap.size,0,none⟩=some (.pointer none):=HB3.out.cell 0;have tg:w3.frozen? ⟨w2.heap.size,0,none⟩=false:=HB3.out.frozen 0;clear hk3 HN;go_wp2_with fail;go_ret2;have kI:Kept (·=w2.heap.size) w3 (w3.setCell ⟨w2.heap.size,0,none⟩ (.pointer none)):=(Kept.refl (·=w2.heap.size) w3).setCell ⟨w2.heap.size,0,none⟩ _ (.inl rfl);rw[HE.out];exact⟨⟨rfl,by decide,c+n,HC2.out,HS3.out.kept kI (λk hk e=>by have:=HP.out k hk;omega)⟩,Kept.trans HK3.out kI (λ_ _ h=>h) (λk hk e=>by omega)⟩
def BegA(w w':World)(p:Nat)(s:Value)(bs:List Nat)(bx fx:Nat)(O:Nat->Prop)(e:Ending):Except Nat (Bk×Nat)->Prop
 | .error er=>e=.returned (.tuple #[.pointer none,.int .i64 (er:Nat)])/\er≠0/\∃c',c'<=8*bs.length/\St w' p s bs c'
 | .ok (bk,c')=>(∃b O',e=.returned (.tuple #[.pointer (some ⟨b,0,none⟩),.int .i64 0])/\BkP w' b O' bk/\w.heap.size<=b/\¬O' b/\Onc w' bx fx O'/\(∀j,O j->O' j)/\∀j,O' j->O j\/AZ w.heap.size w'.heap.size j)/\c'<=8*bs.length/\St w' p s bs c'
theorem BegA.err{w w':World}{p:Nat}{s:Value}{bs:List Nat}{bx fx:Nat}{O:Nat->Prop}{e:Ending}{er:Nat}(h:BegA w w' p s bs bx fx O e (.error er)):e=.returned (.tuple #[.pointer none,.int .i64 (er:Nat)])/\er≠0/\∃c',c'<=8*bs.length/\St w' p s bs c':=h
theorem BegA.ok{w w':World}{p:Nat}{s:Value}{bs:List Nat}{bx fx:Nat}{O:Nat->Prop}{e:Ending}{bk:Bk}{c':Nat}(h:BegA w w' p s bs bx fx O e (.ok (bk,c'))):(∃b O',e=.returned (.tuple #[.pointer (some ⟨b,0,none⟩),.int .i64 0])/\BkP w' b O' bk/\w.heap.size<=b/\¬O' b/\Onc w' bx fx O'/\(∀j,O j->O' j)/\∀j,O' j->O j\/AZ w.heap.size w'.heap.size j)/\c'<=8*bs.length/\St w' p s bs c':=h
structure Bx(w:World)(p:Nat)(s:Value)(bx fx:Nat)(O:Nat->Prop):Prop where
 onc:Onc w bx fx O
 lt:∀j,O j->j<w.heap.size
 ap:∀j,O j->¬Fp p s j/\j≠bx
 bf:bx≠fx
 bp:¬Fp p s bx
 fp:¬Fp p s fx
 bg:bx≠0
 pg:p≠0
 tab:Tab w
theorem Onc.fx_lt{w:World}{bx fx:Nat}{O:Nat->Prop}(h:Onc w bx fx O):fx<w.heap.size:=h.1.lt
theorem Onc.bx_lt{w:World}{bx fx:Nat}{O:Nat->Prop}(h:Onc w bx fx O):bx<w.heap.size:=by
 rcases h.2 with h | ⟨_,h,_⟩
 ·exact h.lt
 ·exact h.lt
theorem Jv{ls:List Nat}{c n c':Nat}(h:mN ls c=.ok (n,c')):n<=65535:=by
 obtain⟨x,c1,_,h⟩:=aI.1 h;obtain⟨t,c2,_,h⟩:=aI.1 h;split at h
 ·simp only[Except.ok.injEq,Prod.mk.injEq]at h;omega
 ·cases h
theorem vC{ls:List Nat}{last:Bool}{c:Nat}:iX ls last c 0=aT (mN ls c) (λn c'=>.ok (.raw last n,c')):=by unfold iX;rw[if_pos rfl]
theorem EJ{ls:List Nat}{last:Bool}{c:Nat}:iX ls last c 1=.ok (.sym last fixL fixD,c):=by unfold iX;rw[if_neg (by decide),if_pos rfl]
theorem rR{ls:List Nat}{last:Bool}{c:Nat}:iX ls last c 2=aT (oN ls c) (λx c'=>.ok (.sym last x.1 x.2,c')):=by unfold iX;rw[if_neg (by decide),if_neg (by decide),if_pos rfl]
theorem CT{ls:List Nat}{last:Bool}{c:Nat}:iX ls last c 3=.error 50:=by unfold iX;rw[if_neg (by decide),if_neg (by decide),if_neg (by decide)]
theorem zQ(w:World)(p c:Nat)(s:Value)(bs:List Nat)(bx fx:Nat)(O:Nat→Prop)(hs:St w p s bs c)(hc:c≤8*bs.length)(ag:bs.length≤100000000)(hx:Bx w p s bx fx O):
  Calls Tryz.prog 123 #[.pointer (some ⟨p,0,none⟩),Kr bx fx] w λe w'=>BegA w w' p s bs bx fx O e (ez (ae bs) c)/\Kept (λj=>j=p\/j=bx) w w':=by
 have lY:p<w.heap.size:=hs.lt;have HP:Hid (∀j,Fp p s j->j<w.heap.size):=hid (λj h=>hs.fp_lt h);have HX:Hid (Bx w p s bx fx O):=hx;have HLEN:Hid (bs.length<=100000000):=ag;have HT:=eZ w p c 1 s bs hs hc ag (by decide);have HEQ:Hid (ez (ae bs) c=aT (iz (ae bs) c 1) (λl c1=>aT (iz (ae bs) c1 2) (λk c2=>iX (ae bs) (l==1) c2 k))):=hid rfl;clear hs hc ag hx;cases ht:iz (ae bs) c 1 with
 | error er=>
  rw[ht]at HT;have HE:Hid (ez (ae bs) c=.error er):=hid (by rw[HEQ.out,bM ht]);clear ht HEQ;go_enter Tryz.func123,Tryz.ntmps123;go_wp2_with fail;refine HT.mono ?_;rintro e w2 ⟨hn2,hk2⟩;obtain⟨rfl,cw,hst⟩:=hn2.err;have l9:((er:Int) != 0)=true:=(by simp;omega);have HER:Hid (er≠0):=cw;have HST:Hid (∃c',c'<=8*bs.length/\St w2 p s bs c'):=hst;have HK2:Hid (Kept (λj=>j=p\/j=bx) w w2):=hid (hk2.mono (λ_ _ h=>.inl h));clear hn2 hst hk2 cw HT;go_wp2_with fail;go_ret2;rw[HE.out];exact⟨⟨rfl,HER.out,HST.out⟩,HK2.out⟩
 | ok l=>
  obtain⟨l,c1⟩:=l;rw[ht]at HT;have HE1:Hid (ez (ae bs) c=aT (iz (ae bs) c1 2) (λk c2=>iX (ae bs) (l==1) c2 k)):=hid (by rw[HEQ.out,aF ht]);obtain⟨last,ce⟩:∃last:Bool,last=(l==1):=⟨_,rfl⟩
  rw[<-ce]at HE1;have TW:((l:Int)==1)=last:=by rw[ce,Bool.eq_iff_iff];simp only[beq_iff_eq];omega
  clear ht HEQ ce;go_enter Tryz.func123,Tryz.ntmps123;go_wp2_with fail;refine HT.mono ?_;rintro e w1 ⟨hn1,hk1⟩;obtain⟨rfl,eH,hst1⟩:=hn1.ok;have HK1:Hid (Kept (·=p) w w1):=hk1;have HT2:=eZ w1 p c1 2 s bs hst1 eH HLEN.out (by decide);clear hn1 eH hst1 hk1 HT;cases ht:iz (ae bs) c1 2 with
  | error er=>
   rw[ht]at HT2;have HE:Hid (ez (ae bs) c=.error er):=hid (by rw[HE1.out,bM ht]);clear ht HE1;go_wp2_with fail;refine HT2.mono ?_;rintro e w2 ⟨hn2,hk2⟩;obtain⟨rfl,cw,hst⟩:=hn2.err;have l9:((er:Int) != 0)=true:=(by simp;omega);have HER:Hid (er≠0):=cw;have HST:Hid (∃c',c'<=8*bs.length/\St w2 p s bs c'):=hst;have HK2:Hid (Kept (λj=>j=p\/j=bx) w w2):=hid (HK1.out.trans hk2 (λ_ _ h=>.inl h) (λ_ _ h=>.inl h));clear hn2 hst hk2 cw HT2;go_wp2_with fail;go_ret2;rw[HE.out];exact⟨⟨rfl,HER.out,HST.out⟩,HK2.out⟩
  | ok k=>
   obtain⟨k,c2⟩:=k;rw[ht]at HT2;have HE2:Hid (ez (ae bs) c=iX (ae bs) last c2 k):=hid (by rw[HE1.out,aF ht]);have hk4:k<4:=by rw[(dY ht).1];exact bV _ (az bs) _ _
   clear ht HE1;go_wp2_with fail;refine HT2.mono ?_;rintro e w2 ⟨hn2,hk2⟩;obtain⟨rfl,cm,uv⟩:=hn2.ok;have HK2:Hid (Kept (·=p) w w2):=hid (HK1.out.trans hk2 (λ_ _ h=>h) (λ_ _ h=>h));have HS2:Hid (St w2 p s bs c2):=uv;have HC2:Hid (c2<=8*bs.length):=cm;have kV:=HK2.out.size;obtain⟨W,hW⟩:∃W,W=w2.alloc (.cells #[.bool last,.int .i64 0,.pointer none] 195):=⟨_,rfl⟩
   have hkW:Same w2 W:=(by rw[hW];exact(Kept.refl _ w2).alloc _);have KK:W.heap.size=w2.heap.size+1:=(by rw[hW];simp);have HBW:Hid (Blk W w2.heap.size #[.bool last,.int .i64 0,.pointer none] 195):=hid (by rw[hW];exact Blk.new w2 _ _);have HSW:Hid (St W p s bs c2):=hid (HS2.out.kept hkW (λ_ _ f=>f));have HKW:Hid (Kept (·=p) w W):=hid (HK2.out.trans hkW (λ_ _ h=>h) (λ_ _ f=>f.elim));have HOW:Hid (Onc W bx fx O):=hid (HX.out.onc.kept HKW.out (λj hj e=>(HX.out.ap j hj).1 (.inl e)) (λe=>HX.out.bp (.inl e)) (λe=>HX.out.fp (.inl e)));have LG:=HX.out.onc.bx_lt;have WG:=HX.out.onc.fx_lt;clear hn2 cm uv hk2 HT2 hkW HK1;obtain rfl | rfl | rfl | rfl:k=0\/k=1\/k=2\/k=3:=by omega
   ·have HC:=y8 W p c2 s bs HSW.out HC2.out HLEN.out;cases ti:mN (ae bs) c2 with
    | error er=>
     rw[ti]at HC;have HE:Hid (ez (ae bs) c=.error er):=hid (by rw[HE2.out,vC,bM ti]);clear ti HE2 hk4;go_wp2_with fail;rw[<-hW];clear hW;refine HC.mono ?_;rintro e w3 ⟨hn2,hk2⟩;obtain⟨rfl,cw,hst⟩:=hn2.err;have l9:((er:Int) != 0)=true:=(by simp;omega);have HER:Hid (er≠0):=cw;have HST:Hid (∃c',c'<=8*bs.length/\St w3 p s bs c'):=hst;have HK3:Hid (Kept (λj=>j=p\/j=bx) w w3):=hid (HKW.out.trans hk2 (λ_ _ h=>.inl h) (λ_ _ h=>.inl h));have HB3:Hid (Blk w3 w2.heap.size #[.bool last,.int .i64 0,.pointer none] 195):=hid (HBW.out.kept hk2 (by omega));have z1:w3.cell? ⟨w2.heap.size,1,none⟩=some (.int .i64 0):=HB3.out.cell 1;have o6:w3.frozen? ⟨w2.heap.size,1,none⟩=false:=HB3.out.frozen 1;clear hn2 hst hk2 cw HC;go_wp2_with fail;go_ret2;have kI:Kept (·=w2.heap.size) w3 (w3.setCell ⟨w2.heap.size,1,none⟩ (.int .i64 0)):=(Kept.refl (·=w2.heap.size) w3).setCell ⟨w2.heap.size,1,none⟩ _ (.inl rfl);rw[HE.out];obtain⟨c9,h9,hs9⟩:=HST.out;exact⟨⟨rfl,HER.out,c9,h9,hs9.kept kI (λj h e=>by have:=HP.out j h;omega)⟩,Kept.trans HK3.out kI (λ_ _ h=>h) (λj hj e=>by omega)⟩
    | ok n=>
     obtain⟨n,c3⟩:=n;rw[ti]at HC;have RK:=Jv ti;have HE:Hid (ez (ae bs) c=.ok (.raw last n,c3)):=hid (by rw[HE2.out,vC,aF ti]);clear ti HE2 hk4;go_wp2_with fail;rw[<-hW];clear hW;refine HC.mono ?_;rintro e w3 ⟨hn2,hk2⟩;obtain⟨rfl,rg,hst⟩:=hn2.ok;have HC3:Hid (c3<=8*bs.length):=rg;have HST:Hid (St w3 p s bs c3):=hst;have HK3:Hid (Kept (λj=>j=p\/j=bx) w w3):=hid (HKW.out.trans hk2 (λ_ _ h=>.inl h) (λ_ _ h=>.inl h));have HB3:Hid (Blk w3 w2.heap.size #[.bool last,.int .i64 0,.pointer none] 195):=hid (HBW.out.kept hk2 (by omega));have HO3:Hid (Onc w3 bx fx O):=hid (HOW.out.kept hk2 (λj hj e=>(HX.out.ap j hj).1 (.inl e)) (λe=>HX.out.bp (.inl e)) (λe=>HX.out.fp (.inl e)));have z1:w3.cell? ⟨w2.heap.size,1,none⟩=some (.int .i64 0):=HB3.out.cell 1;have o6:w3.frozen? ⟨w2.heap.size,1,none⟩=false:=HB3.out.frozen 1;clear hn2 hst hk2 rg HC;go_wp2_with fail;go_ret2;have kI:Kept (·=w2.heap.size) w3 (w3.setCell ⟨w2.heap.size,1,none⟩ (.int .i64 (n:Nat))):=(Kept.refl (·=w2.heap.size) w3).setCell ⟨w2.heap.size,1,none⟩ _ (.inl rfl);have Ov:Blk (w3.setCell ⟨w2.heap.size,1,none⟩ (.int .i64 (n:Nat))) w2.heap.size #[.bool last,.int .i64 (n:Nat),.pointer none] 195:=by have:=HB3.out.set 1 (.int .i64 (n:Nat));simpa using this
     rw[HE.out];exact⟨⟨⟨_,O,rfl,⟨Ov,RK⟩,kV,λh=>by have:=HX.out.lt _ h;omega,HO3.out.kept kI (λj hj e=>by have:=HX.out.lt j hj;omega) (by omega) (by omega),λ_ h=>h,λ_ h=>.inl h⟩,HC3.out,HST.out.kept kI (λj h e=>by have:=HP.out j h;omega)⟩,Kept.trans HK3.out kI (λ_ _ h=>h) (λj hj e=>by omega)⟩
   ·have HE:Hid (ez (ae bs) c=.ok (.sym last fixL fixD,c2)):=hid (by rw[HE2.out,EJ]);have HC:=zy W bx fx O HOW.out HX.out.bf;clear HE2 hk4;go_wp2_with fail;rw[<-hW];clear hW;refine HC.mono ?_;rintro e w3 ⟨kc,O',rfl,Ha,hcp,ju,l7,hk3⟩;have HO3:Hid (Onc w3 bx fx O'):=Ha;have HCP:Hid (CodesP w3 kc fixL fixD O'):=hcp;have HSUB:Hid (∀j,O j->O' j):=ju;have HNEW:Hid (∀j,O' j->O j\/AZ (w2.heap.size+1) w3.heap.size j):=hid (λj hj=>by have:=l7 j hj;rw[KK]at this;exact this);have HS3:Hid (St w3 p s bs c2):=hid (HSW.out.kept hk3 (λj hj e=>HX.out.bp (by rw[<-e];exact hj)));have HK3:Hid (Kept (λj=>j=p\/j=bx) w w3):=hid (HKW.out.trans hk3 (λ_ _ h=>.inl h) (λ_ _ h=>.inr h));have HB3:Hid (Blk w3 w2.heap.size #[.bool last,.int .i64 0,.pointer none] 195):=hid (HBW.out.kept hk3 (by omega));have z1:w3.cell? ⟨w2.heap.size,2,none⟩=some (.pointer none):=HB3.out.cell 2;have o6:w3.frozen? ⟨w2.heap.size,2,none⟩=false:=HB3.out.frozen 2;have hs3:w3.heap.size<=w3.heap.size:=Nat.le_refl _;clear Ha hcp ju l7 hk3 HC;go_wp2_with fail;go_ret2;have kI:Kept (·=w2.heap.size) w3 (w3.setCell ⟨w2.heap.size,2,none⟩ (.pointer (some ⟨kc,0,none⟩))):=(Kept.refl (·=w2.heap.size) w3).setCell ⟨w2.heap.size,2,none⟩ _ (.inl rfl);have Ov:Blk (w3.setCell ⟨w2.heap.size,2,none⟩ (.pointer (some ⟨kc,0,none⟩))) w2.heap.size #[.bool last,.int .i64 0,.pointer (some ⟨kc,0,none⟩)] 195:=by
     have:=HB3.out.set 2 (.pointer (some ⟨kc,0,none⟩));simpa using this
    have Mt:∀j,O' j->¬j=w2.heap.size:=λj hj e=>by
     rcases HNEW.out j hj with h | h
     ·have:=HX.out.lt j h;omega
     ·have:=h.1;omega
    rw[HE.out];refine⟨⟨⟨_,O',rfl,⟨kc,Ov,HCP.out.kept kI Mt⟩,kV,λh=>Mt _ h rfl,HO3.out.kept kI Mt (by omega) (by omega),HSUB.out,λj hj=>?_⟩,HC2.out,HS3.out.kept kI (λj h e=>by have:=HP.out j h;omega)⟩,Kept.trans HK3.out kI (λ_ _ h=>h) (λj hj e=>by omega)⟩;rcases HNEW.out j hj with h | h
    ·exact .inl h
    ·refine .inr ⟨by have:=h.1;omega,?_⟩;simp only[World.setCell,Array.size_modify];exact h.2
   ·have Tv:Tab W:=HX.out.tab.kept HKW.out (λe=>HX.out.pg e.symm);have HC:=tv W p c2 s bs HSW.out HC2.out HLEN.out Tv HX.out.pg;clear Tv;cases Ca:oN (ae bs) c2 with
    | error er=>
     rw[Ca]at HC;have HE:Hid (ez (ae bs) c=.error er):=hid (by rw[HE2.out,rR,bM Ca]);clear Ca HE2 hk4;go_wp2_with fail;rw[<-hW];clear hW;refine HC.mono ?_;rintro e w3 ⟨hn2,hk2⟩;obtain⟨rfl,cw,hst⟩:=hn2.err;have l9:((er:Int) != 0)=true:=(by simp;omega);have HER:Hid (er≠0):=cw;have HST:Hid (∃c',c'<=8*bs.length/\St w3 p s bs c'):=hst;have HK3:Hid (Kept (λj=>j=p\/j=bx) w w3):=hid (HKW.out.trans hk2 (λ_ _ h=>.inl h) (λ_ _ h=>.inl h));have HB3:Hid (Blk w3 w2.heap.size #[.bool last,.int .i64 0,.pointer none] 195):=hid (HBW.out.kept hk2 (by omega));have z1:w3.cell? ⟨w2.heap.size,2,none⟩=some (.pointer none):=HB3.out.cell 2;have o6:w3.frozen? ⟨w2.heap.size,2,none⟩=false:=HB3.out.frozen 2;clear hn2 hst hk2 cw HC;go_wp2_with fail;go_ret2;have kI:Kept (·=w2.heap.size) w3 (w3.setCell ⟨w2.heap.size,2,none⟩ (.pointer none)):=(Kept.refl (·=w2.heap.size) w3).setCell ⟨w2.heap.size,2,none⟩ _ (.inl rfl);rw[HE.out];obtain⟨c9,h9,hs9⟩:=HST.out;exact⟨⟨rfl,HER.out,c9,h9,hs9.kept kI (λj h e=>by have:=HP.out j h;omega)⟩,Kept.trans HK3.out kI (λ_ _ h=>h) (λj hj e=>by omega)⟩
    | ok x=>
     obtain⟨x,c3⟩:=x;rw[Ca]at HC;have HE:Hid (ez (ae bs) c=.ok (.sym last x.1 x.2,c3)):=hid (by rw[HE2.out,rR,aF Ca]);clear Ca HE2 hk4;go_wp2_with fail;rw[<-hW];clear hW;refine HC.mono ?_;rintro e w3 ⟨hn2,hk2⟩;obtain⟨⟨kc,rfl,hcp⟩,rg,hst⟩:=hn2.ok;have HCP:Hid (CodesP w3 kc x.1 x.2 (λj=>O j\/AZ (w2.heap.size+1) w3.heap.size j)):=hid (by rw[KK]at hcp;exact hcp.less (λj hj=>.inr hj));have HC3:Hid (c3<=8*bs.length):=rg;have HST:Hid (St w3 p s bs c3):=hst;have HK3:Hid (Kept (λj=>j=p\/j=bx) w w3):=hid (HKW.out.trans hk2 (λ_ _ h=>.inl h) (λ_ _ h=>.inl h));have HB3:Hid (Blk w3 w2.heap.size #[.bool last,.int .i64 0,.pointer none] 195):=hid (HBW.out.kept hk2 (by omega));have HO3:Hid (Onc w3 bx fx (λj=>O j\/AZ (w2.heap.size+1) w3.heap.size j)):=hid ((HOW.out.kept hk2 (λj hj e=>(HX.out.ap j hj).1 (.inl e)) (λe=>HX.out.bp (.inl e)) (λe=>HX.out.fp (.inl e))).less (λj hj=>.inl hj));have z1:w3.cell? ⟨w2.heap.size,2,none⟩=some (.pointer none):=HB3.out.cell 2;have o6:w3.frozen? ⟨w2.heap.size,2,none⟩=false:=HB3.out.frozen 2;clear hn2 hst hk2 rg HC hcp;go_wp2_with fail;go_ret2;have kI:Kept (·=w2.heap.size) w3 (w3.setCell ⟨w2.heap.size,2,none⟩ (.pointer (some ⟨kc,0,none⟩))):=(Kept.refl (·=w2.heap.size) w3).setCell ⟨w2.heap.size,2,none⟩ _ (.inl rfl);have Ov:Blk (w3.setCell ⟨w2.heap.size,2,none⟩ (.pointer (some ⟨kc,0,none⟩))) w2.heap.size #[.bool last,.int .i64 0,.pointer (some ⟨kc,0,none⟩)] 195:=by have:=HB3.out.set 2 (.pointer (some ⟨kc,0,none⟩));simpa using this
     have Mt:∀j,(O j\/AZ (w2.heap.size+1) w3.heap.size j)->¬j=w2.heap.size:=λj hj e=>by
      rcases hj with h | h
      ·have:=HX.out.lt j h;omega
      ·have:=h.1;omega
     rw[HE.out];refine⟨⟨⟨_,_,rfl,⟨kc,Ov,HCP.out.kept kI Mt⟩,kV,λh=>Mt _ h rfl,HO3.out.kept kI Mt (by omega) (by omega),λj hj=>.inl hj,λj hj=>?_⟩,HC3.out,HST.out.kept kI (λj h e=>by have:=HP.out j h;omega)⟩,Kept.trans HK3.out kI (λ_ _ h=>h) (λj hj e=>by omega)⟩;rcases hj with h | h
     ·exact .inl h
     ·refine .inr ⟨by have:=h.1;omega,?_⟩;simp only[World.setCell,Array.size_modify];exact h.2
   ·have HE:Hid (ez (ae bs) c=.error 50):=hid (by rw[HE2.out,CT]);subst hW;clear HE2 hk4;go_wp2_with fail;go_ret2;rw[HE.out];exact⟨⟨rfl,by decide,c2,HC2.out,HSW.out⟩,HKW.out.mono (λ_ _ h=>.inl h)⟩
def Nk(w w':World)(v:Value)(n:Nat):Prop:=∀k j u,(v.ownBlock=some k->j<n)->w.cell? ⟨k,j,none⟩=some u->w'.cell? ⟨k,j,none⟩=some u
theorem oL(w:World)(ty:TypeId)(v:Value)(bs:List Nat)(hrow:Row w v bs)(a:Addr)(c:Nat)(cs:List Nat)(eO:fP w a cs)(ag:bs.length+cs.length≤1000000000000):
  ∃v' w',(Builtin.append_ #[22,22] ty #[v,.slice (some a) cs.length c]).run Tryz.prog w=.ok v' w'/\Row w' v' (bs++cs)/\w.grownBy w' v.ownBlock /\
   (v'.ownBlock=v.ownBlock\/v'.ownBlock=some w.heap.size)/\Nk w w' v bs.length:=by
 obtain⟨v',w',hr,hrow',hg,ho⟩:=gv w ty v bs hrow a c cs eO ag;refine⟨v',w',hr,hrow',hg,ho,?_⟩;have hk:Kept (λk=>v.ownBlock=some k) w w':=(Kept.refl _ w).grown hg (λk e=>.inl e);have Hh:∀k j u,v.ownBlock≠some k->w.cell? ⟨k,j,none⟩=some u->w'.cell? ⟨k,j,none⟩=some u:=λk j u h hc=>hk.cell hc h
 obtain⟨i0,hi,iq,iG,fW⟩:=info_parts Tryz.info8;have cX:i0.size=1:=iG;have hl:(cs.map bj).length=cs.length*1:=by simp
 rcases id hrow.2 with⟨rfl,hn⟩ | ⟨g,cap,cur,rfl,_⟩
 ·exact λk j u _ hc=>Hh k j u (by simp[Value.ownBlock]) hc
 ·intro k j u hj hc;by_cases Iq:k=g
  ·subst Iq;have BT:j<bs.length:=hj rfl;by_cases ir:bs.length+cs.length<=cap
   ·obtain⟨w2,hr2,hr3⟩:=run_append_fits (P:=Tryz.prog) w 0 22 ty 5 i0 1 Tryz.underlying22 hi iG k bs.length cap (bs.map bj) hrow a cs.length c (cs.map bj) hl eO (kr _) ir;rw[hr]at hr2;simp only[Result.ok.injEq]at hr2;have e1:=hrow.cell j BT;rw[e1]at hc;rw[<-hc];have rf:(bs++cs).length=bs.length+cs.length:=List.length_append;have e2:v'=.slice (some ⟨k,0,none⟩) (bs++cs).length cap:=(by rw[hr2.1,rf]);rw[e2]at hrow';have e3:=hrow'.cell j (by rw[rf];omega);rw[List.getElem_append_left BT]at e3;exact e3
   ·have hr2:=run_append_grow (P:=Tryz.prog) w 22 ty 5 i0 (.int .u8 0) Tryz.underlying22 hi iq ⟨k,0,none⟩ bs.length cap (bs.map bj) (by rw[cX];simp) (hrow.cells (g:=k) rfl) a cs.length c (cs.map bj) (by rw[cX];simp) eO (by omega) (by omega) (growslice_fits (by omega) (by rw[fW];omega));rw[hr]at hr2;simp only[Result.ok.injEq]at hr2;rw[hr2.2];exact(((Kept.refl (λ_=>False) w).drew).alloc _).cell hc (λf=>f)
  ·exact Hh k j u (λe=>Iq (by simpa[Value.ownBlock]using e.symm)) hc
theorem DE(a b:List Nat)(j:Nat)(h:j<a.length):(a++b).getD j 0=a.getD j 0:=by simp[List.getD,List.getElem?_append_left h]
theorem zg(a b:List Nat)(j:Nat)(h:a.length<=j):(a++b).getD j 0=b.getD (j-a.length) 0:=by simp[List.getD,List.getElem?_append_right h]
theorem qR(far n:Nat)(out:List Nat):mM far (n+1) out=mM far n out++[(mM far n out).getD ((mM far n out).length-far) 0]:=by
 induction n generalizing out with
 | zero=>rfl
 | succ n ih=>rw[mM,ih,<-mM]
theorem IQ(far n:Nat)(out:List Nat)(h1:1<=far)(h2:far<=out.length)(t:Nat)(ht:t<far+n):(mM far n out).getD (out.length-far+t) 0=out.getD (out.length-far+t % far) 0:=by
 induction n generalizing t with
 | zero=>
  rw[Nat.mod_eq_of_lt (by omega)];rfl
 | succ n ih=>
  rw[qR];by_cases hl:t<far+n
  ·rw[DE _ _ _ (by rw[gJ];omega)];exact ih t hl
  ·have e:t=far+n:=(by omega);subst e;rw[zg _ _ _ (by rw[gJ];omega),gJ];have e1:out.length-far+(far+n)-(out.length+n)=0:=(by omega);have e2:out.length+n-far=out.length-far+n:=(by omega);rw[e1,e2];simp only[List.getD_cons_zero];rw[ih n (by omega),Nat.add_mod_left]
theorem GL(far n:Nat)(out:List Nat)(h1:1<=far)(h2:far<=out.length):mM far (n+1) out=mM far n out++[out.getD (out.length-far+n % far) 0]:=by
 rw[qR,gJ];have e:out.length+n-far=out.length-far+n:=by omega
 rw[e,IQ far n out h1 h2 n (by omega)]
theorem Di(far n:Nat)(out:List Nat)(h:∀b∈out,b<256):∀b∈mM far n out,b<256:=by
 induction n with
 | zero=>exact h
 | succ n ih=>
  rw[qR];intro b hb;rcases List.mem_append.1 hb with hb | hb
  ·exact ih b hb
  ·simp only[List.mem_singleton]at hb;subst hb;by_cases hi:(mM far n out).length-far<(mM far n out).length
   ·have e:(mM far n out).getD ((mM far n out).length-far) 0=(mM far n out)[(mM far n out).length-far]:=(by simp[List.getD,hi]);rw[e];exact ih _ (List.getElem_mem _)
   ·have e:(mM far n out).getD ((mM far n out).length-far) 0=0:=(by simp[List.getD,hi]);rw[e];decide
abbrev Sm(w:World)(h:Nat)(most:Nat)(vl bv va:Value)(gone e:Nat):Prop:=Blk w h #[.int .i64 (most:Nat),vl,bv,va,.int .i64 (gone:Nat),.int .i64 (e:Nat)] 114
def Nm(w w':World)(h most:Nat)(vl bv va:Value)(gone e:Nat)(r:Ending):Except Nat (List Nat)->Prop
 | .error x=>r=.returned (.int .i64 (x:Nat))/\x≠0/\Same w w'
 | .ok out=>r=.returned (.int .i64 0)/\(∃vl',Sm w' h most vl' bv va gone e/\Row w' vl' out/\(vl'.ownBlock=vl.ownBlock\/∃k,vl'.ownBlock=some k/\w.heap.size<=k))/\Kept (λj=>j=h\/vl.ownBlock=some j) w w'
theorem iV{ops:Array Oper}{o:Oper}{a:Act}{w:World}{K:Act→World→Prop}{Q:Exit→Act→World→Prop}{E:Prop}(jL:o.guard=none)(s x:Operand)
  (ho:o.op=.call {callee:=.builtin .append,args:=#[s,x],argTypes:=#[22,22]})
  (v:Value) (bs:List Nat) (hs:a.eval s=v) (hrow:Row w v bs) (ad:Addr) (m c:Nat) (cs:List Nat) (hx:a.eval x=.slice (some ad) m c) (hm:cs.length=m) (eO:fP w ad cs) (ag:bs.length+cs.length<=1000000000000)
  (h:∀v' w',Row w' v' (bs++cs)->w.grownBy w' v.ownBlock->(v'.ownBlock=v.ownBlock\/v'.ownBlock=some w.heap.size)->Nk w w' v bs.length->K (a.put o.dst v') w'):if Region.wanted o (yielded ops a.tmps)=true then Oper.wp Tryz.prog o a w K Q else E:=by
 have hw:Region.wanted o (yielded ops a.tmps)=true:=by simp[Region.wanted,jL]
 rw[if_pos hw];subst hm;obtain⟨v',w',hr,h2,h3,h4,h5⟩:=oL w o.type v bs hrow ad c cs eO ag;unfold Oper.wp execOp;simp only[ho,resolve,invoke,builtin,Sem.run_bind,Sem.run_pure,Result.andThen_ok,List.map_toArray,List.map_cons,List.map_nil,hs,hx,hr];exact h v' w' h2 h3 h4 h5
def uz(R:Nat->Nat)(m n:Nat):List Nat:=(List.range n).map (λt=>R (t % m))
theorem xP(R:Nat->Nat)(m n:Nat):uz R m (n+1)=uz R m n++[R (n % m)]:=by simp[uz,List.range_succ]
theorem Aa(R:Nat->Nat)(m n:Nat):(uz R m n).length=n:=by simp[uz]
theorem Ls(far n:Nat)(out:List Nat)(h1:1<=far)(h2:far<=out.length):mM far n out=out++uz (λt=>out.getD (out.length-far+t) 0) far n:=by
 induction n with
 | zero=>simp[mM,uz]
 | succ n ih=>rw[GL far n out h1 h2,ih,xP,List.append_assoc]
structure Ql(w wr:World)(h most:Nat)(v0 vi bv va:Value)(gone e:Nat)(out:List Nat)(R:Nat->Nat)(gr or m i:Nat):Prop where
 sm:Sm wr h most vi bv va gone e
 row:Row wr vi (out++uz R m i)
 own:vi.ownBlock=v0.ownBlock\/∃k,vi.ownBlock=some k/\w.heap.size<=k
 ne:vi.ownBlock≠some h
 kp:Kept (λj=>j=h\/v0.ownBlock=some j) w wr
 src:∀t,t<m->wr.cell? ⟨gr,or+t,none⟩=some (.int .u8 (R t:Nat))
 off:vi.ownBlock=some gr->∀t,t<m->or+t<out.length
theorem sO(w:World)(h most:Nat)(vl bv va:Value)(gone e:Nat)(out:List Nat)(b:Nat)(hS:Sm w h most vl bv va gone e)(hR:Row w vl out)(bh:vl.ownBlock≠some h)(hm:most≤16384)(ho:out.length≤most):
  Calls Tryz.prog 126 #[.pointer (some ⟨h,0,none⟩),.agg #[.int .u8 (b:Nat),.int .i64 0,.int .i64 0]] w λr w'=>Nm w w' h most vl bv va gone e r (dA most out (.byte b)):=by
 obtain⟨ao,cap,rfl,_⟩:=hR.shape;obtain⟨W,hW⟩:∃W,W=w.alloc (.cells #[.int .u8 (b:Nat),.int .i64 0,.int .i64 0] 133):=⟨_,rfl⟩
 have hkW:Same w W:=by rw[hW];exact(Kept.refl _ w).alloc _
 obtain⟨V,hV⟩:∃V,V=W.alloc (.cells #[.int .u8 (b:Nat)] 5):=⟨_,rfl⟩
 have yl:Same W V:=by rw[hV];exact(Kept.refl _ W).alloc _
 have Ul:=hS.lt;have uj:∀k,(Value.slice ao out.length cap).ownBlock=some k->k<w.heap.size:=λk hk=>hR.lt hk
 have hSW:Sm W h most (.slice ao out.length cap) bv va gone e:=hS.kept hkW (λf=>f);have hSV:Sm V h most (.slice ao out.length cap) bv va gone e:=hSW.kept yl (λf=>f);have KK:W.heap.size=w.heap.size+1:=by rw[hW];simp
 have w1:=hSW.cell 1;have v0:=hSV.cell 0;simp at w1 v0;have HSV:Hid (Sm V h most (.slice ao out.length cap) bv va gone e):=hSV;have HRV:Hid (Row V (.slice ao out.length cap) out):=hid ((hR.kept hkW (λ_ _ f=>f)).kept yl (λ_ _ f=>f));have HKV:Hid (Same w V):=hid (Same.trans hkW yl);have HNE:Hid ((Value.slice ao out.length cap).ownBlock≠some h):=bh;have HRL:Hid (∀k,(Value.slice ao out.length cap).ownBlock=some k->k<w.heap.size):=uj;have HOL:Hid (out.length<=16384):=hid (by omega);obtain⟨M,hM⟩:∃M,M=out.length:=⟨_,rfl⟩
 have HM:Hid (M=out.length):=hM;obtain⟨q,hq⟩:∃q,q=most-M:=⟨_,rfl⟩
 have UF:(most:Int)-(M:Int)=(q:Int):=by omega
 rw[<-hM]at w1 HSV HRV HNE HRL;have HVb:Hid (V.cell? ⟨w.heap.size+1,0,none⟩=some (.int .u8 (b:Nat))):=hid (by
  have:=(Blk.new W #[.int .u8 (b:Nat)] 5).cell 0;rw[<-hV,KK]at this;simpa using this)
 clear hS hR bh uj hSW hSV hkW yl;by_cases hf:most<M+1
 ·have HE:Hid (dA most out (.byte b)=.error 56):=hid (by simp only[dA];rw[if_pos (by rw[<-hM];exact hf)]);have US:q=0:=(by omega);subst US;subst hV hW;clear hM hf hq;rw[<-HM.out];go_enter Tryz.func126,Tryz.ntmps126;go_wp2_with fail;go_ret;rw[HE.out];exact⟨rfl,by decide,HKV.out⟩
 ·have HE:Hid (dA most out (.byte b)=.ok (out++[b])):=hid (by simp only[dA];rw[if_neg (by rw[<-hM];exact hf)]);have S0:decide ((q:Int)<1)=false:=(by simp;omega);have v1:V.cell? ⟨h,1,none⟩=some (.slice ao M cap):=HSV.out.cell 1;have vb:V.cell? ⟨w.heap.size+1,0,none⟩=some (.int .u8 (b:Nat)):=HVb.out;have Ir:=HSV.out.lt;have va1:(V.drew.alloc (.cells #[.int .u8 (b:Nat)] 5)).cell? ⟨h,1,none⟩=some (.slice ao M cap):=(((Kept.refl (λ_=>False) V).drew).alloc _).cell v1 (λf=>f);have SG:(V.alloc (.cells #[.int .u8 (b:Nat)] 5)).cell? ⟨h,1,none⟩=some (.slice ao M cap):=((Kept.refl (λ_=>False) V).alloc _).cell v1 (λf=>f);have HBL:Hid (out.length+[b].length<=1000000000000):=hid (by have:=HOL.out;simp;omega);subst hV hW;clear hM hf hq;rw[<-HM.out];go_enter Tryz.func126,Tryz.ntmps126;go_wp2_with fail;refine wp_loop_rounds 2 ?_;rw[rounds_succ];go_wp2_with fail;go_region_law (refine iV rfl (.tmp 53) (.tmp 61) rfl (.slice ao M cap) out (by simp[Act.eval]) (HRV.out.kept (by first | exact(Kept.refl (λ_=>False) _).alloc _ | exact((Kept.refl (λ_=>False) _).drewN _).alloc _ | exact((Kept.refl (λ_=>False) _).drew).alloc _) (λ_ _ f=>f)) ⟨_,0,none⟩ 1 1 [b] (by simp[Act.eval]) rfl (ip _ _) HBL.out ?_;intro v5 w5 hr5 d8 Ns BW;have HK5:Hid (Kept (λj=>(Value.slice ao M cap).ownBlock=some j) ((w.alloc (.cells #[.int .u8 (b:Nat),.int .i64 0,.int .i64 0] 133)).alloc (.cells #[.int .u8 (b:Nat)] 5)) w5):=hid (by first | exact((Kept.refl _ _).alloc _).grown d8 (λj e=>.inl e) | exact(((Kept.refl _ _).drew).alloc _).grown d8 (λj e=>.inl e) | exact(((Kept.refl _ _).drewN _).alloc _).grown d8 (λj e=>.inl e));have HS5:Hid (Sm w5 h most (.slice ao M cap) bv va gone e):=hid (HSV.out.kept HK5.out HNE.out);have c5:w5.cell? ⟨h,1,none⟩=some (.slice ao M cap):=HS5.out.cell 1;have f5:w5.frozen? ⟨h,1,none⟩=false:=HS5.out.frozen 1;have HO5:Hid (v5.ownBlock=(Value.slice ao M cap).ownBlock\/∃k,v5.ownBlock=some k/\w.heap.size<=k/\k≠h):=hid (by rcases Ns with e5 | e5;exact .inl e5;exact .inr ⟨_,e5,by simp;omega,by simp;omega⟩);have HR5:Hid (Row w5 v5 (out++[b])):=hr5;obtain⟨a5,jG,fJ,_⟩:=hr5.shape;generalize (out++[b]).length=L5 at fJ;subst fJ;clear hr5 d8 Ns BW)
  all_goals
   go_wp2_with fail;rw[rounds_succ];go_wp2_with fail;go_ret;rw[HE.out];have hks:Kept (·=h) w5 (w5.setCell ⟨h,1,none⟩ (.slice a5 L5 jG)):=(Kept.refl (·=h) w5).setCell ⟨h,1,none⟩ _ (.inl rfl);have hS6:Sm (w5.setCell ⟨h,1,none⟩ (.slice a5 L5 jG)) h most (.slice a5 L5 jG) bv va gone e:=by have:=HS5.out.set 1 (.slice a5 L5 jG);simpa using this
   have M6:(Value.slice a5 L5 jG).ownBlock≠some h:=by
    rcases HO5.out with e | ⟨k,e,_,hk⟩
    ·rw[e];exact HNE.out
    ·rw[e];exact λe2=>hk (by injection e2)
   have hK:Kept (λj=>j=h\/(Value.slice ao M cap).ownBlock=some j) w w5:=Kept.trans HKV.out HK5.out (λ_ _ f=>f.elim) (λ_ _ f=>.inr f);refine⟨rfl,⟨.slice a5 L5 jG,?_,?_,?_⟩,?_⟩
   ·first | exact hS6 | exact hS6.kept ((Kept.refl (λ_=>False) _).drew) (λf=>f) | exact hS6.drewN _
   ·first | exact HR5.out.kept hks (λk e e2=>M6 (by rw[e,e2])) | exact(HR5.out.kept hks (λk e e2=>M6 (by rw[e,e2]))).kept ((Kept.refl (λ_=>False) _).drew) (λ_ _ f=>f)
   ·rcases HO5.out with e | ⟨k,e,hk,_⟩
    ·exact .inl e
    ·exact .inr ⟨k,e,hk⟩
   ·first | exact Kept.trans hK hks (λ_ _ f=>f) (λ_ _ f=>.inl f) | exact(Kept.trans hK hks (λ_ _ f=>f) (λ_ _ f=>.inl f)).drew
theorem rS(w:World)(h most:Nat)(vl bv va:Value)(gone e:Nat)(out:List Nat)(N far:Nat)(hS:Sm w h most vl bv va gone e)(hR:Row w vl out)(bh:vl.ownBlock≠some h)(hm:most≤16384)(ho:out.length≤most)(YE:3≤N)(hN:N≤258)(hf1:1≤far)(G0:far≤40000):
  Calls Tryz.prog 126 #[.pointer (some ⟨h,0,none⟩),.agg #[.int .u8 0,.int .i64 (N:Nat),.int .i64 (far:Nat)]] w λr w'=>Nm w w' h most vl bv va gone e r (dA most out (.copy N far)):=by
 obtain⟨ao,cap,rfl,Pn⟩:=hR.shape;obtain⟨W,hW⟩:∃W,W=w.alloc (.cells #[.int .u8 0,.int .i64 (N:Nat),.int .i64 (far:Nat)] 133):=⟨_,rfl⟩
 have hkW:Same w W:=by rw[hW];exact(Kept.refl _ w).alloc _
 obtain⟨V,hV⟩:∃V,V=W.alloc (.cells #[.int .u8 0] 5):=⟨_,rfl⟩
 have yl:Same W V:=by rw[hV];exact(Kept.refl _ W).alloc _
 have Ul:=hS.lt;have hSW:Sm W h most (.slice ao out.length cap) bv va gone e:=hS.kept hkW (λf=>f);have hSV:Sm V h most (.slice ao out.length cap) bv va gone e:=hSW.kept yl (λf=>f);have KK:W.heap.size=w.heap.size+1:=by rw[hW];simp
 have w1:=hSW.cell 1;have v0:=hSV.cell 0;have v1:=hSV.cell 1;simp at w1 v0 v1;have HSV:Hid (Sm V h most (.slice ao out.length cap) bv va gone e):=hSV;have HRV:Hid (Row V (.slice ao out.length cap) out):=hid ((hR.kept hkW (λ_ _ f=>f)).kept yl (λ_ _ f=>f));have HKW:Hid (Same w W):=hkW;have HKV:Hid (Same w V):=hid (Same.trans hkW yl);have HNE:Hid ((Value.slice ao out.length cap).ownBlock≠some h):=bh;have HOL:Hid (out.length<=16384):=hid (by omega);have cj:out.length<=cap:=by
  rcases hR.2 with⟨e1,_⟩ | ⟨g,cp,cur,e1,_,_,md,_⟩
  ·simp only[Value.slice.injEq]at e1;omega
  ·simp only[Value.slice.injEq]at e1;omega
 obtain⟨M,hM⟩:∃M,M=out.length:=⟨_,rfl⟩
 have HM:Hid (M=out.length):=hM;rw[<-hM]at w1 v1 HSV HRV HNE cj;have WX:M<=16384:=by omega
 clear hS hR bh hSW hSV hkW yl;by_cases ja:M<far
 ·have HE:Hid (dA most out (.copy N far)=.error 54):=hid (by simp only[dA];rw[if_pos (by rw[<-hM];exact ja)]);have Lu:decide (M<far)=true:=(by simp;omega);subst hV hW;clear hM ja;rw[<-HM.out];go_enter Tryz.func126,Tryz.ntmps126;go_wp2_with fail;go_ret;rw[HE.out];exact⟨rfl,by decide,HKW.out⟩
 ·have Lu:decide (M<far)=false:=(by simp;omega);obtain⟨g,KT⟩:=Pn (λe0=>by rw[e0]at hM;simp at hM;omega);subst KT;obtain⟨o,Mo⟩:∃o,o=M-far:=⟨_,rfl⟩
  have XL:(M:Int)-(far:Int)=(o:Int):=(by omega);have how:IntKind.i64.wrap (o:Int)=(o:Int):=(by rw[IntKind.wrap_i64];omega);have i1:(0:Int)<=(o:Int):=(by omega);have i2:(o:Int)<=(M:Int):=(by omega);have i3:(M:Int)<=(cap:Int):=(by omega);have Yp:M-o=far:=(by omega);have XJ:decide (0<N)=true:=(by simp;omega);obtain⟨q,hq⟩:∃q,q=most-M:=⟨_,rfl⟩
  have UF:(most:Int)-(M:Int)=(q:Int):=(by omega);by_cases hf:most<M+N
  ·have HE:Hid (dA most out (.copy N far)=.error 56):=hid (by simp only[dA];rw[if_neg (by rw[<-hM];exact ja),if_pos (by rw[<-hM];exact hf)]);have S0:decide (q<N)=true:=(by simp;omega);subst hV hW;clear hM hf hq ja Mo;rw[<-HM.out];go_enter Tryz.func126,Tryz.ntmps126;go_wp2_with fail;go_quiet (fail);go_wp2_with fail;go_ret;rw[HE.out];exact⟨rfl,by decide,HKV.out.drewN _⟩
  ·have HE:Hid (dA most out (.copy N far)=.ok (mM far N out)):=hid (by simp only[dA];rw[if_neg (by rw[<-hM];exact ja),if_neg (by rw[<-hM];exact hf)]);have S0:decide (q<N)=false:=(by simp;omega);obtain⟨R,QM⟩:∃R:Nat->Nat,R=λt=>out.getD (out.length-far+t) 0:=⟨_,rfl⟩
   have HFIN:Hid (mM far N out=out++uz R far N):=hid (by rw[QM];exact Ls far N out hf1 (by omega));have HL0:Hid (∀nq,Ql w (V.drewN nq) h most (.slice (some ⟨g,0,none⟩) M cap) (.slice (some ⟨g,0,none⟩) M cap) bv va gone e out R g o far 0):=hid (λnq=>⟨HSV.out.drewN nq,by
    have e0:out++uz R far 0=out:=(by simp[uz]);rw[e0];exact HRV.out,.inl rfl,HNE.out,(HKV.out.mono (λ_ _ f=>f.elim)).drewN nq,λt ht=>by
    have hrow:=HRV.out;rw[hM]at hrow;have hc:=hrow.cell (o+t) (by omega);have e9:out.length-far+t=o+t:=(by omega);rw[QM];simp only;rw[e9];have hlt:o+t<out.length:=(by omega);have e8:out.getD (o+t) 0=out[o+t]:=(by simp[List.getD,hlt]);rw[e8];exact hc,λ_ t ht=>by omega⟩)
   have ym:0<far:=(by omega);subst hV hW;clear hf hq ja Mo QM;rw[<-HM.out];clear hM;go_enter Tryz.func126,Tryz.ntmps126;go_wp2_with fail;go_quiet (fail);go_wp2_with fail;go_loopg [46] N (λq z wr=>∃(i:Nat) (vi:Value),N-i<=q/\i<=N/\z=.int .i64 (i:Nat)/\Hid (Ql w wr h most (.slice (some ⟨g,0,none⟩) M cap) vi bv va gone e out R g o far i))
   case atStart=>exact⟨0,_,by omega,by omega,rfl,HL0.out _⟩
   case round=>
    clear HL0 HSV HRV HKW HKV v0 v1 w1;obtain⟨i,vi,KB,hi,rfl,HY⟩:=hrel;by_cases hlt:i<N
    ·obtain⟨r,hr⟩:∃r,r=i % far:=⟨_,rfl⟩
     have PR:r<far:=(by rw[hr];exact Nat.mod_lt _ ym);have X7:(i:Int) % (far:Int)=(r:Int):=(by rw[hr];simp);have YC:Int.tmod (i:Int) (far:Int)=(r:Int):=(by rw[hr];rfl);have HR:Hid (r=i % far):=hr;obtain⟨ai,ci,TD,_⟩:=HY.out.row.shape;obtain⟨Li,SM⟩:∃L,L=(out++uz R far i).length:=⟨_,rfl⟩
     rw[<-SM]at TD;subst TD;have d1:wr.cell? ⟨h,1,none⟩=some (.slice ai Li ci):=HY.out.sm.cell 1;obtain⟨x,hx⟩:∃x,x=R r:=⟨_,rfl⟩
     have dr:wr.cell? ⟨g,o+r,none⟩=some (.int .u8 (x:Nat)):=(by rw[hx];exact HY.out.src r PR);have HXR:Hid (x=R r):=hx;have Ir:=HY.out.sm.lt;have HBL:Hid ((out++uz R far i).length+[x].length<=1000000000000):=hid (by rw[List.length_append,Aa];have:=HOL.out;simp;omega);have R4:¬far=0:=(by omega);have HNX:Hid (out++uz R far i++[x]=out++uz R far (i+1)):=hid (by rw[xP,List.append_assoc,<-HR.out,<-HXR.out]);have va1:(wr.drew.alloc (.cells #[.int .u8 (x:Nat)] 5)).cell? ⟨h,1,none⟩=some (.slice ai Li ci):=(((Kept.refl (λ_=>False) wr).drew).alloc _).cell d1 (λf=>f);have SG:(wr.alloc (.cells #[.int .u8 (x:Nat)] 5)).cell? ⟨h,1,none⟩=some (.slice ai Li ci):=((Kept.refl (λ_=>False) wr).alloc _).cell d1 (λf=>f);clear hr SM hx;go_wp2_with fail;go_region_law (refine iV rfl (.tmp 53) (.tmp 61) rfl (.slice ai Li ci) (out++uz R far i) (by simp[Act.eval]) (HY.out.row.kept (by first | exact(Kept.refl (λ_=>False) _).alloc _ | exact((Kept.refl (λ_=>False) _).drew).alloc _) (λ_ _ f=>f)) ⟨_,0,none⟩ 1 1 [x] (by simp[Act.eval]) rfl (ip _ _) HBL.out ?_;intro v5 w5 hr5 d8 Ns BW;have HK5:Hid (Kept (λj=>(Value.slice ai Li ci).ownBlock=some j) wr w5):=hid (by first | exact((Kept.refl _ _).alloc _).grown d8 (λj e=>.inl e) | exact(((Kept.refl _ _).drew).alloc _).grown d8 (λj e=>.inl e));have HS5:Hid (Sm w5 h most (.slice ai Li ci) bv va gone e):=hid (HY.out.sm.kept HK5.out HY.out.ne);have c5:w5.cell? ⟨h,1,none⟩=some (.slice ai Li ci):=HS5.out.cell 1;have f5:w5.frozen? ⟨h,1,none⟩=false:=HS5.out.frozen 1;have HO5:Hid (v5.ownBlock=(Value.slice ai Li ci).ownBlock\/∃k,v5.ownBlock=some k/\wr.heap.size<=k):=hid (by rcases Ns with e5 | e5;exact .inl e5;exact .inr ⟨_,e5,by simp⟩);have HC5:Hid (∀t,t<far->w5.cell? ⟨g,o+t,none⟩=some (.int .u8 (R t:Nat))):=hid (λt ht=>BW _ _ _ (λe=>by have:=HY.out.off e t ht;rw[List.length_append];omega) (by first | exact(((Kept.refl (λ_=>False) wr).drew).alloc _).cell (HY.out.src t ht) (λf=>f) | exact((Kept.refl (λ_=>False) wr).alloc _).cell (HY.out.src t ht) (λf=>f)));have HR5:Hid (Row w5 v5 (out++uz R far (i+1))):=hid (by rw[<-HNX.out];exact hr5);obtain⟨a5,jG,fJ,_⟩:=hr5.shape;generalize (out++uz R far i++[x]).length=L5 at fJ;subst fJ;clear hr5 d8 Ns BW)
     all_goals
      go_wp2_with fail;go_roundg (gk-1)
      case measure=>omega
      case rel=>
       have hks:Kept (·=h) w5 (w5.setCell ⟨h,1,none⟩ (.slice a5 L5 jG)):=(Kept.refl (·=h) w5).setCell ⟨h,1,none⟩ _ (.inl rfl);have S4:g<wr.heap.size:=World.block_lt_of_cell? wr _ (HY.out.src 0 ym);have M6:(Value.slice a5 L5 jG).ownBlock≠some h:=by
        rcases HO5.out with e | ⟨k,e,hk⟩
        ·rw[e];exact HY.out.ne
        ·rw[e];intro e2;injection e2 with e2;omega
       have Q8:Ql w (w5.setCell ⟨h,1,none⟩ (.slice a5 L5 jG)) h most (.slice (some ⟨g,0,none⟩) M cap) (.slice a5 L5 jG) bv va gone e out R g o far (i+1):=by
        refine⟨?_,HR5.out.kept hks (λk e e2=>M6 (by rw[e,e2])),?_,M6,?_,λt ht=>hks.cell (HC5.out t ht) (λe=>HNE.out (by simp[Value.ownBlock];exact e)),?_⟩
        ·have:=HS5.out.set 1 (.slice a5 L5 jG);simpa using this
        ·rcases HO5.out with e | ⟨k,e,hk⟩
         ·rw[e];exact HY.out.own
         ·exact .inr ⟨k,e,Nat.le_trans HY.out.kp.size hk⟩
        ·have hk5:Kept (fun j=>j=h∨(Value.slice (some ⟨g,0,none⟩) M cap).ownBlock=some j) w w5:=Kept.trans HY.out.kp HK5.out (fun _ _ f=>f) (fun j hj f=>by
          rcases HY.out.own with e | ⟨k,e,hk⟩
          ·rw[e]at f;exact .inr f
          ·rw[e]at f;injection f with f;omega)
         exact Kept.trans hk5 hks (λ_ _ f=>f) (λ_ _ f=>.inl f)
        ·rcases HO5.out with e | ⟨k,e,hk⟩
         ·rw[e];exact HY.out.off
         ·rw[e];intro e2;injection e2 with e2;omega
       exact⟨i+1,_,by omega,by omega,by go_num,Q8⟩
    ·have VM:i=N:=(by omega);subst VM;go_wp2_with fail;go_ret;rw[HE.out];exact⟨rfl,⟨vi,HY.out.sm,by rw[HFIN.out];exact HY.out.row,HY.out.own⟩,HY.out.kp⟩
abbrev bP:=Nat->Nat
def bkIn(w:World)(ρ:bP)(bv:Value):Option Bk->Prop
 | none=>bv=.pointer none
 | some k=>∃b,bv=.pointer (some ⟨b,0,none⟩)/\BkP w b (λj=>ρ j=4) k/\ρ b=3
theorem bkIn.kept{F:Nat->Prop}{w w':World}{ρ:bP}{bv:Value}{k:Option Bk}(h:bkIn w ρ bv k)(hk:Kept F w w')(hF:∀j,ρ j=3\/ρ j=4->¬F j):bkIn w' ρ bv k:=by
 cases k with
 | none=>exact h
 | some k=>
  obtain⟨b,h1,h2,h3⟩:=h;exact⟨b,h1,h2.kept hk (λj hj=>hF j (.inr hj)) (hF b (.inl h3)),h3⟩
theorem bkIn.turn{w:World}{ρ ρ':bP}{bv:Value}{k:Option Bk}(h:bkIn w ρ bv k)(hρ:∀j,ρ j≠0->ρ' j=ρ j):bkIn w ρ' bv k:=by
 cases k with
 | none=>exact h
 | some k=>
  obtain⟨b,h1,h2,h3⟩:=h;exact⟨b,h1,h2.less (λj hj=>by rw[hρ j (by omega)];exact hj),by rw[hρ b (by omega)];exact h3⟩
structure SI(w:World)(ρ:bP)(h most e:Nat)(va:Value)(bs:List Nat)(cur:Ps)(vl bv:Value):Prop where
 sm:Sm w h most vl bv va cur.c e
 row:Row w vl cur.out
 ol:cur.out.length<=most
 mo:most<=16384
 bk:bkIn w ρ bv cur.bk
 ok:ue (ae bs) cur
 ah:Row w va bs
 by':∀b∈bs,b<256
 tab:Tab w
 r1:ρ h=1
 r2:∀k,vl.ownBlock=some k->ρ k=2
 r9:∀k,va.ownBlock=some k->ρ k=9
 r10:ρ 0=10
 lt:∀j,ρ j≠0->j<w.heap.size
def dg(n:Nat):Prop:=n=1\/n=2\/n=3\/n=4\/n=9\/n=10
theorem SI.kept{F:Nat->Prop}{w w':World}{ρ:bP}{h most e:Nat}{va:Value}{bs:List Nat}{cur:Ps}{vl bv:Value}(s:SI w ρ h most e va bs cur vl bv)(hk:Kept F w w')(hF:∀j,dg (ρ j)->¬F j):SI w' ρ h most e va bs cur vl bv:=
 ⟨s.sm.kept hk (hF h (.inl s.r1)),s.row.kept hk (λk e=>hF k (.inr (.inl (s.r2 k e)))),s.ol,s.mo,s.bk.kept hk (λj hj=>hF j (by unfold dg;omega)),s.ok,s.ah.kept hk (λk e=>hF k (by have:=s.r9 k e;unfold dg;omega)),s.by',
  s.tab.kept hk (hF _ (by have:=s.r10;unfold dg;omega)),s.r1,s.r2,s.r9,s.r10,λj hj=>Nat.lt_of_lt_of_le (s.lt j hj) hk.size⟩
theorem SI.turn{w:World}{ρ ρ':bP}{h most e:Nat}{va:Value}{bs:List Nat}{cur:Ps}{vl bv:Value}(s:SI w ρ h most e va bs cur vl bv)(hρ:∀j,dg (ρ j)->ρ' j=ρ j)(hl:∀j,ρ' j≠0->j<w.heap.size):SI w ρ' h most e va bs cur vl bv:=by
 refine⟨s.sm,s.row,s.ol,s.mo,?_,s.ok,s.ah,s.by',s.tab,?_,λk e=>?_,λk e=>?_,?_,hl⟩
 ·have hb:=s.bk;cases hc:cur.bk with
  | none=>rw[hc]at hb;exact hb
  | some k=>
   rw[hc]at hb;obtain⟨b,h1,h2,h3⟩:=hb;exact⟨b,h1,h2.less (λj hj=>by rw[hρ j (by unfold dg;omega)];exact hj),by rw[hρ b (by unfold dg;omega)];exact h3⟩
 ·rw[hρ h (.inl s.r1)];exact s.r1
 ·have:=s.r2 k e;rw[hρ k (.inr (.inl this))];exact this
 ·have:=s.r9 k e;rw[hρ k (by unfold dg;omega)];exact this
 ·have:=s.r10;rw[hρ _ (by unfold dg;omega)];exact this
theorem SI.len{w:World}{ρ:bP}{h most e:Nat}{va:Value}{bs:List Nat}{cur:Ps}{vl bv:Value}(s:SI w ρ h most e va bs cur vl bv):cur.c<=8*bs.length:=by have:=s.ok.le;rwa [aq]at this
theorem SI.neh{w:World}{ρ:bP}{h most e:Nat}{va:Value}{bs:List Nat}{cur:Ps}{vl bv:Value}(s:SI w ρ h most e va bs cur vl bv):vl.ownBlock≠some h:=λe1=>by have:=s.r2 h e1;rw[s.r1]at this;cases this
structure RI(w0 w:World)(ρ0 ρ:bP)(h r bx fx:Nat)(sr:Value)(most e:Nat)(va:Value)(bs:List Nat)(cur:Ps)(vl bv:Value):Prop where
 si:SI w ρ h most e va bs cur vl bv
 st:St w r sr bs cur.c
 onc:Onc w bx fx (λj=>ρ j=4)
 r5:ρ r=5
 r6:∀k,sr.ownBlock=some k->ρ k=6
 r7:ρ bx=7
 r8:ρ fx=8
 old:∀j,j<w0.heap.size->ρ j=ρ0 j
 kp:Kept (λj=>ρ0 j=1\/ρ0 j=2\/ρ0 j=3) w0 w
 n0:∀j,j<w0.heap.size->ρ0 j=0\/dg (ρ0 j)
theorem RI.fp{w0 w:World}{ρ0 ρ:bP}{h r bx fx:Nat}{sr:Value}{most e:Nat}{va:Value}{bs:List Nat}{cur:Ps}{vl bv:Value}(x:RI w0 w ρ0 ρ h r bx fx sr most e va bs cur vl bv){j:Nat}(hj:Fp r sr j):ρ j=5\/ρ j=6:=by
 rcases hj with rfl | hj
 ·exact .inl x.r5
 ·exact .inr (x.r6 j hj)
theorem RI.bx{w0 w:World}{ρ0 ρ:bP}{h r bx fx:Nat}{sr:Value}{most e:Nat}{va:Value}{bs:List Nat}{cur:Ps}{vl bv:Value}(x:RI w0 w ρ0 ρ h r bx fx sr most e va bs cur vl bv):Bx w r sr bx fx (λj=>ρ j=4):=by
 refine⟨x.onc,λj hj=>x.si.lt j (by omega),λj hj=>⟨λhf=>by have:=x.fp hf;omega,λe1=>?_⟩,λe1=>?_,λhf=>?_,λhf=>?_,λe1=>?_,λe1=>?_,x.si.tab⟩
 ·have:=x.r7;rw[<-e1]at this;omega
 ·have h7:=x.r7;have h8:=x.r8;rw[e1]at h7;omega
 ·have:=x.fp hf;have:=x.r7;omega
 ·have:=x.fp hf;have:=x.r8;omega
 ·have h7:=x.r7;have:=x.si.r10;rw[e1]at h7;omega
 ·have h5:=x.r5;have:=x.si.r10;rw[e1]at h5;omega
theorem RI.goes{w0 w w':World}{ρ0 ρ:bP}{h r bx fx:Nat}{sr:Value}{most e:Nat}{va:Value}{bs:List Nat}{cur:Ps}{vl bv:Value}(x:RI w0 w ρ0 ρ h r bx fx sr most e va bs cur vl bv){F:Nat→Prop}(hk:Kept F w w')(hF:∀j,F j→j<w0.heap.size→ρ j=1∨ρ j=2∨ρ j=3∨(5≤ρ j∧ρ j≤8)):
  Kept (λj=>ρ0 j=1\/ρ0 j=2\/ρ0 j=3) w0 w':=by
 refine Kept.trans x.kp hk (λ_ _ f=>f) (λj hj f=>?_);have h1:=x.old j hj;have h2:=hF j f hj;have h3:=x.n0 j hj;unfold dg at h3;omega
theorem xf(ρ:bP)(N N':Nat)(P2 P3 P4:Nat->Prop):∃ρ':bP,(∀j,j<N->ρ' j=ρ j)/\(∀j,N<=j->j<N'->P2 j->ρ' j=2)/\(∀j,N<=j->j<N'->¬P2 j->P3 j->ρ' j=3)/\(∀j,N<=j->j<N'->¬P2 j->¬P3 j->P4 j->ρ' j=4)/\(∀j,N<=j->ρ' j≠0->j<N'):=by
 classical
 refine⟨λj=>if j<N then ρ j else if j<N' then(if P2 j then 2 else if P3 j then 3 else if P4 j then 4 else 0)else 0,λj hj=>?_,λj h1 h2 h3=>?_,λj h1 h2 h3 h4=>?_,λj h1 h2 h3 h4 h5=>?_,λj h1 h2=>?_⟩
 ·simp[hj]
 ·simp[Nat.not_lt.2 h1,h2,h3]
 ·simp[Nat.not_lt.2 h1,h2,h3,h4]
 ·simp[Nat.not_lt.2 h1,h2,h3,h4,h5]
 ·refine Classical.byContradiction (λhc=>h2 ?_);simp[Nat.not_lt.2 h1,hc]
theorem Sm.two{w:World}{h most:Nat}{vl bv va:Value}{gone e:Nat}(s:Sm w h most vl bv va gone e)(u:Value):Sm (w.setCell ⟨h,2,none⟩ u) h most vl u va gone e:=by have:=s.set 2 u;simpa using this
theorem Sm.four{w:World}{h most:Nat}{vl bv va:Value}{gone e:Nat}(s:Sm w h most vl bv va gone e)(c:Nat):Sm (w.setCell ⟨h,4,none⟩ (.int .i64 (c:Nat))) h most vl bv va c e:=by have:=s.set 4 (.int .i64 (c:Nat));simpa using this
theorem RI.same{w0 w w':World}{ρ0 ρ:bP}{h r bx fx:Nat}{sr:Value}{most e:Nat}{va:Value}{bs:List Nat}{cur:Ps}{vl bv:Value}(x:RI w0 w ρ0 ρ h r bx fx sr most e va bs cur vl bv)(hk:Same w w'):RI w0 w' ρ0 ρ h r bx fx sr most e va bs cur vl bv:=
 ⟨x.si.kept hk (λ_ _ f=>f),x.st.kept hk (λ_ _ f=>f),x.onc.kept hk (λ_ _ f=>f) (λf=>f) (λf=>f),x.r5,x.r6,x.r7,x.r8,x.old,Kept.trans x.kp hk (λ_ _ f=>f) (λ_ _ f=>f.elim),x.n0⟩
theorem RI.begun{w0 w w1:World}{ρ0 ρ:bP}{h r bx fx:Nat}{sr:Value}{most e:Nat}{va:Value}{bs:List Nat}{cur:Ps}{vl bv:Value}(x:RI w0 w ρ0 ρ h r bx fx sr most e va bs cur vl bv)
  {b c:Nat} {O':Nat->Prop} {k:Bk} (hB:BkP w1 b O' k) (hb:w.heap.size<=b) (hnb:¬O' b) (hon:Onc w1 bx fx O') (l7:∀j,O' j->ρ j=4\/AZ w.heap.size w1.heap.size j) (hst:St w1 r sr bs c) (hk:Kept (λj=>j=r\/j=bx) w w1)
  (hok:ue (ae bs) ⟨c,cur.out,some k⟩):
  ∃ρ',RI w0 ((w1.setCell ⟨h,2,none⟩ (.pointer (some ⟨b,0,none⟩))).setCell ⟨h,4,none⟩ (.int .i64 (c:Nat))) ρ0 ρ' h r bx fx sr most e va bs ⟨c,cur.out,some k⟩ vl (.pointer (some ⟨b,0,none⟩)):=by
 obtain⟨ρ',hold,_,h3,h4,hlt⟩:=xf ρ w.heap.size w1.heap.size (λ_=>False) (λj=>j=b) O';have hbl:=hB.lt;have hs:=x.si;have hρ:∀j,ρ j≠0->ρ' j=ρ j:=λj hj=>hold j (hs.lt j hj)
 have hk2:Kept (·=h) w1 ((w1.setCell ⟨h,2,none⟩ (.pointer (some ⟨b,0,none⟩))).setCell ⟨h,4,none⟩ (.int .i64 (c:Nat))):=((Kept.refl (·=h) w1).setCell ⟨h,2,none⟩ _ (.inl rfl)).setCell ⟨h,4,none⟩ _ (.inl rfl);have Ir:h<w.heap.size:=hs.lt h (by rw[hs.r1];decide);have SO:∀j,O' j->ρ' j=4:=λj hj=>by
  rcases l7 j hj with h1 | h1
  ·rw[hρ j (by omega)];exact h1
  ·exact h4 j h1.1 h1.2 (λf=>f) (λe1=>hnb (by rw[<-e1];exact hj)) hj
 have WR:∀j,dg (ρ j)->¬(j=r\/j=bx):=λj hj e1=>by
  unfold dg at hj;rcases e1 with rfl | rfl
  ·have:=x.r5;omega
  ·have:=x.r7;omega
 have hsi1:SI w1 ρ h most e va bs cur vl bv:=hs.kept hk WR;have bh:∀j,ρ' j≠1->j≠h:=λj hj e1=>hj (by rw[e1,hρ h (by rw[hs.r1];decide)];exact hs.r1)
 refine⟨ρ',⟨(hsi1.sm.two _).four c,hs.row.kept (Kept.trans (H:=fun j=>j=r∨j=bx∨j=h) hk hk2 (fun _ _ f=>by rcases f with f | f;exact .inl f;exact .inr (.inl f)) (fun _ _ f=>.inr (.inr f))) (fun j hj f=>?_),hs.ol,hs.mo,⟨b,rfl,(hB.less SO).kept hk2 (fun j hj=>bh j (by omega)) (bh b (by rw[h3 b hb hbl (fun f=>f) rfl];decide)),h3 b hb hbl (fun f=>f) rfl⟩,hok,
   hsi1.ah.kept hk2 (λj hj e1=>?_),hs.by',hsi1.tab.kept hk2 (λe1=>?_),?_,λj hj=>?_,λj hj=>?_,?_,λj hj=>?_⟩,hst.kept hk2 (λj hj e1=>?_),(hon.less SO).kept hk2 (λj hj=>bh j (by omega)) (λe1=>?_) (λe1=>?_),?_,λj hj=>?_,?_,?_,λj hj=>?_,?_,x.n0⟩
 ·have:=hs.r2 j hj;rcases f with rfl | rfl | rfl
  ·have:=x.r5;omega
  ·have:=x.r7;omega
  ·have:=hs.r1;omega
 ·have:=hs.r9 j hj;rw[e1,hs.r1]at this;cases this
 ·have:=hs.r10;rw[e1,hs.r1]at this;cases this
 ·rw[hρ h (by rw[hs.r1];decide)];exact hs.r1
 ·have:=hs.r2 j hj;rw[hρ j (by omega)];exact this
 ·have:=hs.r9 j hj;rw[hρ j (by omega)];exact this
 ·have:=hs.r10;rw[hρ _ (by omega)];exact this
 ·have cX:w1.heap.size<=((w1.setCell ⟨h,2,none⟩ (.pointer (some ⟨b,0,none⟩))).setCell ⟨h,4,none⟩ (.int .i64 (c:Nat))).heap.size:=hk2.size;by_cases P8:j<w.heap.size
  ·have:=hk.size;omega
  ·have:=hlt j (by omega) hj;omega
 ·rw[e1]at hj;have:=x.fp hj;have:=hs.r1;omega
 ·have:=x.r7;rw[e1,hs.r1]at this;cases this
 ·have:=x.r8;rw[e1,hs.r1]at this;cases this
 ·have:=x.r5;rw[hρ r (by omega)];exact this
 ·have:=x.r6 j hj;rw[hρ j (by omega)];exact this
 ·have:=x.r7;rw[hρ bx (by omega)];exact this
 ·have:=x.r8;rw[hρ fx (by omega)];exact this
 ·rw[hold j (Nat.lt_of_lt_of_le hj x.kp.size)];exact x.old j hj
 ·refine x.goes (Kept.trans (H:=λj=>j=r\/j=bx\/j=h) hk hk2 (λ_ _ f=>by rcases f with f | f;exact .inl f;exact .inr (.inl f)) (λ_ _ f=>.inr (.inr f))) (λj f _=>?_);rcases f with rfl | rfl | rfl
  ·have:=x.r5;omega
  ·have:=x.r7;omega
  ·exact .inl hs.r1
theorem RI.ended{w0 w w1:World}{ρ0 ρ:bP}{h r bx fx:Nat}{sr:Value}{most e:Nat}{va:Value}{bs:List Nat}{cur:Ps}{vl bv:Value}(x:RI w0 w ρ0 ρ h r bx fx sr most e va bs cur vl bv)
  {b c:Nat} (hb:ρ b=3) (hst:St w1 r sr bs c) (hk:Kept (λj=>j=r\/j=b) w w1) (hc:c<=8*bs.length):
  RI w0 ((w1.setCell ⟨h,4,none⟩ (.int .i64 (c:Nat))).setCell ⟨h,2,none⟩ (.pointer none)) ρ0 ρ h r bx fx sr most e va bs ⟨c,cur.out,none⟩ vl (.pointer none):=by
 have hs:=x.si;have hk2:Kept (·=h) w1 ((w1.setCell ⟨h,4,none⟩ (.int .i64 (c:Nat))).setCell ⟨h,2,none⟩ (.pointer none)):=((Kept.refl (·=h) w1).setCell ⟨h,4,none⟩ _ (.inl rfl)).setCell ⟨h,2,none⟩ _ (.inl rfl);have hk3:Kept (λj=>j=r\/j=b\/j=h) w ((w1.setCell ⟨h,4,none⟩ (.int .i64 (c:Nat))).setCell ⟨h,2,none⟩ (.pointer none)):=Kept.trans hk hk2 (λ_ _ f=>by rcases f with f | f;exact .inl f;exact .inr (.inl f)) (λ_ _ f=>.inr (.inr f));have nf:∀j,ρ j≠5->ρ j≠3->ρ j≠1->¬(j=r\/j=b\/j=h):=λj h5 h3 h1 f=>by
  rcases f with rfl | rfl | rfl
  ·exact h5 x.r5
  ·exact h3 hb
  ·exact h1 hs.r1
 have hsm1:Sm w1 h most vl bv va cur.c e:=hs.sm.kept hk (λf=>by
  rcases f with rfl | rfl
  ·have:=x.r5;have:=hs.r1;omega
  ·have:=hs.r1;omega)
 refine⟨⟨(hsm1.four c).two _,hs.row.kept hk3 (λj hj=>nf j (by have:=hs.r2 j hj;omega) (by have:=hs.r2 j hj;omega) (by have:=hs.r2 j hj;omega)),hs.ol,hs.mo,rfl,⟨by rw[aq];exact hc,trivial⟩,hs.ah.kept hk3 (λj hj=>nf j (by have:=hs.r9 j hj;omega) (by have:=hs.r9 j hj;omega) (by have:=hs.r9 j hj;omega)),hs.by',hs.tab.kept hk3 (nf _ (by have:=hs.r10;omega) (by have:=hs.r10;omega) (by have:=hs.r10;omega)),hs.r1,hs.r2,hs.r9,hs.r10,λj hj=>Nat.lt_of_lt_of_le (hs.lt j hj) hk3.size⟩,
  hst.kept hk2 (λj hj e1=>by have:=x.fp hj;rw[e1,hs.r1]at this;omega),x.onc.kept hk3 (λj hj=>nf j (by omega) (by omega) (by omega)) (nf _ (by have:=x.r7;omega) (by have:=x.r7;omega) (by have:=x.r7;omega)) (nf _ (by have:=x.r8;omega) (by have:=x.r8;omega) (by have:=x.r8;omega)),x.r5,x.r6,x.r7,x.r8,x.old,x.goes hk3 (λj f _=>?_),x.n0⟩
 rcases f with rfl | rfl | rfl
 ·have:=x.r5;omega
 ·omega
 ·exact .inl hs.r1
theorem RI.laid{w0 w w1 w2 w4:World}{ρ0 ρ:bP}{h r bx fx:Nat}{sr:Value}{most e:Nat}{va:Value}{bs:List Nat}{cur:Ps}{vl bv:Value}(x:RI w0 w ρ0 ρ h r bx fx sr most e va bs cur vl bv)
  {b c:Nat} {k:Bk} {out:List Nat} {vl':Value} (Oq:bv=.pointer (some ⟨b,0,none⟩)) (hb:ρ b=3) (hB:BkP w1 b (λj=>ρ j=4) k) (hst:St w1 r sr bs c) (hk:Kept (λj=>j=r\/j=b) w w1) (hk2:Kept (·=h) w1 w2)
  (fK:Sm w4 h most vl' bv va c e) (hrow:Row w4 vl' out) (Hv:vl'.ownBlock=vl.ownBlock\/∃j,vl'.ownBlock=some j/\w2.heap.size<=j) (hk4:Kept (λj=>j=h\/vl.ownBlock=some j) w2 w4) (Vi:out.length<=most) (hok:ue (ae bs) ⟨c,out,some k⟩):
  ∃ρ',RI w0 w4 ρ0 ρ' h r bx fx sr most e va bs ⟨c,out,some k⟩ vl' bv:=by
 have hs:=x.si;obtain⟨ρ',hold,h2,_,_,hlt⟩:=xf ρ w.heap.size w4.heap.size (λj=>vl'.ownBlock=some j) (λ_=>False) (λ_=>False);have hρ:∀j,ρ j≠0->ρ' j=ρ j:=λj hj=>hold j (hs.lt j hj)
 have hk12:Kept (λj=>j=r\/j=b\/j=h) w w2:=Kept.trans hk hk2 (λ_ _ f=>by rcases f with f | f;exact .inl f;exact .inr (.inl f)) (λ_ _ f=>.inr (.inr f));have Nz:Kept (λj=>j=h\/vl.ownBlock=some j) w1 w4:=Kept.trans hk2 hk4 (λ_ _ f=>.inl f) (λ_ _ f=>f);have hk04:Kept (λj=>j=r\/j=b\/j=h\/vl.ownBlock=some j) w w4:=Kept.trans hk12 hk4 (λ_ _ f=>by rcases f with f | f | f;exact .inl f;exact .inr (.inl f);exact .inr (.inr (.inl f))) (λ_ _ f=>.inr (.inr f));have hn1:∀j,ρ j≠1->ρ j≠2->¬(j=h\/vl.ownBlock=some j):=λj h1 h2 f=>by
  rcases f with rfl | f
  ·exact h1 hs.r1
  ·exact h2 (hs.r2 j f)
 have m6:∀j,ρ j≠5->ρ j≠3->ρ j≠1->ρ j≠2->¬(j=r\/j=b\/j=h\/vl.ownBlock=some j):=λj h5 h3 h1 h2 f=>by
  rcases f with rfl | rfl | f
  ·exact h5 x.r5
  ·exact h3 hb
  ·exact hn1 j h1 h2 f
 have QO:∀j,vl'.ownBlock=some j->ρ' j=2:=λj hj=>by
  rcases Hv with e1 | ⟨i,e1,hi⟩
  ·rw[e1]at hj;have:=hs.r2 j hj;rw[hρ j (by omega)];exact this
  ·have P8:w.heap.size≤j:=by
    rw[e1]at hj;injection hj with hj;have:=hk12.size;omega
   exact h2 j P8 (hrow.lt hj) hj
 refine⟨ρ',⟨fK,hrow,Vi,hs.mo,⟨b,Oq,(hB.kept Nz (λj hj=>hn1 j (by omega) (by omega)) (hn1 b (by omega) (by omega))).less (λj hj=>by rw[hρ j (by omega)];exact hj),by rw[hρ b (by omega)];exact hb⟩,hok,hs.ah.kept hk04 (λj hj=>m6 j (by have:=hs.r9 j hj;omega) (by have:=hs.r9 j hj;omega) (by have:=hs.r9 j hj;omega) (by have:=hs.r9 j hj;omega)),hs.by',hs.tab.kept hk04 (m6 _ (by have:=hs.r10;omega) (by have:=hs.r10;omega) (by have:=hs.r10;omega) (by have:=hs.r10;omega)),?_,QO,λj hj=>?_,?_,λj hj=>?_⟩,
  hst.kept Nz (λj hj=>hn1 j (by have:=x.fp hj;omega) (by have:=x.fp hj;omega)),(x.onc.kept hk04 (λj hj=>m6 j (by omega) (by omega) (by omega) (by omega)) (m6 _ (by have:=x.r7;omega) (by have:=x.r7;omega) (by have:=x.r7;omega) (by have:=x.r7;omega)) (m6 _ (by have:=x.r8;omega) (by have:=x.r8;omega) (by have:=x.r8;omega) (by have:=x.r8;omega))).less (λj hj=>by rw[hρ j (by omega)];exact hj),?_,λj hj=>?_,?_,?_,λj hj=>?_,x.goes hk04 (λj f _=>?_),x.n0⟩
 ·rw[hρ h (by rw[hs.r1];decide)];exact hs.r1
 ·have:=hs.r9 j hj;rw[hρ j (by omega)];exact this
 ·have:=hs.r10;rw[hρ _ (by omega)];exact this
 ·by_cases P8:j<w.heap.size
  ·have:=hk04.size;omega
  ·exact hlt j (by omega) hj
 ·have:=x.r5;rw[hρ r (by omega)];exact this
 ·have:=x.r6 j hj;rw[hρ j (by omega)];exact this
 ·have:=x.r7;rw[hρ bx (by omega)];exact this
 ·have:=x.r8;rw[hρ fx (by omega)];exact this
 ·rw[hold j (Nat.lt_of_lt_of_le hj x.kp.size)];exact x.old j hj
 ·rcases f with rfl | rfl | rfl | f
  ·have:=x.r5;omega
  ·omega
  ·exact .inl hs.r1
  ·exact .inr (.inl (hs.r2 j f))
theorem RI.start{w0 w1 w2 w3:World}{ρ0:bP}{h most e:Nat}{va:Value}{bs:List Nat}{cur:Ps}{vl bv:Value}(s:SI w0 ρ0 h most e va bs cur vl bv)(hn:∀j,ρ0 j=0∨dg (ρ0 j))
  {r:Nat} {sr:Value} (hk1:Same w0 w1) (Ex:∀k,Fp r sr k->w0.heap.size<=k) (hst:St w2 r sr bs cur.c) (hk2:Kept (·=r) w1 w2) (G0:∀k,Fp r sr k->k<w2.heap.size)
  (hon:Onc w3 (w2.heap.size+1) w2.heap.size (λ_=>False)) (hk3:Same w2 w3):
  ∃ρ,RI w0 w3 ρ0 ρ h r (w2.heap.size+1) w2.heap.size sr most e va bs cur vl bv:=by
 have bh:=hst.ne;have hr:w0.heap.size<=r:=Ex r (.inl rfl);have uj:r<w2.heap.size:=G0 r (.inl rfl);have hs1:=hk1.size;have hs2:=hk2.size;have hs3:=hk3.size;have QX:Kept (λj=>w0.heap.size<=j) w0 w2:=Kept.trans hk1 hk2 (λ_ _ f=>f.elim) (λj hj f=>by omega);have hk03:Kept (λj=>w0.heap.size<=j) w0 w3:=Kept.trans QX hk3 (λ_ _ f=>f) (λ_ _ f=>f.elim);obtain⟨ρ,hρ⟩:∃ρ:bP,ρ=λj=>if j<w0.heap.size then ρ0 j else if j=r then 5 else if sr.ownBlock=some j then 6 else if j=w2.heap.size+1 then 7 else if j=w2.heap.size then 8 else 0:=⟨_,rfl⟩
 have hold:∀j,j<w0.heap.size->ρ j=ρ0 j:=λj hj=>by rw[hρ];simp[hj]
 have O8:∀j,dg (ρ0 j)->ρ j=ρ0 j:=λj hj=>hold j (s.lt j (by unfold dg at hj;omega))
 have hbx:=hon.bx_lt;have h6:∀k,sr.ownBlock=some k->ρ k=6:=λk hk=>by have h1:=Ex k (.inr hk);rw[hρ];simp only;rw[if_neg (by omega),if_neg (λe1=>bh (by rw[<-e1];exact hk)),if_pos hk]
 have h5:ρ r=5:=by rw[hρ];simp only;rw[if_neg (by omega),if_pos trivial]
 have h7:ρ (w2.heap.size+1)=7:=by rw[hρ];simp only;rw[if_neg (by omega),if_neg (by omega),if_neg (λe1=>by have:=G0 _ (.inr e1);omega),if_pos trivial]
 have h8:ρ w2.heap.size=8:=by rw[hρ];simp only;rw[if_neg (by omega),if_neg (by omega),if_neg (λe1=>by have:=G0 _ (.inr e1);omega),if_neg (by omega),if_pos trivial]
 have hlt:∀j,ρ j≠0->j<w3.heap.size:=λj hj=>by
  by_cases h1:j<w0.heap.size
  ·omega
  ·rw[hρ]at hj;simp only at hj;rw[if_neg h1]at hj;by_cases h2:j=r
   ·omega
   ·rw[if_neg h2]at hj;by_cases h3:sr.ownBlock=some j
    ·have:=G0 j (.inr h3);omega
    ·rw[if_neg h3]at hj;by_cases h4:j=w2.heap.size+1
     ·omega
     ·rw[if_neg h4]at hj;by_cases h9:j=w2.heap.size
      ·omega
      ·rw[if_neg h9]at hj;exact absurd rfl hj
 refine⟨ρ,(s.kept hk03 (λj hj f=>by have:=s.lt j (by unfold dg at hj;omega);omega)).turn O8 hlt,hst.kept hk3 (λ_ _ f=>f),hon.less (λ_ f=>f.elim),h5,h6,h7,h8,hold,hk03.mono (λj hj f=>by omega),λj _=>hn j⟩
structure SW(w:World)(ρ:bP)(h most e:Nat)(va:Value)(bs out:List Nat)(gone:Nat)(vl bv:Value):Prop where
 sm:Sm w h most vl bv va gone e
 row:Row w vl out
 ah:Row w va bs
 by':∀b∈bs,b<256
 gl:gone<=8*bs.length
 ol:out.length<=16384
 tab:Tab w
 r1:ρ h=1
 r2:∀k,vl.ownBlock=some k->ρ k=2
 r9:∀k,va.ownBlock=some k->ρ k=9
 r10:ρ 0=10
 lt:∀j,ρ j≠0->j<w.heap.size
theorem SI.sw{w:World}{ρ:bP}{h most e:Nat}{va:Value}{bs:List Nat}{cur:Ps}{vl bv:Value}(s:SI w ρ h most e va bs cur vl bv):SW w ρ h most e va bs cur.out cur.c vl bv:=
 ⟨s.sm,s.row,s.ah,s.by',s.len,Nat.le_trans s.ol s.mo,s.tab,s.r1,s.r2,s.r9,s.r10,s.lt⟩
def i7(ρ:bP):bP:=λj=>if ρ j=1\/ρ j=2\/ρ j=3\/ρ j=4\/ρ j=9\/ρ j=10 then ρ j else 0
theorem eW(ρ:bP)(j:Nat)(h:dg (ρ j)):i7 ρ j=ρ j:=if_pos h
theorem pO(ρ:bP)(j:Nat):i7 ρ j=0\/dg (i7 ρ j):=by
 unfold i7 dg;by_cases h1:ρ j=1\/ρ j=2\/ρ j=3\/ρ j=4\/ρ j=9\/ρ j=10
 ·rw[if_pos h1];exact .inr h1
 ·rw[if_neg h1];exact .inl rfl
theorem qa{ρ:bP}{n:Nat}(h:∀j,ρ j≠0->j<n)(j:Nat)(hj:i7 ρ j≠0):j<n:=by refine h j (λe=>hj ?_);unfold i7;rw[e];rfl
structure Nj(w0 w':World)(ρ0:bP)(h most e:Nat)(va:Value)(bs:List Nat)(cur:Ps)(er:Nat)(t:Ps)(ρ:bP)(vl bv:Value)(out:List Nat)(gone:Nat):Prop where
 ends:Ends (ae bs) most cur t er
 sw:SW w' ρ h most e va bs out gone vl bv
 more:cur.out.length<=out.length
 wait:er=55->SI w' ρ h most e va bs t vl bv/\out=t.out/\gone=t.c
 done:er=0->out=t.out/\gone=(t.c+7) / 8*8
 old:∀j,j<w0.heap.size->ρ j=ρ0 j
 n0:∀j,ρ j=0\/dg (ρ j)
 kp:Kept (λj=>ρ0 j=1\/ρ0 j=2\/ρ0 j=3) w0 w'
theorem RI.lold{w0 w:World}{ρ0 ρ:bP}{h r bx fx:Nat}{sr:Value}{most e:Nat}{va:Value}{bs:List Nat}{cur:Ps}{vl bv:Value}(x:RI w0 w ρ0 ρ h r bx fx sr most e va bs cur vl bv)(j:Nat)(hj:j<w0.heap.size):i7 ρ j=ρ0 j:=by
 have h1:=x.old j hj;rcases x.n0 j hj with h2 | h2
 ·unfold i7;rw[h1,h2];rfl
 ·rw[eW ρ j (by rw[h1];exact h2),h1]
theorem RI.rest{w0 w w1:World}{ρ0 ρ:bP}{h r bx fx:Nat}{sr:Value}{most e:Nat}{va:Value}{bs:List Nat}{cur:Ps}{vl bv:Value}(x:RI w0 w ρ0 ρ h r bx fx sr most e va bs cur vl bv)(hk:Kept (fun j=>j=r∨j=bx) w w1):
  SI w1 (i7 ρ) h most e va bs cur vl bv:=by
 have hs:=x.si.kept hk (λj hj f=>by
  unfold dg at hj;rcases f with rfl | rfl
  ·have:=x.r5;omega
  ·have:=x.r7;omega)
 exact hs.turn (λj hj=>eW ρ j hj) (qa hs.lt)
theorem RI.stops{w0 w w1:World}{ρ0 ρ:bP}{h r bx fx:Nat}{sr:Value}{most e:Nat}{va:Value}{bs:List Nat}{start cur:Ps}{vl bv:Value}(x:RI w0 w ρ0 ρ h r bx fx sr most e va bs cur vl bv)(hk:Kept (fun j=>j=r∨j=bx) w w1){er:Nat}(h0:er≠0)
  (yg:Ends (ae bs) most start cur er) (m5:start.out.length<=cur.out.length):Nj w0 w1 ρ0 h most e va bs start er cur (i7 ρ) vl bv cur.out cur.c:=
 ⟨yg,(x.rest hk).sw,m5,λ_=>⟨x.rest hk,rfl,rfl⟩,λe0=>absurd e0 h0,x.lold,pO ρ,x.goes hk (λj f _=>by
  rcases f with rfl | rfl
  ·have:=x.r5;omega
  ·have:=x.r7;omega)⟩
theorem RI.stays{w0 w w1:World}{ρ0 ρ:bP}{h r bx fx:Nat}{sr:Value}{most e:Nat}{va:Value}{bs:List Nat}{start cur:Ps}{vl bv:Value}(x:RI w0 w ρ0 ρ h r bx fx sr most e va bs cur vl bv){b:Nat}{k:Bk}(Oq:bv=.pointer (some ⟨b,0,none⟩))(hbk:cur.bk=some k)(hb:ρ b=3)(hB:BkP w1 b (fun j=>ρ j=4) k)(hk:Kept (fun j=>j=r∨j=b) w w1){er:Nat}(h0:er≠0)
  (yg:Ends (ae bs) most start cur er) (m5:start.out.length<=cur.out.length):Nj w0 w1 ρ0 h most e va bs start er cur (i7 ρ) vl bv cur.out cur.c:=by
 have hs:=x.si;have hn:∀j,ρ j≠5->ρ j≠3->¬(j=r\/j=b):=λj h5 h3 f=>by
  rcases f with rfl | rfl
  ·exact h5 x.r5
  ·exact h3 hb
 have hsi:SI w1 ρ h most e va bs cur vl bv:=⟨hs.sm.kept hk (hn h (by rw[hs.r1];decide) (by rw[hs.r1];decide)),hs.row.kept hk (λj hj=>hn j (by have:=hs.r2 j hj;omega) (by have:=hs.r2 j hj;omega)),hs.ol,hs.mo,by rw[hbk];exact⟨b,Oq,hB,hb⟩,hs.ok,hs.ah.kept hk (λj hj=>hn j (by have:=hs.r9 j hj;omega) (by have:=hs.r9 j hj;omega)),hs.by',hs.tab.kept hk (hn _ (by have:=hs.r10;omega) (by have:=hs.r10;omega)),hs.r1,hs.r2,hs.r9,hs.r10,λj hj=>Nat.lt_of_lt_of_le (hs.lt j hj) hk.size⟩
 have hsl:SI w1 (i7 ρ) h most e va bs cur vl bv:=hsi.turn (λj hj=>eW ρ j hj) (qa hsi.lt);exact⟨yg,hsl.sw,m5,λ_=>⟨hsl,rfl,rfl⟩,λe0=>absurd e0 h0,x.lold,pO ρ,x.goes hk (λj f _=>by
  rcases f with rfl | rfl
  ·have:=x.r5;omega
  ·omega)⟩
theorem RI.halts{w0 w w1:World}{ρ0 ρ:bP}{h r bx fx:Nat}{sr:Value}{most e:Nat}{va:Value}{bs:List Nat}{start cur t:Ps}{vl bv:Value}(x:RI w0 w ρ0 ρ h r bx fx sr most e va bs cur vl bv){b gone:Nat}(hb:ρ b=3)(hk:Kept (fun j=>j=r∨j=b∨j=h) w w1)(fK:Sm w1 h most vl bv va gone e)(hg:gone≤8*bs.length){er:Nat}(Xa:er≠55)
  (yg:Ends (ae bs) most start t er) (m5:start.out.length<=cur.out.length) (ya:er=0->cur.out=t.out/\gone=(t.c+7) / 8*8):Nj w0 w1 ρ0 h most e va bs start er t (i7 ρ) vl bv cur.out gone:=by
 have hs:=x.si;have hn:∀j,ρ j≠5->ρ j≠3->ρ j≠1->¬(j=r\/j=b\/j=h):=λj h5 h3 h1 f=>by
  rcases f with rfl | rfl | rfl
  ·exact h5 x.r5
  ·exact h3 hb
  ·exact h1 hs.r1
 refine⟨yg,⟨fK,hs.row.kept hk (λj hj=>hn j (by have:=hs.r2 j hj;omega) (by have:=hs.r2 j hj;omega) (by have:=hs.r2 j hj;omega)),hs.ah.kept hk (λj hj=>hn j (by have:=hs.r9 j hj;omega) (by have:=hs.r9 j hj;omega) (by have:=hs.r9 j hj;omega)),hs.by',hg,Nat.le_trans hs.ol hs.mo,hs.tab.kept hk (hn _ (by have:=hs.r10;omega) (by have:=hs.r10;omega) (by have:=hs.r10;omega)),?_,λk e1=>?_,λk e1=>?_,?_,?_⟩,m5,λe1=>absurd e1 Xa,ya,x.lold,pO ρ,x.goes hk (λj f _=>?_)⟩
 ·rw[eW ρ h (.inl hs.r1)];exact hs.r1
 ·have:=hs.r2 k e1;rw[eW ρ k (.inr (.inl this))];exact this
 ·have:=hs.r9 k e1;rw[eW ρ k (by unfold dg;omega)];exact this
 ·have:=hs.r10;rw[eW ρ _ (by unfold dg;omega)];exact this
 ·exact qa (λj hj=>Nat.lt_of_lt_of_le (hs.lt j hj) hk.size)
 ·rcases f with rfl | rfl | rfl
  ·have:=x.r5;omega
  ·omega
  ·exact .inl hs.r1
end Go.Proofs.YtllcnlnbpikhdaaGreatDoor
