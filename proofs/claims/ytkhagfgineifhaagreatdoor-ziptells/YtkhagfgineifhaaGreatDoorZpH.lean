import Derived.Test.YtkhagfgineifhaaGreatDoorZpG
set_option maxHeartbeats 400000
set_option maxRecDepth 100000
namespace Go.Proofs.YtkhagfgineifhaaGreatDoor
open Go.RowKit
def EndA(w w':World)(o:Except Nat (Nat×Nat))(e:Ending):Prop:=
 (∀n f,o=.ok (n,f)->e=.returned (.tuple #[.int .i64 (n:Nat),.int .i64 (f:Nat)])/\Same w w')/\(∀c,o=.error c->e=aG c/\Same w w')
theorem EndA.good{w w':World}{o:Except Nat (Nat×Nat)}{e:Ending}{n f:Nat}(h:o=.ok (n,f))(he:e=.returned (.tuple #[.int .i64 (n:Nat),.int .i64 (f:Nat)]))(hk:Same w w'):EndA w w' o e:=
 ⟨λn' f' h'=>by rw[h]at h';simp only[Except.ok.injEq,Prod.mk.injEq]at h';obtain⟨rfl,rfl⟩:=h';exact⟨he,hk⟩,λc h'=>by rw[h]at h';cases h'⟩
theorem EndA.bad{w w':World}{o:Except Nat (Nat×Nat)}{e:Ending}{c:Nat}(h:o=.error c)(he:e=aG c)(hk:Same w w'):EndA w w' o e:=
 ⟨λn' f' h'=>(by rw[h]at h';cases h'),λc' h'=>by rw[h]at h';simp only[Except.error.injEq]at h';subst h';exact⟨he,hk⟩⟩
theorem en{r:List Nat}{p:Nat}(h:nF r=none):jP r p=.error 81:=by unfold jP;rw[h]
theorem Bz(N:Nat)(w:World)(r:List Nat)(a:Option Addr)(cap place:Nat)(hsrc:Src w (fun k=>k<N) (.slice a r.length cap) r)(iD:r.length≤cap)(hN:N≤w.heap.size)(tK:∀b∈r,b<256)(ag:r.length≤2000000)(sg:place≤2000000)(yv:a≠none):
  Calls Tryz.prog 42 #[.slice a r.length cap,.int .i64 (place:Nat)] w λe w'=>EndA w w' (jP r place) e:=by
 obtain⟨cb,pJ⟩:∃b,b=w.heap.size:=⟨_,rfl⟩
 have HCB:Hid (cb=w.heap.size):=pJ;obtain⟨L,hL⟩:∃L,L=r.length:=⟨_,rfl⟩
 obtain⟨w0,lQ⟩:∃W,W=w.alloc (.cells #[.slice a L cap] 84):=⟨_,rfl⟩
 have hk0:Same w w0:=by rw[lQ];exact(Kept.refl _ w).alloc _
 have mj:Cur N w0 cb r a cap:=⟨by rw[lQ,pJ,<-hL];exact Blk.new w _ _,hsrc.kept hk0 (λ_ _ _ f=>f),iD,by omega,tK,ag,yv⟩
 have HKp1:Hid (Kept (·=cb) w w0):=hid hk0.k8;have H1:=nY N w0 cb r a cap 101010256 mj (by decide);rw[<-hL];clear hsrc iD hN tK ag hk0 mj hL yv;go_enter Tryz.func42,Tryz.ntmps42;go_wp2_with fail;rw[<-lQ,<-pJ];clear lQ pJ;refine H1.mono ?_;intro e w1 h1;cases mn:eX 4 101010256 r with
 | none=>
  obtain⟨rfl,hk⟩:=h1.2 mn;have HKb:Hid (Kept (·=cb) w w1):=hid (HKp1.out.k8 hk);have HEb:Hid (eX 4 101010256 r=none):=mn;clear h1 hk mn H1;unfold aG;go_wp2_with fail;exact⟨rfl,EndA.bad (en (by simp only[nF,HEb.out,bG])) rfl (HKb.out.mono (λk hk e=>by have:=HCB.out;omega))⟩
 | some p1=>
  obtain⟨r1,rfl⟩:∃z,z=p1:=⟨_,rfl⟩
  obtain⟨a1,A2,rfl,hcu1,hk1⟩:=h1.1 _ mn;have E1:Hid (eX 4 101010256 r=some r1):=mn;obtain⟨QN,KU⟩:∃W,W=w1.alloc (.cells #[.int .u16 0,.int .u16 0] 47):=⟨_,rfl⟩
  have hsl:Same w1 QN:=(by rw[KU];exact(Kept.refl _ w1).alloc _);have hbl:Blk QN w1.heap.size #[.int .u16 0,.int .u16 0] 47:=(by rw[KU];exact Blk.new w1 _ _);have l0:=hbl.cell 0;have l1:=hbl.cell 1;simp at l0 l1;have HKp2:Hid (Kept (·=cb) w QN):=hid ((HKp1.out.k8 hk1).k8 hsl.k8);have H2:=sO N QN cb r1 a1 A2 0 0 w1.heap.size (hcu1.kept hsl (λf=>f) (λ_ _ f=>f)) (by decide) (by decide) (λe=>by have:=hcu1.blk.lt;omega) l0 l1;clear h1 mn hcu1 hk1 H1 HKp1 hsl hbl l0 l1;go_wp2_with fail;rw[<-KU];clear KU;refine H2.mono ?_;intro e w2 h2;cases iP:oD 0 0 r1 with
  | none=>
   obtain⟨rfl,hk⟩:=h2.2 iP;have HKb:Hid (Kept (·=cb) w w2):=hid (HKp2.out.k8 hk);have HEb:Hid (oD 0 0 r1=none):=iP;clear h2 hk iP H2;unfold aG;go_wp2_with fail;refine⟨rfl,EndA.bad (en ?_) rfl (HKb.out.mono (λk hk e=>by have:=HCB.out;omega))⟩;have h9:=HEb.out;unfold oD at h9;simp only[nF,E1.out,ak];cases h8:eX 2 0 r1 with
   | none=>rfl
   | some z=>
    rw[h8,ak]at h9;rw[ak,h9,bG]
  | some p2=>
   obtain⟨r2,rfl⟩:∃z,z=p2:=⟨_,rfl⟩
   obtain⟨a2,eS,rfl,hcu2,hk2⟩:=h2.1 _ iP;have E2:Hid (∃z,eX 2 0 r1=some z/\eX 2 0 z=some r2):=hid (by
    unfold oD at iP;cases h8:eX 2 0 r1 with
    | none=>rw[h8,bG]at iP;cases iP
    | some z=>rw[h8,ak]at iP;exact⟨z,rfl,iP⟩)
   obtain⟨z2,gj,LL⟩:=E2.out;have E3:Hid (eX 2 0 r1=some z2):=gj;have E4:Hid (eX 2 0 z2=some r2):=LL;have HKp3:Hid (Kept (·=cb) w w2):=hid (HKp2.out.k8 hk2);have H3:=kG N w2 cb r2 a2 eS hcu2;clear h2 iP hcu2 hk2 H2 HKp2 gj LL;go_wp2_with fail;refine H3.mono ?_;intro e w3 h3;cases nJ:dY 2 r2 with
   | none=>
    obtain⟨rfl,hk⟩:=h3.2 nJ;have HKb:Hid (Kept (·=cb) w w3):=hid (HKp3.out.k8 hk.k8);have HEb:Hid (dY 2 r2=none):=nJ;clear h3 hk nJ H3;unfold aG;go_wp2_with fail;exact⟨rfl,EndA.bad (en (by simp only[nF,E1.out,ak,E3.out,ak,E4.out,ak,HEb.out,bG])) rfl (HKb.out.mono (λk hk e=>by have:=HCB.out;omega))⟩
   | some p3=>
    obtain⟨n,r3⟩:=p3;obtain⟨a3,lp,rfl,hn3,hcu3,hk3⟩:=h3.1 n r3 nJ;have E5:Hid (dY 2 r2=some (n,r3)):=nJ;have KT:n<65536:=hn3;obtain⟨Qv,K7⟩:∃W,W=w3.alloc (.cells #[.int .u16 (n:Nat)] 47):=⟨_,rfl⟩
    have hsl:Same w3 Qv:=(by rw[K7];exact(Kept.refl _ w3).alloc _);have hbl:Blk Qv w3.heap.size #[.int .u16 (n:Nat)] 47:=(by rw[K7];exact Blk.new w3 _ _);have l0:=hbl.cell 0;simp at l0;have HKp4:Hid (Kept (·=cb) w Qv):=hid ((HKp3.out.k8 hk3).k8 hsl.k8);have H4:=kO N Qv cb r3 a3 lp n w3.heap.size (hcu3.kept hsl (λf=>f) (λ_ _ f=>f)) KT l0;clear h3 nJ hcu3 hk3 H3 HKp3 hsl hbl l0 hn3;go_wp2_with fail;rw[<-K7];clear K7;refine H4.mono ?_;intro e w4 h4;cases pI:eX 2 n r3 with
    | none=>
     obtain⟨rfl,hk⟩:=h4.2 pI;have HKb:Hid (Kept (·=cb) w w4):=hid (HKp4.out.k8 hk);have HEb:Hid (eX 2 n r3=none):=pI;clear h4 hk pI H4;unfold aG;go_wp2_with fail;exact⟨rfl,EndA.bad (en (by simp only[nF,E1.out,ak,E3.out,ak,E4.out,ak,E5.out,ak,HEb.out,bG])) rfl (HKb.out.mono (λk hk e=>by have:=HCB.out;omega))⟩
    | some p4=>
     obtain⟨r4,rfl⟩:∃z,z=p4:=⟨_,rfl⟩
     obtain⟨a4,sf,rfl,yC,hk4⟩:=h4.1 _ pI;have E6:Hid (eX 2 n r3=some r4):=pI;have HKp5:Hid (Kept (·=cb) w w4):=hid (HKp4.out.k8 hk4);have H5:=gW N w4 cb r4 a4 sf yC;clear h4 pI yC hk4 H4 HKp4;go_wp2_with fail;refine H5.mono ?_;intro e w5 h5;cases ht5:dY 4 r4 with
     | none=>
      obtain⟨rfl,hk⟩:=h5.2 ht5;have HKb:Hid (Kept (·=cb) w w5):=hid (HKp5.out.k8 hk.k8);have HEb:Hid (dY 4 r4=none):=ht5;clear h5 hk ht5 H5;unfold aG;go_wp2_with fail;exact⟨rfl,EndA.bad (en (by simp only[nF,E1.out,ak,E3.out,ak,E4.out,ak,E5.out,ak,E6.out,ak,HEb.out,bG])) rfl (HKb.out.mono (λk hk e=>by have:=HCB.out;omega))⟩
     | some p5=>
      obtain⟨lng,r5⟩:=p5;obtain⟨a5,ia,rfl,gt,yy,hk5⟩:=h5.1 lng r5 ht5;have E7:Hid (dY 4 r4=some (lng,r5)):=ht5;have Ya:lng<4294967296:=gt;have HKp6:Hid (Kept (·=cb) w w5):=hid (HKp5.out.k8 hk5);have H6:=gW N w5 cb r5 a5 ia yy;clear h5 ht5 yy hk5 H5 HKp5 gt;go_wp2_with fail;refine H6.mono ?_;intro e w6 h6;cases ht6:dY 4 r5 with
      | none=>
       obtain⟨rfl,hk⟩:=h6.2 ht6;have HKb:Hid (Kept (·=cb) w w6):=hid (HKp6.out.k8 hk.k8);have HEb:Hid (dY 4 r5=none):=ht6;clear h6 hk ht6 H6;unfold aG;go_wp2_with fail;exact⟨rfl,EndA.bad (en (by simp only[nF,E1.out,ak,E3.out,ak,E4.out,ak,E5.out,ak,E6.out,ak,E7.out,ak,HEb.out,bG])) rfl (HKb.out.mono (λk hk e=>by have:=HCB.out;omega))⟩
      | some p6=>
       obtain⟨fr,r6⟩:=p6;obtain⟨a6,EF,rfl,rI,hcu6,hk6⟩:=h6.1 fr r6 ht6;have E8:Hid (dY 4 r5=some (fr,r6)):=ht6;have VS:fr<4294967296:=rI;obtain⟨QX,KJ⟩:∃W,W=w6.alloc (.cells #[.int .u16 0] 47):=⟨_,rfl⟩
       have hsl:Same w6 QX:=(by rw[KJ];exact(Kept.refl _ w6).alloc _);have hbl:Blk QX w6.heap.size #[.int .u16 0] 47:=(by rw[KJ];exact Blk.new w6 _ _);have l0:=hbl.cell 0;simp at l0;have HKp7:Hid (Kept (·=cb) w QX):=hid ((HKp6.out.k8 hk6).k8 hsl.k8);have H7:=kO N QX cb r6 a6 EF 0 w6.heap.size (hcu6.kept hsl (λf=>f) (λ_ _ f=>f)) (by decide) l0;clear h6 ht6 hcu6 hk6 H6 HKp6 hsl hbl l0 rI;go_wp2_with fail;rw[<-KJ];clear KJ;refine H7.mono ?_;intro e w7 h7;cases ht7:eX 2 0 r6 with
       | none=>
        obtain⟨rfl,hk⟩:=h7.2 ht7;have HKb:Hid (Kept (·=cb) w w7):=hid (HKp7.out.k8 hk);have HEb:Hid (eX 2 0 r6=none):=ht7;clear h7 hk ht7 H7;unfold aG;go_wp2_with fail;exact⟨rfl,EndA.bad (en (by simp only[nF,E1.out,ak,E3.out,ak,E4.out,ak,E5.out,ak,E6.out,ak,E7.out,ak,E8.out,ak,HEb.out,bG])) rfl (HKb.out.mono (λk hk e=>by have:=HCB.out;omega))⟩
       | some p7=>
        obtain⟨r7,rfl⟩:∃z,z=p7:=⟨_,rfl⟩
        obtain⟨a7,IQ,rfl,hcu7,dk⟩:=h7.1 _ ht7;have HK7:Hid (Same w w7):=hid ((HKp7.out.k8 dk).mono (λk hk e=>by have:=HCB.out;omega));have HEN:Hid (nF r=some (n,lng,fr)):=hid (by simp only[nF,E1.out,ak,E3.out,ak,E4.out,ak,E5.out,ak,E6.out,ak,E7.out,ak,E8.out,ak,ht7]);obtain⟨s,hs⟩:∃s,s=fr+lng:=⟨_,rfl⟩
        have Ze:(fr:Int)+(lng:Int)=(s:Int):=(by omega);have VD:IntKind.u64.wrap (s:Int)=(s:Int):=(by rw[IntKind.wrap_u64];omega);have XA:IntKind.u64.wrap (fr:Int)=(fr:Int):=(by rw[IntKind.wrap_u64];omega);have Te:IntKind.u64.wrap (lng:Int)=(lng:Int):=(by rw[IntKind.wrap_u64];omega);have ml:IntKind.u64.wrap (place:Int)=(place:Int):=(by rw[IntKind.wrap_u64];omega);have HS:Hid (s=fr+lng):=hs;clear h7 ht7 hcu7 dk H7 HKp7 hs;by_cases hsp:s=place
        ·subst hsp;have HO:=bh w7 (.int .i64 81);go_wp2_with fail;refine HO.mono ?_;rintro e w8 ⟨rfl,M1⟩;subst M1;clear HO;by_cases hn:n<=64
         ·have bn:decide ((n:Int)<=64)=true:=(by simp;omega);have HO:=bh w8 (.int .i64 86);go_wp2_with fail;refine HO.mono ?_;rintro e w9 ⟨rfl,RN⟩;subst RN;clear HO;go_wp2_with fail;go_ret2;exact EndA.good (by unfold jP;rw[HEN.out];simp only;rw[if_neg (by have:=HS.out;omega),if_neg (by omega)]) rfl HK7.out
         ·have bn:decide ((n:Int)<=64)=false:=(by simp;omega);have HO:=aL w8 86;go_wp2_with fail;refine HO.mono ?_;rintro e w9 ⟨rfl,RN⟩;subst RN;clear HO;unfold aG;go_wp2_with fail;exact⟨rfl,EndA.bad (by unfold jP;rw[HEN.out];simp only;rw[if_neg (by have:=HS.out;omega),if_pos (by omega)]) rfl HK7.out⟩
        ·have bs:((s:Int)==(place:Int))=false:=(by simp;omega);have HO:=aL w7 81;go_wp2_with fail;refine HO.mono ?_;rintro e w8 ⟨rfl,M1⟩;subst M1;clear HO;unfold aG;go_wp2_with fail;exact⟨rfl,EndA.bad (by unfold jP;rw[HEN.out];simp only;rw[if_pos (by have:=HS.out;omega)]) rfl HK7.out⟩
end Go.Proofs.YtkhagfgineifhaaGreatDoor
