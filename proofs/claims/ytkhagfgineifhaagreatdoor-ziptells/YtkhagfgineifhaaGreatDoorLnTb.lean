import Derived.Test.YtkhagfgineifhaaGreatDoorLnTs
set_option maxHeartbeats 2000000
set_option maxRecDepth 100000
namespace Go.Proofs.YtkhagfgineifhaaGreatDoor
open Go.RowKit
def JZ(w w':World)(p:Nat)(s:Value)(bs:List Nat)(c:Nat)(e:Ending):Except Nat (List Nat×Nat)->Prop
 | .error er=>e=.returned (.tuple #[.slice none 0 0,.int .i64 (er:Nat)])/\er≠0/\∃c',c<=c'/\c'<=8*bs.length/\St w' p s bs c'
 | .ok (l,c')=>(∃v',e=.returned (.tuple #[v',.int .i64 0])/\NRow w.heap.size w' v' l)/\c'<=8*bs.length/\St w' p s bs c'
theorem Au(w:World)(d:Nat)(vc vs:Value)(zs:List Int)(ns:List Nat)(p c:Nat)(s:Value)(bs:List Nat)(N:Nat)(hg:Good zs ns)(hd:Dec w d vc vs ns)(hs:St w p s bs c)(hc:c≤8*bs.length)(ag:bs.length≤100000000)(oE:∀k,DF d vc vs k→¬Fp p s k)(hN:N≤1000):
  Calls Tryz.prog 206 #[.pointer (some ⟨p,0,none⟩),.pointer (some ⟨d,0,none⟩),.int .i64 (N:Nat)] w λe w'=>JZ w w' p s bs c e (bC ns (ae bs) N N [] c)/\Kept (·=p) w w':=by
 have HG:Hid (Good zs ns):=hg;have HD:Hid (Dec w d vc vs ns):=hd;have HST:Hid (St w p s bs c):=hs;have HDIS:Hid (∀k,DF d vc vs k->¬Fp p s k):=oE;have HP:Hid (∀k,Fp p s k->k<w.heap.size):=hid (λk h=>hs.fp_lt h);clear hg hd hs oE;go_enter Tryz.func206,Tryz.ntmps206;go_wp2_with fail;go_loopg [8,9,10] N (λq zo _ _ wr=>∃(l:List Nat) (f ci:Nat),N-l.length<=q/\N-l.length<=f/\c<=ci/\ci<=8*bs.length/\Hid (bC ns (ae bs) N N [] c=bC ns (ae bs) N f l ci)/\Hid (l.length<=N/\∀x∈l,x<=15)/\Hid (NRow w.heap.size wr zo l)/\Hid (St wr p s bs ci)/\Hid (Kept (·=p) w wr))
 case atStart=>exact⟨[],N,c,by simp,by simp,by omega,hc,rfl,hid ⟨by simp,by simp⟩,RowE.nil,HST,Kept.refl _ _⟩
 case round=>
  clear HST;obtain⟨l,f,ci,hq,hf,NQ,PE,HBF,HLL,HV,HST,HK⟩:=hrel;have dA:=HK.out.size;have kY:l.length<=1000000:=(by have:=HLL.out.1;omega);obtain⟨a8,K9,KW,_⟩:=HV.out.shape;subst KW;have HDW:Hid (Dec wr d vc vs ns):=hid (HD.out.kept HK.out (λk h e=>HDIS.out k h (.inl e)));have HRS:=Ec wr d vc vs zs ns p ci s bs HG.out HDW.out HST.out PE ag HDIS.out;have Ll:=fun(W:World) (x y:Int)=>ud W x y l.length N kY
  have yI:=fun(W:World) (x y:Int) (hr:NRow w.heap.size W (.slice a8 l.length K9) l) (hB:w.heap.size<=W.heap.size) (hm:i9 (x,y) l.length N)=>Ka W w.heap.size _ l x y N hr hB kY hm
  by_cases hlt:l.length<N
  ·obtain⟨f,rfl⟩:∃g,f=g+1:=⟨f-1,by omega⟩
   obtain⟨L,hL⟩:∃L,L=l.length:=⟨_,rfl⟩
   have HL:Hid (L=l.length):=hL;cases hsf:dg ns (ae bs) ci with
   | error er=>
    rw[hsf]at HRS;have HE:Hid (bC ns (ae bs) N N [] c=.error er):=hid (by rw[HBF.out,sR hlt hsf]);rw[<-hL]at HV hq hf kY hlt Ll yI ⊢;clear hsf hL Ll yI;go_wp2_with fail;refine HRS.mono ?_;rintro e w2 ⟨⟨rfl,cE,c',fF,cS,hs2⟩,hk2⟩;have HST2:Hid (St w2 p s bs c'):=hs2;have HK2:Hid (Kept (·=p) w w2):=hid (Kept.trans HK.out hk2 (λ_ _ h=>h) (λ_ _ h=>h));have lL:((er:Int) != 0)=true:=(by simp;omega);have HER:Hid (er≠0):=cE;have mv:c<=c':=(by omega);have HP2:Hid (∀k,Fp p s k->k<w2.heap.size):=hid (λk h=>by have:=HP.out k h;have:=HK2.out.size;omega);clear hs2 hk2 HRS cE;go_wp2_with fail;go_ret2;refine⟨?_,HK2.out.alloc _⟩;rw[HE.out];exact⟨rfl,HER.out,c',mv,cS,HST2.out.kept ((Kept.refl (λ_=>False) w2).alloc _) (λ_ _ f=>f)⟩
   | ok r=>
    obtain⟨⟨sy,x⟩,c'⟩:=r;rw[hsf]at HRS;have HBS:Hid (bC ns (ae bs) N N [] c=match ez l ((sy:Int),(x:Int)) N with | none=>.error 41 | some m=>bC ns (ae bs) N f m c'):=hid (by rw[HBF.out,l9 hlt hsf];all_goals rfl);have mv:ci<=c':=rH hsf;have Id:=λW=>Ll W (sy:Int) (x:Int)
    have IB:=λW=>yI W (sy:Int) (x:Int)
    rw[<-hL]at HV hq hf kY hlt Id IB ⊢;clear hsf hL Ll yI;go_wp2_with fail;refine HRS.mono ?_;rintro e w2 ⟨⟨rfl,cS,hs2⟩,hk2⟩;have HST2:Hid (St w2 p s bs c'):=hs2;have HK2:Hid (Kept (·=p) w w2):=hid (Kept.trans HK.out hk2 (λ_ _ h=>h) (λ_ _ h=>h));have HV2:Hid (NRow w.heap.size w2 (.slice a8 L K9) l):=hid (HV.out.kept hk2 (λk e h=>by have h1:=HV.out.ge e;have h2:=HP.out p (.inl rfl);omega));have lr:=HK2.out.size;clear hs2 hk2 HRS HST HK HV HDW;by_cases nI:i9 ((sy:Int),(x:Int)) L N
    ·have HM:Hid (ez l ((sy:Int),(x:Int)) N=some (l++List.replicate (b7 (sy:Int)+(x:Int).toNat) (nh (sy:Int) l))):=hid (Db (by rw[<-HL.out];exact nI));have HMAY:Hid (i9 ((sy:Int),(x:Int)) L N):=nI;clear nI;obtain⟨m,hm⟩:∃m,m=l++List.replicate (b7 (sy:Int)+(x:Int).toNat) (nh (sy:Int) l):=⟨_,rfl⟩
     rw[<-hm]at HM IB;have mw:=iA HM.out HLL.out.2;have Wj:Hid (bC ns (ae bs) N N [] c=bC ns (ae bs) N f m c'):=hid (by rw[HBS.out,HM.out]);have HMM:Hid (m.length<=N/\∀x∈m,x<=15):=hid mw.2;have TA:L<m.length:=(by rw[HL.out];exact mw.1);clear hm mw;go_wp2_with fail;refine(Id _).mono ?_;rintro e w3 ⟨he,hk3⟩;have MX:=he.yes HMAY.out;subst MX;have c3:w3.cell? ⟨w2.heap.size,0,none⟩=some (.int .i64 (sy:Nat)):=hk3.cell (by simp) (λf=>f);have c4:w3.cell? ⟨w2.heap.size,1,none⟩=some (.int .i64 (x:Nat)):=hk3.cell (by simp) (λf=>f);have HK3:Hid (Same w2 w3):=hid (Same.trans ((Kept.refl _ w2).alloc _) hk3);have uV:w.heap.size<=w3.heap.size:=(by have h2:=HK3.out.size;omega);have HSY:=IB w3 (HV2.out.same HK3.out) uV HMAY.out;clear he hk3 Id IB;go_wp2_with fail;refine HSY.mono ?_;rintro e w4 ⟨v4,rfl,hr4,hk4⟩;have HV4:Hid (NRow w.heap.size w4 v4 m):=hr4;have HST4:Hid (St w4 p s bs c'):=hid ((HST2.out.kept HK3.out (λ_ _ f=>f)).kept hk4 (λk h e=>by have:=HP.out k h;unfold jd at e;omega));have HK4:Hid (Kept (·=p) w w4):=hid (Kept.trans (Kept.trans HK2.out HK3.out (λ_ _ h=>h) (λ_ _ f=>f.elim)) hk4 (λ_ _ h=>h) (λk hk e=>by unfold jd at e;omega));clear hr4 hk4 HSY c3 c4;go_wp2_with fail;go_roundg (gk-1)
     case measure=>omega
     case rel=>exact⟨m,f,c',by omega,by omega,by omega,cS,Wj,HMM,HV4,HST4,HK4⟩
    ·have HM:Hid (ez l ((sy:Int),(x:Int)) N=none):=hid (Ho (by rw[<-HL.out];exact nI));have HMAY:Hid (¬i9 ((sy:Int),(x:Int)) L N):=nI;have HE:Hid (bC ns (ae bs) N N [] c=.error 41):=hid (by rw[HBS.out,HM.out]);have Sa:c<=c':=(by omega);clear nI;go_wp2_with fail;refine(Id _).mono ?_;rintro e w3 ⟨he,hk3⟩;have MX:=he.no HMAY.out;subst MX;have HK3:Hid (Same w2 w3):=hid (Same.trans ((Kept.refl _ w2).alloc _) hk3);clear he hk3 Id IB;go_wp2_with fail;go_ret2;refine⟨?_,Kept.trans HK2.out HK3.out (λ_ _ h=>h) (λ_ _ f=>f.elim)⟩;rw[HE.out];exact⟨rfl,by decide,c',Sa,cS,HST2.out.kept HK3.out (λ_ _ f=>f)⟩
  ·have HE:Hid (bC ns (ae bs) N N [] c=.ok (l,ci)):=hid (by rw[HBF.out,kE (by omega)]);obtain⟨L,hL⟩:∃L,L=l.length:=⟨_,rfl⟩
   rw[<-hL]at HV hlt ⊢;clear hL Ll yI HRS hq hf;go_wp2_with fail;go_ret2;refine⟨?_,HK.out⟩;rw[HE.out];exact⟨⟨_,rfl,HV.out⟩,PE,HST.out⟩
end Go.Proofs.YtkhagfgineifhaaGreatDoor
