import Derived.Test.YtkhagfgineifhaaGreatDoorZpT
set_option maxHeartbeats 1000000
set_option maxRecDepth 100000
namespace Go.Proofs.YtkhagfgineifhaaGreatDoor
open Go.RowKit
def yM(E:Nat->En)(i:Nat):Nat:=if eZ (sb (E i).n)=false\/oo E (E i).n i=true then 80 else if 8192<(E i).d.size then 87 else 0
def j6(E:Nat->En):Nat->Nat->Nat
 | 0,_=>0
 | n+1,i=>if yM E i=0 then j6 E n (i+1)else yM E i
def fT(E:Nat->En)(n:Nat):Nat:=if 64<n then 86 else j6 E n 0
theorem Av(E:Nat->En)(n i:Nat)(hi:i<n)(h:yM E i=0):j6 E (n-i) i=j6 E (n-(i+1)) (i+1):=by
 obtain⟨k,hk⟩:∃k,n-i=k+1:=⟨n-i-1,by omega⟩
 rw[hk,j6,if_pos h];congr 1;omega
theorem nX(E:Nat->En)(n i:Nat)(hi:i<n)(h:yM E i≠0):j6 E (n-i) i=yM E i:=by
 obtain⟨k,hk⟩:∃k,n-i=k+1:=⟨n-i-1,by omega⟩
 rw[hk,j6,if_neg h]
theorem ri(w:World)(a:Option Addr)(len cap:Nat)(E:Nat→En)(hs:Ents w (fun _=>True) a len E)(hn:len≤100000000)(cD:len≤cap)(hx:Mxl w):
  Calls Tryz.prog 14 #[.slice a len cap] w λe w'=>e=.returned (.int .i64 (fT E len:Nat))/\Same w w':=by
 by_cases fz:64<len
 ·have b1:(64:Int)<(len:Int):=(by omega);have HE:Hid (fT E len=86):=hid (by unfold fT;rw[if_pos fz]);clear hs fz;go_enter Tryz.func14,Tryz.ntmps14;go_wp2_with fail;go_ret;exact⟨by rw[HE.out];rfl,Kept.refl _ _⟩
 ·have b1:(len:Int)<=64:=(by omega);have HE:Hid (fT E len=j6 E (len-0) 0):=hid (by unfold fT;rw[if_neg fz];rfl);have HS:Hid (Ents w (λ_=>True) a len E):=hs;have HX:Hid (Mxl w):=hx;clear hs fz hx;go_enter Tryz.func14,Tryz.ntmps14;go_wp2_with fail;go_loopg [10] len (λk z wr=>∃i:Nat,len-i<=k/\i<=len/\z=.int .i64 (i:Nat)/\Hid (fT E len=j6 E (len-i) i)/\Hid (Same w wr))
  case atStart=>exact⟨0,by omega,by omega,rfl,HE,hid (Kept.refl _ _)⟩
  case round=>
   obtain⟨i,hk,yr,rfl,HF,HK⟩:=hrel;by_cases hlt:i<len
   ·have nM:decide (i<len)=true:=(by simp;omega);obtain⟨b,o,ha,_,mj,fF⟩:=HS.out i hlt;subst ha;have mj:=HK.out.cell mj (λf=>f);have fF:=HK.out.cell fF (λf=>f);obtain⟨y,hy⟩:∃y,y=E i:=⟨_,rfl⟩
    rw[<-hy]at mj fF;have HY:Hid (y=E i):=hy;have EP:IntKind.i64.wrap ((i:Int)+1)=((i+1:Nat):Int):=(by rw[IntKind.wrap_i64];omega);have HNM:=mE (wr.alloc (.cells #[.string y.n,.string y.d] 42)) y.n (HX.out.kept (Same.trans HK.out ((Kept.refl _ wr).alloc _)) (λf=>f));have HBX:Hid (Blk (wr.alloc (.cells #[.string y.n,.string y.d] 42)) wr.heap.size #[.string y.n,.string y.d] 42):=hid (Blk.new wr _ _);have HKA:Hid (Same w (wr.alloc (.cells #[.string y.n,.string y.d] 42))):=hid (Same.trans HK.out ((Kept.refl _ wr).alloc _));obtain⟨xb,ie⟩:∃xb,xb=wr.heap.size:=⟨_,rfl⟩
    rw[<-ie]at HBX;cases hnb:eZ (sb y.n) with
    | false=>
     rw[hnb]at HNM;have HW:Hid (yM E i=80):=hid (by unfold yM;rw[<-HY.out,hnb,if_pos (.inl rfl)]);clear hy hnb;go_wp2_with fail;refine HNM.mono ?_;rintro e w2 ⟨rfl,hk2⟩;have HK2:Hid (Same w w2):=hid (Same.trans HKA.out hk2);clear hk2 HNM;go_wp2_with fail;go_ret;refine⟨?_,HK2.out⟩;rw[HF.out,nX E len i hlt (by rw[HW.out];decide),HW.out];rfl
    | true=>
     rw[hnb]at HNM;have HNB:Hid (eZ (sb y.n)=true):=hnb;clear hy hnb;have j1:(0:Int)<=(i:Int):=(by omega);have j2:(i:Int)<=(cap:Int):=(by omega);go_wp2_with fail;rw[<-ie];clear ie;refine HNM.mono ?_;rintro e w2 ⟨rfl,hk2⟩;have HK2:Hid (Same w w2):=hid (Same.trans HKA.out hk2);have hb2:=HBX.out.kept hk2 (λf=>f);have x0:w2.cell? ⟨xb,0,none⟩=some (.string y.n):=hb2.cell 0;have x1:w2.cell? ⟨xb,1,none⟩=some (.string y.d):=hb2.cell 1;have HCT:=λcap'=>rU w2 (some ⟨b,o,none⟩) i cap' E y.n xb (λ_=>True) (λj hj=>(HS.out.kept HK2.out (λ_ _ f=>f)) j (by omega)) x0 (by omega)
     have HBB:Hid (Blk w2 xb #[.string y.n,.string y.d] 42):=hb2;clear hk2 HNM hb2;cases K2:oo E y.n i with
     | true=>
      rw[K2]at HCT;have HW:Hid (yM E i=80):=hid (by unfold yM;rw[<-HY.out,if_pos (.inr K2)]);clear K2;go_wp2_with fail;refine(HCT _).mono ?_;rintro e w3 ⟨rfl,hk3⟩;have HK3:Hid (Same w w3):=hid (Same.trans HK2.out hk3);clear hk3 HCT;go_wp2_with fail;go_ret;refine⟨?_,HK3.out⟩;rw[HF.out,nX E len i hlt (by rw[HW.out];decide),HW.out];rfl
     | false=>
      rw[K2]at HCT;have HAN:Hid (oo E y.n i=false):=K2;clear K2;go_wp2_with fail;refine(HCT _).mono ?_;rintro e w3 ⟨rfl,hk3⟩;have HK3:Hid (Same w w3):=hid (Same.trans HK2.out hk3);have y1:w3.cell? ⟨xb,1,none⟩=some (.string y.d):=hk3.cell x1 (λf=>f);clear hk3 HCT x0 x1;by_cases hd:8192<y.d.size
      ·have Tx:(8192:Int)<(y.d.size:Int):=(by omega);have HW:Hid (yM E i=87):=hid (by unfold yM;rw[<-HY.out,if_neg (by rw[HNB.out,HAN.out];simp),if_pos hd]);clear hd;go_wp2_with fail;go_ret;refine⟨?_,HK3.out⟩;rw[HF.out,nX E len i hlt (by rw[HW.out];decide),HW.out];rfl
      ·have Tx:(y.d.size:Int)<=8192:=(by omega);have HW:Hid (yM E i=0):=hid (by unfold yM;rw[<-HY.out,if_neg (by rw[HNB.out,HAN.out];simp),if_neg hd]);clear hd;go_wp2_with fail;go_roundg (gk-1)
       case measure=>omega
       case rel=>exact⟨i+1,by omega,by omega,by go_num,hid (by rw[HF.out,Av E len i hlt HW.out]),HK3⟩
   ·have nM:decide (i<len)=false:=(by simp;omega);obtain rfl:i=len:=(by omega);go_wp2_with fail;go_ret;refine⟨?_,HK.out⟩;rw[HF.out,Nat.sub_self];rfl
end Go.Proofs.YtkhagfgineifhaaGreatDoor
