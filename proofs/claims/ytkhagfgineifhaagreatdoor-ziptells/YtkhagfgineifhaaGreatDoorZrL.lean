import Derived.Test.YtkhagfgineifhaaGreatDoorZrA
set_option maxHeartbeats 400000
set_option maxRecDepth 100000
namespace Go.Proofs.YtkhagfgineifhaaGreatDoor
open Go.RowKit
def Tp(E:Nat->En)(len:Nat)(b:Bool):Prop:=b=false->len<=16777216/\∀j,j<len->(E j).n.size<=16777216/\(E j).d.size<=16777216
theorem Af(w:World)(a:Option Addr)(len cap:Nat)(E:Nat→En)(hs:Ents w (fun _=>True) a len E)(hn:len≤reachBytes)(hz:∀j,j<len→(E j).n.size≤reachBytes∧(E j).d.size≤reachBytes):
  Calls Tryz.prog 4 #[.slice a len cap] w λe w'=>(∃b,e=.returned (.bool b)/\Tp E len b)/\Same w w':=by
 have HS:Hid (Ents w (λ_=>True) a len E):=hs;have HZ:Hid (∀j,j<len->(E j).n.size<=140737488351232/\(E j).d.size<=140737488351232):=hz;have hn2:len<=140737488351232:=hn;clear hs hz hn;go_enter Tryz.func4,Tryz.ntmps4;go_wp2_with fail;go_loopg [3,4] len (λk z3 z4 wr=>∃i n:Nat,len-i<=k/\i<=len/\z3=.int .i64 (n:Nat)/\z4=.int .i64 (i:Nat)/\n<=422212465065984/\Hid (len<=n/\∀j,j<i->(E j).n.size<=n/\(E j).d.size<=n)/\Hid (Same w wr))
 case atStart=>exact⟨0,len,by omega,by omega,rfl,rfl,by omega,hid ⟨Nat.le_refl _,λj hj=>by omega⟩,hid (Kept.refl _ _)⟩
 case round=>
  obtain⟨i,n,hk,yr,rfl,rfl,hnb,HN,HK⟩:=hrel;by_cases hlt:i<len
  ·have nM:decide (i<len)=true:=(by simp;omega);by_cases hm:n<=16777216
   ·have lu:decide ((n:Int)<=16777216)=true:=(by simp;omega);have R9:decide (n<=16777216)=true:=(by simp;omega);obtain⟨b,o,ha,_,mj,fF⟩:=HS.out i hlt;subst ha;have mj:=HK.out.cell mj (λf=>f);have fF:=HK.out.cell fF (λf=>f);obtain⟨y,hy⟩:∃y,y=E i:=⟨_,rfl⟩
    have To:=HZ.out i hlt;rw[<-hy]at mj fF To;have HY:Hid (y=E i):=hy;have EP:IntKind.i64.wrap ((i:Int)+1)=((i+1:Nat):Int):=(by rw[IntKind.wrap_i64];omega);obtain⟨s0,CB⟩:∃s,s=y.n.size:=⟨_,rfl⟩
    obtain⟨s1,hs1⟩:∃s,s=y.d.size:=⟨_,rfl⟩
    obtain⟨n1,hn1⟩:∃m,m=n+s0:=⟨_,rfl⟩
    obtain⟨n2,Tb⟩:∃m,m=n1+s1:=⟨_,rfl⟩
    have g0:(y.n.size:Int)=(s0:Int):=(by rw[CB]);have g1:(y.d.size:Int)=(s1:Int):=(by rw[hs1]);rw[<-CB,<-hs1]at To;have q1:(n:Int)+(s0:Int)=(n1:Int):=(by omega);have q1w:IntKind.i64.wrap (n1:Int)=(n1:Int):=(by rw[IntKind.wrap_i64];omega);have q2:(n1:Int)+(s1:Int)=(n2:Int):=(by omega);have q2w:IntKind.i64.wrap (n2:Int)=(n2:Int):=(by rw[IntKind.wrap_i64];omega);have i1:(0:Int)<=(i:Int):=(by omega);have i2:(i:Int)<(len:Int):=(by omega);have hb2:n2<=422212465065984:=(by omega);have HNN:Hid (n<=n2/\y.n.size<=n2/\y.d.size<=n2):=hid (by omega);clear hy CB hs1 hn1 Tb To hm;go_wp2_with fail;go_quiet (fail);go_wp2_with fail;go_roundg (gk-1)
    case measure=>omega
    case rel=>
     refine⟨i+1,n2,by omega,by omega,rfl,by go_num,hb2,hid ⟨by have:=HN.out.1;have:=HNN.out.1;omega,λj hj=>?_⟩,hid (HK.out.drewN _)⟩;by_cases e:j=i
     ·rw[e,<-HY.out];exact HNN.out.2
     ·have h9:=HN.out.2 j (by omega);have:=HNN.out.1;omega
   ·have lu:decide ((n:Int)<=16777216)=false:=(by simp;omega);have R9:decide (n<=16777216)=false:=(by simp;omega);have Zv:decide ((16777216:Int)<(n:Int))=true:=(by simp;omega);have VO:decide (16777216<n)=true:=(by simp;omega);clear hm;go_wp2_with fail;go_ret;exact⟨⟨_,rfl,λe=>by simp at e⟩,HK.out⟩
  ·have nM:decide (i<len)=false:=(by simp;omega);have HIL:Hid (i=len):=hid (by omega);obtain⟨B,hB⟩:∃B,B=decide ((16777216:Int)<(n:Int)):=⟨_,rfl⟩
   have ZS:=hB.symm;have HB:Hid (B=false->n<=16777216):=hid (λe=>by rw[e]at hB;simp at hB;omega);have HNB:Hid (len<=n/\∀j,j<len->(E j).n.size<=n/\(E j).d.size<=n):=hid ⟨HN.out.1,λj hj=>HN.out.2 j (by have:=HIL.out;omega)⟩;clear hB hlt;go_wp2_with fail;go_ret;refine⟨⟨_,rfl,λe=>?_⟩,HK.out⟩;have h8:n<=16777216:=by
    first
     | exact HB.out e
     | (simp at e;omega)
   exact⟨by have:=HNB.out.1;omega,λj hj=>by have:=HNB.out.2 j hj;omega⟩
end Go.Proofs.YtkhagfgineifhaaGreatDoor
