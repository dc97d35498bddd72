import Derived.Test.YtkhagfgineifhaaGreatDoorZpI
set_option maxHeartbeats 1000000
set_option maxRecDepth 100000
namespace Go.Proofs.YtkhagfgineifhaaGreatDoor
open Go.RowKit
def Itms(w:World)(a:Option Addr)(len:Nat)(M:Nat->Mk)(V:Nat->Value):Prop:=
 ∀j,j<len->∃b o,a=some ⟨b,o,none⟩/\w.cell? ⟨b,o+j*6,none⟩=some (.int .u16 ((M j).way:Nat))/\w.cell? ⟨b,o+j*6+1,none⟩=some (.int .u32 ((M j).sum:Nat))/\w.cell? ⟨b,o+j*6+2,none⟩=some (.int .u32 ((M j).packed:Nat))/\w.cell? ⟨b,o+j*6+3,none⟩=some (.int .u32 ((M j).size:Nat))/\w.cell? ⟨b,o+j*6+4,none⟩=some (.string (bH (M j).name))/\w.cell? ⟨b,o+j*6+5,none⟩=some (V j)
theorem Itms.kept{w w':World}{a:Option Addr}{len:Nat}{M:Nat->Mk}{V:Nat->Value}(h:Itms w a len M V)(hk:Same w w'):Itms w' a len M V:=by intro j hj;obtain⟨b,o,h0,h1,h2,h3,h4,h5,h6⟩:=h j hj;exact⟨b,o,h0,hk.cell h1 (λf=>f),hk.cell h2 (λf=>f),hk.cell h3 (λf=>f),hk.cell h4 (λf=>f),hk.cell h5 (λf=>f),hk.cell h6 (λf=>f)⟩
def f8(p:Nat->Bool):Nat->Nat->Nat
 | 0,i=>i
 | n+1,i=>if p i then i else f8 p n (i+1)
theorem FW(p:Nat->Bool)(n i:Nat)(hi:i<n)(h:p i=true):f8 p (n-i) i=i:=by
 obtain⟨k,hk⟩:∃k,n-i=k+1:=⟨n-i-1,by omega⟩
 rw[hk,f8,if_pos h]
theorem DL(p:Nat->Bool)(n i:Nat)(hi:i<n)(h:p i=false):f8 p (n-i) i=f8 p (n-(i+1)) (i+1):=by
 obtain⟨k,hk⟩:∃k,n-i=k+1:=⟨n-i-1,by omega⟩
 rw[hk,f8,if_neg (by rw[h];decide)];congr 1;omega
def I4(p:Nat->Bool)(len:Nat):Int:=if f8 p len 0<len then(f8 p len 0:Int)else -1
theorem qb(w:World)(a:Option Addr)(len cap:Nat)(M:Nat→Mk)(V:Nat→Value)(f g:Nat)(p:Nat→Bool)(hs:Itms w a len M V)(hn:len≤10000000)(Nw:∀args w,(callFunc f args).run Tryz.prog w=.ok (.enter f args) w)
  (hp:∀i wx,i<len->Same w wx->Calls Tryz.prog f #[.agg (jr (M i) (V i)),.pointer (some ⟨g,0,none⟩)] wx λe w'=>e=.returned (.bool (p i))/\Same wx w'):
  Calls Tryz.prog 27 #[.slice a len cap,.func (.func f) #[] #[.pointer (some ⟨g,0,none⟩)]] w λe w'=>e=.returned (.int .i64 (I4 p len))/\Same w w':=by
 have HS:Hid (Itms w a len M V):=hs;have HP:Hid (∀i wx,i<len->Same w wx->Calls Tryz.prog f #[.agg (jr (M i) (V i)),.pointer (some ⟨g,0,none⟩)] wx λe w'=>e=.returned (.bool (p i))/\Same wx w'):=hp;clear hs hp;go_enter Tryz.func27,Tryz.ntmps27;go_wp2_with fail;go_loopg [8] len (λk z wr=>∃i:Nat,len-i<=k/\i<=len/\z=.int .i64 (i:Nat)/\Hid (f8 p len 0=f8 p (len-i) i)/\Hid (Same w wr))
 case atStart=>exact⟨0,by omega,by omega,rfl,hid rfl,hid (Kept.refl _ _)⟩
 case round=>
  obtain⟨i,hk,yr,rfl,HF,HK⟩:=hrel;by_cases hlt:i<len
  ·have nM:decide (i<len)=true:=(by simp;omega);obtain⟨b,o,ha,k0,k1,k2,k3,k4,k5⟩:=(HS.out.kept HK.out) i hlt;subst ha;have HC:=HP.out i wr hlt HK.out;unfold jr at HC;obtain⟨m,hm⟩:∃m,m=M i:=⟨_,rfl⟩
   obtain⟨v,hv⟩:∃v,v=V i:=⟨_,rfl⟩
   rw[<-hm]at k0 k1 k2 k3 k4 HC;rw[<-hv]at k5 HC;have EP:IntKind.i64.wrap ((i:Int)+1)=((i+1:Nat):Int):=(by rw[IntKind.wrap_i64];omega);clear hm hv;cases hb:p i with
   | true=>
    rw[hb]at HC;have HB:Hid (p i=true):=hb;clear hb;go_wp2_with fail;refine HC.mono ?_;rintro e w2 ⟨rfl,hk2⟩;have HK2:Hid (Same w w2):=hid (Same.trans HK.out hk2);clear hk2 HC;go_wp2_with fail;go_ret;refine⟨?_,HK2.out⟩;have h9:f8 p len 0=i:=(by rw[HF.out,FW p len i hlt HB.out]);have h8:I4 p len=(i:Int):=(by unfold I4;rw[h9,if_pos hlt]);rw[h8];rfl
   | false=>
    rw[hb]at HC;have HB:Hid (p i=false):=hb;clear hb;go_wp2_with fail;refine HC.mono ?_;rintro e w2 ⟨rfl,hk2⟩;have HK2:Hid (Same w w2):=hid (Same.trans HK.out hk2);clear hk2 HC;go_wp2_with fail;go_roundg (gk-1)
    case measure=>omega
    case rel=>exact⟨i+1,by omega,by omega,by go_num,hid (by rw[HF.out,DL p len i hlt HB.out]),HK2⟩
  ·have nM:decide (i<len)=false:=(by simp;omega);obtain rfl:i=len:=(by omega);go_wp2_with fail;go_ret;refine⟨?_,HK.out⟩;have h9:f8 p i 0=i:=(by rw[HF.out,Nat.sub_self];rfl);have h8:I4 p i=-1:=(by unfold I4;rw[h9,if_neg (by omega)]);rw[h8];rfl
end Go.Proofs.YtkhagfgineifhaaGreatDoor
