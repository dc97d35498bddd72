import Derived.Test.YtkhagfgineifhaaGreatDoorZpI
set_option maxHeartbeats 1000000
set_option maxRecDepth 100000
namespace Go.Proofs.YtkhagfgineifhaaGreatDoor
open Go.RowKit
structure En where
 n:ByteArray
 d:ByteArray
instance:Inhabited En:=⟨⟨⟨#[]⟩,⟨#[]⟩⟩⟩
def Ents(w:World)(I:Nat->Prop)(a:Option Addr)(len:Nat)(E:Nat->En):Prop:=
 ∀j,j<len->∃b o,a=some ⟨b,o,none⟩/\I b/\w.cell? ⟨b,o+j*2,none⟩=some (.string (E j).n)/\w.cell? ⟨b,o+j*2+1,none⟩=some (.string (E j).d)
theorem Ents.kept{F I:Nat->Prop}{w w':World}{a:Option Addr}{len:Nat}{E:Nat->En}(h:Ents w I a len E)(hk:Kept F w w')(hF:∀b,I b->¬F b):Ents w' I a len E:=by intro j hj;obtain⟨b,o,h1,h2,h3,h4⟩:=h j hj;exact⟨b,o,h1,h2,hk.cell h3 (hF b h2),hk.cell h4 (hF b h2)⟩
theorem JG(s t:ByteArray):(s.toList==t.toList)=decide (s=t):=by
 rw[Lib.toList_data,Lib.toList_data];by_cases h:s=t
 ·subst h;simp
 ·simp only[h,decide_false];refine beq_eq_false_iff_ne.2 (λe=>h ?_);cases s;cases t;simp only at e;rw[Array.toList_inj]at e;rw[e]
theorem zW(w:World)(y:En)(s:ByteArray)(g:Nat)(hg:w.cell? ⟨g,0,none⟩=some (.string s)):
  Calls Tryz.prog 34 #[.agg #[.string y.n,.string y.d],.pointer (some ⟨g,0,none⟩)] w λe w'=>e=.returned (.bool (decide (y.n=s)))/\Same w w':=by
 have Uk:∀o,(w.alloc o).cell? ⟨g,0,none⟩=some (.string s):=λo=>(show Same w (w.alloc o) from(Kept.refl _ w).alloc o).cell hg (λf=>f)
 have hq:=JG y.n s;obtain⟨B,hB⟩:∃B,B=decide (y.n=s):=⟨_,rfl⟩
 rw[<-hB]at hq ⊢;clear hB;go_enter Tryz.func34,Tryz.ntmps34;go_wp2_with fail;go_ret;exact⟨rfl,(Kept.refl _ w).alloc _⟩
abbrev BZ(g:Nat):Value:=.func (.func 34) #[] #[.pointer (some ⟨g,0,none⟩)]
def oo(E:Nat->En)(s:ByteArray):Nat->Bool
 | 0=>false
 | n+1=>oo E s n || decide ((E n).n=s)
theorem B9{E:Nat->En}{s:ByteArray}{n i:Nat}(hi:i<n)(h:(E i).n=s):oo E s n=true:=by
 induction n with
 | zero=>omega
 | succ n ih=>
  unfold oo;by_cases e:i<n
  ·rw[ih e];rfl
  ·obtain rfl:i=n:=by omega
   simp[h]
theorem zV(w:World)(a:Option Addr)(len cap:Nat)(E:Nat→En)(s:ByteArray)(g:Nat)(I:Nat→Prop)(hs:Ents w I a len E)(hg:w.cell? ⟨g,0,none⟩=some (.string s))(hn:len≤10000000):
  Calls Tryz.prog 55 #[.slice a len cap,BZ g] w λe w'=>(∃z:Int,e=.returned (.int .i64 z)/\decide (0<=z)=oo E s len)/\Same w w':=by
 have HS:Hid (Ents w I a len E):=hs;have HG:Hid (w.cell? ⟨g,0,none⟩=some (.string s)):=hg;clear hs hg;go_enter Tryz.func55,Tryz.ntmps55;go_wp2_with fail;go_loopg [8] len (λk z wr=>∃i:Nat,len-i<=k/\i<=len/\z=.int .i64 (i:Nat)/\Hid (oo E s i=false)/\Hid (Same w wr))
 case atStart=>exact⟨0,by omega,by omega,rfl,hid rfl,hid (Kept.refl _ _)⟩
 case round=>
  obtain⟨i,hk,yr,rfl,HF,HK⟩:=hrel;by_cases hlt:i<len
  ·have nM:decide (i<len)=true:=(by simp;omega);obtain⟨b,o,ha,_,mj,fF⟩:=HS.out i hlt;subst ha;have mj:=HK.out.cell mj (λf=>f);have fF:=HK.out.cell fF (λf=>f);obtain⟨y,hy⟩:∃y,y=E i:=⟨_,rfl⟩
   rw[<-hy]at mj fF;have HY:Hid (y=E i):=hy;have HC:=zW wr y s g (HK.out.cell HG.out (λf=>f));have EP:IntKind.i64.wrap ((i:Int)+1)=((i+1:Nat):Int):=(by rw[IntKind.wrap_i64];omega);clear hy;cases hb:decide (y.n=s) with
   | true=>
    rw[hb]at HC;have HB:Hid (y.n=s):=hid (of_decide_eq_true hb);clear hb;go_wp2_with fail;refine HC.mono ?_;rintro e w2 ⟨rfl,hk2⟩;have HK2:Hid (Same w w2):=hid (Same.trans HK.out hk2);clear hk2 HC;go_wp2_with fail;go_ret;refine⟨⟨_,rfl,?_⟩,HK2.out⟩;rw[B9 hlt (by rw[<-HY.out];exact HB.out)];simp
   | false=>
    rw[hb]at HC;have HB:Hid (decide (y.n=s)=false):=hb;clear hb;go_wp2_with fail;refine HC.mono ?_;rintro e w2 ⟨rfl,hk2⟩;have HK2:Hid (Same w w2):=hid (Same.trans HK.out hk2);clear hk2 HC;go_wp2_with fail;go_roundg (gk-1)
    case measure=>omega
    case rel=>exact⟨i+1,by omega,by omega,by go_num,hid (by unfold oo;rw[HF.out,<-HY.out,HB.out];rfl),HK2⟩
  ·have nM:decide (i<len)=false:=(by simp;omega);obtain rfl:i=len:=(by omega);go_wp2_with fail;go_ret;refine⟨⟨_,rfl,?_⟩,HK.out⟩;rw[HF.out];simp
theorem rU(w:World)(a:Option Addr)(len cap:Nat)(E:Nat→En)(s:ByteArray)(g:Nat)(I:Nat→Prop)(hs:Ents w I a len E)(hg:w.cell? ⟨g,0,none⟩=some (.string s))(hn:len≤10000000):
  Calls Tryz.prog 33 #[.slice a len cap,BZ g] w λe w'=>e=.returned (.bool (oo E s len))/\Same w w':=by
 have H:=zV w a len cap E s g I hs hg hn;clear hs hg;go_enter Tryz.func33,Tryz.ntmps33;go_wp2_with fail;refine H.mono ?_;rintro e w2 ⟨⟨z,rfl,hz⟩,hk⟩;have HZ:Hid (decide (0<=z)=oo E s len):=hz;have HK:Hid (Same w w2):=hk;clear hz hk H;go_wp2_with fail;go_ret;exact⟨by rw[<-HZ.out];rfl,HK.out⟩
end Go.Proofs.YtkhagfgineifhaaGreatDoor
