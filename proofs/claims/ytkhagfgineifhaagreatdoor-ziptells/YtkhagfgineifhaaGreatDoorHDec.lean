import Derived.Test.YtkhagfgineifhaaGreatDoorHDecM
import Derived.Test.YtkhagfgineifhaaGreatDoorReader
set_option maxHeartbeats 2000000
set_option maxRecDepth 100000
namespace Go.Proofs.YtkhagfgineifhaaGreatDoor
open Go.RowKit
theorem BW(w:World)(v:Value)(I:Nat→Prop)(ns:List Nat)(hs:SrcE am w I v ns)(hn:ns.length≤1000000)(h0:0<ns.length)(h15:∀n∈ns,n≤1000000000000):
  Calls Tryz.prog 189 #[v] w λe w'=>e=.returned (.int .i64 (iI ns:Nat))/\w'=w:=by
 obtain⟨b,o,cap,rfl,_,_,c0⟩:=hs.get 0 h0;have HS:Hid (SrcE am w I (.slice (some ⟨b,o,none⟩) ns.length cap) ns):=hs;have H15:Hid (∀n∈ns,n<=1000000000000):=h15;clear hs h15;obtain⟨x0,yH⟩:∃x,x=ns[0]:=⟨_,rfl⟩
 rw[<-yH]at c0;unfold am at c0;have HX0:Hid (x0=ns[0]):=yH;clear yH;rw[Nat.add_zero]at c0;have ag:((ns.length:Int)<1)=False:=by simp;omega
 go_enter Tryz.func189,Tryz.ntmps189;go_wp2_with fail;clear ag;go_loopg [3,4] ns.length (λq zm zi wr=>∃(i m:Nat),ns.length-i<=q/\i<=ns.length/\1<=i/\zi=.int .i64 (i:Nat)/\zm=.int .i64 (m:Nat)/\wr=w/\Hid (m=(ns.take i).foldl max 0))
 case atStart=>exact⟨1,x0,by omega,by omega,by omega,rfl,rfl,rfl,hid (by
  rw[show(1:Nat)=0+1 from rfl,List.take_succ_eq_append_getElem h0,<-HX0.out];simp)⟩
 case round=>
  obtain⟨i,m,hq,hi,Zj,rfl,rfl,rfl,HF⟩:=hrel;by_cases hlt:i<ns.length
  ·obtain⟨b2,o2,eS,e,_,_,c1⟩:=HS.out.get i hlt;simp only[Value.slice.injEq,Option.some.injEq,Addr.mk.injEq,and_true]at e;obtain⟨⟨rfl,rfl⟩,jC,rfl⟩:=e;clear jC;obtain⟨x,hx⟩:∃x,x=ns[i]:=⟨_,rfl⟩
   rw[<-hx]at c1;unfold am at c1;have HX:Hid (x=ns[i]):=hx;clear hx;by_cases rP:m<x
   ·go_wp2_with fail;go_roundg (gk-1)
    case measure=>omega
    case rel=>exact⟨i+1,x,by omega,by omega,by omega,by go_num,by first | rfl | (congr 1;omega),rfl,hid (by rw[List.take_succ_eq_append_getElem hlt,List.foldl_append,<-HF.out,<-HX.out];simp[Nat.max_eq_right (show m<=x by omega)])⟩
   ·go_wp2_with fail;go_roundg (gk-1)
    case measure=>omega
    case rel=>exact⟨i+1,m,by omega,by omega,by omega,by go_num,by first | rfl | (congr 1;omega),rfl,hid (by rw[List.take_succ_eq_append_getElem hlt,List.foldl_append,<-HF.out,<-HX.out];simp[Nat.max_eq_left (show x<=m by omega)])⟩
  ·have vw:i=ns.length:=(by omega);subst vw;go_wp2_with fail;go_ret;have h:=HF.out;rw[List.take_of_length_le (Nat.le_refl _)]at h;exact⟨by rw[iI,<-h];rfl,rfl⟩
structure Dec(w:World)(p:Nat)(vc vs:Value)(ns:List Nat):Prop where
 cc:w.cell? ⟨p,0,none⟩=some vc
 cs:w.cell? ⟨p,1,none⟩=some vs
 rc:NRow 0 w vc (lh ns)
 rs:NRow 0 w vs (aD ns)
def DF(p:Nat)(vc vs:Value)(k:Nat):Prop:=k=p\/vc.ownBlock=some k\/vs.ownBlock=some k
theorem Dec.kept{F:Nat->Prop}{w w':World}{p:Nat}{vc vs:Value}{ns:List Nat}(h:Dec w p vc vs ns)(hk:Kept F w w')(hF:∀k,DF p vc vs k->¬F k):Dec w' p vc vs ns:=
 ⟨hk.cell h.cc (hF p (.inl rfl)),hk.cell h.cs (hF p (.inl rfl)),h.rc.kept hk (λk e=>hF k (.inr (.inl e))),h.rs.kept hk (λk e=>hF k (.inr (.inr e)))⟩
theorem Dec.lt{w:World}{p:Nat}{vc vs:Value}{ns:List Nat}(h:Dec w p vc vs ns){k:Nat}(hk:DF p vc vs k):k<w.heap.size:=by
 rcases hk with rfl | hk | hk
 ·exact World.block_lt_of_cell? w _ h.cc
 ·exact h.rc.lt hk
 ·exact h.rs.lt hk
theorem BV(w:World)(v:Value)(I:Nat→Prop)(zs:List Int)(hs:SrcE bI w I v zs)(hn:zs.length≤1000000)(hb:chk zs≠0):
  Calls Tryz.prog 163 #[v] w λe w'=>e=.returned (.tuple #[.pointer none,.int .i64 (chk zs:Nat)])/\Same w w':=by
 have HC:=kL w v I zs hs hn;generalize chk zs=c at HC hb;have hd:((c:Int) != 0)=true:=by simp;omega
 clear hs hb;go_enter Tryz.func163,Tryz.ntmps163;go_wp2_with fail;refine HC.mono ?_;rintro e w2 ⟨rfl,hk⟩;have HK:Hid (Same w w2):=hk;clear hk HC;go_wp2_with fail
 first
  | (go_ret2;exact⟨rfl,HK.out⟩)
  | (go_quiet (fail);go_wp2_with fail;go_ret2;exact⟨rfl,HK.out.drewN _⟩)
theorem qL(w:World)(p:Nat)(vc vs:Value)(ns:List Nat)(R h:Nat)(hd:Dec w p vc vs ns)(hm:iI ns≤15)(hns:ns.length≤288)(hh:h≤iI ns)(hR:R<4294967296):
  Calls Tryz.prog 201 #[.pointer (some ⟨p,0,none⟩),.int .u32 (R:Nat),.int .i64 (h:Nat)] w λe w'=>(∃sym long er,e=.returned (.tuple #[.int .i64 (sym:Nat),.int .i64 (long:Nat),.int .i64 (er:Nat)])/\Ans ns h R sym long er)/\Same w w':=by
 obtain⟨ac,capc,rfl,shc,_⟩:=hd.rc.shape;obtain⟨as',caps,rfl,shs,_⟩:=hd.rs.shape;have c1:=hd.cc;have c2:=hd.cs;have HD:Hid (Dec w p (.slice ac (lh ns).length capc) (.slice as' (aD ns).length caps) ns):=hd;have HM:Hid (iI ns=(lh ns).length):=hid (by simp[lh]);have ey:(lh ns).length<=15:=by have:=HM.out;omega
 have Jl:h<=(lh ns).length:=by have:=HM.out;omega
 have HRL:Hid ((aD ns).length<=288):=hid (Nat.le_trans (cJ ns) hns);clear hd hm shc shs hh;generalize tN:(lh ns).length=cn at *
 have HCN:Hid ((lh ns).length=cn):=tN;clear tN;go_enter Tryz.func201,Tryz.ntmps201;go_wp2_with fail;go_step3;go_wp2_with fail;go_step3;go_wp2_with fail;go_loopg [6,7,8,9,10,18] cn (λq z6 z7 z8 zp za zn wr=>∃(n place ahead:Nat),cn-n<=q/\n<=cn/\n<=h/\place<=32768/\ahead<=288/\z6=.int .i64 0/\z7=.int .i64 0/\z8=.int .i64 32/\zp=.int .i64 (place:Nat)/\za=.int .i64 (ahead:Nat)/\zn=.int .i64 (n:Nat)/\Hid (Seek ns R n place ahead)/\Hid (Same w wr))
 case atStart=>exact⟨0,0,0,by omega,by omega,by omega,by omega,by omega,rfl,rfl,rfl,rfl,rfl,rfl,Seek.start ns R,Kept.refl _ _⟩
 case round=>
  obtain⟨n,place,ahead,hq,hn,NS,Fe,AY,rfl,rfl,rfl,rfl,rfl,rfl,HF,HK⟩:=hrel;have d2:wr.cell? ⟨p,1,none⟩=some (.slice as' (aD ns).length caps):=HK.out.cell c2 (λh=>h);by_cases hlt:n<cn
  ·obtain⟨b,o,cap',e,_,_,cx⟩:=(SrcE.ofRow (HD.out.rc.same HK.out)).get n (by have:=HCN.out;omega);simp only[Value.slice.injEq]at e;obtain⟨rfl,jC,rfl⟩:=e;clear jC;obtain⟨x,hx⟩:∃x,x=Bu ns (n+1):=⟨_,rfl⟩
   have SO:wr.cell? ⟨b,o+n,none⟩=some (.int .i64 (x:Int)):=(by rw[cx,hx];simp[am,lh]);have HX:Hid (x=Bu ns (n+1)):=hx;clear cx hx;obtain⟨bt,N5⟩:∃bt,bt=R / 2 ^ n % 2:=⟨_,rfl⟩
   have hbl:bt<2:=(by omega);have ZJ:bits .and .u32 ((R:Int) / 2 ^ n) 1=(bt:Int):=(by have e1:(R:Int) / 2 ^ n=((R / 2 ^ n:Nat):Int):=(by simp);have:=u32_and_nat (R / 2 ^ n) 1 (Nat.lt_of_le_of_lt (Nat.div_le_self _ _) hR) (by decide);rw[e1,N5];rw[Nat.and_one_is_mod]at this;exact this);have HB:Hid (bt=R / 2 ^ n % 2):=N5;have Uw:x<=288:=(by have h1:=nw ns n;have h2:=uy ns (n+1);have h3:=HX.out;have h4:=HRL.out;omega);clear N5;by_cases Iu:n=h
   ·have K8:((n:Int)==(h:Int))=true:=(by simp[Iu]);have HE:Hid (n=h):=Iu;clear Iu;go_wp2_with fail;rw[Exit.noGoto_ret];go_ret3;refine⟨⟨0,0,10,rfl,.inr (.inl ⟨rfl,rfl,rfl,?_,?_⟩)⟩,HK.out⟩
    ·have:=HM.out;have:=HCN.out;have:=HE.out;omega
    ·have h1:=HF.out.pl;rw[HE.out]at h1;omega
   ·have K8:((n:Int)==(h:Int))=false:=(by simp;omega);by_cases MR:2*place+bt<x
    ·obtain⟨hk,hkey,tL⟩:=HF.out.found (by omega) (by rw[<-HB.out,<-HX.out];exact MR);obtain⟨b3,o3,lp,e3,_,_,c3⟩:=(SrcE.ofRow (HD.out.rs.same HK.out)).get _ hk;simp only[Value.slice.injEq]at e3;obtain⟨rfl,jC,rfl⟩:=e3;clear jC;obtain⟨sy,jk⟩:∃sy,sy=(aD ns)[ahead+(2*place+R / 2 ^ n % 2)]:=⟨_,rfl⟩
     rw[<-jk]at c3 hkey tL;rw[<-HB.out]at c3 hk;unfold am at c3;have HANS:Hid (Ans ns h R sy (n+1) 0):=hid (.inl ⟨rfl,by rw[jk];exact List.getElem_mem _,hkey.symm,by omega,tL⟩);clear jk hkey tL;have uW:=HRL.out;go_wp2_with fail;rw[Exit.noGoto_ret];go_ret3;exact⟨⟨sy,n+1,0,rfl,HANS.out⟩,HK.out⟩
    ·have HS2:Hid (Seek ns R (n+1) (2*place+bt-x) (ahead+x)):=hid (by
      have:=HF.out.next (by omega) (by rw[<-HB.out,<-HX.out];exact MR)
      rw[<-HB.out,<-HX.out]at this;exact this)
     have XY:ahead+x<=288:=(by have h1:=HS2.out.ah;have h2:=uy ns (n+1);have h4:=HRL.out;omega);have sg:2*place+bt-x<=32768:=(by have h1:=HS2.out.pl;have h2:=F6 (n+1) R;have h3:rv (n+1) R*2 ^ (15-(n+1))<=2 ^ (n+1)*2 ^ (15-(n+1)):=Nat.mul_le_mul_right _ (by omega);rw[<-Nat.pow_add,show n+1+(15-(n+1))=15 by omega]at h3;have h4:(2*place+bt-x)*1<=(2*place+bt-x)*2 ^ (15-(n+1)):=Nat.mul_le_mul_left _ (Nat.two_pow_pos _);have h5:(2:Nat) ^ 15=32768:=(by decide);omega);go_wp2_with fail;go_roundg (gk-1)
     case measure=>omega
     case rel=>exact⟨n+1,2*place+bt-x,ahead+x,by omega,by omega,by omega,sg,XY,rfl,rfl,rfl,by congr 1;omega,by congr 1,by go_num,HS2,HK⟩
  ·have hn2:n=cn:=(by omega);subst hn2;go_wp2_with fail;rw[Exit.noGoto_ret];go_ret3;refine⟨⟨0,0,32,rfl,.inr (.inr ⟨rfl,rfl,rfl,?_,?_⟩)⟩,HK.out⟩
   ·have:=HM.out;have:=HCN.out;omega
   ·have h1:=HF.out.pl;have h2:n=iI ns:=(by have:=HM.out;have:=HCN.out;omega);have h3:n=h:=(by omega);rw[<-kJ,<-JO ns,<-h2,<-h3];omega
end Go.Proofs.YtkhagfgineifhaaGreatDoor
