import Derived.Test.YtkhagfgineifhaaGreatDoorInPh
set_option maxHeartbeats 4000000
set_option maxRecDepth 100000
namespace Go.Proofs.YtkhagfgineifhaaGreatDoor
open Go.RowKit
def BegA(w w':World)(p:Nat)(s:Value)(bs:List Nat)(bx fx:Nat)(O:Nat->Prop)(e:Ending):Except Nat (Bk×Nat)->Prop
 | .error er=>e=.returned (.tuple #[.pointer none,.int .i64 (er:Nat)])/\er≠0/\∃c',c'<=8*bs.length/\St w' p s bs c'
 | .ok (bk,c')=>(∃b O',e=.returned (.tuple #[.pointer (some ⟨b,0,none⟩),.int .i64 0])/\BkP w' b O' bk/\w.heap.size<=b/\¬O' b/\Onc w' bx fx O'/\(∀j,O j->O' j)/\∀j,O' j->O j\/Cd w.heap.size w'.heap.size j)/\c'<=8*bs.length/\St w' p s bs c'
theorem BegA.err{w w':World}{p:Nat}{s:Value}{bs:List Nat}{bx fx:Nat}{O:Nat->Prop}{e:Ending}{er:Nat}(h:BegA w w' p s bs bx fx O e (.error er)):e=.returned (.tuple #[.pointer none,.int .i64 (er:Nat)])/\er≠0/\∃c',c'<=8*bs.length/\St w' p s bs c':=h
theorem BegA.ok{w w':World}{p:Nat}{s:Value}{bs:List Nat}{bx fx:Nat}{O:Nat->Prop}{e:Ending}{bk:Bk}{c':Nat}(h:BegA w w' p s bs bx fx O e (.ok (bk,c'))):(∃b O',e=.returned (.tuple #[.pointer (some ⟨b,0,none⟩),.int .i64 0])/\BkP w' b O' bk/\w.heap.size<=b/\¬O' b/\Onc w' bx fx O'/\(∀j,O j->O' j)/\∀j,O' j->O j\/Cd w.heap.size w'.heap.size j)/\c'<=8*bs.length/\St w' p s bs c':=h
structure Bx(w:World)(p:Nat)(s:Value)(bx fx:Nat)(O:Nat->Prop):Prop where
 onc:Onc w bx fx O
 lt:∀j,O j->j<w.heap.size
 ap:∀j,O j->¬Fp p s j/\j≠bx
 bf:bx≠fx
 bp:¬Fp p s bx
 fp:¬Fp p s fx
 bg:bx≠0
 pg:p≠0
 tab:Tab w
theorem Onc.fx_lt{w:World}{bx fx:Nat}{O:Nat->Prop}(h:Onc w bx fx O):fx<w.heap.size:=h.1.lt
theorem Onc.bx_lt{w:World}{bx fx:Nat}{O:Nat->Prop}(h:Onc w bx fx O):bx<w.heap.size:=by
 rcases h.2 with h | ⟨_,h,_⟩
 ·exact h.lt
 ·exact h.lt
theorem JQ{ls:List Nat}{c n c':Nat}(h:mZ ls c=.ok (n,c')):n<=65535:=by
 obtain⟨x,c1,_,h⟩:=aI.1 h;obtain⟨t,c2,_,h⟩:=aI.1 h;split at h
 ·simp only[Except.ok.injEq,Prod.mk.injEq]at h;omega
 ·cases h
theorem xH{ls:List Nat}{last:Bool}{c:Nat}:iW ls last c 0=aU (mZ ls c) (λn c'=>.ok (.raw last n,c')):=by unfold iW;rw[if_pos rfl]
theorem FR{ls:List Nat}{last:Bool}{c:Nat}:iW ls last c 1=.ok (.sym last fixL fixD,c):=by unfold iW;rw[if_neg (by decide),if_pos rfl]
theorem tf{ls:List Nat}{last:Bool}{c:Nat}:iW ls last c 2=aU (o7 ls c) (λx c'=>.ok (.sym last x.1 x.2,c')):=by unfold iW;rw[if_neg (by decide),if_neg (by decide),if_pos rfl]
theorem Er{ls:List Nat}{last:Bool}{c:Nat}:iW ls last c 3=.error 50:=by unfold iW;rw[if_neg (by decide),if_neg (by decide),if_neg (by decide)]
theorem y5(w:World)(p c:Nat)(s:Value)(bs:List Nat)(bx fx:Nat)(O:Nat→Prop)(hs:St w p s bs c)(hc:c≤8*bs.length)(ag:bs.length≤100000000)(hx:Bx w p s bx fx O):
  Calls Tryz.prog 134 #[.pointer (some ⟨p,0,none⟩),Lg bx fx] w λe w'=>BegA w w' p s bs bx fx O e (eJ (ae bs) c)/\Kept (λj=>j=p\/j=bx) w w':=by
 have ml:p<w.heap.size:=hs.lt;have HP:Hid (∀j,Fp p s j->j<w.heap.size):=hid (λj h=>hs.fp_lt h);have HX:Hid (Bx w p s bx fx O):=hx;have HLEN:Hid (bs.length<=100000000):=ag;have HT:=fj w p c 1 s bs hs hc ag (by decide);have HEQ:Hid (eJ (ae bs) c=aU (iF (ae bs) c 1) (λl c1=>aU (iF (ae bs) c1 2) (λk c2=>iW (ae bs) (l==1) c2 k))):=hid rfl;clear hs hc ag hx;cases ht:iF (ae bs) c 1 with
 | error er=>
  rw[ht]at HT;have HE:Hid (eJ (ae bs) c=.error er):=hid (by rw[HEQ.out,bO ht]);clear ht HEQ;go_enter Tryz.func134,Tryz.ntmps134;go_wp2_with fail;refine HT.mono ?_;rintro e w2 ⟨hn2,hk2⟩;obtain⟨rfl,cE,hst⟩:=hn2.err;have lL:((er:Int) != 0)=true:=(by simp;omega);have HER:Hid (er≠0):=cE;have HST:Hid (∃c',c'<=8*bs.length/\St w2 p s bs c'):=hst;have HK2:Hid (Kept (λj=>j=p\/j=bx) w w2):=hid (hk2.mono (λ_ _ h=>.inl h));clear hn2 hst hk2 cE HT;go_wp2_with fail;go_ret2;rw[HE.out];exact⟨⟨rfl,HER.out,HST.out⟩,HK2.out⟩
 | ok l=>
  obtain⟨l,c1⟩:=l;rw[ht]at HT;have HE1:Hid (eJ (ae bs) c=aU (iF (ae bs) c1 2) (λk c2=>iW (ae bs) (l==1) c2 k)):=hid (by rw[HEQ.out,aF ht]);obtain⟨last,cw⟩:∃last:Bool,last=(l==1):=⟨_,rfl⟩
  rw[<-cw]at HE1;have U2:((l:Int)==1)=last:=by rw[cw,Bool.eq_iff_iff];simp only[beq_iff_eq];omega
  clear ht HEQ cw;go_enter Tryz.func134,Tryz.ntmps134;go_wp2_with fail;refine HT.mono ?_;rintro e w1 ⟨hn1,hk1⟩;obtain⟨rfl,fF,hst1⟩:=hn1.ok;have HK1:Hid (Kept (·=p) w w1):=hk1;have HT2:=fj w1 p c1 2 s bs hst1 fF HLEN.out (by decide);clear hn1 fF hst1 hk1 HT;cases ht:iF (ae bs) c1 2 with
  | error er=>
   rw[ht]at HT2;have HE:Hid (eJ (ae bs) c=.error er):=hid (by rw[HE1.out,bO ht]);clear ht HE1;go_wp2_with fail;refine HT2.mono ?_;rintro e w2 ⟨hn2,hk2⟩;obtain⟨rfl,cE,hst⟩:=hn2.err;have lL:((er:Int) != 0)=true:=(by simp;omega);have HER:Hid (er≠0):=cE;have HST:Hid (∃c',c'<=8*bs.length/\St w2 p s bs c'):=hst;have HK2:Hid (Kept (λj=>j=p\/j=bx) w w2):=hid (HK1.out.trans hk2 (λ_ _ h=>.inl h) (λ_ _ h=>.inl h));clear hn2 hst hk2 cE HT2;go_wp2_with fail;go_ret2;rw[HE.out];exact⟨⟨rfl,HER.out,HST.out⟩,HK2.out⟩
  | ok k=>
   obtain⟨k,c2⟩:=k;rw[ht]at HT2;have HE2:Hid (eJ (ae bs) c=iW (ae bs) last c2 k):=hid (by rw[HE1.out,aF ht]);have hk4:k<4:=by rw[(d7 ht).1];exact bY _ (ay bs) _ _
   clear ht HE1;go_wp2_with fail;refine HT2.mono ?_;rintro e w2 ⟨hn2,hk2⟩;obtain⟨rfl,cS,uZ⟩:=hn2.ok;have HK2:Hid (Kept (·=p) w w2):=hid (HK1.out.trans hk2 (λ_ _ h=>h) (λ_ _ h=>h));have HS2:Hid (St w2 p s bs c2):=uZ;have HC2:Hid (c2<=8*bs.length):=cS;have lr:=HK2.out.size;obtain⟨W,hW⟩:∃W,W=w2.alloc (.cells #[.bool last,.int .i64 0,.pointer none] 201):=⟨_,rfl⟩
   have hkW:Same w2 W:=(by rw[hW];exact(Kept.refl _ w2).alloc _);have LQ:W.heap.size=w2.heap.size+1:=(by rw[hW];simp);have HBW:Hid (Blk W w2.heap.size #[.bool last,.int .i64 0,.pointer none] 201):=hid (by rw[hW];exact Blk.new w2 _ _);have HSW:Hid (St W p s bs c2):=hid (HS2.out.kept hkW (λ_ _ f=>f));have HKW:Hid (Kept (·=p) w W):=hid (HK2.out.trans hkW (λ_ _ h=>h) (λ_ _ f=>f.elim));have HOW:Hid (Onc W bx fx O):=hid (HX.out.onc.kept HKW.out (λj hj e=>(HX.out.ap j hj).1 (.inl e)) (λe=>HX.out.bp (.inl e)) (λe=>HX.out.fp (.inl e)));have Nh:=HX.out.onc.bx_lt;have Vs:=HX.out.onc.fx_lt;clear hn2 cS uZ hk2 HT2 hkW HK1;obtain rfl | rfl | rfl | rfl:k=0\/k=1\/k=2\/k=3:=by omega
   ·have HC:=y4 W p c2 s bs HSW.out HC2.out HLEN.out;cases tN:mZ (ae bs) c2 with
    | error er=>
     rw[tN]at HC;have HE:Hid (eJ (ae bs) c=.error er):=hid (by rw[HE2.out,xH,bO tN]);clear tN HE2 hk4;go_wp2_with fail;rw[<-hW];clear hW;refine HC.mono ?_;rintro e w3 ⟨hn2,hk2⟩;obtain⟨rfl,cE,hst⟩:=hn2.err;have lL:((er:Int) != 0)=true:=(by simp;omega);have HER:Hid (er≠0):=cE;have HST:Hid (∃c',c'<=8*bs.length/\St w3 p s bs c'):=hst;have HK3:Hid (Kept (λj=>j=p\/j=bx) w w3):=hid (HKW.out.trans hk2 (λ_ _ h=>.inl h) (λ_ _ h=>.inl h));have HB3:Hid (Blk w3 w2.heap.size #[.bool last,.int .i64 0,.pointer none] 201):=hid (HBW.out.kept hk2 (by omega));have z1:w3.cell? ⟨w2.heap.size,1,none⟩=some (.int .i64 0):=HB3.out.cell 1;have py:w3.frozen? ⟨w2.heap.size,1,none⟩=false:=HB3.out.frozen 1;clear hn2 hst hk2 cE HC;go_wp2_with fail;go_ret2;have kX:Kept (·=w2.heap.size) w3 (w3.setCell ⟨w2.heap.size,1,none⟩ (.int .i64 0)):=(Kept.refl (·=w2.heap.size) w3).setCell ⟨w2.heap.size,1,none⟩ _ (.inl rfl);rw[HE.out];obtain⟨c9,h9,hs9⟩:=HST.out;exact⟨⟨rfl,HER.out,c9,h9,hs9.kept kX (λj h e=>by have:=HP.out j h;omega)⟩,Kept.trans HK3.out kX (λ_ _ h=>h) (λj hj e=>by omega)⟩
    | ok n=>
     obtain⟨n,c3⟩:=n;rw[tN]at HC;have RH:=JQ tN;have HE:Hid (eJ (ae bs) c=.ok (.raw last n,c3)):=hid (by rw[HE2.out,xH,aF tN]);clear tN HE2 hk4;go_wp2_with fail;rw[<-hW];clear hW;refine HC.mono ?_;rintro e w3 ⟨hn2,hk2⟩;obtain⟨rfl,ve,hst⟩:=hn2.ok;have HC3:Hid (c3<=8*bs.length):=ve;have HST:Hid (St w3 p s bs c3):=hst;have HK3:Hid (Kept (λj=>j=p\/j=bx) w w3):=hid (HKW.out.trans hk2 (λ_ _ h=>.inl h) (λ_ _ h=>.inl h));have HB3:Hid (Blk w3 w2.heap.size #[.bool last,.int .i64 0,.pointer none] 201):=hid (HBW.out.kept hk2 (by omega));have HO3:Hid (Onc w3 bx fx O):=hid (HOW.out.kept hk2 (λj hj e=>(HX.out.ap j hj).1 (.inl e)) (λe=>HX.out.bp (.inl e)) (λe=>HX.out.fp (.inl e)));have z1:w3.cell? ⟨w2.heap.size,1,none⟩=some (.int .i64 0):=HB3.out.cell 1;have py:w3.frozen? ⟨w2.heap.size,1,none⟩=false:=HB3.out.frozen 1;clear hn2 hst hk2 ve HC;go_wp2_with fail;go_ret2;have kX:Kept (·=w2.heap.size) w3 (w3.setCell ⟨w2.heap.size,1,none⟩ (.int .i64 (n:Nat))):=(Kept.refl (·=w2.heap.size) w3).setCell ⟨w2.heap.size,1,none⟩ _ (.inl rfl);have OO:Blk (w3.setCell ⟨w2.heap.size,1,none⟩ (.int .i64 (n:Nat))) w2.heap.size #[.bool last,.int .i64 (n:Nat),.pointer none] 201:=by have:=HB3.out.set 1 (.int .i64 (n:Nat));simpa using this
     rw[HE.out];exact⟨⟨⟨_,O,rfl,⟨OO,RH⟩,lr,λh=>by have:=HX.out.lt _ h;omega,HO3.out.kept kX (λj hj e=>by have:=HX.out.lt j hj;omega) (by omega) (by omega),λ_ h=>h,λ_ h=>.inl h⟩,HC3.out,HST.out.kept kX (λj h e=>by have:=HP.out j h;omega)⟩,Kept.trans HK3.out kX (λ_ _ h=>h) (λj hj e=>by omega)⟩
   ·have HE:Hid (eJ (ae bs) c=.ok (.sym last fixL fixD,c2)):=hid (by rw[HE2.out,FR]);have HC:=yZ W bx fx O HOW.out HX.out.bf;clear HE2 hk4;go_wp2_with fail;rw[<-hW];clear hW;refine HC.mono ?_;rintro e w3 ⟨kc,O',rfl,IZ,hcp,jE,mp,hk3⟩;have HO3:Hid (Onc w3 bx fx O'):=IZ;have HCP:Hid (CodesP w3 kc fixL fixD O'):=hcp;have HSUB:Hid (∀j,O j->O' j):=jE;have HNEW:Hid (∀j,O' j->O j\/Cd (w2.heap.size+1) w3.heap.size j):=hid (λj hj=>by have:=mp j hj;rw[LQ]at this;exact this);have HS3:Hid (St w3 p s bs c2):=hid (HSW.out.kept hk3 (λj hj e=>HX.out.bp (by rw[<-e];exact hj)));have HK3:Hid (Kept (λj=>j=p\/j=bx) w w3):=hid (HKW.out.trans hk3 (λ_ _ h=>.inl h) (λ_ _ h=>.inr h));have HB3:Hid (Blk w3 w2.heap.size #[.bool last,.int .i64 0,.pointer none] 201):=hid (HBW.out.kept hk3 (by omega));have z1:w3.cell? ⟨w2.heap.size,2,none⟩=some (.pointer none):=HB3.out.cell 2;have py:w3.frozen? ⟨w2.heap.size,2,none⟩=false:=HB3.out.frozen 2;have hs3:w3.heap.size<=w3.heap.size:=Nat.le_refl _;clear IZ hcp jE mp hk3 HC;go_wp2_with fail;go_ret2;have kX:Kept (·=w2.heap.size) w3 (w3.setCell ⟨w2.heap.size,2,none⟩ (.pointer (some ⟨kc,0,none⟩))):=(Kept.refl (·=w2.heap.size) w3).setCell ⟨w2.heap.size,2,none⟩ _ (.inl rfl);have OO:Blk (w3.setCell ⟨w2.heap.size,2,none⟩ (.pointer (some ⟨kc,0,none⟩))) w2.heap.size #[.bool last,.int .i64 0,.pointer (some ⟨kc,0,none⟩)] 201:=by
     have:=HB3.out.set 2 (.pointer (some ⟨kc,0,none⟩));simpa using this
    have MZ:∀j,O' j->¬j=w2.heap.size:=λj hj e=>by
     rcases HNEW.out j hj with h | h
     ·have:=HX.out.lt j h;omega
     ·have:=h.1;omega
    rw[HE.out];refine⟨⟨⟨_,O',rfl,⟨kc,OO,HCP.out.kept kX MZ⟩,lr,λh=>MZ _ h rfl,HO3.out.kept kX MZ (by omega) (by omega),HSUB.out,λj hj=>?_⟩,HC2.out,HS3.out.kept kX (λj h e=>by have:=HP.out j h;omega)⟩,Kept.trans HK3.out kX (λ_ _ h=>h) (λj hj e=>by omega)⟩;rcases HNEW.out j hj with h | h
    ·exact .inl h
    ·refine .inr ⟨by have:=h.1;omega,?_⟩;simp only[World.setCell,Array.size_modify];exact h.2
   ·have Ul:Tab W:=HX.out.tab.kept HKW.out (λe=>HX.out.pg e.symm);have HC:=uG W p c2 s bs HSW.out HC2.out HLEN.out Ul HX.out.pg;clear Ul;cases Cl:o7 (ae bs) c2 with
    | error er=>
     rw[Cl]at HC;have HE:Hid (eJ (ae bs) c=.error er):=hid (by rw[HE2.out,tf,bO Cl]);clear Cl HE2 hk4;go_wp2_with fail;rw[<-hW];clear hW;refine HC.mono ?_;rintro e w3 ⟨hn2,hk2⟩;obtain⟨rfl,cE,hst⟩:=hn2.err;have lL:((er:Int) != 0)=true:=(by simp;omega);have HER:Hid (er≠0):=cE;have HST:Hid (∃c',c'<=8*bs.length/\St w3 p s bs c'):=hst;have HK3:Hid (Kept (λj=>j=p\/j=bx) w w3):=hid (HKW.out.trans hk2 (λ_ _ h=>.inl h) (λ_ _ h=>.inl h));have HB3:Hid (Blk w3 w2.heap.size #[.bool last,.int .i64 0,.pointer none] 201):=hid (HBW.out.kept hk2 (by omega));have z1:w3.cell? ⟨w2.heap.size,2,none⟩=some (.pointer none):=HB3.out.cell 2;have py:w3.frozen? ⟨w2.heap.size,2,none⟩=false:=HB3.out.frozen 2;clear hn2 hst hk2 cE HC;go_wp2_with fail;go_ret2;have kX:Kept (·=w2.heap.size) w3 (w3.setCell ⟨w2.heap.size,2,none⟩ (.pointer none)):=(Kept.refl (·=w2.heap.size) w3).setCell ⟨w2.heap.size,2,none⟩ _ (.inl rfl);rw[HE.out];obtain⟨c9,h9,hs9⟩:=HST.out;exact⟨⟨rfl,HER.out,c9,h9,hs9.kept kX (λj h e=>by have:=HP.out j h;omega)⟩,Kept.trans HK3.out kX (λ_ _ h=>h) (λj hj e=>by omega)⟩
    | ok x=>
     obtain⟨x,c3⟩:=x;rw[Cl]at HC;have HE:Hid (eJ (ae bs) c=.ok (.sym last x.1 x.2,c3)):=hid (by rw[HE2.out,tf,aF Cl]);clear Cl HE2 hk4;go_wp2_with fail;rw[<-hW];clear hW;refine HC.mono ?_;rintro e w3 ⟨hn2,hk2⟩;obtain⟨⟨kc,rfl,hcp⟩,ve,hst⟩:=hn2.ok;have HCP:Hid (CodesP w3 kc x.1 x.2 (λj=>O j\/Cd (w2.heap.size+1) w3.heap.size j)):=hid (by rw[LQ]at hcp;exact hcp.less (λj hj=>.inr hj));have HC3:Hid (c3<=8*bs.length):=ve;have HST:Hid (St w3 p s bs c3):=hst;have HK3:Hid (Kept (λj=>j=p\/j=bx) w w3):=hid (HKW.out.trans hk2 (λ_ _ h=>.inl h) (λ_ _ h=>.inl h));have HB3:Hid (Blk w3 w2.heap.size #[.bool last,.int .i64 0,.pointer none] 201):=hid (HBW.out.kept hk2 (by omega));have HO3:Hid (Onc w3 bx fx (λj=>O j\/Cd (w2.heap.size+1) w3.heap.size j)):=hid ((HOW.out.kept hk2 (λj hj e=>(HX.out.ap j hj).1 (.inl e)) (λe=>HX.out.bp (.inl e)) (λe=>HX.out.fp (.inl e))).less (λj hj=>.inl hj));have z1:w3.cell? ⟨w2.heap.size,2,none⟩=some (.pointer none):=HB3.out.cell 2;have py:w3.frozen? ⟨w2.heap.size,2,none⟩=false:=HB3.out.frozen 2;clear hn2 hst hk2 ve HC hcp;go_wp2_with fail;go_ret2;have kX:Kept (·=w2.heap.size) w3 (w3.setCell ⟨w2.heap.size,2,none⟩ (.pointer (some ⟨kc,0,none⟩))):=(Kept.refl (·=w2.heap.size) w3).setCell ⟨w2.heap.size,2,none⟩ _ (.inl rfl);have OO:Blk (w3.setCell ⟨w2.heap.size,2,none⟩ (.pointer (some ⟨kc,0,none⟩))) w2.heap.size #[.bool last,.int .i64 0,.pointer (some ⟨kc,0,none⟩)] 201:=by have:=HB3.out.set 2 (.pointer (some ⟨kc,0,none⟩));simpa using this
     have MZ:∀j,(O j\/Cd (w2.heap.size+1) w3.heap.size j)->¬j=w2.heap.size:=λj hj e=>by
      rcases hj with h | h
      ·have:=HX.out.lt j h;omega
      ·have:=h.1;omega
     rw[HE.out];refine⟨⟨⟨_,_,rfl,⟨kc,OO,HCP.out.kept kX MZ⟩,lr,λh=>MZ _ h rfl,HO3.out.kept kX MZ (by omega) (by omega),λj hj=>.inl hj,λj hj=>?_⟩,HC3.out,HST.out.kept kX (λj h e=>by have:=HP.out j h;omega)⟩,Kept.trans HK3.out kX (λ_ _ h=>h) (λj hj e=>by omega)⟩;rcases hj with h | h
     ·exact .inl h
     ·refine .inr ⟨by have:=h.1;omega,?_⟩;simp only[World.setCell,Array.size_modify];exact h.2
   ·have HE:Hid (eJ (ae bs) c=.error 50):=hid (by rw[HE2.out,Er]);subst hW;clear HE2 hk4;go_wp2_with fail;go_ret2;rw[HE.out];exact⟨⟨rfl,by decide,c2,HC2.out,HSW.out⟩,HKW.out.mono (λ_ _ h=>.inl h)⟩
end Go.Proofs.YtkhagfgineifhaaGreatDoor
