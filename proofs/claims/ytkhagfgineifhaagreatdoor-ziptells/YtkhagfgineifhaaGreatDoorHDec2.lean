import Derived.Test.YtkhagfgineifhaaGreatDoorHDec
set_option maxHeartbeats 2000000
set_option maxRecDepth 100000
namespace Go.Proofs.YtkhagfgineifhaaGreatDoor
open Go.RowKit
theorem wZ(ns:List Nat):(lh ns).length=iI ns:=by simp[lh]
theorem Gk(w:World)(d:Nat)(vc vs:Value)(ns:List Nat)(p c:Nat)(s:Value)(bs:List Nat)(hd:Dec w d vc vs ns)(hm:iI ns≤15)(hns:ns.length≤288)(hs:St w p s bs c)(hc:c≤8*bs.length)(ag:bs.length≤100000000)(oE:∀k,DF d vc vs k→¬Fp p s k):
  Calls Tryz.prog 191 #[.pointer (some ⟨d,0,none⟩),.pointer (some ⟨p,0,none⟩)] w λe w'=>(∃sym long er,e=.returned (.tuple #[.int .i64 (sym:Nat),.int .i64 (er:Nat)]) /\
   Ans ns (min (8*bs.length-c) (iI ns)) (aO bs / 2 ^ c % 2 ^ (min (8*bs.length-c) (iI ns))) sym long er/\St w' p s bs (c+long))/\Kept (·=p) w w':=by
 have HL:=λq=>pZ p c s bs (w.drewN q) (hs.drewN q) hc (by omega)
 obtain⟨ac,capc,rfl,shc,_⟩:=hd.rc.shape;have c1:=hd.cc;have HD:Hid (Dec w d (.slice ac (lh ns).length capc) vs ns):=hd;have HS:Hid (St w p s bs c):=hs;have HX:Hid (∀k,DF d (.slice ac (lh ns).length capc) vs k->¬Fp p s k):=oE;have ey:=wZ ns;obtain⟨left,Iv⟩:∃left,left=8*bs.length-c:=⟨_,rfl⟩
 rw[<-Iv]at HL ⊢;obtain⟨mx,rP⟩:∃mx,mx=iI ns:=⟨_,rfl⟩
 rw[<-rP]at ey hm ⊢;have HMX:Hid (mx=iI ns):=rP;have HLEFT:Hid (left=8*bs.length-c):=Iv;have HCL:Hid ((lh ns).length=mx):=ey;clear hd hs oE rP Iv shc;rw[ey]at c1 HD HX;clear ey;go_enter Tryz.func191,Tryz.ntmps191;by_cases hlm:mx<left
 ·have HMIN:Hid (min left mx=mx):=hid (by omega);go_wp2_with fail;go_quiet ((go_at_call 160;exact Calls.quiet_of (HL _)));have HT:=gC p c mx s bs (w.drewN nq) (HS.out.drewN nq) (by omega) (by omega) (by have:=HLEFT.out;omega);obtain⟨R,hR⟩:∃R,R=aO bs / 2 ^ c % 2 ^ mx:=⟨_,rfl⟩
  rw[<-hR]at HT;have HR:Hid (R=aO bs / 2 ^ c % 2 ^ mx):=hR;have R1:R<4294967296:=by have h1:R<2 ^ mx:=(by rw[hR];exact Nat.mod_lt _ (Nat.two_pow_pos _));have h2:2 ^ mx<=2 ^ 15:=Nat.pow_le_pow_right (by omega) (by omega);have h3:(2:Nat) ^ 15=32768:=(by decide);omega
  clear hR;go_wp2_with fail;refine HT.mono ?_;rintro e w1 ⟨rfl,hst1,hk1⟩;have HS1:Hid (St w1 p s bs (c+mx)):=hst1;have HK1:Hid (Kept (·=p) w w1):=hid (((Kept.refl (·=p) w).drewN nq).trans hk1 (λ_ _ h=>h) (λ_ _ h=>h));have HSE:=qL w1 d _ vs ns R mx (HD.out.kept HK1.out (λk hk e=>HX.out k hk (.inl e))) (by have:=HMX.out;omega) hns (by have:=HMX.out;omega) R1;clear hst1 hk1 HT;go_wp2_with fail;refine HSE.mono ?_;rintro e w2 ⟨⟨sym,long,er,rfl,sx⟩,hk2⟩;have HANS:Hid (Ans ns mx R sym long er):=sx;have yp:long<=mx:=by
   rcases sx with⟨_,_,_,h,_⟩ | ⟨_,_,h,_⟩ | ⟨_,_,h,_⟩
   ·exact h
   ·omega
   ·omega
  have jE:((mx:Int)-(long:Int))=((mx-long:Nat):Int):=(by omega);have HS2:Hid (St w2 p s bs (c+mx)):=hid (HS1.out.kept hk2 (λ_ _ h=>h));have HK2:Hid (Kept (·=p) w w2):=hid (HK1.out.trans hk2 (λ_ _ h=>h) (λ_ _ h=>h.elim));have HBK:=om p (c+mx) (mx-long) s bs w2 HS2.out (by omega) (by have:=HLEFT.out;omega);clear sx hk2 HSE;go_wp2_with fail;refine HBK.mono ?_;rintro e w3 ⟨rfl,Bb,hk3⟩;have HS3:Hid (St w3 p s bs (c+long)):=hid (by rw[show c+mx-(mx-long)=c+long by omega]at Bb;exact Bb);have HK3:Hid (Kept (·=p) w w3):=hid (HK2.out.trans hk3 (λ_ _ h=>h) (λ_ _ h=>h));clear Bb hk3 HBK;go_wp2_with fail;go_ret2;exact⟨⟨sym,long,er,rfl,by rw[HMIN.out,<-HR.out];exact HANS.out,HS3.out⟩,HK3.out⟩
 ·have HMIN:Hid (min left mx=left):=hid (by omega);go_wp2_with fail;go_quiet ((go_at_call 160;exact Calls.quiet_of (HL _)));have HT:=gC p c left s bs (w.drewN nq) (HS.out.drewN nq) (by omega) (by omega) (by have:=HLEFT.out;omega);obtain⟨R,hR⟩:∃R,R=aO bs / 2 ^ c % 2 ^ left:=⟨_,rfl⟩
  rw[<-hR]at HT;have HR:Hid (R=aO bs / 2 ^ c % 2 ^ left):=hR;have R1:R<4294967296:=by have h1:R<2 ^ left:=(by rw[hR];exact Nat.mod_lt _ (Nat.two_pow_pos _));have h2:2 ^ left<=2 ^ 15:=Nat.pow_le_pow_right (by omega) (by omega);have h3:(2:Nat) ^ 15=32768:=(by decide);omega
  clear hR;go_wp2_with fail;refine HT.mono ?_;rintro e w1 ⟨rfl,hst1,hk1⟩;have HS1:Hid (St w1 p s bs (c+left)):=hst1;have HK1:Hid (Kept (·=p) w w1):=hid (((Kept.refl (·=p) w).drewN nq).trans hk1 (λ_ _ h=>h) (λ_ _ h=>h));have HSE:=qL w1 d _ vs ns R left (HD.out.kept HK1.out (λk hk e=>HX.out k hk (.inl e))) (by have:=HMX.out;omega) hns (by have:=HMX.out;omega) R1;clear hst1 hk1 HT;go_wp2_with fail;refine HSE.mono ?_;rintro e w2 ⟨⟨sym,long,er,rfl,sx⟩,hk2⟩;have HANS:Hid (Ans ns left R sym long er):=sx;have yp:long<=left:=by
   rcases sx with⟨_,_,_,h,_⟩ | ⟨_,_,h,_⟩ | ⟨_,_,h,_⟩
   ·exact h
   ·omega
   ·omega
  have jE:((left:Int)-(long:Int))=((left-long:Nat):Int):=(by omega);have HS2:Hid (St w2 p s bs (c+left)):=hid (HS1.out.kept hk2 (λ_ _ h=>h));have HK2:Hid (Kept (·=p) w w2):=hid (HK1.out.trans hk2 (λ_ _ h=>h) (λ_ _ h=>h.elim));have HBK:=om p (c+left) (left-long) s bs w2 HS2.out (by omega) (by have:=HLEFT.out;omega);clear sx hk2 HSE;go_wp2_with fail;refine HBK.mono ?_;rintro e w3 ⟨rfl,Bb,hk3⟩;have HS3:Hid (St w3 p s bs (c+long)):=hid (by rw[show c+left-(left-long)=c+long by omega]at Bb;exact Bb);have HK3:Hid (Kept (·=p) w w3):=hid (HK2.out.trans hk3 (λ_ _ h=>h) (λ_ _ h=>h));clear Bb hk3 HBK;go_wp2_with fail;go_ret2;exact⟨⟨sym,long,er,rfl,by rw[HMIN.out,<-HR.out];exact HANS.out,HS3.out⟩,HK3.out⟩
theorem Eg(w:World)(rv':Value):Calls Tryz.prog 191 #[.pointer none,rv'] w λe w'=>e=.returned (.tuple #[.int .i64 0,.int .i64 3])/\w'=w:=by go_enter Tryz.func191,Tryz.ntmps191;go_wp2_with fail;go_ret2;exact⟨rfl,rfl⟩
end Go.Proofs.YtkhagfgineifhaaGreatDoor
