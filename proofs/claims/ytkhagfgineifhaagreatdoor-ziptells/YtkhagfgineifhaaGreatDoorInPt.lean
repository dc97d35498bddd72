import Derived.Test.YtkhagfgineifhaaGreatDoorInPe
import Derived.Test.YtkhagfgineifhaaGreatDoorLnTk
set_option maxHeartbeats 2000000
namespace Go.Proofs.YtkhagfgineifhaaGreatDoor
open Go.RowKit
def NumA(w':World)(p:Nat)(s:Value)(bs:List Nat)(e:Ending):Except Nat (Nat×Nat)->Prop
 | .error er=>e=.returned (.tuple #[.int .i64 0,.int .i64 (er:Nat)])/\er≠0/\∃c',c'<=8*bs.length/\St w' p s bs c'
 | .ok (x,c')=>e=.returned (.tuple #[.int .i64 (x:Nat),.int .i64 0])/\c'<=8*bs.length/\St w' p s bs c'
theorem fj(w:World)(p c n:Nat)(s:Value)(bs:List Nat)(hs:St w p s bs c)(hc:c≤8*bs.length)(ag:bs.length≤100000000)(hn:n≤32):
  Calls Tryz.prog 165 #[.pointer (some ⟨p,0,none⟩),.int .i64 (n:Nat)] w λe w'=>NumA w' p s bs e (iF (ae bs) c n)/\Kept (·=p) w w':=by
 have HS:Hid (St w p s bs c):=hs;by_cases hf:c+n<=8*bs.length
 ·have HT:=gC p c n s bs w hs (by omega) hn hf;rw[qW bs hs.byte c n hf]at HT;have HE:Hid (iF (ae bs) c n=.ok (aX (ae bs) c n,c+n)):=hid (fo (by rw[aB];exact hf));obtain⟨x,hx⟩:∃x,x=aX (ae bs) c n:=⟨_,rfl⟩
  have sq:x<2 ^ 32:=(by rw[hx];exact Nat.lt_of_lt_of_le (bY _ (ay bs) _ _) (Nat.pow_le_pow_right (by decide) hn));rw[<-hx]at HT HE;have LC:wrap64 (x:Int)=(x:Int):=(by unfold wrap64;omega);have HF:Hid (c+n<=8*bs.length):=hf;clear hx hf hs hc;go_enter Tryz.func165,Tryz.ntmps165;go_wp2_with fail;refine HT.mono ?_;rintro e w2 ⟨rfl,hs2,hk2⟩;have HS2:Hid (St w2 p s bs (c+n)):=hs2;have HK2:Hid (Kept (·=p) w w2):=hk2;clear hs2 hk2 HT;go_wp2_with fail;go_ret2;rw[HE.out];exact⟨⟨rfl,HF.out,HS2.out⟩,HK2.out⟩
 ·have HT:=rC p c n s bs w hs hc (by omega) hn (by omega);have HE:Hid (iF (ae bs) c n=.error 55):=hid (Ki (by rw[aB];omega));have HC:Hid (c<=8*bs.length):=hc;clear hf hs hc;go_enter Tryz.func165,Tryz.ntmps165;go_wp2_with fail;refine HT.mono ?_;rintro e w2 ⟨rfl,m,hw2⟩;subst hw2;clear HT;go_wp2_with fail;go_ret2;rw[HE.out];exact⟨⟨rfl,by decide,c,HC.out,HS.out.drewN m⟩,(Kept.refl _ w).drewN m⟩
theorem NumA.err{w':World}{p:Nat}{s:Value}{bs:List Nat}{e:Ending}{er:Nat}(h:NumA w' p s bs e (.error er)):e=.returned (.tuple #[.int .i64 0,.int .i64 (er:Nat)])/\er≠0/\∃c',c'<=8*bs.length/\St w' p s bs c':=h
theorem NumA.ok{w':World}{p:Nat}{s:Value}{bs:List Nat}{e:Ending}{x c':Nat}(h:NumA w' p s bs e (.ok (x,c'))):e=.returned (.tuple #[.int .i64 (x:Nat),.int .i64 0])/\c'<=8*bs.length/\St w' p s bs c':=h
theorem xV(w:World)(rv':Value)(last:Nat):
  Calls Tryz.prog 169 #[rv',.pointer none,.int .i64 (last:Nat)] w λe w'=>e=.returned (.tuple #[.int .i64 0,.int .i64 53])/\w'=w:=by
 have HN:=Eg w rv';go_enter Tryz.func169,Tryz.ntmps169;go_wp2_with fail;refine HN.mono ?_;rintro e w2 ⟨rfl,hw2⟩;subst hw2;clear HN;go_wp2_with fail;go_ret2;exact⟨rfl,rfl⟩
theorem Lok.good{l:List Nat}(h:Lok l):Good (l.map (fun(n:Nat)=>(n:Int))) l:=
 ⟨by rw[List.map_map];rfl,by simp,h.pos,h.max,h.le,h.ok,rfl⟩
theorem qP(w:World)(d:Nat)(vc vs:Value)(ns:List Nat)(p c last:Nat)(s:Value)(bs:List Nat)(hg:Lok ns)(hd:Dec w d vc vs ns)(hs:St w p s bs c)(hc:c≤8*bs.length)(ag:bs.length≤100000000)(oE:∀k,DF d vc vs k→¬Fp p s k):
  Calls Tryz.prog 169 #[.pointer (some ⟨p,0,none⟩),.pointer (some ⟨d,0,none⟩),.int .i64 (last:Nat)] w λe w'=>NumA w' p s bs e (nZ ns (ae bs) c last)/\Kept (·=p) w w':=by
 have HN:=sL w d vc vs _ ns p c s bs hg.good hd hs hc ag oE;obtain⟨y,k,g,hn⟩:∃y k g,aT ns ((ae bs).drop c)=(y,k,g):=⟨_,_,_,rfl⟩
 rw[hn]at HN;simp only at HN;have h3:=lT ns ((ae bs).drop c);rw[hn]at h3;simp only at h3;clear hd hs oE;rcases h3 with rfl | rfl | rfl
 ·by_cases hl:last<y
  ·have HE:Hid (nZ ns (ae bs) c last=.error 53):=hid (BP hn hl);have Ck:decide (last<y)=true:=(by simp;omega);clear hn hl;go_enter Tryz.func169,Tryz.ntmps169;go_wp2_with fail;refine HN.mono ?_;rintro e w2 ⟨rfl,hst,cS,hk⟩;have HST:Hid (St w2 p s bs (c+k)):=hst;have HC2:Hid (c+k<=8*bs.length):=cS;have HK:Hid (Kept (·=p) w w2):=hk;clear HN hst cS hk;go_wp2_with fail;go_ret2;rw[HE.out];exact⟨⟨rfl,by decide,_,HC2.out,HST.out⟩,HK.out⟩
  ·have HE:Hid (nZ ns (ae bs) c last=.ok (y,c+k)):=hid (zL hn (by omega));have Ck:decide (last<y)=false:=(by simp;omega);clear hn hl;go_enter Tryz.func169,Tryz.ntmps169;go_wp2_with fail;refine HN.mono ?_;rintro e w2 ⟨rfl,hst,cS,hk⟩;have HST:Hid (St w2 p s bs (c+k)):=hst;have HC2:Hid (c+k<=8*bs.length):=cS;have HK:Hid (Kept (·=p) w w2):=hk;clear HN hst cS hk;go_wp2_with fail;go_ret2;rw[HE.out];exact⟨⟨rfl,HC2.out,HST.out⟩,HK.out⟩
 ·have HE:Hid (nZ ns (ae bs) c last=.error 55):=hid (DR (by rw[hn]));clear hn;go_enter Tryz.func169,Tryz.ntmps169;go_wp2_with fail;refine HN.mono ?_;rintro e w2 ⟨rfl,hst,cS,hk⟩;have HST:Hid (St w2 p s bs (c+k)):=hst;have HC2:Hid (c+k<=8*bs.length):=cS;have HK:Hid (Kept (·=p) w w2):=hk;clear HN hst cS hk;go_wp2_with fail;go_ret2;rw[HE.out];exact⟨⟨rfl,by decide,_,HC2.out,HST.out⟩,HK.out⟩
 ·have HE:Hid (nZ ns (ae bs) c last=.error 53):=hid (vW (by rw[hn]));clear hn;go_enter Tryz.func169,Tryz.ntmps169;go_wp2_with fail;refine HN.mono ?_;rintro e w2 ⟨rfl,hst,cS,hk⟩;have HST:Hid (St w2 p s bs (c+k)):=hst;have HC2:Hid (c+k<=8*bs.length):=cS;have HK:Hid (Kept (·=p) w w2):=hk;clear HN hst cS hk;go_wp2_with fail;go_ret2;rw[HE.out];exact⟨⟨rfl,by decide,_,HC2.out,HST.out⟩,HK.out⟩
theorem Fx:∀n x:Nat,x<2 ^ n->x ^^^ (2 ^ n-1)=2 ^ n-1-x:=by
 intro n x hx;refine Nat.eq_of_testBit_eq (λi=>?_);rw[Nat.testBit_xor,Nat.testBit_two_pow_sub_one,Nat.sub_sub,Nat.add_comm 1 x,Nat.testBit_two_pow_sub_succ hx];by_cases h:i<n
 ·simp[h]
 ·have:x.testBit i=false:=Nat.testBit_lt_two_pow (Nat.lt_of_lt_of_le hx (Nat.pow_le_pow_right (by decide) (by omega)));simp[h,this]
theorem Kc(x:Nat)(hx:x<65536):bits .xor .i64 (x:Int) 65535=((65535-x:Nat):Int):=by
 have h1:(BitVec.ofInt 64 (x:Int)).toNat=x:=by rw[BitVec.ofInt_natCast,BitVec.toNat_ofNat];exact Nat.mod_eq_of_lt (by omega)
 have h2:(BitVec.ofInt 64 (65535:Int)).toNat=65535:=by decide
 show IntKind.i64.wrap ((BitVec.ofInt 64 (x:Int) ^^^ BitVec.ofInt 64 (65535:Int)).toNat:Int)=_;have h3:=Fx 16 x hx;have h4:(2:Nat) ^ 16-1=65535:=by decide
 rw[h4]at h3;rw[BitVec.toNat_xor,h1,h2,h3,IntKind.wrap_i64];omega
theorem Kx(bs:List Nat)(c:Nat)(hc:c<=8*bs.length):(c+7) / 8*8<=8*bs.length:=by omega
theorem y4(w:World)(p c:Nat)(s:Value)(bs:List Nat)(hs:St w p s bs c)(hc:c≤8*bs.length)(ag:bs.length≤100000000):
  Calls Tryz.prog 166 #[.pointer (some ⟨p,0,none⟩)] w λe w'=>NumA w' p s bs e (mZ (ae bs) c)/\Kept (·=p) w w':=by
 have HA:=mf p c s bs w hs (by omega);have PY:=Kx bs c hc;obtain⟨a,ha⟩:∃a,a=(c+7) / 8*8:=⟨_,rfl⟩
 have HEQ:Hid (mZ (ae bs) c=aU (iF (ae bs) a 16) (λn c1=>aU (iF (ae bs) c1 16) (λt c2=>if n+t=65535 then .ok (n,c2)else .error 51))):=hid (by rw[ha];rfl);rw[<-ha]at HA PY;have HLEN:Hid (bs.length<=100000000):=ag;have HCA:Hid (a<=8*bs.length):=PY;clear hs ha hc ag PY;go_enter Tryz.func166,Tryz.ntmps166;go_wp2_with fail;refine HA.mono ?_;rintro e w1 ⟨rfl,hs1,hk1⟩;have HK1:Hid (Kept (·=p) w w1):=hk1;have HT:=fj w1 p a 16 s bs hs1 HCA.out HLEN.out (by decide);clear HA hk1 hs1;cases ht:iF (ae bs) a 16 with
 | error er=>
  rw[ht]at HT;have HE:Hid (mZ (ae bs) c=.error er):=hid (by rw[HEQ.out,bO ht]);clear ht HEQ;go_wp2_with fail;refine HT.mono ?_;rintro e w2 ⟨hn2,hk2⟩;obtain⟨rfl,cE,hst⟩:=hn2.err;have lL:((er:Int) != 0)=true:=(by simp;omega);have HST:Hid (∃c',c'<=8*bs.length/\St w2 p s bs c'):=hst;have HK2:Hid (Kept (·=p) w w2):=hid (HK1.out.trans hk2 (λ_ _ h=>h) (λ_ _ h=>h));have HER2:Hid (er≠0):=cE;clear hn2 hst hk2 HT cE;go_wp2_with fail;go_ret2;rw[HE.out];exact⟨⟨rfl,HER2.out,HST.out⟩,HK2.out⟩
 | ok x=>
  obtain⟨x,c2⟩:=x;rw[ht]at HT;have HE1:Hid (mZ (ae bs) c=aU (iF (ae bs) c2 16) (λt c2=>if x+t=65535 then .ok (x,c2)else .error 51)):=hid (by rw[HEQ.out,aF ht]);have R3:x<65536:=by rw[(d7 ht).1];exact bY _ (ay bs) _ _
  clear ht HEQ;go_wp2_with fail;refine HT.mono ?_;rintro e w2 ⟨hn2,hk2⟩;obtain⟨rfl,cS,hst⟩:=hn2.ok;have HT2:=fj w2 p c2 16 s bs hst cS HLEN.out (by decide);have HK2:Hid (Kept (·=p) w w2):=hid (HK1.out.trans hk2 (λ_ _ h=>h) (λ_ _ h=>h));clear hn2 hst hk2 HT cS;cases ht:iF (ae bs) c2 16 with
  | error er=>
   rw[ht]at HT2;have HE:Hid (mZ (ae bs) c=.error er):=hid (by rw[HE1.out,bO ht]);clear ht;go_wp2_with fail;refine HT2.mono ?_;rintro e w3 ⟨hn2,hk2⟩;obtain⟨rfl,cE,hst⟩:=hn2.err;have lL:((er:Int) != 0)=true:=(by simp;omega);have HST:Hid (∃c',c'<=8*bs.length/\St w3 p s bs c'):=hst;have HK3:Hid (Kept (·=p) w w3):=hid (HK2.out.trans hk2 (λ_ _ h=>h) (λ_ _ h=>h));have HER2:Hid (er≠0):=cE;clear hn2 hst hk2 HT2 cE;go_wp2_with fail;go_ret2;rw[HE.out];exact⟨⟨rfl,HER2.out,HST.out⟩,HK3.out⟩
  | ok t=>
   obtain⟨t,c3⟩:=t;rw[ht]at HT2;have HE:Hid (mZ (ae bs) c=if x+t=65535 then .ok (x,c3)else .error 51):=hid (by rw[HE1.out,aF ht]);have V3:t<65536:=by rw[(d7 ht).1];exact bY _ (ay bs) _ _
   clear ht HE1;go_wp2_with fail;refine HT2.mono ?_;rintro e w3 ⟨hn2,hk2⟩;obtain⟨rfl,ve,hst⟩:=hn2.ok;have HST:Hid (St w3 p s bs c3):=hst;have HC3:Hid (c3<=8*bs.length):=ve;have HK3:Hid (Kept (·=p) w w3):=hid (HK2.out.trans hk2 (λ_ _ h=>h) (λ_ _ h=>h));clear hn2 hst hk2 HT2 ve;have Nm:bits .xor .i64 (x:Int) 65535=((65535-x:Nat):Int):=Kc x R3;obtain⟨y,hy⟩:∃y,y=65535-x:=⟨_,rfl⟩
   rw[<-hy]at Nm;by_cases heq:t=y
   ·have XR:((t:Int) != (y:Int))=false:=(by simp[heq]);have HE2:Hid (mZ (ae bs) c=.ok (x,c3)):=hid (by rw[HE.out,if_pos (by omega)]);clear heq HE hy;go_wp2_with fail;go_ret2;rw[HE2.out];exact⟨⟨rfl,HC3.out,HST.out⟩,HK3.out⟩
   ·have XR:((t:Int) != (y:Int))=true:=(by simp;omega);have HE2:Hid (mZ (ae bs) c=.error 51):=hid (by rw[HE.out,if_neg (by omega)]);clear heq HE hy;go_wp2_with fail;go_ret2;rw[HE2.out];exact⟨⟨rfl,by decide,_,HC3.out,HST.out⟩,HK3.out⟩
end Go.Proofs.YtkhagfgineifhaaGreatDoor
