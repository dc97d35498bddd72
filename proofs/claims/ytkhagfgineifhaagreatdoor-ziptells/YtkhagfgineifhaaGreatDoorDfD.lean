import Derived.Test.YtkhagfgineifhaaGreatDoorDfC
import Derived.Test.YtkhagfgineifhaaGreatDoorFresh
set_option maxHeartbeats 1000000
set_option maxRecDepth 100000
namespace Go.Proofs.YtkhagfgineifhaaGreatDoor
open Go.RowKit
theorem GD(bs X:List Nat)(hb:∀b∈bs,b<256)(hX:∀b∈X,b<2)(hn:aO bs=n2 X)(hl:bs.length=(X.length+7) / 8):mz bs X:=by
 refine⟨⟨8*bs.length-X.length,?_⟩,hl⟩;refine qR _ _ (by rw[aB,List.length_append,List.length_replicate];omega) (ay bs) (λx hx=>?_) ?_
 ·rcases List.mem_append.1 hx with h | h
  ·exact hX x h
  ·have:=List.eq_of_mem_replicate h;omega
 ·rw[qf bs hb,qI,hn]
structure NB(wb w:World)(v:Value)(bs:List Nat):Prop where
 row:Row w v bs
 byte:∀b∈bs,b<256
 same:Same wb w
 new:∀k,v.ownBlock=some k->wb.heap.size<=k
theorem NW.bytes(wb w:World)(p:Nat)(s:Value)(X:List Nat)(h:NW wb w p s X)(hc:X.length≤1000000000):
  Calls Tryz.prog 90 #[.pointer (some ⟨p,0,none⟩)] w λe w'=>∃v bs,e=.returned v/\NB wb w' v bs/\aO bs=n2 X/\bs.length=(X.length+7) / 8:=by
 refine(y6 p _ _ s w h.wr (by omega)).mono ?_;rintro e w' ⟨g,bs,rfl,hr,hb,hn,hl,hk,hg⟩;exact⟨_,bs,rfl,⟨hr,hb,Same.trans h.same hk,λk e=>by
  have e1:g=k:=(by simpa[Value.ownBlock]using e);have:=h.same.size;omega⟩,hn,hl⟩
theorem NW.align(wb w:World)(p:Nat)(s:Value)(X:List Nat)(h:NW wb w p s X)(hc:X.length≤1000000000):
  Calls Tryz.prog 88 #[.pointer (some ⟨p,0,none⟩)] w λe w'=>e=.returned (.int .i64 0)/\NW wb w' p s (X++List.replicate ((X.length+7) / 8*8-X.length) 0):=by
 refine(zq p _ _ s w h.wr (by omega)).mono ?_;rintro e w' ⟨rfl,hw,hk⟩;refine⟨rfl,?_,λb hb=>?_,Same.then h.same hk (λk hk9 f=>by have:=h.own k f;omega),h.own⟩
 ·rw[qI,List.length_append,List.length_replicate,show X.length+((X.length+7) / 8*8-X.length)=(X.length+7) / 8*8 by omega];exact hw
 ·rcases List.mem_append.1 hb with h9 | h9
  ·exact h.bit b h9
  ·have:=List.eq_of_mem_replicate h9;omega
theorem Om(x:Nat)(hx:x<65536):bits BinOp.xor IntKind.u32 (x:Int) 65535=((65535-x:Nat):Int):=by
 have e:=u32_xor_nat x 65535 (by omega) (by decide);have h4:(2:Nat) ^ 16-1=65535:=by decide
 have h5:=BitVec.toNat_not (x:=BitVec.ofNat 16 x);have h6:(BitVec.ofNat 16 x ^^^ BitVec.allOnes 16).toNat=x ^^^ 65535:=by rw[BitVec.toNat_xor,BitVec.toNat_ofNat,BitVec.toNat_allOnes,Nat.mod_eq_of_lt (by omega)]
 have h7:x ^^^ 65535=65535-x:=by rw[<-h6,BitVec.xor_allOnes,h5,BitVec.toNat_ofNat,Nat.mod_eq_of_lt (by omega)]
 rw[show(65535:Int)=((65535:Nat):Int)from rfl,e,h7]
theorem xA{bs:List Nat}{n:Nat}(hb:∀b∈bs,b<256)(KT:n<=16384)(hn:aO bs=n2 ([1]++aj 0 2++List.replicate 5 0++aj n 16++aj (65535-n) 16))(hl:bs.length=5):bs=[1,n % 256,n / 256,255-n % 256,255-n / 256]:=by
 refine Hp _ _ (by rw[hl];rfl) hb (λx hx=>?_) ?_
 ·simp at hx;omega
 ·rw[hn,dw,dw,eh,eh,Nat.mod_eq_of_lt (by omega),Nat.mod_eq_of_lt (by omega)];simp only[List.length_append,List.length_replicate,af,List.length_cons,List.length_nil];have e1:n2 ([1]++aj 0 2++List.replicate 5 0)=1:=(by decide);rw[e1];simp only[aO];omega
theorem Ae(w:World)(v:Value)(I:Nat→Prop)(data:List Nat)(hs:Src w I v data)(hb:∀b∈data,b<256)(fB:∀n c,v=.slice none n c→n=0∧c=0)(ag:data.length≤16384):
  Calls Tryz.prog 60 #[v] w λe w'=>∃v',e=.returned v'/\NB w w' v' (bE data):=by
 obtain⟨av,cv,A1,_⟩:=id hs;obtain⟨n,hn⟩:∃n,data.length=n:=⟨_,rfl⟩
 rw[hn]at A1 ag;subst A1;have HS:Hid (Src w I (.slice av n cv) data):=hs;have HB:Hid (∀b∈data,b<256):=hb;have HN:Hid (∀n' c,Value.slice av n cv=.slice none n' c->n'=0/\c=0):=fB;have HL:Hid (data.length=n):=hn;have H0:=oe w 0 (by decide);have hnw:IntKind.u32.wrap (n:Int)=(n:Int):=by rw[IntKind.wrap_u32'];omega
 have Nm:=Om n (by omega);obtain⟨m,hm⟩:∃m,65535-n=m:=⟨_,rfl⟩
 rw[hm]at Nm;have HM:Hid (65535-n=m):=hm;clear hs hb fB hn hm;go_enter Tryz.func60,Tryz.ntmps60;go_wp2_with fail;refine H0.mono ?_;rintro e w1 ⟨p,s,rfl,hw1⟩;have H1:=hw1.align w w1 p s _ (by simp[aj]);clear hw1 H0;go_wp2_with fail;refine H1.mono ?_;rintro e w2 ⟨rfl,hw2⟩;have hw2:NW w w2 p s ([1]++aj 0 2++List.replicate 5 0):=hw2;have H2:=hw2.put w w2 p s _ n 16 (by decide) (by omega) (by simp[aj]);clear hw2 H1;go_wp2_with fail;refine H2.mono ?_;rintro e w3 ⟨rfl,_,_,s3,hw3⟩;have H3:=hw3.put w w3 p s3 _ m 16 (by decide) (by have:=HM.out;omega) (by simp[af]);clear hw3 H2;go_wp2_with fail;refine H3.mono ?_;rintro e w4 ⟨rfl,_,_,s4,hw4⟩;have H4:=hw4.bytes w w4 p s4 _ (by simp[af]);clear hw4 H3;go_wp2_with fail;refine H4.mono ?_;rintro e w5 ⟨v5,bs,rfl,hnb,hn5,IP⟩;have Qr:bs=[1,n % 256,n / 256,255-n % 256,255-n / 256]:=xA hnb.byte ag (by rw[HM.out];exact hn5) (by rw[IP];simp[af]);rw[Qr]at hnb;have HNB:Hid (NB w w5 v5 [1,n % 256,n / 256,255-n % 256,255-n / 256]):=hnb;have HR5:Hid (Row w5 v5 [1,n % 256,n / 256,255-n % 256,255-n / 256]):=hid hnb.row;have HS5:Hid (Src w5 I (.slice av n cv) data):=hid (HS.out.kept hnb.same (λ_ _ _ f=>f));have HLB:Hid (([1,n % 256,n / 256,255-n % 256,255-n / 256]:List Nat).length+data.length<=1000000000000):=hid (by rw[HL.out];simp;omega);obtain⟨a5,c5,gt,_⟩:=hnb.row.shape;simp only[List.length_cons,List.length_nil]at gt;subst gt;clear hnb hn5 IP Qr H4 Nm hnw;go_wp2_with (at_builtin;refine bi _ rfl (.tmp 19) (.tmp 20) rfl _ [1,n % 256,n / 256,255-n % 256,255-n / 256] rfl HR5.out I (.slice av n cv) data rfl HN.out HS5.out HLB.out ?_);intro v6 w6 hr6 LO PJ;have OQ:Kept (λk=>(Value.slice a5 (0+1+1+1+1+1) c5).ownBlock=some k) w5 w6:=(Kept.refl _ w5).grown LO (λk e=>.inl e);have HF:Hid (NB w w6 v6 (bE data)):=hid ⟨by unfold bE;rw[HL.out];exact hr6,λb hb=>by
  unfold bE at hb;rw[HL.out]at hb;rcases List.mem_append.1 hb with h | h
  ·exact HNB.out.byte b h
  ·exact HB.out b h,Same.then HNB.out.same OQ (λk hk e=>by have:=HNB.out.new k e;omega),λk e=>by
   rcases PJ with h | h
   ·rw[h]at e;exact HNB.out.new k e
   ·rw[h]at e;injection e with e;have:=HNB.out.same.size;omega⟩
 obtain⟨a6,c6,rI,_⟩:=hr6.shape;clear hr6 LO PJ OQ;go_wp2_with fail;go_ret;exact⟨_,rfl,HF.out⟩
end Go.Proofs.YtkhagfgineifhaaGreatDoor
