import Derived.Test.YtkhagfgineifhaaGreatDoorLnShape
import Derived.Test.YtkhagfgineifhaaGreatDoorLnRep
import Derived.Test.YtkhagfgineifhaaGreatDoorHNew
import Derived.Test.YtkhagfgineifhaaGreatDoorHDec2
import Derived.Test.YtkhagfgineifhaaGreatDoorReader
set_option maxHeartbeats 2000000
set_option maxRecDepth 100000
namespace Go.Proofs.YtkhagfgineifhaaGreatDoor
open Go.RowKit
def bV(ls:List Nat)(c:Nat):List Nat->List Nat
 | []=>[]
 | n::r=>aX ls c n::bV ls (c+n) r
theorem ym(ls:List Nat)(c:Nat)(ws:List Nat)(n:Nat):bV ls c (ws++[n])=bV ls c ws++[aX ls (c+ws.sum) n]:=by
 induction ws generalizing c with
 | nil=>simp[bV]
 | cons a r ih=>simp only[List.cons_append,bV,ih,List.sum_cons,Nat.add_assoc]
theorem lF(ls:List Nat)(c:Nat)(ws:List Nat):(bV ls c ws).length=ws.length:=by
 induction ws generalizing c with
 | nil=>rfl
 | cons a r ih=>simp[bV,ih]
theorem we(ws:List Nat)(i:Nat)(hi:i<ws.length):(ws.take i).sum+ws[i]<=ws.sum:=by
 have h:(ws.take (i+1)).sum+(ws.drop (i+1)).sum=ws.sum:=by rw[<-List.sum_append,List.take_append_drop]
 rw[List.take_succ_eq_append_getElem hi,List.sum_append]at h;simp at h;omega
theorem qW(bs:List Nat)(hb:∀b∈bs,b<256)(c n:Nat)(h:c+n<=8*bs.length):aO bs / 2 ^ c % 2 ^ n=aX (ae bs) c n:=(pC bs hb c n h).symm
def Of(w w':World)(p:Nat)(s:Value)(bs:List Nat)(c:Nat)(ws:List Nat)(e:Ending):Prop:=
 (c+ws.sum<=8*bs.length/\(∃v',e=.returned (.tuple #[v',.int .i64 0])/\NRow w.heap.size w' v' (bV (ae bs) c ws))/\St w' p s bs (c+ws.sum)) \/
 (8*bs.length<c+ws.sum/\e=.returned (.tuple #[.slice none 0 0,.int .i64 10])/\∃c',c<=c'/\c'<=8*bs.length/\St w' p s bs c')
theorem tE(w:World)(p c:Nat)(s:Value)(bs:List Nat)(v:Value)(I:Nat→Prop)(ws:List Nat)(hst:St w p s bs c)(hc:c≤8*bs.length)(ag:bs.length≤100000000)(hs:SrcE am w I v ws)(hI:∀k,I k→k≠p)(hws:∀n∈ws,n≤32)(Qa:ws.length≤1000):
  Calls Tryz.prog 204 #[.pointer (some ⟨p,0,none⟩),v] w λe w'=>Of w w' p s bs c ws e/\Kept (·=p) w w':=by
 obtain⟨ao,cap,rfl,ic,gh⟩:=id hs;clear ic gh;have HS:Hid (SrcE am w I (.slice ao ws.length cap) ws):=hs;have HST:Hid (St w p s bs c):=hst;have HP:Hid (∀k,Fp p s k->k<w.heap.size):=hid (λk h=>hst.fp_lt h);have HWS:Hid (∀n∈ws,n<=32):=hws;have HI:Hid (∀k,I k->k≠p):=hI;have HB:Hid (∀b∈bs,b<256):=hst.byte;clear hs hst hws hI;go_enter Tryz.func204,Tryz.ntmps204;go_wp2_with fail;go_loopg [6,8,9,10,13] ws.length (λq zo _ _ _ zi wr=>∃(i:Nat),ws.length-i<=q/\i<=ws.length/\zi=.int .i64 (i:Nat)/\Hid (c+(ws.take i).sum<=8*bs.length)/\Hid (NRow w.heap.size wr zo (bV (ae bs) c (ws.take i)))/\Hid (St wr p s bs (c+(ws.take i).sum))/\Hid (Kept (·=p) w wr))
 case atStart=>exact⟨0,by omega,by omega,rfl,hid (by simpa using hc),hid (by simpa[bV]using RowE.nil),hid (by simpa using HST.out),Kept.refl _ _⟩
 case round=>
  clear HST;obtain⟨i,hq,hi,rfl,HC,HV,HST,HK⟩:=hrel;have dA:=HK.out.size;by_cases hlt:i<ws.length
  ·obtain⟨b,o,cap',e,XU,_,cx⟩:=(HS.out.kept HK.out (λk h _=>HI.out k h)).get i hlt;simp only[Value.slice.injEq]at e;obtain⟨rfl,jC,rfl⟩:=e;clear jC XU;obtain⟨n,hn⟩:∃n,n=ws[i]:=⟨_,rfl⟩
   rw[<-hn]at cx;unfold am at cx;have MT:n<=32:=(by rw[hn];exact HWS.out _ (List.getElem_mem _));obtain⟨ci,NQ⟩:∃ci,ci=c+(ws.take i).sum:=⟨_,rfl⟩
   rw[<-NQ]at HC HST;have Sj:c<=ci:=(by omega);have HSUM:Hid (c+(ws.take (i+1)).sum=ci+n):=hid (by rw[List.take_succ_eq_append_getElem hlt,List.sum_append,NQ,hn];simp;omega);have HTOT:Hid (ci+n<=c+ws.sum):=hid (by have:=we ws i hlt;rw[NQ,hn];omega);have HNUM:Hid (bV (ae bs) c (ws.take (i+1))=bV (ae bs) c (ws.take i)++[aX (ae bs) ci n]):=hid (by rw[List.take_succ_eq_append_getElem hlt,ym,NQ,hn]);have rO:(bV (ae bs) c (ws.take i)).length<=1000:=(by rw[lF];simp;omega);clear hn NQ;by_cases cL:ci+n<=8*bs.length
   ·have HT:=gC p ci n s bs wr HST.out (by omega) MT cL;rw[qW bs HB.out ci n cL]at HT;obtain⟨x,hx⟩:∃x,x=aX (ae bs) ci n:=⟨_,rfl⟩
    have sq:x<2 ^ 32:=(by rw[hx];exact Nat.lt_of_lt_of_le (bY _ (ay bs) _ _) (Nat.pow_le_pow_right (by decide) MT));rw[<-hx]at HT HNUM;have LC:wrap64 (x:Int)=(x:Int):=(by unfold wrap64;omega);have HF:Hid (ci+n<=8*bs.length):=cL;clear hx cL;go_wp2_with fail;refine HT.mono ?_;rintro e w2 ⟨rfl,hs2,hk2⟩;have HST2:Hid (St w2 p s bs (ci+n)):=hs2;have HK2:Hid (Kept (·=p) w w2):=hid (Kept.trans HK.out hk2 (λ_ _ h=>h) (λ_ _ h=>h));have HV2:Hid (NRow w.heap.size w2 u6 (bV (ae bs) c (ws.take i))):=hid (HV.out.kept hk2 (λk e h=>by have h1:=HV.out.ge e;have h2:=HP.out p (.inl rfl);omega));have lr:=HK2.out.size;clear hs2 hk2 HT;go_wp2_with (at_builtin;refine aY _ am dK w.heap.size 143 3 (am 0) 8 Tryz.underlying143 Tryz.infoN rfl (by decide) rfl (.tmp 26) (.tmp 29) rfl u6 _ rfl (World.ownsRow.alloc HV2.out _) ⟨w2.heap.size,0,none⟩ 1 1 [x] rfl rfl (bA _ _ _) (by simp;omega) (by simp;omega) ?_;intro v5 w5 hr5 ef;have HV5:Hid (NRow w.heap.size w5 v5 (bV (ae bs) c (ws.take (i+1)))):=hid (by rw[HNUM.out];exact hr5);have HK5':Hid (Kept (λk=>u6.ownBlock=some k) w2 w5):=hid (((Kept.refl _ w2).alloc _).grown ef (λ_ e=>.inl e));have RL:Hid (St w5 p s bs (c+(ws.take (i+1)).sum)):=hid (by rw[HSUM.out];exact HST2.out.kept HK5'.out (λk h e=>by have h1:=HV2.out.ge e;have h2:=HP.out k h;omega));have HK5:Hid (Kept (·=p) w w5):=hid (Kept.trans HK2.out HK5'.out (λ_ _ h=>h) (λk hk e=>by have:=HV2.out.ge e;omega));clear hr5 ef);go_roundg (gk-1)
    case measure=>omega
    case rel=>exact⟨i+1,by omega,by omega,by go_num,hid (by rw[HSUM.out];exact HF.out),HV5,RL,HK5⟩
   ·have HT:=rC p ci n s bs wr HST.out HC.out (by omega) MT (by omega);have HE:Hid (8*bs.length<c+ws.sum):=hid (by have:=HTOT.out;omega);clear cL;go_wp2_with fail;refine HT.mono ?_;rintro e w2 ⟨rfl,m,hw2⟩;subst hw2;clear HT;go_wp2_with fail;go_ret2;exact⟨.inr ⟨HE.out,rfl,ci,Sj,HC.out,HST.out.drewN _⟩,HK.out.drewN _⟩
  ·have yr:i=ws.length:=(by omega);subst yr;have e1:ws.take ws.length=ws:=List.take_of_length_le (Nat.le_refl _);have HC2:Hid (c+ws.sum<=8*bs.length):=hid (by have h:=HC.out;rw[e1]at h;exact h);have HV2:Hid (NRow w.heap.size wr u6 (bV (ae bs) c ws)):=hid (by have h:=HV.out;rw[e1]at h;exact h);have HST2:Hid (St wr p s bs (c+ws.sum)):=hid (by have h:=HST.out;rw[e1]at h;exact h);clear HC HV HST e1;go_wp2_with fail;go_ret2;exact⟨.inl ⟨HC2.out,⟨_,rfl,HV2.out⟩,HST2.out⟩,HK.out⟩
theorem GH(bs:List Nat)(hb:∀b∈bs,b<256)(c:Nat)(hc:c<=8*bs.length):aO bs / 2 ^ c<2 ^ (8*bs.length-c):=by have h:=mL bs hb;rw[Kh]at h;refine(Nat.div_lt_iff_lt_mul (Nat.two_pow_pos c)).2 ?_;rw[<-Nat.pow_add,show 8*bs.length-c+c=8*bs.length by omega];exact h
theorem sL(w:World)(d:Nat)(vc vs:Value)(zs:List Int)(ns:List Nat)(p c:Nat)(s:Value)(bs:List Nat)(hg:Good zs ns)(hd:Dec w d vc vs ns)(hs:St w p s bs c)(hc:c≤8*bs.length)(ag:bs.length≤100000000)(oE:∀k,DF d vc vs k→¬Fp p s k):
  Calls Tryz.prog 191 #[.pointer (some ⟨d,0,none⟩),.pointer (some ⟨p,0,none⟩)] w λe w'=>e=.returned (.tuple #[.int .i64 ((aT ns ((ae bs).drop c)).1:Nat),.int .i64 ((aT ns ((ae bs).drop c)).2.2:Nat)])/\St w' p s bs (c+(aT ns ((ae bs).drop c)).2.1)/\c+(aT ns ((ae bs).drop c)).2.1<=8*bs.length/\Kept (·=p) w w':=by
 refine(Gk w d vc vs ns p c s bs hd (xU ns 15 hg.le) hg.max hs hc ag oE).mono ?_;rintro e w' ⟨⟨sym,long,er,rfl,sx,hst⟩,hk⟩;have hr:=jg ns ((ae bs).drop c);obtain⟨h1,h2,h3⟩:=Dy hg bs hs.byte c hc (GH bs hs.byte c hc) sx hr;rw[h1,h2,h3];refine⟨rfl,hst,?_,hk⟩;rcases sx with⟨_,_,_,h,_⟩ | ⟨_,_,h,_,_⟩ | ⟨_,_,h,_,_⟩
 ·omega
 ·omega
 ·omega
def L0(w':World)(p:Nat)(s:Value)(bs:List Nat)(c:Nat)(e:Ending):Except Nat ((Nat×Nat)×Nat)->Prop
 | .error er=>e=.returned (.tuple #[.agg #[.int .i64 0,.int .i64 0],.int .i64 (er:Nat)])/\er≠0/\∃c',c<=c'/\c'<=8*bs.length/\St w' p s bs c'
 | .ok (x,c')=>e=.returned (.tuple #[.agg #[.int .i64 (x.1:Nat),.int .i64 (x.2:Nat)],.int .i64 0])/\c'<=8*bs.length/\St w' p s bs c'
end Go.Proofs.YtkhagfgineifhaaGreatDoor
