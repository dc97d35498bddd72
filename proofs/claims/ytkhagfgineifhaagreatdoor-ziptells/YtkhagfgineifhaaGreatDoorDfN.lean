import Derived.Test.YtkhagfgineifhaaGreatDoorDfM
namespace Go.Proofs.YtkhagfgineifhaaGreatDoor
theorem pR{M most:Nat}{ts:List TK}{s n:Nat}(h:ce M ts s=.ok n)(hs:s<=M)(hn:n<=most):ce most ts s=.ok n:=by
 induction ts generalizing s with
 | nil=>exact h
 | cons t r ih=>
  unfold ce at h ⊢;split at h
  ·cases h
  ·rename_i h1;rw[if_neg h1];split at h
   ·cases h
   ·rename_i h2;have:=Fq h (by omega);rw[if_neg (by omega)];exact ih h (by omega)
theorem jB{M:Nat}{ts:List TK}{s n:Nat}(h:ce M ts s=.ok n)(hs:s<=M):∀t∈ts,∃said,said<=M/\pe t said=true:=by
 induction ts generalizing s with
 | nil=>intro t ht;simp at ht
 | cons x r ih=>
  unfold ce at h;split at h
  ·cases h
  ·rename_i h1;split at h
   ·cases h
   ·rename_i h2;intro t ht;rcases List.mem_cons.1 ht with rfl | ht
    ·exact⟨s,hs,by simpa using h1⟩
    ·exact ih h (by omega) t ht
theorem pE{t:TK}{said:Nat}(h:pe t said=true)(hs:said≤16384)(hl:t.lit<256):
  (aJ t).sym<=285/\(aJ t).extra<2 ^ (aJ t).width/\(aJ t).width<=5/\(t.len=0->(aJ t).sym=t.lit/\(aJ t).extra=0/\(aJ t).width=0)/\(t.len≠0->257<=(aJ t).sym/\(aH t).sym<=29/\(aH t).extra<2 ^ (aH t).width/\(aH t).width<=13):=by
 rcases fa h with⟨h0,_,h1⟩ | ⟨n,d,h0,IV,_,h3,h4,h5,h6,h1⟩
 ·have sB:aJ t=⟨t.lit,0,0⟩:=(by unfold aJ;rw[if_pos h0]);rw[sB];exact⟨by simp only;omega,by simp,by simp,λ_=>⟨rfl,rfl,rfl⟩,λh9=>absurd h0 h9⟩
 ·have nG:t.len≠0:=(by omega);have hd:(aH t).sym<=29/\(aH t).extra<2 ^ (aH t).width/\(aH t).width<=13:=by
   have Tc:aH t=⟨eD (d-1) 2,ec (d-1) 2,bW (d-1) 2⟩:=(by unfold aH;rw[IV];simp);rw[Tc];have:=gH (d-1) 2 12 (by omega) (by decide);have hb:=(fZ (d-1) 14).2 (by omega);exact⟨by simp only;omega,BC _ _,by simp only[bW];omega⟩
  refine⟨?_,?_,?_,λh9=>absurd h9 nG,λ_=>⟨?_,hd⟩⟩
  all_goals
   by_cases h258:n=258
   ·have sB:aJ t=⟨285,0,0⟩:=(by unfold aJ;rw[if_neg nG,if_pos (by omega)]);rw[sB];simp
   ·have sB:aJ t=⟨257+eD (n-3) 3,ec (n-3) 3,bW (n-3) 3⟩:=(by unfold aJ;rw[if_neg nG,if_neg (by omega),h0];simp);rw[sB];have:=gH (n-3) 3 5 (by omega) (by decide);have hb:=(fZ (n-3) 8).2 (by omega);have hx:=BC (n-3) 3;simp only[bW]at hx ⊢
    first
     | exact hx
     | omega
theorem Gm:(List.range 288).all (λs=>decide (key fixL s≠0))=true:=by decide +kernel
theorem Dq:(List.range 32).all (λs=>decide (key fixD s≠0))=true:=by decide +kernel
theorem qF:fixL.length=288/\fixD.length=32:=by decide +kernel
theorem rx{ts:List TK}{n:Nat}(h:ce 16384 ts 0=.ok n)(hb:∀t∈ts,t.lit<256):oa fixL fixD ts:=by
 have hk:∀s,s<288->key fixL s≠0:=λs hs=>by simpa using List.all_eq_true.1 Gm s (List.mem_range.2 hs)
 have Vl:∀s,s<32->key fixD s≠0:=λs hs=>by simpa using List.all_eq_true.1 Dq s (List.mem_range.2 hs)
 refine⟨λt ht=>?_,⟨by rw[qF.1];decide,hk 256 (by decide)⟩,hb⟩;obtain⟨said,h1,h2⟩:=jB h (by decide) t ht;have h3:=pE h2 h1 (hb t ht);refine⟨by rw[qF.1];omega,hk _ (by omega),λh9=>?_⟩;have h4:=h3.2.2.2.2 h9;exact⟨by rw[qF.2];omega,Vl _ (by omega)⟩
structure mz(bs X:List Nat):Prop where
 pad:∃k,ae bs=X++List.replicate k 0
 len:bs.length=(X.length+7) / 8
theorem og(k:Nat):∀b∈List.replicate k 0,b<2:=λb hb=>by have:=List.eq_of_mem_replicate hb;omega
def dG(ts:List TK):List Nat:=[1,1,0]++(ts.flatMap (aw fixL fixD)++aE fixL 256)
theorem wU{ts:List TK}{n most:Nat}(h:ce 16384 ts 0=.ok n)(hb:∀t∈ts,t.lit<256)(hn:n<=most)(hm:most<=16384){bs:List Nat}(hp:mz bs (dG ts)):∃t,Ends (ae bs) most ps0 t 0/\t.out=xT ts []/\(t.c+7) / 8=bs.length:=by
 obtain⟨k,hk⟩:=hp.pad;have h9:=x9 fix_ok (List.replicate k 0) (og k) most hm ts (rx h hb) [1,1,0] [] n (pR h (by decide) hn) (Nat.zero_le _);have e:ae bs=[1,1,0]++(ts.flatMap (aw fixL fixD)++(aE fixL 256++List.replicate k 0)):=by rw[hk];unfold dG;simp[List.append_assoc]
 rw[<-e]at h9;refine⟨_,.step (dI (s:=ps0) (b:=.sym true fixL fixD) (c:=3) rfl ?_) h9,rfl,?_⟩
 ·rw[e];have h1:∀r:List Nat,iF (1::1::0::r) 0 1=.ok (1,1):=λr=>by rw[fo (by simp)];rfl
  have h2:∀r:List Nat,iF (1::1::0::r) 1 2=.ok (1,3):=λr=>by rw[fo (by simp)];rfl
  show eJ (1::1::0::_) 0=_;unfold eJ;rw[aF (h1 _),aF (h2 _)];rfl
 ·rw[hp.len];unfold dG;simp only[List.length_append,aq,List.length_cons,List.length_nil];congr 1
def kW(lit dist:List Nat)(many:Nat)(cs:List Nat)(sn:List (Nat×Nat))(ts:List TK):List Nat:=[1,0,1]++(bB lit.length dist.length many cs sn++(ts.flatMap (aw lit dist)++aE lit 256))
theorem EA{lit dist:List Nat}{many:Nat}{cs:List Nat}{sn:List (Nat×Nat)}(ho:OkL lit dist)(hh:l6 lit dist many cs sn){ts:List TK}{n most:Nat}(hk:oa lit dist ts)(h:ce 16384 ts 0=.ok n)(hn:n≤most)(hm:most≤16384){bs:List Nat}(hp:mz bs (kW lit dist many cs sn ts)):
  ∃t,Ends (ae bs) most ps0 t 0/\t.out=xT ts []/\(t.c+7) / 8=bs.length:=by
 obtain⟨k,hkk⟩:=hp.pad;obtain⟨H,hH⟩:∃H,bB lit.length dist.length many cs sn=H:=⟨_,rfl⟩
 have h9:=x9 ho (List.replicate k 0) (og k) most hm ts hk ([1,0,1]++H) [] n (pR h (by decide) hn) (Nat.zero_le _);have e:ae bs=[1,0,1]++(H++(ts.flatMap (aw lit dist)++(aE lit 256++List.replicate k 0))):=by rw[hkk];unfold kW;rw[hH];simp[List.append_assoc]
 have e2:ae bs=([1,0,1]++H)++(ts.flatMap (aw lit dist)++(aE lit 256++List.replicate k 0)):=by rw[e];simp
 rw[<-e2]at h9;have hrd:=yX hh [1,0,1] (ts.flatMap (aw lit dist)++(aE lit 256++List.replicate k 0)) (λb hb=>by
  rcases List.mem_append.1 hb with h | h
  ·exact mA _ _ _ b h
  ·rcases List.mem_append.1 h with h | h
   ·exact cX _ _ b h
   ·exact og k b h)
 rw[hH,<-e]at hrd;have Cl:ep (ae bs) 3=.ok ((lit,dist),H.length):=by
  unfold ep;rw[show(3:Nat)=([1,0,1]:List Nat).length from rfl,hrd];simp only;rw[if_neg];intro hc;rcases hc with hc | hc | hc
  ·exact hk.end'.2 hc
  ·exact hc ho.lit.ok
  ·exact hc.2 (ho.dist hc.1).ok
 have Ja:([1,0,1]++H:List Nat).length=3+H.length:=by simp;omega
 rw[Ja]at h9;refine⟨_,.step (dI (s:=ps0) (b:=.sym true lit dist) (c:=3+H.length) rfl ?_) h9,rfl,?_⟩
 ·have h1:iF (ae bs) 0 1=.ok (1,1):=(by rw[e,fo (by simp)];rfl);have h2:iF (ae bs) 1 2=.ok (2,3):=(by rw[e,fo (by simp)];rfl);show eJ (ae bs) 0=_;unfold eJ;rw[aF h1,aF h2];unfold iW;rw[if_neg (by decide),if_neg (by decide),if_pos rfl];unfold o7;rw[Cl];rfl
 ·rw[hp.len];unfold kW;rw[hH];simp only[List.length_append,aq,List.length_cons,List.length_nil];congr 1;omega
def bE(data:List Nat):List Nat:=[1,data.length % 256,data.length / 256,255-data.length % 256,255-data.length / 256]++data
theorem Dj(most:Nat)(data:List Nat)(hb:∀b∈data,b<256)(A out:List Nat)(h:out.length+data.length≤most):
  Ends (A++ae data) most ⟨A.length,out,some (.raw true data.length)⟩ ⟨A.length+8*data.length,out++data,some (.raw true 0)⟩ 0:=by
 induction data generalizing A out with
 | nil=>
  refine .done ?_;show jQ (A++ae []) most ⟨A.length,out,some (.raw true 0)⟩=_;rw[cj (s:=⟨A.length,out,some (.raw true 0)⟩) (x:=((.fin,.raw true 0),A.length)) rfl rfl,jy];simp[Bk.last]
 | cons x r ih=>
  have hx:=hb x (by simp);have e0:ae (x::r)=aj x 8++ae r:=(by simp[ae]);have MN:aX (A++(aj x 8++ae r)) A.length 8=x:=ed A (ae r) x 8 (by omega);have hst:bF (A++(aj x 8++ae r)) (.raw true (r.length+1)) A.length=.ok ((.byte x,.raw true r.length),A.length+8):=(by rw[ej,fo (by rw[List.length_append,List.length_append,af];omega),MN];rfl);have h9:=ih (λb jD=>hb b (by simp[jD])) (A++aj x 8) (out++[x]) (by simp at h ⊢;omega);rw[List.append_assoc,List.length_append,af]at h9;rw[e0,List.length_cons];refine .step (s':=⟨A.length+8,out++[x],some (.raw true r.length)⟩) ?_ ?_
  ·rw[cj (s:=⟨A.length,out,some (.raw true (r.length+1))⟩) rfl hst];exact kj (by intro h;cases h) (by simp only[dB];rw[if_neg (by simp at h;omega)])
  ·rw[show A.length+8*(r.length+1)=A.length+8+8*r.length by omega];rw[List.append_assoc]at h9;exact h9
theorem uc{data:List Nat}(hb:∀b∈data,b<256){most:Nat}(hl:data.length<=most)(hm:most<=16384):∃t,Ends (ae (bE data)) most ps0 t 0/\t.out=data/\(t.c+7) / 8=(bE data).length:=by
 obtain⟨n,hn⟩:∃n,data.length=n:=⟨_,rfl⟩
 obtain⟨P,hP⟩:∃P,P=aj 1 8++(aj (n % 256) 8++(aj (n / 256) 8++(aj (255-n % 256) 8++aj (255-n / 256) 8))):=⟨_,rfl⟩
 have e:ae (bE data)=P++ae data:=by unfold bE;rw[ks,hn,hP];simp[ae,List.append_assoc]
 have RP:P.length=40:=by rw[hP];simp[af]
 have h9:=Dj most data hb P [] (by simpa using hl);rw[<-e,RP,hn]at h9;have yw:40<=(ae (bE data)).length:=by rw[e,List.length_append,RP];omega
 have PF:∀(A B:List Nat) (x y:Nat),x<256->y<256->aX (A++(aj x 8++(aj y 8++B))) A.length 16=x+256*y:=λA B x y hx hy=>by unfold aX;rw[List.drop_left,<-List.append_assoc (aj x 8),List.take_append_of_le_length (by simp[af]),List.take_of_length_le (by simp[af]),dw,eh,eh,af,Nat.mod_eq_of_lt (by omega),Nat.mod_eq_of_lt (by omega)]
 have KT:n<=16384:=by omega
 have t1:iF (ae (bE data)) 0 1=.ok (1,1):=by rw[fo (by omega),e,hP];rfl
 have t2:iF (ae (bE data)) 1 2=.ok (0,3):=by rw[fo (by omega),e,hP];rfl
 have t3:iF (ae (bE data)) 8 16=.ok (n,24):=by rw[fo (by omega),e,hP];have:=PF (aj 1 8) (aj (255-n % 256) 8++aj (255-n / 256) 8++ae data) (n % 256) (n / 256) (by omega) (by omega);rw[af]at this;rw[show n % 256+256*(n / 256)=n by omega]at this;simp only[List.append_assoc]at this ⊢;rw[this]
 have t4:iF (ae (bE data)) 24 16=.ok (65535-n,40):=by rw[fo (by omega),e,hP];have:=PF (aj 1 8++(aj (n % 256) 8++aj (n / 256) 8)) (ae data) (255-n % 256) (255-n / 256) (by omega) (by omega);simp only[List.length_append,af]at this;rw[show 255-n % 256+256*(255-n / 256)=65535-n by omega]at this;simp only[List.append_assoc]at this ⊢;rw[this]
 refine⟨_,.step (dI (s:=ps0) (b:=.raw true n) (c:=40) rfl ?_) h9,rfl,?_⟩
 ·show eJ (ae (bE data)) 0=_;unfold eJ;rw[aF t1,aF t2];unfold iW;rw[if_pos rfl];unfold mZ;rw[show(3+7) / 8*8=8 from rfl,aF t3,aF t4,if_pos (by omega)];rfl
 ·simp only[bE,List.length_append,List.length_cons,List.length_nil];omega
end Go.Proofs.YtkhagfgineifhaaGreatDoor
