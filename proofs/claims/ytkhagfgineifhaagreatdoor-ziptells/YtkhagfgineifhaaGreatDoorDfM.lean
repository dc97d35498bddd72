import Derived.Test.YtkhagfgineifhaaGreatDoorInEq
import Derived.Test.YtkhagfgineifhaaGreatDoorLnWrM
import Derived.Test.YtkhagfgineifhaaGreatDoorMtM
namespace Go.Proofs.YtkhagfgineifhaaGreatDoor
def bW(n p:Nat):Nat:=pt n-p
def eD(n p:Nat):Nat:=bW n p*2 ^ (p-1)+n / 2 ^ bW n p
def ec(n p:Nat):Nat:=n % 2 ^ bW n p
theorem JL(n k:Nat)(h:k<pt n):2 ^ k<=n:=by refine Classical.byContradiction (λhc=>?_);have:=(fZ n k).2 (by omega);omega
theorem BC(n p:Nat):ec n p<2 ^ bW n p:=Nat.mod_lt _ (Nat.two_pow_pos _)
theorem sY(A B:List Nat)(n p:Nat)(hp:1<=p):cY (A++(aj (ec n p) (bW n p)++B)) A.length (eD n p) (2 ^ (p-1))=.ok (n,A.length+bW n p):=by
 have hk:0<2 ^ (p-1):=Nat.two_pow_pos _;have WP:2 ^ p=2*2 ^ (p-1):=by rw[<-Nat.pow_succ'];congr 1;omega
 by_cases hw:bW n p=0
 ·have hn:n<2 ^ p:=(fZ n p).1 (by unfold bW at hw;omega);have hs:eD n p=n:=(by unfold eD;rw[hw];simp);rw[hs,hw];unfold cY;by_cases h:n<2 ^ (p-1)
  ·rw[if_pos h];rfl
  ·rw[if_neg h];have hq:n / 2 ^ (p-1)=1:=Nat.div_eq_of_lt_le (by omega) (by omega);have hm:2 ^ (p-1)+n % 2 ^ (p-1)=n:=by
    have:=Nat.div_add_mod n (2 ^ (p-1));rw[hq]at this;omega
   rw[hq,hm,fo (by rw[List.length_append];omega)];show Except.ok _=_;simp[aX,n2]
 ·obtain⟨w,hw2⟩:∃w,bW n p=w:=⟨_,rfl⟩
  have hb:pt n=w+p:=(by unfold bW at hw2 hw;omega);have lO:2 ^ (w+p-1)<=n:=JL n _ (by omega);have yR:n<2 ^ (w+p):=(fZ n _).1 (by omega);obtain⟨q,hq⟩:∃q,n / 2 ^ w=q:=⟨_,rfl⟩
  have ml:0<2 ^ w:=Nat.two_pow_pos _;have WO:2 ^ (p-1)<=q:=(by rw[<-hq,Nat.le_div_iff_mul_le ml,<-Nat.pow_add];rwa [show p-1+w=w+p-1 by omega]);have Lx:q<2*2 ^ (p-1):=(by rw[<-hq,<-WP,Nat.div_lt_iff_lt_mul ml,<-Nat.pow_add];rwa [Nat.add_comm p w]);have hs:eD n p=w*2 ^ (p-1)+q:=(by unfold eD;rw[hw2,hq]);have hx:ec n p=n % 2 ^ w:=(by unfold ec;rw[hw2]);have sq:n % 2 ^ w<2 ^ w:=Nat.mod_lt _ ml;obtain⟨k,hkk⟩:∃k,2 ^ (p-1)=k:=⟨_,rfl⟩
  rw[hkk]at hk WO Lx hs ⊢;have T3:q / k=1:=Nat.div_eq_of_lt_le (by omega) (by omega);have hd:(w*k+q) / k=w+1:=(by rw[Nat.mul_comm,Nat.mul_add_div hk,T3]);have hm:k+(w*k+q) % k=q:=by rw[Nat.mul_comm,Nat.mul_add_mod];have h9:=Nat.div_add_mod q k;rw[T3]at h9;omega
  unfold cY;rw[hs,hw2,hx,if_neg (by have:=Nat.le_mul_of_pos_left k (show 0<w by omega);omega),hd,hm,Nat.add_sub_cancel];rw[fo (by rw[List.length_append,List.length_append,af];omega),ed A B _ w sq];show Except.ok _=_;have:=Nat.div_add_mod n (2 ^ w);rw[hq,Nat.mul_comm]at this;rw[this]
structure MK where
 sym:Nat
 extra:Nat
 width:Nat
def aJ(t:TK):MK:=if t.len=0 then⟨t.lit,0,0⟩else if t.len=258 then⟨285,0,0⟩ else⟨257+eD (t.len.toNat-3) 3,ec (t.len.toNat-3) 3,bW (t.len.toNat-3) 3⟩
def aH(t:TK):MK:=⟨eD (t.dist.toNat-1) 2,ec (t.dist.toNat-1) 2,bW (t.dist.toNat-1) 2⟩
def cH(cs:List Nat)(m:MK):List Nat:=aE cs m.sym++aj m.extra m.width
def aw(lit dist:List Nat)(t:TK):List Nat:=cH lit (aJ t)++(if t.len=0 then []else cH dist (aH t))
theorem l7(cs:List Nat)(m:MK):∀b∈cH cs m,b<2:=by
 intro b hb;rcases List.mem_append.1 hb with h | h
 ·exact cX _ _ b h
 ·exact ei _ _ b h
theorem vL(lit dist:List Nat)(t:TK):∀b∈aw lit dist t,b<2:=by
 intro b hb;rcases List.mem_append.1 hb with h | h
 ·exact l7 _ _ b h
 ·split at h
  ·simp at h
  ·exact l7 _ _ b h
theorem mA(lit dist:List Nat)(ts:List TK):∀b∈ts.flatMap (aw lit dist),b<2:=by intro b hb;obtain⟨t,_,ht⟩:=List.mem_flatMap.1 hb;exact vL _ _ t b ht
def Mv(lit dist:List Nat)(t:TK):Prop:=(aJ t).sym<lit.length/\key lit (aJ t).sym≠0/\(t.len≠0->(aH t).sym<dist.length/\key dist (aH t).sym≠0)
theorem kk{l:List Nat}{s:Nat}(h:s<l.length)(h0:key l s≠0):bR l=true:=by unfold bR;rw[List.any_eq_true];refine⟨l[s],List.getElem_mem h,?_⟩;rw[aZ h]at h0;simpa using h0
theorem nE{ns:List Nat}(hp:Pf ns)(A rest:List Nat)(hb:∀b∈rest,b<2){y last:Nat}(hy:y<ns.length)(h0:key ns y≠0)(hl:y<=last):nZ ns (A++(aE ns y++rest)) A.length last=.ok (y,A.length+key ns y):=
 zL (by rw[List.drop_left];exact nV hp.ms hp.le hy h0 rest hb) hl
theorem Jt(far n:Nat)(out:List Nat):Ew far n out=nj far n out:=by
 induction n generalizing out with
 | zero=>rfl
 | succ n ih=>rw[Ew,nj,ih]
theorem gH(n p m:Nat)(h:n<2 ^ (m+p))(hp:1<=p):eD n p<(m+2)*2 ^ (p-1):=by
 have hk:0<2 ^ (p-1):=Nat.two_pow_pos _;have hb:pt n<=m+p:=(fZ n _).2 h;have hw:bW n p<=m:=by unfold bW;omega
 have hq:n / 2 ^ bW n p<2*2 ^ (p-1):=by
  rw[Nat.div_lt_iff_lt_mul (Nat.two_pow_pos _)];have h2:n<2 ^ (bW n p+p):=(fZ n _).1 (by unfold bW;omega);have e:2*2 ^ (p-1)*2 ^ bW n p=2 ^ (bW n p+p):=by rw[<-Nat.pow_succ',<-Nat.pow_add];congr 1;omega
  omega
 have h3:bW n p*2 ^ (p-1)<=m*2 ^ (p-1):=Nat.mul_le_mul_right _ hw;unfold eD;rw[Nat.add_mul];omega
theorem Fv{lit dist:List Nat}(ho:OkL lit dist)(A B out:List Nat)(hB:∀b∈B,b<2)(most:Nat)(t:TK)(hm:pe t out.length=true)(hh:Mv lit dist t)(SG:t.lit<256)(hd:t.dist≤16384)(hl:out.length+pc t≤most):
  jQ (A++(aw lit dist t++B)) most ⟨A.length,out,some (.sym true lit dist)⟩=.ok (⟨A.length+(aw lit dist t).length,mM out t,some (.sym true lit dist)⟩,false):=by
 rcases fa hm with⟨h0,_,h1⟩ | ⟨n,d,h0,IV,_,h3,h4,h5,h6,h1⟩
 ·have sB:aJ t=⟨t.lit,0,0⟩:=(by unfold aJ;rw[if_pos h0]);have hb:aw lit dist t=aE lit t.lit:=by
   unfold aw cH;rw[sB,if_pos h0];simp[aj]
  obtain⟨hs,hk,_⟩:=hh;rw[sB]at hs hk;simp only at hs hk;have h9:=nE ho.lit.pf A B hB (y:=t.lit) (last:=285) hs hk (by omega);have hst:bF (A++(aE lit t.lit++B)) (.sym true lit dist) A.length=.ok ((.byte t.lit,.sym true lit dist),A.length+key lit t.lit):=by rw[eo,aF h9];unfold jl;rw[if_pos SG]
  rw[hb,aq,cj (s:=⟨A.length,out,some (.sym true lit dist)⟩) rfl hst];have MQ:mM out t=out++[t.lit]:=(by unfold mM;rw[if_pos h0]);rw[MQ];exact kj (by intro h;cases h) (by simp only[dB];rw[if_neg (by omega)])
 ·have nG:t.len≠0:=(by omega);obtain⟨hs,hk,EZ⟩:=hh;obtain⟨R7,SJ⟩:=EZ nG;have hu:=kk R7 SJ;obtain⟨y,hy⟩:∃y,(aJ t).sym=y:=⟨_,rfl⟩
  obtain⟨z,hz⟩:∃z,(aH t).sym=z:=⟨_,rfl⟩
  have SE:z=eD (d-1) 2:=(by rw[<-hz];unfold aH;rw[IV];simp);have uX:z<=29:=(by have:=gH (d-1) 2 12 (by omega) (by decide);rw[<-SE]at this;omega);have Tc:aH t=⟨z,ec (d-1) 2,bW (d-1) 2⟩:=(by rw[SE];unfold aH;rw[IV];simp);rw[hy]at hs hk;rw[hz]at R7 SJ;obtain⟨D,hD⟩:∃D,cH dist (aH t)=D:=⟨_,rfl⟩
  have Si:D=aE dist z++aj (ec (d-1) 2) (bW (d-1) 2):=(by rw[<-hD,Tc];rfl);have Yu:∀b∈D++B,b<2:=λb hb=>by
   rcases List.mem_append.1 hb with h | h
   ·rw[<-hD]at h;exact l7 _ _ b h
   ·exact hB b h
  have ag:∀(C:List Nat),∃X,cH lit (aJ t)=aE lit y++X/\257<=y/\y<=285/\(∀b∈X,b<2)/\kh (C++(X++(D++B))) C.length y=.ok (n,C.length+X.length):=by
   intro C;by_cases h258:n=258
   ·have sB:aJ t=⟨285,0,0⟩:=(by unfold aJ;rw[if_neg nG,if_pos (by omega)]);have TD:y=285:=(by rw[<-hy,sB]);refine⟨[],by rw[sB,TD];unfold cH;simp[aj],by omega,by omega,by simp,?_⟩;rw[TD,h258];rfl
   ·have sB:aJ t=⟨257+eD (n-3) 3,ec (n-3) 3,bW (n-3) 3⟩:=(by unfold aJ;rw[if_neg nG,if_neg (by omega),h0];simp);have Xp:y=257+eD (n-3) 3:=(by rw[<-hy,sB]);have gp:=gH (n-3) 3 5 (by omega) (by decide);refine⟨aj (ec (n-3) 3) (bW (n-3) 3),by rw[sB,Xp];rfl,by omega,by omega,ei _ _,?_⟩;have S9:y<285:=by
     have h9:(5+2)*2 ^ (3-1)=28:=(by decide);omega
    have e1:kh (C++(aj (ec (n-3) 3) (bW (n-3) 3)++(D++B))) C.length y=aU (cY (C++(aj (ec (n-3) 3) (bW (n-3) 3)++(D++B))) C.length (y-257) 4) (λn c'=>.ok (3+n,c')):=(by unfold kh;exact if_pos S9);have e2:=sY C (D++B) (n-3) 3 (by decide);rw[e1,show y-257=eD (n-3) 3 by omega,aF (show cY _ _ _ 4=_ from e2),af,show 3+(n-3)=n by omega]
  obtain⟨X,hX,NU,Ba,Wv,_⟩:=ag [];have rJ:∀(C:List Nat),kh (C++(X++(D++B))) C.length y=.ok (n,C.length+X.length):=λC=>by obtain⟨X',hX',_,_,_,h9⟩:=ag C;have e:X'=X:=List.append_cancel_left (hX'.symm.trans hX);rw[e]at h9;exact h9
  have hb:aw lit dist t=aE lit y++(X++D):=(by unfold aw;rw[if_neg nG,hD,hX,List.append_assoc]);have EL:A++(aw lit dist t++B)=A++(aE lit y++(X++(D++B))):=(by rw[hb];simp[List.append_assoc]);have h9:=nE ho.lit.pf A (X++(D++B)) (λb hb=>by
   rcases List.mem_append.1 hb with h | h
   ·exact Wv b h
   ·exact Yu b h) (y:=y) (last:=285) hs hk Ba
  have e1:A++(aE lit y++(X++(D++B)))=(A++aE lit y)++(X++(D++B)):=(by simp[List.append_assoc]);have l1:(A++aE lit y).length=A.length+key lit y:=(by rw[List.length_append,aq]);have Ib:=rJ (A++aE lit y);rw[<-e1,l1]at Ib;have e2:A++(aE lit y++(X++(D++B)))=(A++aE lit y++X)++(aE dist z++(aj (ec (d-1) 2) (bW (d-1) 2)++B)):=(by rw[Si];simp[List.append_assoc]);have l2:(A++aE lit y++X).length=A.length+key lit y+X.length:=(by rw[List.length_append,l1]);have QE:=nE ho.pf (A++aE lit y++X) (aj (ec (d-1) 2) (bW (d-1) 2)++B) (λb hb=>by
   rcases List.mem_append.1 hb with h | h
   ·exact ei _ _ b h
   ·exact hB b h) (y:=z) (last:=29) R7 SJ uX
  rw[<-e2,l2]at QE;have Rj:mB dist (A++(aE lit y++(X++(D++B)))) (A.length+key lit y+X.length)=.ok (z,A.length+key lit y+X.length+key dist z):=by unfold mB;rw[if_neg (by rw[hu];decide)];exact QE
  have e3:A++(aE lit y++(X++(D++B)))=(A++aE lit y++X++aE dist z)++(aj (ec (d-1) 2) (bW (d-1) 2)++B):=(by rw[Si];simp[List.append_assoc]);have l3:(A++aE lit y++X++aE dist z).length=A.length+key lit y+X.length+key dist z:=(by rw[List.length_append,l2,aq]);have UU:=sY (A++aE lit y++X++aE dist z) B (d-1) 2 (by decide);rw[<-e3,l3,<-SE]at UU;have RZ:f9 (A++(aE lit y++(X++(D++B)))) dist (A.length+key lit y) y=.ok ((n,d),A.length+key lit y+X.length+key dist z+bW (d-1) 2):=(by unfold f9;rw[aF Ib,aF Rj,aF (show cY _ _ _ 2=_ from UU),show 1+(d-1)=d by omega]);have hst:bF (A++(aE lit y++(X++(D++B)))) (.sym true lit dist) A.length=.ok ((.copy n d,.sym true lit dist),A.length+key lit y+X.length+key dist z+bW (d-1) 2):=(by rw[eo,aF h9];unfold jl;rw[if_neg (by omega),if_neg (by omega),aF RZ]);have pK:(aw lit dist t).length=key lit y+X.length+key dist z+bW (d-1) 2:=(by rw[hb,Si];simp only[List.length_append,aq,af];omega);rw[EL,pK,cj (s:=⟨A.length,out,some (.sym true lit dist)⟩) rfl hst];have MQ:mM out t=nj d n out:=(by unfold mM;rw[if_neg nG,h0,IV,Jt];simp);rw[MQ,<-Nat.add_assoc,<-Nat.add_assoc,<-Nat.add_assoc];exact kj (by intro h;cases h) (by simp only[dB];rw[if_neg (by omega),if_neg (by omega)])
structure oa(lit dist:List Nat)(ts:List TK):Prop where
 has:∀t∈ts,Mv lit dist t
 end':256<lit.length/\key lit 256≠0
 byte:∀t∈ts,t.lit<256
theorem xI{t:TK}{said:Nat}(h:pe t said=true)(hs:said<=16384):t.dist<=16384:=by
 rcases fa h with⟨_,h2,_⟩ | ⟨n,d,_,h2,_,_,_,_,h6,_⟩
 ·omega
 ·omega
theorem x9{lit dist:List Nat}(ho:OkL lit dist)(B:List Nat)(hB:∀b∈B,b<2)(most:Nat)(Wt:most≤16384)(ts:List TK)(hk:oa lit dist ts)(A out:List Nat)(n:Nat)(hm:ce most ts out.length=.ok n)(OR:out.length≤most):
  Ends (A++(ts.flatMap (aw lit dist)++(aE lit 256++B))) most ⟨A.length,out,some (.sym true lit dist)⟩ ⟨A.length+(ts.flatMap (aw lit dist)).length+key lit 256,xT ts out,some (.sym true lit dist)⟩ 0:=by
 induction ts generalizing A out with
 | nil=>
  refine .done ?_;have h9:=nE ho.lit.pf A B hB (y:=256) (last:=285) hk.end'.1 hk.end'.2 (by omega);have hst:bF (A++(aE lit 256++B)) (.sym true lit dist) A.length=.ok ((.fin,.sym true lit dist),A.length+key lit 256):=by rw[eo,aF h9];rfl
  show jQ (A++(aE lit 256++B)) most _=_;rw[cj (s:=⟨A.length,out,some (.sym true lit dist)⟩) rfl hst,jy];rfl
 | cons t r ih=>
  unfold ce at hm;split at hm
  ·cases hm
  ·rename_i nI;split at hm
   ·cases hm
   ·rename_i mr;have nI:pe t out.length=true:=(by simpa using nI);have RG:∀b∈r.flatMap (aw lit dist)++(aE lit 256++B),b<2:=λb hb=>by
     rcases List.mem_append.1 hb with h | h
     ·exact mA _ _ _ b h
     ·rcases List.mem_append.1 h with h | h
      ·exact cX _ _ b h
      ·exact hB b h
    have hs:=Fv ho A (r.flatMap (aw lit dist)++(aE lit 256++B)) out RG most t nI (hk.has t (by simp)) (hk.byte t (by simp)) (xI nI (by omega)) (by omega);have hl:=xM nI out;have h9:=ih ⟨λx hx=>hk.has x (by simp[hx]),hk.end',λx hx=>hk.byte x (by simp[hx])⟩ (A++aw lit dist t) (mM out t) (by rw[hl];exact hm) (by rw[hl];omega);have e1:(A++aw lit dist t)++(r.flatMap (aw lit dist)++(aE lit 256++B))=A++(aw lit dist t++(r.flatMap (aw lit dist)++(aE lit 256++B))):=(by simp[List.append_assoc]);rw[e1,List.length_append]at h9;rw[List.flatMap_cons,List.append_assoc,List.length_append];refine .step hs ?_;rw[<-Nat.add_assoc A.length];exact h9
end Go.Proofs.YtkhagfgineifhaaGreatDoor
