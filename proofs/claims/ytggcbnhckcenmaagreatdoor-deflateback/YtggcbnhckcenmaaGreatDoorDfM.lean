import Derived.Test.YtggcbnhckcenmaaGreatDoorInPe
import Derived.Test.YtggcbnhckcenmaaGreatDoorLnWrM
import Derived.Test.YtggcbnhckcenmaaGreatDoorMtM
namespace Go.Proofs.YtggcbnhckcenmaaGreatDoor

def splW(n p:Nat):Nat:=blen n-p
def splS(n p:Nat):Nat:=splW n p*2 ^ (p-1)+n / 2 ^ splW n p
def splX(n p:Nat):Nat:=n % 2 ^ splW n p

theorem blen_ge(n k:Nat)(h:k<blen n):2 ^ k≤n:=by
 refine Classical.byContradiction (fun hc=>?_)
 have:=(blen_le n k).2 (by omega)
 omega

theorem splX_lt(n p:Nat):splX n p<2 ^ splW n p:=Nat.mod_lt _ (Nat.two_pow_pos _)

theorem numP_laid(A B:List Nat)(n p:Nat)(hp:1≤p):numP (A++(bitsOf (splX n p) (splW n p)++B)) A.length (splS n p) (2 ^ (p-1))=.ok (n,A.length+splW n p):=by
 have hk:0<2 ^ (p-1):=Nat.two_pow_pos _
 have h2k:2 ^ p=2*2 ^ (p-1):=by rw[←Nat.pow_succ'];congr 1;omega
 by_cases hw:splW n p=0
 ·have hn:n<2 ^ p:=(blen_le n p).1 (by unfold splW at hw;omega)
  have hs:splS n p=n:=by unfold splS;rw[hw];simp
  rw[hs,hw]
  unfold numP
  by_cases h:n<2 ^ (p-1)
  ·rw[if_pos h];rfl
  ·rw[if_neg h]
   have hq:n / 2 ^ (p-1)=1:=Nat.div_eq_of_lt_le (by omega) (by omega)
   have hm:2 ^ (p-1)+n % 2 ^ (p-1)=n:=by
    have:=Nat.div_add_mod n (2 ^ (p-1))
    rw[hq]at this
    omega
   rw[hq,hm,tkP_is (by rw[List.length_append];omega)]
   show Except.ok _=_
   simp[numAt,n2]
 ·obtain⟨w,hw2⟩:∃w,splW n p=w:=⟨_,rfl⟩
  have hb:blen n=w+p:=by unfold splW at hw2 hw;omega
  have hlo:2 ^ (w+p-1)≤n:=blen_ge n _ (by omega)
  have hhi:n<2 ^ (w+p):=(blen_le n _).1 (by omega)
  obtain⟨q,hq⟩:∃q,n / 2 ^ w=q:=⟨_,rfl⟩
  have hpw:0<2 ^ w:=Nat.two_pow_pos _
  have hq1:2 ^ (p-1)≤q:=by
   rw[←hq,Nat.le_div_iff_mul_le hpw,←Nat.pow_add]
   rwa [show p-1+w=w+p-1 by omega]
  have hq2:q<2*2 ^ (p-1):=by
   rw[←hq,←h2k,Nat.div_lt_iff_lt_mul hpw,←Nat.pow_add]
   rwa [Nat.add_comm p w]
  have hs:splS n p=w*2 ^ (p-1)+q:=by unfold splS;rw[hw2,hq]
  have hx:splX n p=n % 2 ^ w:=by unfold splX;rw[hw2]
  have hxl:n % 2 ^ w<2 ^ w:=Nat.mod_lt _ hpw
  obtain⟨k,hkk⟩:∃k,2 ^ (p-1)=k:=⟨_,rfl⟩
  rw[hkk]at hk hq1 hq2 hs ⊢
  have hqk:q / k=1:=Nat.div_eq_of_lt_le (by omega) (by omega)
  have hd:(w*k+q) / k=w+1:=by rw[Nat.mul_comm,Nat.mul_add_div hk,hqk]
  have hm:k+(w*k+q) % k=q:=by
   rw[Nat.mul_comm,Nat.mul_add_mod]
   have h9:=Nat.div_add_mod q k
   rw[hqk]at h9
   omega
  unfold numP
  rw[hs,hw2,hx,if_neg (by have:=Nat.le_mul_of_pos_left k (show 0<w by omega);omega),hd,hm,Nat.add_sub_cancel]
  rw[tkP_is (by rw[List.length_append,List.length_append,bitsOf_length];omega),numAt_laid A B _ w hxl]
  show Except.ok _=_
  have:=Nat.div_add_mod n (2 ^ w)
  rw[hq,Nat.mul_comm]at this
  rw[this]

structure MK where
 sym:Nat
 extra:Nat
 width:Nat

def litMk(t:TK):MK:=if t.len=0 then⟨t.lit,0,0⟩else if t.len=258 then⟨285,0,0⟩ else⟨257+splS (t.len.toNat-3) 3,splX (t.len.toNat-3) 3,splW (t.len.toNat-3) 3⟩
def distMk(t:TK):MK:=⟨splS (t.dist.toNat-1) 2,splX (t.dist.toNat-1) 2,splW (t.dist.toNat-1) 2⟩

def mkBits(cs:List Nat)(m:MK):List Nat:=rowOf cs m.sym++bitsOf m.extra m.width
def tokBits(lit dist:List Nat)(t:TK):List Nat:=mkBits lit (litMk t)++(if t.len=0 then []else mkBits dist (distMk t))

theorem mkBits_bit(cs:List Nat)(m:MK):∀b∈mkBits cs m,b<2:=by
 intro b hb
 rcases List.mem_append.1 hb with h | h
 ·exact rowOf_bit _ _ b h
 ·exact bitsOf_lt _ _ b h

theorem tokBits_bit(lit dist:List Nat)(t:TK):∀b∈tokBits lit dist t,b<2:=by
 intro b hb
 rcases List.mem_append.1 hb with h | h
 ·exact mkBits_bit _ _ b h
 ·split at h
  ·simp at h
  ·exact mkBits_bit _ _ b h

theorem toksBits_bit(lit dist:List Nat)(ts:List TK):∀b∈ts.flatMap (tokBits lit dist),b<2:=by
 intro b hb
 obtain⟨t,_,ht⟩:=List.mem_flatMap.1 hb
 exact tokBits_bit _ _ t b ht

def HasT(lit dist:List Nat)(t:TK):Prop:=(litMk t).sym<lit.length∧key lit (litMk t).sym≠0∧(t.len≠0→(distMk t).sym<dist.length∧key dist (distMk t).sym≠0)

theorem used_of_key{l:List Nat}{s:Nat}(h:s<l.length)(h0:key l s≠0):usedB l=true:=by
 unfold usedB
 rw[List.any_eq_true]
 refine⟨l[s],List.getElem_mem h,?_⟩
 rw[key_get h]at h0
 simpa using h0

theorem syP_laid{ns:List Nat}(hp:Pf ns)(A rest:List Nat)(hb:∀b∈rest,b<2){y last:Nat}(hy:y<ns.length)(h0:key ns y≠0)(hl:y≤last):syP ns (A++(rowOf ns y++rest)) A.length last=.ok (y,A.length+key ns y):=
 syP_is (by rw[List.drop_left];exact nextF_row hp.ms hp.le hy h0 rest hb) hl

theorem cpT_cpL(far n:Nat)(out:List Nat):cpT far n out=cpL far n out:=by
 induction n generalizing out with
 | zero=>rfl
 | succ n ih=>rw[cpT,cpL,ih]

theorem splS_small(n p m:Nat)(h:n<2 ^ (m+p))(hp:1≤p):splS n p<(m+2)*2 ^ (p-1):=by
 have hk:0<2 ^ (p-1):=Nat.two_pow_pos _
 have hb:blen n≤m+p:=(blen_le n _).2 h
 have hw:splW n p≤m:=by unfold splW;omega
 have hq:n / 2 ^ splW n p<2*2 ^ (p-1):=by
  rw[Nat.div_lt_iff_lt_mul (Nat.two_pow_pos _)]
  have h2:n<2 ^ (splW n p+p):=(blen_le n _).1 (by unfold splW;omega)
  have e:2*2 ^ (p-1)*2 ^ splW n p=2 ^ (splW n p+p):=by
   rw[←Nat.pow_succ',←Nat.pow_add];congr 1;omega
  omega
 have h3:splW n p*2 ^ (p-1)≤m*2 ^ (p-1):=Nat.mul_le_mul_right _ hw
 unfold splS
 rw[Nat.add_mul]
 omega

theorem tok_step{lit dist:List Nat}(ho:OkL lit dist)(A B out:List Nat)(hB:∀b∈B,b<2)(most:Nat)(t:TK)(hm:mayT t out.length=true)(hh:HasT lit dist t)(hlit:t.lit<256)(hd:t.dist≤16384)(hl:out.length+tlen t≤most):
  stP (A++(tokBits lit dist t++B)) most ⟨A.length,out,some (.sym true lit dist)⟩=.ok (⟨A.length+(tokBits lit dist t).length,sayT out t,some (.sym true lit dist)⟩,false):=by
 rcases mayT_cases hm with⟨h0,_,h1⟩ | ⟨n,d,h0,hd0,_,h3,h4,h5,h6,h1⟩
 ·have hmk:litMk t=⟨t.lit,0,0⟩:=by unfold litMk;rw[if_pos h0]
  have hb:tokBits lit dist t=rowOf lit t.lit:=by
   unfold tokBits mkBits
   rw[hmk,if_pos h0]
   simp[bitsOf]
  obtain⟨hs,hk,_⟩:=hh
  rw[hmk]at hs hk
  simp only at hs hk
  have h9:=syP_laid ho.lit.pf A B hB (y:=t.lit) (last:=285) hs hk (by omega)
  have hst:stepP (A++(rowOf lit t.lit++B)) (.sym true lit dist) A.length=.ok ((.byte t.lit,.sym true lit dist),A.length+key lit t.lit):=by
   rw[stepP_sym,bindP_is h9]
   unfold symP
   rw[if_pos hlit]
  rw[hb,rowOf_length,stP_some_ok (s:=⟨A.length,out,some (.sym true lit dist)⟩) rfl hst]
  have hsay:sayT out t=out++[t.lit]:=by unfold sayT;rw[if_pos h0]
  rw[hsay]
  exact goP_ok (by intro h;cases h) (by simp only[layP];rw[if_neg (by omega)])
 ·have hn0:t.len≠0:=by omega
  obtain⟨hs,hk,hdd⟩:=hh
  obtain⟨hds,hdk⟩:=hdd hn0
  have hu:=used_of_key hds hdk
  obtain⟨y,hy⟩:∃y,(litMk t).sym=y:=⟨_,rfl⟩
  obtain⟨z,hz⟩:∃z,(distMk t).sym=z:=⟨_,rfl⟩
  have hzv:z=splS (d-1) 2:=by rw[←hz];unfold distMk;rw[hd0];simp
  have hz29:z≤29:=by
   have:=splS_small (d-1) 2 12 (by omega) (by decide)
   rw[←hzv]at this
   omega
  have hdm:distMk t=⟨z,splX (d-1) 2,splW (d-1) 2⟩:=by rw[hzv];unfold distMk;rw[hd0];simp
  rw[hy]at hs hk
  rw[hz]at hds hdk
  obtain⟨D,hD⟩:∃D,mkBits dist (distMk t)=D:=⟨_,rfl⟩
  have hDb:D=rowOf dist z++bitsOf (splX (d-1) 2) (splW (d-1) 2):=by rw[←hD,hdm];rfl
  have hDB:∀b∈D++B,b<2:=fun b hb=>by
   rcases List.mem_append.1 hb with h | h
   ·rw[←hD]at h;exact mkBits_bit _ _ b h
   ·exact hB b h
  have hlen:∀(C:List Nat),∃X,mkBits lit (litMk t)=rowOf lit y++X∧257≤y∧y≤285∧(∀b∈X,b<2)∧lenP (C++(X++(D++B))) C.length y=.ok (n,C.length+X.length):=by
   intro C
   by_cases h258:n=258
   ·have hmk:litMk t=⟨285,0,0⟩:=by unfold litMk;rw[if_neg hn0,if_pos (by omega)]
    have hy5:y=285:=by rw[←hy,hmk]
    refine⟨[],by rw[hmk,hy5];unfold mkBits;simp[bitsOf],by omega,by omega,by simp,?_⟩
    rw[hy5,h258]
    rfl
   ·have hmk:litMk t=⟨257+splS (n-3) 3,splX (n-3) 3,splW (n-3) 3⟩:=by unfold litMk;rw[if_neg hn0,if_neg (by omega),h0];simp
    have hyv:y=257+splS (n-3) 3:=by rw[←hy,hmk]
    have hsm:=splS_small (n-3) 3 5 (by omega) (by decide)
    refine⟨bitsOf (splX (n-3) 3) (splW (n-3) 3),by rw[hmk,hyv];rfl,by omega,by omega,bitsOf_lt _ _,?_⟩
    have h285:y<285:=by
     have h9:(5+2)*2 ^ (3-1)=28:=by decide
     omega
    have e1:lenP (C++(bitsOf (splX (n-3) 3) (splW (n-3) 3)++(D++B))) C.length y=bindP (numP (C++(bitsOf (splX (n-3) 3) (splW (n-3) 3)++(D++B))) C.length (y-257) 4) (fun n c'=>.ok (3+n,c')):=by unfold lenP;exact if_pos h285
    have e2:=numP_laid C (D++B) (n-3) 3 (by decide)
    rw[e1,show y-257=splS (n-3) 3 by omega,bindP_is (show numP _ _ _ 4=_ from e2),bitsOf_length,show 3+(n-3)=n by omega]
  obtain⟨X,hX,hy1,hy2,hXb,_⟩:=hlen []
  have hlen2:∀(C:List Nat),lenP (C++(X++(D++B))) C.length y=.ok (n,C.length+X.length):=fun C=>by
   obtain⟨X',hX',_,_,_,h9⟩:=hlen C
   have e:X'=X:=List.append_cancel_left (hX'.symm.trans hX)
   rw[e]at h9
   exact h9
  have hb:tokBits lit dist t=rowOf lit y++(X++D):=by
   unfold tokBits
   rw[if_neg hn0,hD,hX,List.append_assoc]
  have hall:A++(tokBits lit dist t++B)=A++(rowOf lit y++(X++(D++B))):=by rw[hb];simp[List.append_assoc]
  have h9:=syP_laid ho.lit.pf A (X++(D++B)) (fun b hb=>by
   rcases List.mem_append.1 hb with h | h
   ·exact hXb b h
   ·exact hDB b h) (y:=y) (last:=285) hs hk hy2
  have e1:A++(rowOf lit y++(X++(D++B)))=(A++rowOf lit y)++(X++(D++B)):=by simp[List.append_assoc]
  have l1:(A++rowOf lit y).length=A.length+key lit y:=by rw[List.length_append,rowOf_length]
  have h10:=hlen2 (A++rowOf lit y)
  rw[←e1,l1]at h10
  have e2:A++(rowOf lit y++(X++(D++B)))=(A++rowOf lit y++X)++(rowOf dist z++(bitsOf (splX (d-1) 2) (splW (d-1) 2)++B)):=by rw[hDb];simp[List.append_assoc]
  have l2:(A++rowOf lit y++X).length=A.length+key lit y+X.length:=by rw[List.length_append,l1]
  have h11:=syP_laid ho.pf (A++rowOf lit y++X) (bitsOf (splX (d-1) 2) (splW (d-1) 2)++B) (fun b hb=>by
   rcases List.mem_append.1 hb with h | h
   ·exact bitsOf_lt _ _ b h
   ·exact hB b h) (y:=z) (last:=29) hds hdk hz29
  rw[←e2,l2]at h11
  have h11':dsyP dist (A++(rowOf lit y++(X++(D++B)))) (A.length+key lit y+X.length)=.ok (z,A.length+key lit y+X.length+key dist z):=by
   unfold dsyP
   rw[if_neg (by rw[hu];decide)]
   exact h11
  have e3:A++(rowOf lit y++(X++(D++B)))=(A++rowOf lit y++X++rowOf dist z)++(bitsOf (splX (d-1) 2) (splW (d-1) 2)++B):=by rw[hDb];simp[List.append_assoc]
  have l3:(A++rowOf lit y++X++rowOf dist z).length=A.length+key lit y+X.length+key dist z:=by rw[List.length_append,l2,rowOf_length]
  have h12:=numP_laid (A++rowOf lit y++X++rowOf dist z) B (d-1) 2 (by decide)
  rw[←e3,l3,←hzv]at h12
  have hcop:copP (A++(rowOf lit y++(X++(D++B)))) dist (A.length+key lit y) y=.ok ((n,d),A.length+key lit y+X.length+key dist z+splW (d-1) 2):=by
   unfold copP
   rw[bindP_is h10,bindP_is h11',bindP_is (show numP _ _ _ 2=_ from h12),show 1+(d-1)=d by omega]
  have hst:stepP (A++(rowOf lit y++(X++(D++B)))) (.sym true lit dist) A.length=.ok ((.copy n d,.sym true lit dist),A.length+key lit y+X.length+key dist z+splW (d-1) 2):=by
   rw[stepP_sym,bindP_is h9]
   unfold symP
   rw[if_neg (by omega),if_neg (by omega),bindP_is hcop]
  have hlb:(tokBits lit dist t).length=key lit y+X.length+key dist z+splW (d-1) 2:=by
   rw[hb,hDb]
   simp only[List.length_append,rowOf_length,bitsOf_length]
   omega
  rw[hall,hlb,stP_some_ok (s:=⟨A.length,out,some (.sym true lit dist)⟩) rfl hst]
  have hsay:sayT out t=cpL d n out:=by unfold sayT;rw[if_neg hn0,h0,hd0,cpT_cpL];simp
  rw[hsay,←Nat.add_assoc,←Nat.add_assoc,←Nat.add_assoc]
  exact goP_ok (by intro h;cases h) (by simp only[layP];rw[if_neg (by omega),if_neg (by omega)])

structure ToksOk(lit dist:List Nat)(ts:List TK):Prop where
 has:∀t∈ts,HasT lit dist t
 end':256<lit.length∧key lit 256≠0
 byte:∀t∈ts,t.lit<256

theorem may_dist{t:TK}{said:Nat}(h:mayT t said=true)(hs:said≤16384):t.dist≤16384:=by
 rcases mayT_cases h with⟨_,h2,_⟩ | ⟨n,d,_,h2,_,_,_,_,h6,_⟩
 ·omega
 ·omega

theorem toks_end{lit dist:List Nat}(ho:OkL lit dist)(B:List Nat)(hB:∀b∈B,b<2)(most:Nat)(hm16:most≤16384)(ts:List TK)(hk:ToksOk lit dist ts)(A out:List Nat)(n:Nat)(hm:measT most ts out.length=.ok n)(hout:out.length≤most):
  Ends (A++(ts.flatMap (tokBits lit dist)++(rowOf lit 256++B))) most ⟨A.length,out,some (.sym true lit dist)⟩ ⟨A.length+(ts.flatMap (tokBits lit dist)).length+key lit 256,expT ts out,some (.sym true lit dist)⟩ 0:=by
 induction ts generalizing A out with
 | nil=>
  refine .done ?_
  have h9:=syP_laid ho.lit.pf A B hB (y:=256) (last:=285) hk.end'.1 hk.end'.2 (by omega)
  have hst:stepP (A++(rowOf lit 256++B)) (.sym true lit dist) A.length=.ok ((.fin,.sym true lit dist),A.length+key lit 256):=by
   rw[stepP_sym,bindP_is h9]
   rfl
  show stP (A++(rowOf lit 256++B)) most _=_
  rw[stP_some_ok (s:=⟨A.length,out,some (.sym true lit dist)⟩) rfl hst,goP_fin]
  rfl
 | cons t r ih=>
  unfold measT at hm
  split at hm
  ·cases hm
  ·rename_i hmay
   split at hm
   ·cases hm
   ·rename_i hle
    have hmay:mayT t out.length=true:=by simpa using hmay
    have hB2:∀b∈r.flatMap (tokBits lit dist)++(rowOf lit 256++B),b<2:=fun b hb=>by
     rcases List.mem_append.1 hb with h | h
     ·exact toksBits_bit _ _ _ b h
     ·rcases List.mem_append.1 h with h | h
      ·exact rowOf_bit _ _ b h
      ·exact hB b h
    have hs:=tok_step ho A (r.flatMap (tokBits lit dist)++(rowOf lit 256++B)) out hB2 most t hmay (hk.has t (by simp)) (hk.byte t (by simp)) (may_dist hmay (by omega)) (by omega)
    have hl:=sayT_length hmay out
    have h9:=ih ⟨fun x hx=>hk.has x (by simp[hx]),hk.end',fun x hx=>hk.byte x (by simp[hx])⟩ (A++tokBits lit dist t) (sayT out t) (by rw[hl];exact hm) (by rw[hl];omega)
    have e1:(A++tokBits lit dist t)++(r.flatMap (tokBits lit dist)++(rowOf lit 256++B))=A++(tokBits lit dist t++(r.flatMap (tokBits lit dist)++(rowOf lit 256++B))):=by simp[List.append_assoc]
    rw[e1,List.length_append]at h9
    rw[List.flatMap_cons,List.append_assoc,List.length_append]
    refine .step hs ?_
    rw[←Nat.add_assoc A.length]
    exact h9

end Go.Proofs.YtggcbnhckcenmaaGreatDoor
