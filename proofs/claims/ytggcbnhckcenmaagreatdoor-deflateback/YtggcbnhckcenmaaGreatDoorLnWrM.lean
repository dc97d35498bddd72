import Derived.Test.YtggcbnhckcenmaaGreatDoorLnPackM
import Derived.Test.YtggcbnhckcenmaaGreatDoorLnRead
namespace Go.Proofs.YtggcbnhckcenmaaGreatDoor

theorem fitL_iff{ns:List Nat}{s:Nat}(hm:measure ns≤32768)(hs:s∈ris ns)(h15:key ns s≤15)(t:List Nat)(ht:∀b∈t,b<2):Fit ns t s↔key ns s≤t.length∧rv (key ns s) (n2 t)=codeOf ns s:=by
 have hcl:=code_lt2 hm hs h15
 have hpart:∀n,n≤t.length→n2 (t.take n)=n2 t % 2 ^ n:=fun n hn=>by
  have:=n2_part t ht 0 n (by omega)
  simpa using this
 unfold Fit
 rw[List.prefix_iff_eq_take,rowOf_length]
 constructor
 ·rintro⟨_,h⟩
  have hl:=congrArg List.length h
  rw[rowOf_length,List.length_take]at hl
  have hk:key ns s≤t.length:=by omega
  refine⟨hk,?_⟩
  have h2:=congrArg n2 h
  rw[rowOf_n2,hpart _ hk]at h2
  rw[←rv_mod (key ns s) (key ns s) _ (Nat.le_refl _),←h2,rv_rv,Nat.mod_eq_of_lt hcl]
 ·rintro⟨hk,h⟩
  refine⟨(mem_ris.1 hs).2,?_⟩
  refine n2_inj _ _ (by rw[rowOf_length,List.length_take];omega) (rowOf_bit ns s) (fun x hx=>ht x (List.mem_of_mem_take hx)) ?_
  rw[rowOf_n2,hpart _ hk,←h,rv_rv]

theorem nextF_row{ns:List Nat}{s:Nat}(hm:measure ns≤32768)(h15:∀x,key ns x≤15)(hs:s<ns.length)(h0:key ns s≠0)(rest:List Nat)(hr:∀b∈rest,b<2):nextF ns (rowOf ns s++rest)=(s,key ns s,0):=by
 have hb:∀b∈rowOf ns s++rest,b<2:=fun b hb=>by
  rcases List.mem_append.1 hb with h | h
  ·exact rowOf_bit ns s b h
  ·exact hr b h
 have hsr:s∈ris ns:=mem_ris.2 ⟨hs,h0⟩
 have hf:Fit ns (rowOf ns s++rest) s:=⟨h0,List.prefix_append _ _⟩
 refine nextF_of (.inl ⟨rfl,hs,hf,rfl,fun j hj hfj=>?_⟩)
 have hjr:j∈ris ns:=mem_ris.2 ⟨by omega,hfj.1⟩
 have h1:=((fitL_iff hm hsr (h15 s) _ hb).1 hf).2
 have h2:=((fitL_iff hm hjr (h15 j) _ hb).1 hfj).2
 have:=fits_one hjr hsr h15 h2 h1
 omega

theorem numAt_laid(A B:List Nat)(v n:Nat)(h:v<2 ^ n):numAt (A++(bitsOf v n++B)) A.length n=v:=by
 unfold numAt
 rw[List.drop_left,List.take_append_of_le_length (by rw[bitsOf_length];exact Nat.le_refl _),List.take_of_length_le (by rw[bitsOf_length];exact Nat.le_refl _),bitsOf_n2,Nat.mod_eq_of_lt h]

def stepBits(cs:List Nat)(s:Nat×Nat):List Nat:=rowOf cs s.1++bitsOf s.2 (xbits s.1)

theorem stepBits_length(cs:List Nat)(s:Nat×Nat):(stepBits cs s).length=key cs s.1+xbits s.1:=by rw[stepBits,List.length_append,rowOf_length,bitsOf_length]

theorem stepBits_bit(cs:List Nat)(s:Nat×Nat):∀b∈stepBits cs s,b<2:=by
 intro b hb
 rcases List.mem_append.1 hb with h | h
 ·exact rowOf_bit _ _ b h
 ·exact bitsOf_lt _ _ b h

def StepsOk(cs:List Nat)(ss:List (Nat×Nat)):Prop:=∀s∈ss,s.1<cs.length∧key cs s.1≠0∧s.2<2 ^ xbits s.1

theorem stepF_laid{cs:List Nat}(hm:measure cs≤32768)(h15:∀x,key cs x≤15)(A B:List Nat)(hB:∀b∈B,b<2)(s:Nat×Nat)(h1:s.1<cs.length)(h2:key cs s.1≠0)(h3:s.2<2 ^ xbits s.1):
  stepF cs (A++(stepBits cs s++B)) A.length=.ok (s,A.length+(stepBits cs s).length):=by
 have hn:nextF cs ((A++(stepBits cs s++B)).drop A.length)=(s.1,key cs s.1,0):=by
  rw[List.drop_left,stepBits,List.append_assoc]
  refine nextF_row hm h15 h1 h2 _ (fun b hb=>?_)
  rcases List.mem_append.1 hb with h | h
  ·exact bitsOf_lt _ _ b h
  ·exact hB b h
 have hx:numAt (A++(stepBits cs s++B)) (A.length+key cs s.1) (xbits s.1)=s.2:=by
  have:=numAt_laid (A++rowOf cs s.1) B s.2 (xbits s.1) h3
  rw[List.length_append,rowOf_length]at this
  rw[stepBits,List.append_assoc,←List.append_assoc A]
  exact this
 unfold stepF
 rw[hn]
 simp only
 rw[if_neg (by simp),if_neg (by rw[List.length_append,List.length_append,stepBits_length];omega),hx,stepBits_length,Nat.add_assoc]

theorem bodyF_laid{cs:List Nat}(hm:measure cs≤32768)(h15:∀x,key cs x≤15)(N:Nat)(B:List Nat)(hB:∀b∈B,b<2)(ss:List (Nat×Nat))(hs:StepsOk cs ss)(A l m:List Nat)(f:Nat)(hl:∀x∈l,x≤15)(hf:N-l.length≤f)
  (hr:runM N l (ss.map (fun s=>((s.1:Int),(s.2:Int))))=some m) (hN:m.length=N):bodyF cs (A++(ss.flatMap (stepBits cs)++B)) N f l A.length=.ok (m,A.length+(ss.flatMap (stepBits cs)).length):=by
 induction ss generalizing A l f with
 | nil=>
  simp only[List.map_nil,runM,Option.some.injEq]at hr
  subst hr
  rw[bodyF_end (by omega)]
  simp
 | cons s r ih=>
  have h1:=hs s (by simp)
  simp only[List.map_cons,runM]at hr
  cases hw:withM l ((s.1:Int),(s.2:Int)) N with
  | none=>rw[hw]at hr;cases hr
  | some l2=>
   rw[hw]at hr
   simp only at hr
   have hg:=withM_grows hw hl
   obtain⟨f,rfl⟩:∃g,f=g+1:=⟨f-1,by omega⟩
   have hB2:∀b∈r.flatMap (stepBits cs)++B,b<2:=fun b hb=>by
    rcases List.mem_append.1 hb with h | h
    ·obtain⟨t,_,ht⟩:=List.mem_flatMap.1 h
     exact stepBits_bit cs t b ht
    ·exact hB b h
   have hst:=stepF_laid hm h15 A (r.flatMap (stepBits cs)++B) hB2 s h1.1 h1.2.1 h1.2.2
   rw[List.flatMap_cons,List.append_assoc,bodyF_step (by omega) hst,hw]
   simp only
   have:=ih (fun t ht=>hs t (List.mem_cons_of_mem _ ht)) (A++stepBits cs s) l2 f hg.2.2 (by omega) hr
   rw[List.append_assoc,List.length_append]at this
   rw[this,List.length_append,Nat.add_assoc]

def codeBits(cs:List Nat):Nat→List Nat
 | 0=>[]
 | i+1=>codeBits cs i++bitsOf (cs.getD (ord.getD i 0) 0) 3

theorem codeBits_length(cs:List Nat)(i:Nat):(codeBits cs i).length=3*i:=by
 induction i with
 | zero=>rfl
 | succ i ih=>rw[codeBits,List.length_append,ih,bitsOf_length];omega

theorem codeBits_split(cs:List Nat)(i n:Nat)(h:i<n):∃r,codeBits cs n=codeBits cs i++(bitsOf (cs.getD (ord.getD i 0) 0) 3++r):=by
 induction n with
 | zero=>omega
 | succ n ih=>
  by_cases e:i=n
  ·subst e;exact⟨[],by simp[codeBits]⟩
  ·obtain⟨r,hr⟩:=ih (by omega)
   exact⟨r++bitsOf (cs.getD (ord.getD n 0) 0) 3,by rw[codeBits,hr];simp⟩

theorem ord_all:∀p,p<19→∃j,j<19∧ord.getD j 0=p:=by decide

theorem codesF_laid(cs:List Nat)(h7:∀x∈cs,x≤7)(hl:cs.length=19)(A B:List Nat)(n:Nat)(hn:n≤19)(i:Nat)(hi:i≤n):∀p,p<19→(codesF (A++(codeBits cs n++B)) A.length i).getD p 0=if (∃j,j<i∧ord.getD j 0=p)then cs.getD p 0 else 0:=by
 induction i with
 | zero=>
  intro p hp
  rw[if_neg (by rintro⟨j,hj,_⟩;omega)]
  rw[codesF,List.getD_eq_getElem?_getD,List.getElem?_replicate,if_pos hp]
  rfl
 | succ i ih=>
  intro p hp
  have ih:=ih (by omega) p hp
  obtain⟨r,hr⟩:=codeBits_split cs i n (by omega)
  have ho:=ord_le i (by omega)
  have hv:cs.getD (ord.getD i 0) 0<2 ^ 3:=by
   have hlt:ord.getD i 0<cs.length:=by omega
   have e:cs.getD (ord.getD i 0) 0=cs[ord.getD i 0]:=by rw[List.getD_eq_getElem?_getD,List.getElem?_eq_getElem hlt];rfl
   rw[e]
   have:=h7 _ (List.getElem_mem hlt)
   omega
  have hnum:numAt (A++(codeBits cs n++B)) (A.length+3*i) 3=cs.getD (ord.getD i 0) 0:=by
   have:=numAt_laid (A++codeBits cs i) (r++B) _ 3 hv
   rw[List.length_append,codeBits_length]at this
   rw[hr]
   simp only[List.append_assoc]at this ⊢
   exact this
  rw[codesF,hnum]
  have hlen:=codesF_length (A++(codeBits cs n++B)) A.length i
  by_cases e:ord.getD i 0=p
  ·rw[if_pos ⟨i,by omega,e⟩,e]
   rw[List.getD_eq_getElem?_getD,List.getElem?_set_self (by omega)]
   rfl
  ·rw[List.getD_eq_getElem?_getD,List.getElem?_set_ne e,←List.getD_eq_getElem?_getD,ih]
   by_cases h:∃j,j<i∧ord.getD j 0=p
   ·obtain⟨j,hj,hp⟩:=h
    rw[if_pos ⟨j,hj,hp⟩,if_pos ⟨j,by omega,hp⟩]
   ·rw[if_neg h,if_neg]
    rintro⟨j,hj,hp⟩
    by_cases e2:j=i
    ·subst e2;exact e hp
    ·exact h ⟨j,by omega,hp⟩

structure HeadOk(lit dist:List Nat)(many:Nat)(cs:List Nat)(ss:List (Nat×Nat)):Prop where
 l1:257≤lit.length
 l2:lit.length≤286
 d1:1≤dist.length
 d2:dist.length≤30
 m1:4≤many
 m2:many≤19
 c19:cs.length=19
 c7:∀x∈cs,x≤7
 ok:chkN cs=0
 rest:∀j,many≤j→j<19→cs.getD (ord.getD j 0) 0=0
 st:StepsOk cs ss
 run:runM (lit.length+dist.length) [] (ss.map (fun s=>((s.1:Int),(s.2:Int))))=some (lit++dist)

def headBits(nl nd many:Nat)(cs:List Nat)(ss:List (Nat×Nat)):List Nat:=
 bitsOf (nl-257) 5++(bitsOf (nd-1) 5++(bitsOf (many-4) 4++(codeBits cs many++ss.flatMap (stepBits cs))))

theorem headBits_length(nl nd many:Nat)(cs:List Nat)(ss:List (Nat×Nat)):(headBits nl nd many cs ss).length=14+3*many+(ss.flatMap (stepBits cs)).length:=by
 unfold headBits
 simp only[List.length_append,bitsOf_length,codeBits_length]
 omega

theorem readF_laid{lit dist:List Nat}{many:Nat}{cs:List Nat}{ss:List (Nat×Nat)}(h:HeadOk lit dist many cs ss)(A B:List Nat)(hB:∀b∈B,b<2):
  readF (A++(headBits lit.length dist.length many cs ss++B)) A.length=.ok ((lit,dist),(headBits lit.length dist.length many cs ss).length):=by
 have hm:measure cs≤32768:=by
  have:=h.ok
  unfold chkN at this
  split at this
  ·omega
  ·omega
 have h15:∀x,key cs x≤15:=fun x=>by
  by_cases e:x<cs.length
  ·rw[key_get e];have:=h.c7 _ (List.getElem_mem e);omega
  ·simp[key,e]
 have hl1:=h.l1;have hl2:=h.l2;have hd1:=h.d1;have hd2:=h.d2;have hm1:=h.m1;have hm2:=h.m2
 have hlen:=headBits_length lit.length dist.length many cs ss
 obtain⟨T,hT⟩:∃T,T=A++(headBits lit.length dist.length many cs ss++B):=⟨_,rfl⟩
 have hTl:T.length=A.length+(14+3*many+(ss.flatMap (stepBits cs)).length)+B.length:=by rw[hT,List.length_append,List.length_append,hlen];omega
 have n1:numAt T A.length 5=lit.length-257:=by
  have:=numAt_laid A (bitsOf (dist.length-1) 5++(bitsOf (many-4) 4++(codeBits cs many++ss.flatMap (stepBits cs)))++B) (lit.length-257) 5 (by omega)
  rw[hT]
  unfold headBits
  simp only[List.append_assoc]at this ⊢
  exact this
 have n2':numAt T (A.length+5) 5=dist.length-1:=by
  have:=numAt_laid (A++bitsOf (lit.length-257) 5) (bitsOf (many-4) 4++(codeBits cs many++ss.flatMap (stepBits cs))++B) (dist.length-1) 5 (by omega)
  rw[List.length_append,bitsOf_length]at this
  rw[hT]
  unfold headBits
  simp only[List.append_assoc]at this ⊢
  exact this
 have n3:numAt T (A.length+10) 4=many-4:=by
  have:=numAt_laid (A++(bitsOf (lit.length-257) 5++bitsOf (dist.length-1) 5)) (codeBits cs many++ss.flatMap (stepBits cs)++B) (many-4) 4 (by omega)
  rw[List.length_append,List.length_append,bitsOf_length,bitsOf_length]at this
  rw[hT]
  unfold headBits
  simp only[List.append_assoc]at this ⊢
  exact this
 have hcs:codesF T (A.length+14) many=cs:=by
  have hA:(A++(bitsOf (lit.length-257) 5++(bitsOf (dist.length-1) 5++bitsOf (many-4) 4))).length=A.length+14:=by simp[bitsOf_length]
  have:=codesF_laid cs h.c7 h.c19 (A++(bitsOf (lit.length-257) 5++(bitsOf (dist.length-1) 5++bitsOf (many-4) 4))) (ss.flatMap (stepBits cs)++B) many hm2 many (Nat.le_refl _)
  rw[hA]at this
  have eT:A++(bitsOf (lit.length-257) 5++(bitsOf (dist.length-1) 5++bitsOf (many-4) 4))++(codeBits cs many++(ss.flatMap (stepBits cs)++B))=T:=by rw[hT];unfold headBits;simp only[List.append_assoc]
  rw[eT]at this
  refine List.ext_getElem (by rw[codesF_length,h.c19]) (fun p h1 h2=>?_)
  rw[codesF_length]at h1
  have hp:=this p h1
  have e1:(codesF T (A.length+14) many).getD p 0=(codesF T (A.length+14) many)[p]:=by rw[List.getD_eq_getElem?_getD,List.getElem?_eq_getElem];rfl
  have e2:cs.getD p 0=cs[p]:=by rw[List.getD_eq_getElem?_getD,List.getElem?_eq_getElem];rfl
  rw[e1]at hp
  rw[hp]
  obtain⟨j,hj,hjp⟩:=ord_all p h1
  by_cases hjm:j<many
  ·rw[if_pos ⟨j,hjm,hjp⟩,e2]
  ·have hz:=h.rest j (by omega) hj
   rw[hjp,e2]at hz
   split
   ·exact e2
   ·exact hz.symm
 have hbody:bodyF cs T (lit.length+dist.length) (lit.length+dist.length) [] (A.length+14+3*many)=.ok (lit++dist,A.length+14+3*many+(ss.flatMap (stepBits cs)).length):=by
  have hA:(A++(bitsOf (lit.length-257) 5++(bitsOf (dist.length-1) 5++(bitsOf (many-4) 4++codeBits cs many)))).length=A.length+14+3*many:=by simp[bitsOf_length,codeBits_length];omega
  have:=bodyF_laid hm h15 (lit.length+dist.length) B hB ss h.st (A++(bitsOf (lit.length-257) 5++(bitsOf (dist.length-1) 5++(bitsOf (many-4) 4++codeBits cs many)))) [] (lit++dist) (lit.length+dist.length) (by simp) (by simp) h.run (by simp)
  rw[hA]at this
  have eT:A++(bitsOf (lit.length-257) 5++(bitsOf (dist.length-1) 5++(bitsOf (many-4) 4++codeBits cs many)))++(ss.flatMap (stepBits cs)++B)=T:=by rw[hT];unfold headBits;simp only[List.append_assoc]
  rw[eT]at this
  exact this
 rw[←hT]
 unfold readF
 rw[n1,n2',n3,show many-4+4=many by omega,show lit.length-257+257=lit.length by omega,show dist.length-1+1=dist.length by omega,hcs,hbody,if_neg (by omega),if_neg (by omega),if_neg (by omega),if_neg (by rw[h.ok];simp)]
 simp only
 rw[List.take_left,List.drop_left,hlen]
 congr 2
 omega

end Go.Proofs.YtggcbnhckcenmaaGreatDoor
