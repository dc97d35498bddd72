import Derived.Test.YtkhagfgineifhaaGreatDoorLnPackM
import Derived.Test.YtkhagfgineifhaaGreatDoorLnRead
namespace Go.Proofs.YtkhagfgineifhaaGreatDoor
theorem x6{ns:List Nat}{s:Nat}(hm:measure ns<=32768)(hs:s∈aD ns)(h15:key ns s<=15)(t:List Nat)(ht:∀b∈t,b<2):B7 ns t s↔key ns s<=t.length/\rv (key ns s) (n2 t)=dC ns s:=by
 have ey:=xN hm hs h15;have LF:∀n,n<=t.length->n2 (t.take n)=n2 t % 2 ^ n:=λn hn=>by have:=BE t ht 0 n (by omega);simpa using this
 unfold B7;rw[List.prefix_iff_eq_take,aq];constructor
 ·rintro⟨_,h⟩;have hl:=congrArg List.length h;rw[aq,List.length_take]at hl;have hk:key ns s<=t.length:=(by omega);refine⟨hk,?_⟩;have h2:=congrArg n2 h;rw[g8,LF _ hk]at h2;rw[<-lS (key ns s) (key ns s) _ (Nat.le_refl _),<-h2,xC,Nat.mod_eq_of_lt ey]
 ·rintro⟨hk,h⟩;refine⟨(aW.1 hs).2,?_⟩;refine qR _ _ (by rw[aq,List.length_take];omega) (cX ns s) (λx hx=>ht x (List.mem_of_mem_take hx)) ?_;rw[g8,LF _ hk,<-h,xC]
theorem nV{ns:List Nat}{s:Nat}(hm:measure ns<=32768)(h15:∀x,key ns x<=15)(hs:s<ns.length)(h0:key ns s≠0)(rest:List Nat)(hr:∀b∈rest,b<2):aT ns (aE ns s++rest)=(s,key ns s,0):=by
 have hb:∀b∈aE ns s++rest,b<2:=λb hb=>by
  rcases List.mem_append.1 hb with h | h
  ·exact cX ns s b h
  ·exact hr b h
 have hsr:s∈aD ns:=aW.2 ⟨hs,h0⟩;have hf:B7 ns (aE ns s++rest) s:=⟨h0,List.prefix_append _ _⟩
 refine wK (.inl ⟨rfl,hs,hf,rfl,λj hj Ut=>?_⟩);have Ue:j∈aD ns:=aW.2 ⟨by omega,Ut.1⟩;have h1:=((x6 hm hsr (h15 s) _ hb).1 hf).2;have h2:=((x6 hm Ue (h15 j) _ hb).1 Ut).2;have:=xf Ue hsr h15 h2 h1;omega
theorem ed(A B:List Nat)(v n:Nat)(h:v<2 ^ n):aX (A++(aj v n++B)) A.length n=v:=by unfold aX;rw[List.drop_left,List.take_append_of_le_length (by rw[af];exact Nat.le_refl _),List.take_of_length_le (by rw[af];exact Nat.le_refl _),eh,Nat.mod_eq_of_lt h]
def aC(cs:List Nat)(s:Nat×Nat):List Nat:=aE cs s.1++aj s.2 (dF s.1)
theorem fS(cs:List Nat)(s:Nat×Nat):(aC cs s).length=key cs s.1+dF s.1:=by rw[aC,List.length_append,aq,af]
theorem uE(cs:List Nat)(s:Nat×Nat):∀b∈aC cs s,b<2:=by
 intro b hb;rcases List.mem_append.1 hb with h | h
 ·exact cX _ _ b h
 ·exact ei _ _ b h
def pB(cs:List Nat)(ss:List (Nat×Nat)):Prop:=∀s∈ss,s.1<cs.length/\key cs s.1≠0/\s.2<2 ^ dF s.1
theorem zA{cs:List Nat}(hm:measure cs≤32768)(h15:∀x,key cs x≤15)(A B:List Nat)(hB:∀b∈B,b<2)(s:Nat×Nat)(h1:s.1<cs.length)(h2:key cs s.1≠0)(h3:s.2<2 ^ dF s.1):
  dg cs (A++(aC cs s++B)) A.length=.ok (s,A.length+(aC cs s).length):=by
 have hn:aT cs ((A++(aC cs s++B)).drop A.length)=(s.1,key cs s.1,0):=by
  rw[List.drop_left,aC,List.append_assoc];refine nV hm h15 h1 h2 _ (λb hb=>?_);rcases List.mem_append.1 hb with h | h
  ·exact ei _ _ b h
  ·exact hB b h
 have hx:aX (A++(aC cs s++B)) (A.length+key cs s.1) (dF s.1)=s.2:=by have:=ed (A++aE cs s.1) B s.2 (dF s.1) h3;rw[List.length_append,aq]at this;rw[aC,List.append_assoc,<-List.append_assoc A];exact this
 unfold dg;rw[hn];simp only;rw[if_neg (by simp),if_neg (by rw[List.length_append,List.length_append,fS];omega),hx,fS,Nat.add_assoc]
theorem As{cs:List Nat}(hm:measure cs≤32768)(h15:∀x,key cs x≤15)(N:Nat)(B:List Nat)(hB:∀b∈B,b<2)(ss:List (Nat×Nat))(hs:pB cs ss)(A l m:List Nat)(f:Nat)(hl:∀x∈l,x≤15)(hf:N-l.length≤f)
  (hr:ij N l (ss.map (λs=>((s.1:Int),(s.2:Int))))=some m) (hN:m.length=N):bC cs (A++(ss.flatMap (aC cs)++B)) N f l A.length=.ok (m,A.length+(ss.flatMap (aC cs)).length):=by
 induction ss generalizing A l f with
 | nil=>
  simp only[List.map_nil,ij,Option.some.injEq]at hr;subst hr;rw[kE (by omega)];simp
 | cons s r ih=>
  have h1:=hs s (by simp);simp only[List.map_cons,ij]at hr;cases hw:ez l ((s.1:Int),(s.2:Int)) N with
  | none=>rw[hw]at hr;cases hr
  | some l2=>
   rw[hw]at hr;simp only at hr;have hg:=iA hw hl;obtain⟨f,rfl⟩:∃g,f=g+1:=⟨f-1,by omega⟩
   have RG:∀b∈r.flatMap (aC cs)++B,b<2:=λb hb=>by
    rcases List.mem_append.1 hb with h | h
    ·obtain⟨t,_,ht⟩:=List.mem_flatMap.1 h;exact uE cs t b ht
    ·exact hB b h
   have hst:=zA hm h15 A (r.flatMap (aC cs)++B) RG s h1.1 h1.2.1 h1.2.2;rw[List.flatMap_cons,List.append_assoc,l9 (by omega) hst,hw];simp only;have:=ih (λt ht=>hs t (List.mem_cons_of_mem _ ht)) (A++aC cs s) l2 f hg.2.2 (by omega) hr;rw[List.append_assoc,List.length_append]at this;rw[this,List.length_append,Nat.add_assoc]
def aP(cs:List Nat):Nat->List Nat
 | 0=>[]
 | i+1=>aP cs i++aj (cs.getD (ord.getD i 0) 0) 3
theorem cP(cs:List Nat)(i:Nat):(aP cs i).length=3*i:=by
 induction i with
 | zero=>rfl
 | succ i ih=>rw[aP,List.length_append,ih,af];omega
theorem qV(cs:List Nat)(i n:Nat)(h:i<n):∃r,aP cs n=aP cs i++(aj (cs.getD (ord.getD i 0) 0) 3++r):=by
 induction n with
 | zero=>omega
 | succ n ih=>
  by_cases e:i=n
  ·subst e;exact⟨[],by simp[aP]⟩
  ·obtain⟨r,hr⟩:=ih (by omega);exact⟨r++aj (cs.getD (ord.getD n 0) 0) 3,by rw[aP,hr];simp⟩
theorem Kq:∀p,p<19->∃j,j<19/\ord.getD j 0=p:=by decide
theorem yl(cs:List Nat)(h7:∀x∈cs,x<=7)(hl:cs.length=19)(A B:List Nat)(n:Nat)(hn:n<=19)(i:Nat)(hi:i<=n):∀p,p<19->(aM (A++(aP cs n++B)) A.length i).getD p 0=if (∃j,j<i/\ord.getD j 0=p)then cs.getD p 0 else 0:=by
 induction i with
 | zero=>
  intro p hp;rw[if_neg (by rintro⟨j,hj,_⟩;omega)];rw[aM,List.getD_eq_getElem?_getD,List.getElem?_replicate,if_pos hp];rfl
 | succ i ih=>
  intro p hp;have ih:=ih (by omega) p hp;obtain⟨r,hr⟩:=qV cs i n (by omega);have ho:=uJ i (by omega);have hv:cs.getD (ord.getD i 0) 0<2 ^ 3:=by have hlt:ord.getD i 0<cs.length:=(by omega);have e:cs.getD (ord.getD i 0) 0=cs[ord.getD i 0]:=(by rw[List.getD_eq_getElem?_getD,List.getElem?_eq_getElem hlt];rfl);rw[e];have:=h7 _ (List.getElem_mem hlt);omega
  have MN:aX (A++(aP cs n++B)) (A.length+3*i) 3=cs.getD (ord.getD i 0) 0:=(by have:=ed (A++aP cs i) (r++B) _ 3 hv;rw[List.length_append,cP]at this;rw[hr];simp only[List.append_assoc]at this ⊢;exact this);rw[aM,MN];have ag:=dt (A++(aP cs n++B)) A.length i;by_cases e:ord.getD i 0=p
  ·rw[if_pos ⟨i,by omega,e⟩,e];rw[List.getD_eq_getElem?_getD,List.getElem?_set_self (by omega)];rfl
  ·rw[List.getD_eq_getElem?_getD,List.getElem?_set_ne e,<-List.getD_eq_getElem?_getD,ih];by_cases h:∃j,j<i/\ord.getD j 0=p
   ·obtain⟨j,hj,hp⟩:=h;rw[if_pos ⟨j,hj,hp⟩,if_pos ⟨j,by omega,hp⟩]
   ·rw[if_neg h,if_neg];rintro⟨j,hj,hp⟩;by_cases e2:j=i
    ·subst e2;exact e hp
    ·exact h ⟨j,by omega,hp⟩
structure l6(lit dist:List Nat)(many:Nat)(cs:List Nat)(ss:List (Nat×Nat)):Prop where
 l1:257<=lit.length
 l2:lit.length<=286
 d1:1<=dist.length
 d2:dist.length<=30
 m1:4<=many
 m2:many<=19
 c19:cs.length=19
 c7:∀x∈cs,x<=7
 ok:bw cs=0
 rest:∀j,many<=j->j<19->cs.getD (ord.getD j 0) 0=0
 st:pB cs ss
 run:ij (lit.length+dist.length) [] (ss.map (λs=>((s.1:Int),(s.2:Int))))=some (lit++dist)
def bB(nl nd many:Nat)(cs:List Nat)(ss:List (Nat×Nat)):List Nat:=
 aj (nl-257) 5++(aj (nd-1) 5++(aj (many-4) 4++(aP cs many++ss.flatMap (aC cs))))
theorem o6(nl nd many:Nat)(cs:List Nat)(ss:List (Nat×Nat)):(bB nl nd many cs ss).length=14+3*many+(ss.flatMap (aC cs)).length:=by unfold bB;simp only[List.length_append,af,cP];omega
theorem yX{lit dist:List Nat}{many:Nat}{cs:List Nat}{ss:List (Nat×Nat)}(h:l6 lit dist many cs ss)(A B:List Nat)(hB:∀b∈B,b<2):
  b8 (A++(bB lit.length dist.length many cs ss++B)) A.length=.ok ((lit,dist),(bB lit.length dist.length many cs ss).length):=by
 have hm:measure cs<=32768:=by
  have:=h.ok;unfold bw at this;split at this
  ·omega
  ·omega
 have h15:∀x,key cs x<=15:=λx=>by
  by_cases e:x<cs.length
  ·rw[aZ e];have:=h.c7 _ (List.getElem_mem e);omega
  ·simp[key,e]
 have kY:=h.l1;have vf:=h.l2;have Cq:=h.d1;have pz:=h.d2;have hm1:=h.m1;have ip:=h.m2;have ag:=o6 lit.length dist.length many cs ss;obtain⟨T,hT⟩:∃T,T=A++(bB lit.length dist.length many cs ss++B):=⟨_,rfl⟩
 have Q1:T.length=A.length+(14+3*many+(ss.flatMap (aC cs)).length)+B.length:=by rw[hT,List.length_append,List.length_append,ag];omega
 have n1:aX T A.length 5=lit.length-257:=by have:=ed A (aj (dist.length-1) 5++(aj (many-4) 4++(aP cs many++ss.flatMap (aC cs)))++B) (lit.length-257) 5 (by omega);rw[hT];unfold bB;simp only[List.append_assoc]at this ⊢;exact this
 have XH:aX T (A.length+5) 5=dist.length-1:=by have:=ed (A++aj (lit.length-257) 5) (aj (many-4) 4++(aP cs many++ss.flatMap (aC cs))++B) (dist.length-1) 5 (by omega);rw[List.length_append,af]at this;rw[hT];unfold bB;simp only[List.append_assoc]at this ⊢;exact this
 have n3:aX T (A.length+10) 4=many-4:=by have:=ed (A++(aj (lit.length-257) 5++aj (dist.length-1) 5)) (aP cs many++ss.flatMap (aC cs)++B) (many-4) 4 (by omega);rw[List.length_append,List.length_append,af,af]at this;rw[hT];unfold bB;simp only[List.append_assoc]at this ⊢;exact this
 have eY:aM T (A.length+14) many=cs:=by
  have hA:(A++(aj (lit.length-257) 5++(aj (dist.length-1) 5++aj (many-4) 4))).length=A.length+14:=(by simp[af]);have:=yl cs h.c7 h.c19 (A++(aj (lit.length-257) 5++(aj (dist.length-1) 5++aj (many-4) 4))) (ss.flatMap (aC cs)++B) many ip many (Nat.le_refl _);rw[hA]at this;have eT:A++(aj (lit.length-257) 5++(aj (dist.length-1) 5++aj (many-4) 4))++(aP cs many++(ss.flatMap (aC cs)++B))=T:=(by rw[hT];unfold bB;simp only[List.append_assoc]);rw[eT]at this;refine List.ext_getElem (by rw[dt,h.c19]) (λp h1 h2=>?_);rw[dt]at h1;have hp:=this p h1;have e1:(aM T (A.length+14) many).getD p 0=(aM T (A.length+14) many)[p]:=(by rw[List.getD_eq_getElem?_getD,List.getElem?_eq_getElem];rfl);have e2:cs.getD p 0=cs[p]:=(by rw[List.getD_eq_getElem?_getD,List.getElem?_eq_getElem];rfl);rw[e1]at hp;rw[hp];obtain⟨j,hj,P7⟩:=Kq p h1;by_cases UB:j<many
  ·rw[if_pos ⟨j,UB,P7⟩,e2]
  ·have hz:=h.rest j (by omega) hj;rw[P7,e2]at hz;split
   ·exact e2
   ·exact hz.symm
 have yq:bC cs T (lit.length+dist.length) (lit.length+dist.length) [] (A.length+14+3*many)=.ok (lit++dist,A.length+14+3*many+(ss.flatMap (aC cs)).length):=by have hA:(A++(aj (lit.length-257) 5++(aj (dist.length-1) 5++(aj (many-4) 4++aP cs many)))).length=A.length+14+3*many:=(by simp[af,cP];omega);have:=As hm h15 (lit.length+dist.length) B hB ss h.st (A++(aj (lit.length-257) 5++(aj (dist.length-1) 5++(aj (many-4) 4++aP cs many)))) [] (lit++dist) (lit.length+dist.length) (by simp) (by simp) h.run (by simp);rw[hA]at this;have eT:A++(aj (lit.length-257) 5++(aj (dist.length-1) 5++(aj (many-4) 4++aP cs many)))++(ss.flatMap (aC cs)++B)=T:=(by rw[hT];unfold bB;simp only[List.append_assoc]);rw[eT]at this;exact this
 rw[<-hT];unfold b8;rw[n1,XH,n3,show many-4+4=many by omega,show lit.length-257+257=lit.length by omega,show dist.length-1+1=dist.length by omega,eY,yq,if_neg (by omega),if_neg (by omega),if_neg (by omega),if_neg (by rw[h.ok];simp)];simp only;rw[List.take_left,List.drop_left,ag];congr 2;omega
end Go.Proofs.YtkhagfgineifhaaGreatDoor
