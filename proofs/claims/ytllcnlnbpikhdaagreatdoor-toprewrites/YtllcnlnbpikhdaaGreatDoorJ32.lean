import Derived.Deep.RegionLaw
import Derived.Test.YtllcnlnbpikhdaaGreatDoorJ11
set_option maxHeartbeats 2000000
set_option maxRecDepth 100000
namespace Go.Proofs.YtllcnlnbpikhdaaGreatDoor
open Go.RowKit
theorem EI(w:World)(zs:List Nat)(n:Nat)(hn:zs.length=n):SrcE am (w.alloc (.cells (zs.map am).toArray 3)) (λk=>k=w.heap.size) (.slice (some ⟨w.heap.size,0,none⟩) n n) zs:=by subst hn;refine⟨_,_,rfl,Nat.le_refl _,λ_=>⟨_,_,rfl,rfl,λj hj=>?_⟩⟩;simp[hj]
theorem iY(l:List Nat)(hl:l.length=19)(h7:∀x∈l,x<=7):chk (l.map (fun(n:Nat)=>(n:Int)))=bm l:=by
 have hok:eC (l.map (fun(n:Nat)=>(n:Int))) 0 15=true:=by simp only[eC,List.length_map,Bool.and_eq_true,decide_eq_true_eq,Bool.not_eq_true',List.any_eq_false];refine⟨⟨by omega,by omega⟩,λz hz=>?_⟩;obtain⟨n,hn,rfl⟩:=List.mem_map.1 hz;have:=h7 n hn;simp[d7];omega
 unfold chk;rw[if_pos hok,List.map_map];have e:l.map (Int.toNat ∘ fun(n:Nat)=>(n:Int))=l:=by
  conv=>rhs;rw[<-List.map_id l]
  exact List.map_congr_left (λn _=>by simp)
 rw[e]
theorem qL{ns ls:List Nat}{c s x c':Nat}(h:df ns ls c=.ok ((s,x),c')):c'<=ls.length:=by
 unfold df at h;split at h
 ·cases h
 ·split at h
  ·cases h
  ·simp only[Except.ok.injEq,Prod.mk.injEq]at h;omega
theorem lL{ns ls:List Nat}{N f c s x c':Nat}{l:List Nat}(hl:l.length<N)(hs:df ns ls c=.ok ((s,x),c')):bz ns ls N (f+1) l c=match et l ((s:Int),(x:Int)) N with | none=>.error 41 | some m=>bz ns ls N f m c':=by simp only[bz];rw[if_neg (by omega),hs];rfl
theorem rV{ns ls:List Nat}{N f c e:Nat}{l:List Nat}(hl:l.length<N)(hs:df ns ls c=.error e):bz ns ls N (f+1) l c=.error e:=by simp only[bz];rw[if_neg (by omega),hs]
theorem kt{ns ls:List Nat}{N f c:Nat}{l:List Nat}(hl:N<=l.length):bz ns ls N f l c=.ok (l,c):=by
 cases f with
 | zero=>rfl
 | succ f=>simp only[bz];rw[if_pos hl]
theorem pT{ns ls:List Nat}{c s x c':Nat}(h:df ns ls c=.ok ((s,x),c')):c<=c':=by
 unfold df at h;split at h
 ·cases h
 ·split at h
  ·cases h
  ·simp only[Except.ok.injEq,Prod.mk.injEq]at h;omega
theorem tS:∀i,i<19->ord.getD i 0<=18:=by decide
end Go.Proofs.YtllcnlnbpikhdaaGreatDoor
namespace Go.Proofs.YtllcnlnbpikhdaaGreatDoor
theorem vD{ns:List Nat}{s:Nat}(hm:measure ns<=32768)(hs:s∈aD ns)(h15:key ns s<=15)(t:List Nat)(ht:∀b∈t,b<2):Bw ns t s↔key ns s<=t.length/\rv (key ns s) (n2 t)=dy ns s:=by
 have fq:=ve hm hs h15;have KS:∀n,n<=t.length->n2 (t.take n)=n2 t % 2 ^ n:=λn hn=>by have:=Bh t ht 0 n (by omega);simpa using this
 unfold Bw;rw[List.prefix_iff_eq_take,aw];constructor
 ·rintro⟨_,h⟩;have hl:=congrArg List.length h;rw[aw,List.length_take]at hl;have hk:key ns s<=t.length:=(by omega);refine⟨hk,?_⟩;have h2:=congrArg n2 h;rw[gu,KS _ hk]at h2;rw[<-lI (key ns s) (key ns s) _ (Nat.le_refl _),<-h2,wH,Nat.mod_eq_of_lt fq]
 ·rintro⟨hk,h⟩;refine⟨(aU.1 hs).2,?_⟩;refine pW _ _ (by rw[aw,List.length_take];omega) (cU ns s) (λx hx=>ht x (List.mem_of_mem_take hx)) ?_;rw[gu,KS _ hk,<-h,wH]
theorem nI{ns:List Nat}{s:Nat}(hm:measure ns<=32768)(h15:∀x,key ns x<=15)(hs:s<ns.length)(h0:key ns s≠0)(rest:List Nat)(hr:∀b∈rest,b<2):aS ns (aE ns s++rest)=(s,key ns s,0):=by
 have hb:∀b∈aE ns s++rest,b<2:=λb hb=>by
  rcases List.mem_append.1 hb with h | h
  ·exact cU ns s b h
  ·exact hr b h
 have hsr:s∈aD ns:=aU.2 ⟨hs,h0⟩;have hf:Bw ns (aE ns s++rest) s:=⟨h0,List.prefix_append _ _⟩
 refine vn (.inl ⟨rfl,hs,hf,rfl,λj hj S8=>?_⟩);have Tl:j∈aD ns:=aU.2 ⟨by omega,S8.1⟩;have h1:=((vD hm hsr (h15 s) _ hb).1 hf).2;have h2:=((vD hm Tl (h15 j) _ hb).1 S8).2;have:=wE Tl hsr h15 h2 h1;omega
theorem d6(A B:List Nat)(v n:Nat)(h:v<2 ^ n):aW (A++(aj v n++B)) A.length n=v:=by unfold aW;rw[List.drop_left,List.take_append_of_le_length (by rw[af];exact Nat.le_refl _),List.take_of_length_le (by rw[af];exact Nat.le_refl _),dq,Nat.mod_eq_of_lt h]
def aC(cs:List Nat)(s:Nat×Nat):List Nat:=aE cs s.1++aj s.2 (dC s.1)
theorem fL(cs:List Nat)(s:Nat×Nat):(aC cs s).length=key cs s.1+dC s.1:=by rw[aC,List.length_append,aw,af]
theorem tx(cs:List Nat)(s:Nat×Nat):∀b∈aC cs s,b<2:=by
 intro b hb;rcases List.mem_append.1 hb with h | h
 ·exact cU _ _ b h
 ·exact d9 _ _ b h
def pr(cs:List Nat)(ss:List (Nat×Nat)):Prop:=∀s∈ss,s.1<cs.length/\key cs s.1≠0/\s.2<2 ^ dC s.1
theorem yZ{cs:List Nat}(hm:measure cs≤32768)(h15:∀x,key cs x≤15)(A B:List Nat)(hB:∀b∈B,b<2)(s:Nat×Nat)(h1:s.1<cs.length)(h2:key cs s.1≠0)(h3:s.2<2 ^ dC s.1):
  df cs (A++(aC cs s++B)) A.length=.ok (s,A.length+(aC cs s).length):=by
 have hn:aS cs ((A++(aC cs s++B)).drop A.length)=(s.1,key cs s.1,0):=by
  rw[List.drop_left,aC,List.append_assoc];refine nI hm h15 h1 h2 _ (λb hb=>?_);rcases List.mem_append.1 hb with h | h
  ·exact d9 _ _ b h
  ·exact hB b h
 have hx:aW (A++(aC cs s++B)) (A.length+key cs s.1) (dC s.1)=s.2:=by have:=d6 (A++aE cs s.1) B s.2 (dC s.1) h3;rw[List.length_append,aw]at this;rw[aC,List.append_assoc,<-List.append_assoc A];exact this
 unfold df;rw[hn];simp only;rw[if_neg (by simp),if_neg (by rw[List.length_append,List.length_append,fL];omega),hx,fL,Nat.add_assoc]
theorem yF{cs:List Nat}(hm:measure cs≤32768)(h15:∀x,key cs x≤15)(N:Nat)(B:List Nat)(hB:∀b∈B,b<2)(ss:List (Nat×Nat))(hs:pr cs ss)(A l m:List Nat)(f:Nat)(hl:∀x∈l,x≤15)(hf:N-l.length≤f)
  (hr:gY N l (ss.map (λs=>((s.1:Int),(s.2:Int))))=some m) (hN:m.length=N):bz cs (A++(ss.flatMap (aC cs)++B)) N f l A.length=.ok (m,A.length+(ss.flatMap (aC cs)).length):=by
 induction ss generalizing A l f with
 | nil=>
  simp only[List.map_nil,gY,Option.some.injEq]at hr;subst hr;rw[kt (by omega)];simp
 | cons s r ih=>
  have h1:=hs s (by simp);simp only[List.map_cons,gY]at hr;cases hw:et l ((s.1:Int),(s.2:Int)) N with
  | none=>rw[hw]at hr;cases hr
  | some l2=>
   rw[hw]at hr;simp only at hr;have hg:=ie hw hl;obtain⟨f,rfl⟩:∃g,f=g+1:=⟨f-1,by omega⟩
   have RX:∀b∈r.flatMap (aC cs)++B,b<2:=λb hb=>by
    rcases List.mem_append.1 hb with h | h
    ·obtain⟨t,_,ht⟩:=List.mem_flatMap.1 h;exact tx cs t b ht
    ·exact hB b h
   have hst:=yZ hm h15 A (r.flatMap (aC cs)++B) RX s h1.1 h1.2.1 h1.2.2;rw[List.flatMap_cons,List.append_assoc,lL (by omega) hst,hw];simp only;have:=ih (λt ht=>hs t (List.mem_cons_of_mem _ ht)) (A++aC cs s) l2 f hg.2.2 (by omega) hr;rw[List.append_assoc,List.length_append]at this;rw[this,List.length_append,Nat.add_assoc]
def aO(cs:List Nat):Nat->List Nat
 | 0=>[]
 | i+1=>aO cs i++aj (cs.getD (ord.getD i 0) 0) 3
theorem cM(cs:List Nat)(i:Nat):(aO cs i).length=3*i:=by
 induction i with
 | zero=>rfl
 | succ i ih=>rw[aO,List.length_append,ih,af];omega
theorem qJ(cs:List Nat)(i n:Nat)(h:i<n):∃r,aO cs n=aO cs i++(aj (cs.getD (ord.getD i 0) 0) 3++r):=by
 induction n with
 | zero=>omega
 | succ n ih=>
  by_cases e:i=n
  ·subst e;exact⟨[],by simp[aO]⟩
  ·obtain⟨r,hr⟩:=ih (by omega);exact⟨r++aj (cs.getD (ord.getD n 0) 0) 3,by rw[aO,hr];simp⟩
theorem Jl:∀p,p<19->∃j,j<19/\ord.getD j 0=p:=by decide
theorem vS(cs:List Nat)(h7:∀x∈cs,x<=7)(hl:cs.length=19)(A B:List Nat)(n:Nat)(hn:n<=19)(i:Nat)(hi:i<=n):∀p,p<19->(aL (A++(aO cs n++B)) A.length i).getD p 0=if (∃j,j<i/\ord.getD j 0=p)then cs.getD p 0 else 0:=by
 induction i with
 | zero=>
  intro p hp;rw[if_neg (by rintro⟨j,hj,_⟩;omega)];rw[aL,List.getD_eq_getElem?_getD,List.getElem?_replicate,if_pos hp];rfl
 | succ i ih=>
  intro p hp;have ih:=ih (by omega) p hp;obtain⟨r,hr⟩:=qJ cs i n (by omega);have ho:=tS i (by omega);have hv:cs.getD (ord.getD i 0) 0<2 ^ 3:=by have hlt:ord.getD i 0<cs.length:=(by omega);have e:cs.getD (ord.getD i 0) 0=cs[ord.getD i 0]:=(by rw[List.getD_eq_getElem?_getD,List.getElem?_eq_getElem hlt];rfl);rw[e];have:=h7 _ (List.getElem_mem hlt);omega
  have Mv:aW (A++(aO cs n++B)) (A.length+3*i) 3=cs.getD (ord.getD i 0) 0:=(by have:=d6 (A++aO cs i) (r++B) _ 3 hv;rw[List.length_append,cM]at this;rw[hr];simp only[List.append_assoc]at this ⊢;exact this);rw[aL,Mv];have ag:=dk (A++(aO cs n++B)) A.length i;by_cases e:ord.getD i 0=p
  ·rw[if_pos ⟨i,by omega,e⟩,e];rw[List.getD_eq_getElem?_getD,List.getElem?_set_self (by omega)];rfl
  ·rw[List.getD_eq_getElem?_getD,List.getElem?_set_ne e,<-List.getD_eq_getElem?_getD,ih];by_cases h:∃j,j<i/\ord.getD j 0=p
   ·obtain⟨j,hj,hp⟩:=h;rw[if_pos ⟨j,hj,hp⟩,if_pos ⟨j,by omega,hp⟩]
   ·rw[if_neg h,if_neg];rintro⟨j,hj,hp⟩;by_cases e2:j=i
    ·subst e2;exact e hp
    ·exact h ⟨j,by omega,hp⟩
structure lT(lit dist:List Nat)(many:Nat)(cs:List Nat)(ss:List (Nat×Nat)):Prop where
 l1:257<=lit.length
 l2:lit.length<=286
 d1:1<=dist.length
 d2:dist.length<=30
 m1:4<=many
 m2:many<=19
 c19:cs.length=19
 c7:∀x∈cs,x<=7
 ok:bm cs=0
 rest:∀j,many<=j->j<19->cs.getD (ord.getD j 0) 0=0
 st:pr cs ss
 run:gY (lit.length+dist.length) [] (ss.map (λs=>((s.1:Int),(s.2:Int))))=some (lit++dist)
def bC(nl nd many:Nat)(cs:List Nat)(ss:List (Nat×Nat)):List Nat:=
 aj (nl-257) 5++(aj (nd-1) 5++(aj (many-4) 4++(aO cs many++ss.flatMap (aC cs))))
theorem oT(nl nd many:Nat)(cs:List Nat)(ss:List (Nat×Nat)):(bC nl nd many cs ss).length=14+3*many+(ss.flatMap (aC cs)).length:=by unfold bC;simp only[List.length_append,af,cM];omega
theorem yy{lit dist:List Nat}{many:Nat}{cs:List Nat}{ss:List (Nat×Nat)}(h:lT lit dist many cs ss)(A B:List Nat)(hB:∀b∈B,b<2):
  bZ (A++(bC lit.length dist.length many cs ss++B)) A.length=.ok ((lit,dist),(bC lit.length dist.length many cs ss).length):=by
 have hm:measure cs<=32768:=by
  have:=h.ok;unfold bm at this;split at this
  ·omega
  ·omega
 have h15:∀x,key cs x<=15:=λx=>by
  by_cases e:x<cs.length
  ·rw[aY e];have:=h.c7 _ (List.getElem_mem e);omega
  ·simp[key,e]
 have l6:=h.l1;have ur:=h.l2;have Cb:=h.d1;have pa:=h.d2;have hm1:=h.m1;have g8:=h.m2;have ag:=oT lit.length dist.length many cs ss;obtain⟨T,hT⟩:∃T,T=A++(bC lit.length dist.length many cs ss++B):=⟨_,rfl⟩
 have PG:T.length=A.length+(14+3*many+(ss.flatMap (aC cs)).length)+B.length:=by rw[hT,List.length_append,List.length_append,ag];omega
 have n1:aW T A.length 5=lit.length-257:=by have:=d6 A (aj (dist.length-1) 5++(aj (many-4) 4++(aO cs many++ss.flatMap (aC cs)))++B) (lit.length-257) 5 (by omega);rw[hT];unfold bC;simp only[List.append_assoc]at this ⊢;exact this
 have Xk:aW T (A.length+5) 5=dist.length-1:=by have:=d6 (A++aj (lit.length-257) 5) (aj (many-4) 4++(aO cs many++ss.flatMap (aC cs))++B) (dist.length-1) 5 (by omega);rw[List.length_append,af]at this;rw[hT];unfold bC;simp only[List.append_assoc]at this ⊢;exact this
 have n3:aW T (A.length+10) 4=many-4:=by have:=d6 (A++(aj (lit.length-257) 5++aj (dist.length-1) 5)) (aO cs many++ss.flatMap (aC cs)++B) (many-4) 4 (by omega);rw[List.length_append,List.length_append,af,af]at this;rw[hT];unfold bC;simp only[List.append_assoc]at this ⊢;exact this
 have eO:aL T (A.length+14) many=cs:=by
  have hA:(A++(aj (lit.length-257) 5++(aj (dist.length-1) 5++aj (many-4) 4))).length=A.length+14:=(by simp[af]);have:=vS cs h.c7 h.c19 (A++(aj (lit.length-257) 5++(aj (dist.length-1) 5++aj (many-4) 4))) (ss.flatMap (aC cs)++B) many g8 many (Nat.le_refl _);rw[hA]at this;have eT:A++(aj (lit.length-257) 5++(aj (dist.length-1) 5++aj (many-4) 4))++(aO cs many++(ss.flatMap (aC cs)++B))=T:=(by rw[hT];unfold bC;simp only[List.append_assoc]);rw[eT]at this;refine List.ext_getElem (by rw[dk,h.c19]) (λp h1 h2=>?_);rw[dk]at h1;have hp:=this p h1;have e1:(aL T (A.length+14) many).getD p 0=(aL T (A.length+14) many)[p]:=(by rw[List.getD_eq_getElem?_getD,List.getElem?_eq_getElem];rfl);have e2:cs.getD p 0=cs[p]:=(by rw[List.getD_eq_getElem?_getD,List.getElem?_eq_getElem];rfl);rw[e1]at hp;rw[hp];obtain⟨j,hj,NM⟩:=Jl p h1;by_cases Ti:j<many
  ·rw[if_pos ⟨j,Ti,NM⟩,e2]
  ·have hz:=h.rest j (by omega) hj;rw[NM,e2]at hz;split
   ·exact e2
   ·exact hz.symm
 have xX:bz cs T (lit.length+dist.length) (lit.length+dist.length) [] (A.length+14+3*many)=.ok (lit++dist,A.length+14+3*many+(ss.flatMap (aC cs)).length):=by have hA:(A++(aj (lit.length-257) 5++(aj (dist.length-1) 5++(aj (many-4) 4++aO cs many)))).length=A.length+14+3*many:=(by simp[af,cM];omega);have:=yF hm h15 (lit.length+dist.length) B hB ss h.st (A++(aj (lit.length-257) 5++(aj (dist.length-1) 5++(aj (many-4) 4++aO cs many)))) [] (lit++dist) (lit.length+dist.length) (by simp) (by simp) h.run (by simp);rw[hA]at this;have eT:A++(aj (lit.length-257) 5++(aj (dist.length-1) 5++(aj (many-4) 4++aO cs many)))++(ss.flatMap (aC cs)++B)=T:=(by rw[hT];unfold bC;simp only[List.append_assoc]);rw[eT]at this;exact this
 rw[<-hT];unfold bZ;rw[n1,Xk,n3,show many-4+4=many by omega,show lit.length-257+257=lit.length by omega,show dist.length-1+1=dist.length by omega,eO,xX,if_neg (by omega),if_neg (by omega),if_neg (by omega),if_neg (by rw[h.ok];simp)];simp only;rw[List.take_left,List.drop_left,ag];congr 2;omega
structure Agr(c:Nat)(ls ls':List Nat):Prop where
 eq:ls'.take c=ls.take c
 le:c<=ls.length
 le':c<=ls'.length
theorem Agr.less{c d:Nat}{ls ls':List Nat}(h:Agr c ls ls')(hd:d<=c):Agr d ls ls':=by refine⟨?_,Nat.le_trans hd h.le,Nat.le_trans hd h.le'⟩;have e:=congrArg (List.take d) h.eq;rwa [List.take_take,List.take_take,Nat.min_eq_left hd]at e
theorem Agr.ext(ls m:List Nat):Agr ls.length ls (ls++m):=⟨by rw[List.take_left,List.take_length],Nat.le_refl _,by rw[List.length_append];omega⟩
theorem Agr.part{k:Nat}{ls ls':List Nat}(h:Agr k ls ls')(c n:Nat)(hk:c+n<=k):(ls'.drop c).take n=(ls.drop c).take n:=by have e:=(h.less hk).eq;have e2:=congrArg (List.drop c) e;rwa [List.drop_take,List.drop_take,show c+n-c=n by omega]at e2
theorem dL{k:Nat}{ls ls':List Nat}(h:Agr k ls ls')(c n:Nat)(hk:c+n<=k):aW ls' c n=aW ls c n:=by unfold aW;rw[h.part c n hk]
structure Pf(ns:List Nat):Prop where
 ms:measure ns<=32768
 le:∀s,key ns s<=15
theorem n7{ns ls ls':List Nat}(hp:Pf ns)(hb:∀b∈ls',b<2){c s k:Nat}(hn:aS ns (ls.drop c)=(s,k,0))(h:Agr (c+k) ls ls'):aS ns (ls'.drop c)=(s,k,0):=by
 have h1:=i9 ns (ls.drop c);rw[hn]at h1;rcases h1 with⟨_,hs,hf,hk,_⟩ | ⟨h0,_⟩ | ⟨h0,_⟩
 ·simp only at hs hf hk;have e1:aE ns s=(ls'.drop c).take k:=by
   rw[h.part c k (Nat.le_refl _)];have:=(List.prefix_iff_eq_take.1 hf.2)
   rw[aw,<-hk]at this;exact this
  have e2:ls'.drop c=aE ns s++(ls'.drop c).drop k:=(by rw[e1,List.take_append_drop]);rw[e2,nI hp.ms hp.le hs hf.1 _ (λb iH=>hb b (List.mem_of_mem_drop (List.mem_of_mem_drop iH))),<-hk]
 ·simp at h0
 ·simp at h0
theorem sG(ns t m:List Nat)(h:(aS ns t).2.2=32):(aS ns (t++m)).2.2=32:=by
 have h1:=i9 ns t;rcases h1 with⟨h0,_⟩ | ⟨h0,_⟩ | ⟨_,_,_,rE,hnb⟩
 ·omega
 ·omega
 ·have:aS ns (t++m)=(0,0,32):=vn (.inr (.inr ⟨rfl,rfl,rfl,λs hs hf=>?_,λs hs hb=>?_⟩))
  ·rw[this]
  ·rcases List.prefix_or_prefix_of_prefix hf.2 (List.prefix_append t m)with h2 | h2
   ·exact rE s hs ⟨hf.1,h2⟩
   ·exact hnb s hs ⟨hf.1,h2⟩
  ·exact hnb s hs ⟨hb.1,List.IsPrefix.trans (List.prefix_append t m) hb.2⟩
theorem lE(ns t:List Nat):(aS ns t).2.2=0\/(aS ns t).2.2=10\/(aS ns t).2.2=32:=by
 rcases i9 ns t with h | h | h
 ·exact .inl h.1
 ·exact .inr (.inl h.1)
 ·exact .inr (.inr h.1)
theorem rW{ns ls ls':List Nat}(hp:Pf ns)(hb:∀b∈ls',b<2){c c':Nat}{x:Nat×Nat}(hs:df ns ls c=.ok (x,c'))(h:Agr c' ls ls'):df ns ls' c=.ok (x,c'):=by
 unfold df at hs;split at hs
 ·cases hs
 ·rename_i h0;split at hs
  ·cases hs
  ·rename_i h1;simp only[Except.ok.injEq,Prod.mk.injEq]at hs;obtain⟨rfl,rfl⟩:=hs;have hn:aS ns (ls.drop c)=((aS ns (ls.drop c)).1,(aS ns (ls.drop c)).2.1,0):=by
    have:(aS ns (ls.drop c)).2.2=0:=Classical.not_not.1 h0;rw[<-this]
   have Ao:=n7 hp hb hn (h.less (Nat.le_add_right _ _));unfold df;rw[Ao];simp only;rw[if_neg (by simp),if_neg (by have:=h.le';omega),dL h _ _ (Nat.le_refl _)]
theorem Cn{ns ls:List Nat}{c e:Nat}(hc:c<=ls.length)(hs:df ns ls c=.error e)(he:e≠10)(m:List Nat):df ns (ls++m) c=.error e:=by
 unfold df at hs;split at hs
 ·rename_i h0;simp only[Except.error.injEq]at hs;have Ty:(aS ns (ls.drop c)).2.2=32:=by rcases lE ns (ls.drop c)with h | h | h<;>omega
  have h2:=sG ns (ls.drop c) m Ty;rw[<-List.drop_append_of_le_length hc]at h2;unfold df;rw[h2,if_pos (by omega)];congr 1;omega
 ·split at hs
  ·simp only[Except.error.injEq]at hs;omega
  ·cases hs
theorem pF{ns ls:List Nat}{N f c c':Nat}{l m:List Nat}(h:bz ns ls N f l c=.ok (m,c'))(hc:c<=ls.length):c<=c'/\c'<=ls.length:=by
 induction f generalizing l c with
 | zero=>simp only[bz,Except.ok.injEq,Prod.mk.injEq]at h;omega
 | succ f ih=>
  unfold bz at h;split at h
  ·simp only[Except.ok.injEq,Prod.mk.injEq]at h;omega
  ·split at h
   ·cases h
   ·rename_i s c2 hs;have h1:=pT (s:=s.1) (x:=s.2) hs;have h2:=qL (s:=s.1) (x:=s.2) hs;split at h
    ·cases h
    ·have:=ih h h2;omega
theorem Dp{ns ls ls':List Nat}(hp:Pf ns)(hb:∀b∈ls',b<2){N f c c':Nat}{l m:List Nat}(h:bz ns ls N f l c=.ok (m,c'))(hc:c<=ls.length)(ha:Agr c' ls ls'):bz ns ls' N f l c=.ok (m,c'):=by
 induction f generalizing l c with
 | zero=>simpa only[bz]using h
 | succ f ih=>
  unfold bz at h ⊢;split at h
  ·rename_i h1;rw[if_pos h1];exact h
  ·rename_i h1;rw[if_neg h1];split at h
   ·cases h
   ·rename_i s c2 hs;have h2:=qL (s:=s.1) (x:=s.2) hs;split at h
    ·cases h
    ·rename_i l2 hw;have h3:=pF h h2;rw[rW hp hb hs (ha.less h3.1)];simp only;rw[hw];exact ih h h2
theorem yX{ns ls:List Nat}(hp:Pf ns)(mo:List Nat)(hb:∀b∈ls++mo,b<2){N f c e:Nat}{l:List Nat}(h:bz ns ls N f l c=.error e)(he:e≠10)(hc:c<=ls.length):bz ns (ls++mo) N f l c=.error e:=by
 induction f generalizing l c with
 | zero=>simp[bz]at h
 | succ f ih=>
  unfold bz at h ⊢;split at h
  ·cases h
  ·rename_i h1;rw[if_neg h1];split at h
   ·rename_i e2 hs;simp only[Except.error.injEq]at h;subst h;rw[Cn hc hs he mo]
   ·rename_i s c2 hs;have h2:=qL (s:=s.1) (x:=s.2) hs;rw[rW hp hb hs ((Agr.ext ls mo).less h2)];simp only;split at h
    ·exact h
    ·exact ih h h2
theorem qV{k:Nat}{ls ls':List Nat}(h:Agr k ls ls')(c i:Nat)(hi:c+3*i<=k):aL ls' c i=aL ls c i:=by
 induction i with
 | zero=>rfl
 | succ i ih=>rw[aL,aL,ih (by omega),dL h _ _ (by omega)]
theorem key_le{ns:List Nat}{b:Nat}(h:∀n∈ns,n<=b)(s:Nat):key ns s<=b:=Nat.le_trans (iZ ns s) (xQ ns b h)
theorem sL{ls:List Nat}(hb:∀b∈ls,b<2)(c i:Nat)(h:bm (aL ls c i)=0):Pf (aL ls c i):=by
 refine⟨?_,λs=>Nat.le_trans (key_le (nD ls hb c i) s) (by omega)⟩;unfold bm at h;split at h
 ·cases h
 ·omega
theorem pY{ls:List Nat}{a n:Nat}{x:List Nat×List Nat}(h:bZ ls a=.ok (x,n)):a+14<=a+n/\a+n<=ls.length:=by
 unfold bZ at h;split at h
 ·cases h
 ·split at h
  ·cases h
  ·split at h
   ·cases h
   ·rename_i h3;split at h
    ·cases h
    ·split at h
     ·cases h
     ·rename_i l c D9;simp only[Except.ok.injEq,Prod.mk.injEq]at h;have:=pF D9 (by omega);omega
theorem sX{ls ls':List Nat}(hb:∀b∈ls,b<2)(iH:∀b∈ls',b<2){a n:Nat}{x:List Nat×List Nat}(h:bZ ls a=.ok (x,n))(ha:Agr (a+n) ls ls'):bZ ls' a=.ok (x,n):=by
 have h0:=pY h;unfold bZ at h;split at h
 ·cases h
 ·rename_i h1;split at h
  ·cases h
  ·rename_i h2;split at h
   ·cases h
   ·rename_i h3;split at h
    ·cases h
    ·rename_i h4;split at h
     ·cases h
     ·rename_i l c D9;simp only[Except.ok.injEq,Prod.mk.injEq]at h;obtain⟨rfl,hn⟩:=h;have h5:=pF D9 (by omega);have ti:c=a+n:=(by omega);have l1:=ha.le';unfold bZ;rw[dL ha a 5 (by omega),dL ha (a+5) 5 (by omega),dL ha (a+10) 4 (by omega),qV ha (a+14) _ (by omega),if_neg (by omega),if_neg h2,if_neg (by omega),if_neg h4,
       Dp (sL hb _ _ (Classical.not_not.1 h4)) iH D9 (by omega) (by rw[ti];exact ha)]
      simp only;rw[hn]
theorem Af{ls:List Nat}(mo:List Nat)(hb:∀b∈ls++mo,b<2){a e:Nat}(h:bZ ls a=.error e)(he:e≠10):bZ (ls++mo) a=.error e:=by
 have ha:=Agr.ext ls mo;unfold bZ at h;split at h
 ·simp only[Except.error.injEq]at h;omega
 ·rename_i h1;unfold bZ;have l1:=ha.le';rw[dL ha a 5 (by omega),dL ha (a+5) 5 (by omega),dL ha (a+10) 4 (by omega),if_neg (by omega)];split at h
  ·rename_i h2;rw[if_pos h2];exact h
  ·rename_i h2;rw[if_neg h2];split at h
   ·simp only[Except.error.injEq]at h;omega
   ·rename_i h3;rw[if_neg (by omega),qV ha (a+14) _ (by omega)];split at h
    ·rename_i h4;rw[if_pos h4];exact h
    ·rename_i h4;rw[if_neg h4];split at h
     ·rename_i e2 D9;simp only[Except.error.injEq]at h;subst h;rw[yX (sL (λb nj=>hb b (List.mem_append_left _ nj)) _ _ (Classical.not_not.1 h4)) mo hb D9 he (by omega)]
     ·cases h
theorem Ci{ls ls':List Nat}(hb:∀b∈ls,b<2)(iH:∀b∈ls',b<2){a n:Nat}{x:List Nat×List Nat}(h:ed ls a=.ok (x,n))(ha:Agr (a+n) ls ls'):ed ls' a=.ok (x,n):=by
 unfold ed at h ⊢;split at h
 ·cases h
 ·rename_i l d n2 hr;split at h
  ·cases h
  ·rename_i h1;simp only[Except.ok.injEq,Prod.mk.injEq]at h;obtain⟨rfl,rfl⟩:=h;rw[sX hb iH hr ha];simp only;rw[if_neg h1]
theorem Ad{ls:List Nat}(mo:List Nat)(hb:∀b∈ls++mo,b<2){a e:Nat}(h:ed ls a=.error e)(he:e≠55):ed (ls++mo) a=.error e:=by
 have hb1:∀b∈ls,b<2:=λb nj=>hb b (List.mem_append_left _ nj)
 unfold ed at h;split at h
 ·rename_i e2 hr;simp only[Except.error.injEq]at h;have LE:e2≠10:=λHm=>by rw[if_pos Hm]at h;omega
  unfold ed;rw[Af mo hb hr LE];simp only;rw[h]
 ·rename_i l d n2 hr;split at h
  ·rename_i h1;unfold ed;rw[sX hb1 hb hr ((Agr.ext ls mo).less (pY hr).2)];simp only;rw[if_pos h1];exact h
  ·cases h
theorem F9{ls:List Nat}{a n:Nat}{x:List Nat×List Nat}(h:ed ls a=.ok (x,n)):a+14<=a+n/\a+n<=ls.length:=by
 unfold ed at h;split at h
 ·cases h
 ·rename_i l d n2 hr;split at h
  ·cases h
  ·simp only[Except.ok.injEq,Prod.mk.injEq]at h;obtain⟨_,rfl⟩:=h;exact pY hr
inductive Bk where
 | raw (last:Bool) (left:Nat)
 | sym (last:Bool) (lit dist:List Nat)
def Bk.last:Bk->Bool
 | .raw l _=>l
 | .sym l _ _=>l
inductive Tok where
 | fin
 | byte (b:Nat)
 | copy (n far:Nat)
def iz(ls:List Nat)(c n:Nat):Except Nat (Nat×Nat):=if ls.length<c+n then .error 55 else .ok (aW ls c n,c+n)
def nE(ns ls:List Nat)(c last:Nat):Except Nat (Nat×Nat):=
 if (aS ns (ls.drop c)).2.2=10 then .error 55
 else if (aS ns (ls.drop c)).2.2≠0\/last<(aS ns (ls.drop c)).1 then .error 53
 else .ok ((aS ns (ls.drop c)).1,c+(aS ns (ls.drop c)).2.1)
def aT{α β:Type}(r:Except Nat (α×Nat))(g:α->Nat->Except Nat (β×Nat)):Except Nat (β×Nat):=
 match r with
 | .error e=>.error e
 | .ok x=>g x.1 x.2
theorem aI{α β:Type}{r:Except Nat (α×Nat)}{g:α->Nat->Except Nat (β×Nat)}{y:β×Nat}:aT r g=.ok y↔∃x c,r=.ok (x,c)/\g x c=.ok y:=by
 cases r with
 | error e=>simp[aT]
 | ok x=>
  refine⟨λh=>⟨x.1,x.2,rfl,h⟩,fun⟨a,c,h1,h2⟩=>?_⟩;simp only[Except.ok.injEq]at h1;subst h1;exact h2
theorem kv{α β:Type}{r:Except Nat (α×Nat)}{g:α->Nat->Except Nat (β×Nat)}{e:Nat}:aT r g=.error e↔r=.error e\/∃x c,r=.ok (x,c)/\g x c=.error e:=by
 cases r with
 | error e2=>simp[aT]
 | ok x=>
  refine⟨λh=>.inr ⟨x.1,x.2,rfl,h⟩,λh=>?_⟩;rcases h with h | ⟨a,c,h1,h2⟩
  ·cases h
  ·simp only[Except.ok.injEq]at h1;subst h1;exact h2
theorem aF{α β:Type}{r:Except Nat (α×Nat)}{g:α->Nat->Except Nat (β×Nat)}{x:α}{c:Nat}(h:r=.ok (x,c)):aT r g=g x c:=by rw[h];rfl
theorem bM{α β:Type}{r:Except Nat (α×Nat)}{g:α->Nat->Except Nat (β×Nat)}{e:Nat}(h:r=.error e):aT r g=.error e:=by rw[h];rfl
def cY(ls:List Nat)(c y k:Nat):Except Nat (Nat×Nat):=
 if y<k then .ok (y,c)else aT (iz ls c (y / k-1)) (λx c'=>.ok ((k+y % k)*2 ^ (y / k-1)+x,c'))
def jZ(ls:List Nat)(c y:Nat):Except Nat (Nat×Nat):=
 if y<285 then aT (cY ls c (y-257) 4) (λn c'=>.ok (3+n,c'))else .ok (258,c)
def mw(dist ls:List Nat)(c:Nat):Except Nat (Nat×Nat):=if bR dist=false then .error 53 else nE dist ls c 29
def fR(ls dist:List Nat)(c y:Nat):Except Nat ((Nat×Nat)×Nat):=
 aT (jZ ls c y) (λn c1=>aT (mw dist ls c1) (λz c2=>aT (cY ls c2 z 2) (λd c3=>.ok ((n,1+d),c3))))
def jl(ls:List Nat)(last:Bool)(lit dist:List Nat)(y c1:Nat):Except Nat ((Tok×Bk)×Nat):=
 if y<256 then .ok ((.byte y,.sym last lit dist),c1)
 else if y=256 then .ok ((.fin,.sym last lit dist),c1)
 else aT (fR ls dist c1 y) (λx c2=>.ok ((.copy x.1 x.2,.sym last lit dist),c2))
def bA(ls:List Nat)(b:Bk)(c:Nat):Except Nat ((Tok×Bk)×Nat):=
 match b with
 | .raw last 0=>.ok ((.fin,.raw last 0),c)
 | .raw last (n+1)=>aT (iz ls c 8) (λv c'=>.ok ((.byte v,.raw last n),c'))
 | .sym last lit dist=>aT (nE lit ls c 285) (jl ls last lit dist)
def mN(ls:List Nat)(c:Nat):Except Nat (Nat×Nat):=
 aT (iz ls ((c+7) / 8*8) 16) (λn c1=>aT (iz ls c1 16) (λt c2=>if n+t=65535 then .ok (n,c2)else .error 51))
def oN(ls:List Nat)(c:Nat):Except Nat ((List Nat×List Nat)×Nat):=
 match ed ls c with
 | .error e=>.error e
 | .ok (x,n)=>.ok (x,c+n)
def iX(ls:List Nat)(last:Bool)(c k:Nat):Except Nat (Bk×Nat):=
 if k=0 then aT (mN ls c) (λn c'=>.ok (.raw last n,c'))
 else if k=1 then .ok (.sym last fixL fixD,c)
 else if k=2 then aT (oN ls c) (λx c'=>.ok (.sym last x.1 x.2,c'))
 else .error 50
def ez(ls:List Nat)(c:Nat):Except Nat (Bk×Nat):=
 aT (iz ls c 1) (λl c1=>aT (iz ls c1 2) (λk c2=>iX ls (l==1) c2 k))
def mM(far:Nat):Nat->List Nat->List Nat
 | 0,out=>out
 | n+1,out=>mM far n (out++[out.getD (out.length-far) 0])
def dA(most:Nat)(out:List Nat):Tok->Except Nat (List Nat)
 | .fin=>.ok out
 | .byte b=>if most<out.length+1 then .error 56 else .ok (out++[b])
 | .copy n far=>if out.length<far then .error 54 else if most<out.length+n then .error 56 else .ok (mM far n out)
structure Ps where
 c:Nat
 out:List Nat
 bk:Option Bk
def Ep(most:Nat)(s:Ps)(b:Bk)(x:(Tok×Bk)×Nat):Except Nat (Ps×Bool):=
 match x.1.1 with
 | .fin=>if b.last=true then .ok (⟨x.2,s.out,some x.1.2⟩,true)else .ok (⟨x.2,s.out,none⟩,false)
 | t=>match dA most s.out t with
  | .error e=>.error e
  | .ok out=>.ok (⟨x.2,out,some x.1.2⟩,false)
def jF(ls:List Nat)(most:Nat)(s:Ps):Except Nat (Ps×Bool):=
 match s.bk with
 | none=>match ez ls s.c with
  | .error e=>.error e
  | .ok x=>.ok (⟨x.2,s.out,some x.1⟩,false)
 | some b=>match bA ls b s.c with
  | .error e=>.error e
  | .ok x=>Ep most s b x
inductive Ends(ls:List Nat)(most:Nat):Ps->Ps->Nat->Prop
 | stop {s:Ps} {e:Nat} (h:jF ls most s=.error e):Ends ls most s s e
 | done {s t:Ps} (h:jF ls most s=.ok (t,true)):Ends ls most s t 0
 | step {s s' t:Ps} {e:Nat} (h:jF ls most s=.ok (s',false)) (r:Ends ls most s' t e):Ends ls most s t e
theorem Ba{ls:List Nat}{c n e:Nat}(h:iz ls c n=.error e):e=55/\ls.length<c+n:=by
 unfold iz at h;split at h
 ·rename_i h1;simp only[Except.error.injEq]at h;exact⟨h.symm,h1⟩
 ·cases h
theorem dY{ls:List Nat}{c n x c':Nat}(h:iz ls c n=.ok (x,c')):x=aW ls c n/\c'=c+n/\c+n<=ls.length:=by
 unfold iz at h;split at h
 ·cases h
 ·simp only[Except.ok.injEq,Prod.mk.injEq]at h;exact⟨h.1.symm,h.2.symm,by omega⟩
theorem fe{ls:List Nat}{c n:Nat}(h:c+n<=ls.length):iz ls c n=.ok (aW ls c n,c+n):=by unfold iz;rw[if_neg (by omega)]
theorem JK{ls:List Nat}{c n:Nat}(h:ls.length<c+n):iz ls c n=.error 55:=by unfold iz;rw[if_pos h]
theorem I8{ls ls':List Nat}{c n x c':Nat}(h:iz ls c n=.ok (x,c'))(ha:Agr c' ls ls'):iz ls' c n=.ok (x,c'):=by obtain⟨rfl,rfl,_⟩:=dY h;rw[fe ha.le',dL ha c n (Nat.le_refl _)]
structure Loc{α:Type}(f:List Nat->Except Nat (α×Nat))(ls:List Nat)(c:Nat):Prop where
 ge:∀x c',f ls=.ok (x,c')->c<=c'/\c'<=ls.length
 agr:∀x c' ls',(∀b∈ls',b<2)->f ls=.ok (x,c')->Agr c' ls ls'->f ls'=.ok (x,c')
 err:∀e mo,(∀b∈mo,b<2)->f ls=.error e->e≠55->f (ls++mo)=.error e
 ne:∀e,f ls=.error e->e≠0
theorem Loc.pure{α:Type}(x:α){ls:List Nat}{c:Nat}(hc:c<=ls.length):Loc (λ_=>.ok (x,c)) ls c:=
 ⟨λy c' h=>by simp only[Except.ok.injEq,Prod.mk.injEq]at h;omega,λ_ _ _ _ h _=>h,λ_ _ _ h _=>(by cases h),λ_ h=>(by cases h)⟩
theorem Loc.fail{α:Type}{e:Nat}(he:e≠0){ls:List Nat}{c:Nat}:Loc (α:=α) (λ_=>.error e) ls c:=
 ⟨λ_ _ h=>(by cases h),λ_ _ _ _ h _=>h,λ_ _ _ h _=>h,λ_ h=>by simp only[Except.error.injEq]at h;omega⟩
theorem Loc.of_eq{α:Type}{f g:List Nat->Except Nat (α×Nat)}{ls:List Nat}{c:Nat}(h:Loc f ls c)(e:∀l,g l=f l):Loc g ls c:=by have:g=f:=funext e;rw[this];exact h
theorem Loc.weak{α:Type}{f:List Nat->Except Nat (α×Nat)}{ls:List Nat}{c d:Nat}(h:Loc f ls c)(hd:d<=c):Loc f ls d:=
 ⟨λx c' h1=>by have:=h.ge x c' h1;omega,h.agr,h.err,h.ne⟩
theorem fk(ls:List Nat)(c n:Nat):Loc (λl=>iz l c n) ls c:=
 ⟨λx c' h=>by have:=dY h;omega,λ_ _ _ _ h ha=>I8 h ha,λe _ _ h he=>absurd (Ba h).1 he,λe h=>by have:=(Ba h).1;omega⟩
theorem dt{ns ls:List Nat}{c last:Nat}{r:Except Nat (Nat×Nat)}(h:nE ns ls c last=r):
  (r=.error 55/\(aS ns (ls.drop c)).2.2=10)\/(r=.error 53/\(aS ns (ls.drop c)).2.2=32) \/
  (∃y k,aS ns (ls.drop c)=(y,k,0)/\((last<y/\r=.error 53)\/(y<=last/\r=.ok (y,c+k)))):=by
 obtain⟨y,k,g,hn⟩:∃y k g,aS ns (ls.drop c)=(y,k,g):=⟨_,_,_,rfl⟩
 have h3:=lE ns (ls.drop c);unfold nE at h;rw[hn]at h h3 ⊢;simp only at h h3 ⊢;rcases h3 with rfl | rfl | rfl
 ·refine .inr (.inr ⟨y,k,rfl,?_⟩);rw[if_neg (by omega)]at h;by_cases hy:last<y
  ·rw[if_pos (.inr hy)]at h;exact .inl ⟨hy,h.symm⟩
  ·rw[if_neg (by omega)]at h;exact .inr ⟨by omega,h.symm⟩
 ·rw[if_pos rfl]at h;exact .inl ⟨h.symm,rfl⟩
 ·rw[if_neg (by omega),if_pos (.inl (by omega))]at h;exact .inr (.inl ⟨h.symm,rfl⟩)
theorem wj{ns ls:List Nat}{c last:Nat}(h:(aS ns (ls.drop c)).2.2=32):nE ns ls c last=.error 53:=by unfold nE;rw[if_neg (by omega),if_pos (.inl (by omega))]
theorem CI{ns ls:List Nat}{c last:Nat}(h:(aS ns (ls.drop c)).2.2=10):nE ns ls c last=.error 55:=by unfold nE;rw[if_pos h]
theorem zh{ns ls:List Nat}{c last y k:Nat}(h:aS ns (ls.drop c)=(y,k,0))(hy:y<=last):nE ns ls c last=.ok (y,c+k):=by unfold nE;rw[h];simp only;rw[if_neg (by omega),if_neg (by omega)]
theorem BN{ns ls:List Nat}{c last y k:Nat}(h:aS ns (ls.drop c)=(y,k,0))(hy:last<y):nE ns ls c last=.error 53:=by unfold nE;rw[h];simp only;rw[if_neg (by omega),if_pos (.inr hy)]
theorem sj{ns t:List Nat}{y k:Nat}(h:aS ns t=(y,k,0)):k<=t.length/\0<k/\y<ns.length:=by
 have h1:=i9 ns t;rw[h]at h1;rcases h1 with⟨_,hs,hf,hk,_⟩ | ⟨h0,_⟩ | ⟨h0,_⟩
 ·simp only at hs hf hk;have:=hf.2.length_le;rw[aw]at this;have:=hf.1;omega
 ·simp at h0
 ·simp at h0
theorem uZ{ns ls:List Nat}{c y k:Nat}(hc:c<=ls.length)(h:aS ns (ls.drop c)=(y,k,0)):c+k<=ls.length:=by have:=(sj h).1;rw[List.length_drop]at this;omega
theorem tE{ns:List Nat}(hp:Pf ns)(ls:List Nat)(hb:∀b∈ls,b<2)(c last:Nat)(hc:c<=ls.length):Loc (λl=>nE ns l c last) ls c:=by
 refine⟨λx c' h=>?_,λx c' ls' iH h ha=>?_,λe mo iH h he=>?_,λe h=>?_⟩
 ·rcases dt h with⟨h1,_⟩ | ⟨h1,_⟩ | ⟨y,k,hn,⟨_,h1⟩ | ⟨_,h1⟩⟩
  ·cases h1
  ·cases h1
  ·cases h1
  ·simp only[Except.ok.injEq,Prod.mk.injEq]at h1;have:=uZ hc hn;omega
 ·rcases dt h with⟨h1,_⟩ | ⟨h1,_⟩ | ⟨y,k,hn,⟨_,h1⟩ | ⟨hy,h1⟩⟩
  ·cases h1
  ·cases h1
  ·cases h1
  ·simp only[Except.ok.injEq,Prod.mk.injEq]at h1;obtain⟨rfl,rfl⟩:=h1;exact zh (n7 hp iH hn ha) hy
 ·have hb2:∀b∈ls++mo,b<2:=λb nj=>by rcases List.mem_append.1 nj with h | h;exact hb b h;exact iH b h
  rcases dt h with⟨h1,_⟩ | ⟨h1,h2⟩ | ⟨y,k,hn,⟨hy,h1⟩ | ⟨hy,h1⟩⟩
  ·simp only[Except.error.injEq]at h1;omega
  ·rw[h1];have h3:=sG ns (ls.drop c) mo h2;rw[<-List.drop_append_of_le_length hc]at h3;exact wj h3
  ·rw[h1];exact BN (n7 hp hb2 hn ((Agr.ext ls mo).less (uZ hc hn))) hy
  ·cases h1
 ·rcases dt h with⟨h1,_⟩ | ⟨h1,_⟩ | ⟨y,k,hn,⟨_,h1⟩ | ⟨_,h1⟩⟩
  ·simp only[Except.error.injEq]at h1;omega
  ·simp only[Except.error.injEq]at h1;omega
  ·simp only[Except.error.injEq]at h1;omega
  ·cases h1
theorem Loc.bind{α β:Type}{f:List Nat→Except Nat (α×Nat)}{ls:List Nat}{c:Nat}(hb:∀b∈ls,b<2)(h:Loc f ls c){g:List Nat→α→Nat→Except Nat (β×Nat)}
  (hg:∀x c',f ls=.ok (x,c')->Loc (λl=>g l x c') ls c'):Loc (λl=>aT (f l) (g l)) ls c:=by
 refine⟨λx c' h1=>?_,λx c' ls' iH h1 ha=>?_,λe mo iH h1 he=>?_,λe h1=>?_⟩
 ·obtain⟨y,c2,hf,h2⟩:=aI.1 h1;have a:=h.ge _ _ hf;have b:=(hg y c2 hf).ge _ _ h2;omega
 ·obtain⟨y,c2,hf,h2⟩:=aI.1 h1;have b:=(hg y c2 hf).ge _ _ h2;exact aI.2 ⟨y,c2,h.agr _ _ ls' iH hf (ha.less b.1),(hg y c2 hf).agr _ _ ls' iH h2 ha⟩
 ·have hb2:∀b∈ls++mo,b<2:=λb nj=>by rcases List.mem_append.1 nj with h | h;exact hb b h;exact iH b h
  rcases kv.1 h1 with hf | ⟨y,c2,hf,h2⟩
  ·exact kv.2 (.inl (h.err _ mo iH hf he))
  ·exact kv.2 (.inr ⟨y,c2,h.agr _ _ _ hb2 hf ((Agr.ext ls mo).less (h.ge _ _ hf).2),(hg y c2 hf).err _ mo iH h2 he⟩)
 ·rcases kv.1 h1 with hf | ⟨y,c2,hf,h2⟩
  ·exact h.ne _ hf
  ·exact(hg y c2 hf).ne _ h2
theorem mO(ls:List Nat)(hb:∀b∈ls,b<2)(c y k:Nat)(hc:c<=ls.length):Loc (λl=>cY l c y k) ls c:=by
 by_cases h:y<k
 ·exact(Loc.pure y hc).of_eq (λl=>by unfold cY;rw[if_pos h])
 ·exact(Loc.bind hb (fk ls c (y / k-1)) (g:=λ_ x c'=>.ok ((k+y % k)*2 ^ (y / k-1)+x,c')) (λx c' h1=>Loc.pure _ ((fk ls c _).ge x c' h1).2)).of_eq (λl=>by unfold cY;rw[if_neg h])
theorem FX(ls:List Nat)(hb:∀b∈ls,b<2)(c y:Nat)(hc:c<=ls.length):Loc (λl=>jZ l c y) ls c:=by
 by_cases h:y<285
 ·exact(Loc.bind hb (mO ls hb c (y-257) 4 hc) (g:=λ_ x c'=>.ok (3+x,c')) (λx c' h1=>Loc.pure _ ((mO ls hb c _ _ hc).ge x c' h1).2)).of_eq (λl=>by unfold jZ;rw[if_pos h])
 ·exact(Loc.pure 258 hc).of_eq (λl=>by unfold jZ;rw[if_neg h])
theorem wY{dist:List Nat}(hp:Pf dist)(ls:List Nat)(hb:∀b∈ls,b<2)(c:Nat)(hc:c<=ls.length):Loc (λl=>mw dist l c) ls c:=by
 by_cases h:bR dist=false
 ·exact(Loc.fail (e:=53) (by decide)).of_eq (λl=>by unfold mw;rw[if_pos h])
 ·exact(tE hp ls hb c 29 hc).of_eq (λl=>by unfold mw;rw[if_neg h])
theorem qv{dist:List Nat}(hp:Pf dist)(ls:List Nat)(hb:∀b∈ls,b<2)(c y:Nat)(hc:c<=ls.length):Loc (λl=>fR l dist c y) ls c:=by have h1:=FX ls hb c y hc;refine Loc.bind hb h1 (λn c1 e1=>?_);have eH:=(h1.ge _ _ e1).2;refine Loc.bind hb (wY hp ls hb c1 eH) (λz c2 e2=>?_);have cm:=((wY hp ls hb c1 eH).ge _ _ e2).2;exact Loc.bind hb (mO ls hb c2 z 2 cm) (λd c3 e3=>Loc.pure _ ((mO ls hb c2 z 2 cm).ge _ _ e3).2)
structure Lok(l:List Nat):Prop where
 pos:0<l.length
 max:l.length<=288
 le:∀n∈l,n<=15
 ok:bm l=0
structure OkL(lit dist:List Nat):Prop where
 lit:Lok lit
 pos:0<dist.length
 max:dist.length<=288
 le:∀n∈dist,n<=15
 dist:bR dist=true->Lok dist
def nZ:Option Bk->Prop
 | some (.sym _ lit dist)=>OkL lit dist
 | _=>True
theorem Lok.pf{l:List Nat}(h:Lok l):Pf l:=by
 refine⟨?_,key_le h.le⟩;have:=h.ok;unfold bm at this;split at this
 ·cases this
 ·omega
theorem OkL.pf{lit dist:List Nat}(h:OkL lit dist):Pf dist:=by
 by_cases hu:bR dist=true
 ·exact(h.dist hu).pf
 ·refine⟨?_,key_le h.le⟩;have:measure dist=0:=by
   have xW:bR dist=false:=(by simpa using hu);unfold bR at xW;rw[List.any_eq_false]at xW;unfold measure;have:dist.map ep=dist.map (λ_=>0):=List.map_congr_left (λn hn=>by
    have:=xW n hn;have h0:n=0:=(by simpa using this);rw[h0];rfl)
   rw[this,List.map_const',List.sum_replicate_nat,Nat.mul_zero]
  omega
theorem kC(ls:List Nat)(hb:∀b∈ls,b<2)(b:Bk)(c:Nat)(hk:nZ (some b))(hc:c<=ls.length):Loc (λl=>bA l b c) ls c:=by
 cases b with
 | raw last left=>
  cases left with
  | zero=>exact Loc.pure _ hc
  | succ n=>exact Loc.bind hb (fk ls c 8) (g:=λ_ v c'=>.ok ((Tok.byte v,Bk.raw last n),c')) (λx c' e=>Loc.pure _ ((fk ls c 8).ge _ _ e).2)
 | sym last lit dist=>
  have hk:OkL lit dist:=hk;have h1:=tE hk.lit.pf ls hb c 285 hc;refine Loc.bind hb h1 (λy c1 e1=>?_);have eH:=(h1.ge _ _ e1).2;by_cases h256:y<256
  ·exact(Loc.pure _ eH).of_eq (λl=>by unfold jl;rw[if_pos h256])
  ·by_cases he:y=256
   ·exact(Loc.pure _ eH).of_eq (λl=>by unfold jl;rw[if_neg h256,if_pos he])
   ·exact(Loc.bind hb (qv hk.pf ls hb c1 y eH) (g:=λ_ x c2=>.ok ((.copy x.1 x.2,.sym last lit dist),c2)) (λx c2 e2=>Loc.pure _ ((qv hk.pf ls hb c1 y eH).ge _ _ e2).2)).of_eq (λl=>by unfold jl;rw[if_neg h256,if_neg he])
theorem xK(ls:List Nat)(hb:∀b∈ls,b<2)(c:Nat):Loc (λl=>mN l c) ls c:=by
 have h1:=fk ls ((c+7) / 8*8) 16;refine(Loc.bind hb h1 (g:=λl n c1=>aT (iz l c1 16) (λt c2=>if n+t=65535 then .ok (n,c2)else .error 51)) (λn c1 e1=>?_)).weak (by omega);refine Loc.bind hb (fk ls c1 16) (λt c2 e2=>?_);have cm:=((fk ls c1 16).ge _ _ e2).2;by_cases h:n+t=65535
 ·exact(Loc.pure n cm).of_eq (λl=>by rw[if_pos h])
 ·exact(Loc.fail (e:=51) (by decide)).of_eq (λl=>by rw[if_neg h])
theorem FL{ls:List Nat}{a e:Nat}(h:ed ls a=.error e):e≠0:=by
 unfold ed at h;split at h
 ·simp only[Except.error.injEq]at h;split at h<;>omega
 ·split at h
  ·simp only[Except.error.injEq]at h;omega
  ·cases h
theorem AR(ls:List Nat)(hb:∀b∈ls,b<2)(c:Nat):Loc (λl=>oN l c) ls c:=by
 refine⟨λx c' h=>?_,λx c' ls' iH h ha=>?_,λe mo iH h he=>?_,λe h=>?_⟩
 ·simp only[oN]at h;split at h
  ·cases h
  ·rename_i y n h1;simp only[Except.ok.injEq,Prod.mk.injEq]at h;have:=F9 h1;omega
 ·simp only[oN]at h ⊢;split at h
  ·cases h
  ·rename_i y n h1;simp only[Except.ok.injEq,Prod.mk.injEq]at h;obtain⟨rfl,rfl⟩:=h;rw[Ci hb iH h1 ha]
 ·have hb2:∀b∈ls++mo,b<2:=λb nj=>by rcases List.mem_append.1 nj with h | h;exact hb b h;exact iH b h
  simp only[oN]at h ⊢;split at h
  ·rename_i e2 h1;simp only[Except.error.injEq]at h;subst h;rw[Ad mo hb2 h1 he]
  ·cases h
 ·simp only[oN]at h;split at h
  ·rename_i e2 h1;simp only[Except.error.injEq]at h;subst h;exact FL h1
  ·cases h
theorem xA(ls:List Nat)(hb:∀b∈ls,b<2)(last:Bool)(c k:Nat)(hc:c<=ls.length):Loc (λl=>iX l last c k) ls c:=by
 by_cases h0:k=0
 ·exact(Loc.bind hb (xK ls hb c) (g:=λ_ n c'=>.ok (Bk.raw last n,c')) (λn c' e=>Loc.pure _ ((xK ls hb c).ge _ _ e).2)).of_eq (λl=>by unfold iX;rw[if_pos h0])
 ·by_cases h1:k=1
  ·exact(Loc.pure _ hc).of_eq (λl=>by unfold iX;rw[if_neg h0,if_pos h1])
  ·by_cases h2:k=2
   ·exact(Loc.bind hb (AR ls hb c) (g:=λ_ x c'=>.ok (Bk.sym last x.1 x.2,c')) (λn c' e=>Loc.pure _ ((AR ls hb c).ge _ _ e).2)).of_eq (λl=>by unfold iX;rw[if_neg h0,if_neg h1,if_pos h2])
   ·exact(Loc.fail (e:=50) (by decide)).of_eq (λl=>by unfold iX;rw[if_neg h0,if_neg h1,if_neg h2])
theorem vk(ls:List Nat)(hb:∀b∈ls,b<2)(c:Nat):Loc (λl=>ez l c) ls c:=by refine Loc.bind hb (fk ls c 1) (λx c1 e1=>?_);exact Loc.bind hb (fk ls c1 2) (λk c2 e2=>xA ls hb _ c2 k ((fk ls c1 2).ge _ _ e2).2)
theorem gD(ls:List Nat)(last:Bool)(c:Nat):bA ls (.raw last 0) c=.ok ((.fin,.raw last 0),c):=rfl
theorem ec(ls:List Nat)(last:Bool)(n c:Nat):bA ls (.raw last (n+1)) c=aT (iz ls c 8) (λv c'=>.ok ((.byte v,.raw last n),c')):=rfl
theorem ea(ls:List Nat)(last:Bool)(lit dist:List Nat)(c:Nat):bA ls (.sym last lit dist) c=aT (nE lit ls c 285) (jl ls last lit dist):=rfl
theorem dF{ls:List Nat}{most:Nat}{s:Ps}{b:Bk}{c:Nat}(h:s.bk=none)(hg:ez ls s.c=.ok (b,c)):jF ls most s=.ok (⟨c,s.out,some b⟩,false):=by unfold jF;rw[h];simp only[hg]
theorem fV{ls:List Nat}{most:Nat}{s:Ps}{e:Nat}(h:s.bk=none)(hg:ez ls s.c=.error e):jF ls most s=.error e:=by unfold jF;rw[h];simp only[hg]
theorem b8{ls:List Nat}{most:Nat}{s:Ps}{b:Bk}{x:(Tok×Bk)×Nat}(h:s.bk=some b)(hg:bA ls b s.c=.ok x):jF ls most s=Ep most s b x:=by unfold jF;rw[h];simp only[hg]
theorem en{ls:List Nat}{most:Nat}{s:Ps}{b:Bk}{e:Nat}(h:s.bk=some b)(hg:bA ls b s.c=.error e):jF ls most s=.error e:=by unfold jF;rw[h];simp only[hg]
theorem jf(most:Nat)(s:Ps)(b b':Bk)(c:Nat):Ep most s b ((.fin,b'),c)=if b.last=true then .ok (⟨c,s.out,some b'⟩,true)else .ok (⟨c,s.out,none⟩,false):=rfl
theorem mf{most:Nat}{s:Ps}{b b':Bk}{c e:Nat}{t:Tok}(ht:t≠.fin)(h:dA most s.out t=.error e):Ep most s b ((t,b'),c)=.error e:=by
 cases t with
 | fin=>exact absurd rfl ht
 | byte v=>unfold Ep;simp only[h]
 | copy n far=>unfold Ep;simp only[h]
theorem j9{most:Nat}{s:Ps}{b b':Bk}{c:Nat}{t:Tok}{out:List Nat}(ht:t≠.fin)(h:dA most s.out t=.ok out):Ep most s b ((t,b'),c)=.ok (⟨c,out,some b'⟩,false):=by
 cases t with
 | fin=>exact absurd rfl ht
 | byte v=>unfold Ep;simp only[h]
 | copy n far=>unfold Ep;simp only[h]
theorem nV{most:Nat}{s:Ps}{b b':Bk}{c:Nat}{t:Tok}{r:Except Nat (Ps×Bool)}(h:Ep most s b ((t,b'),c)=r):
  (t=.fin/\b.last=true/\r=.ok (⟨c,s.out,some b'⟩,true))\/(t=.fin/\b.last=false/\r=.ok (⟨c,s.out,none⟩,false)) \/
  (t≠.fin/\((∃e,dA most s.out t=.error e/\r=.error e)\/∃out,dA most s.out t=.ok out/\r=.ok (⟨c,out,some b'⟩,false))):=by
 by_cases ht:t=.fin
 ·subst ht;rw[jf]at h;cases hl:b.last with
  | true=>rw[hl,if_pos rfl]at h;exact .inl ⟨rfl,rfl,h.symm⟩
  | false=>rw[hl,if_neg (by decide)]at h;exact .inr (.inl ⟨rfl,rfl,h.symm⟩)
 ·cases hl:dA most s.out t with
  | error e=>rw[mf ht hl]at h;exact .inr (.inr ⟨ht,.inl ⟨e,rfl,h.symm⟩⟩)
  | ok out=>rw[j9 ht hl]at h;exact .inr (.inr ⟨ht,.inr ⟨out,rfl,h.symm⟩⟩)
theorem zN{ns ls:List Nat}{N f c c':Nat}{l m:List Nat}(h:bz ns ls N f l c=.ok (m,c'))(hl:∀x∈l,x<=15)(hn:l.length<=N)(hf:N-l.length<=f):(∀x∈m,x<=15)/\m.length=N:=by
 induction f generalizing l c with
 | zero=>
  simp only[bz,Except.ok.injEq,Prod.mk.injEq]at h;obtain⟨rfl,_⟩:=h;exact⟨hl,by omega⟩
 | succ f ih=>
  unfold bz at h;split at h
  ·simp only[Except.ok.injEq,Prod.mk.injEq]at h;obtain⟨rfl,_⟩:=h;exact⟨hl,by omega⟩
  ·split at h
   ·cases h
   ·split at h
    ·cases h
    ·rename_i l2 hw;have:=ie hw hl;exact ih h this.2.2 this.2.1 (by omega)
theorem oG{ls:List Nat}{a n:Nat}{l d:List Nat}(h:bZ ls a=.ok ((l,d),n)):257<=l.length/\l.length<=286/\0<d.length/\d.length<=30/\(∀x∈l,x<=15)/\∀x∈d,x<=15:=by
 unfold bZ at h;split at h
 ·cases h
 ·split at h
  ·cases h
  ·rename_i h2;split at h
   ·cases h
   ·split at h
    ·cases h
    ·split at h
     ·cases h
     ·rename_i m c D9;simp only[Except.ok.injEq,Prod.mk.injEq]at h;obtain⟨⟨rfl,rfl⟩,_⟩:=h;have hm:=zN D9 (by simp) (by simp) (by simp);rw[List.length_take,List.length_drop,hm.2];exact⟨by omega,by omega,by omega,by omega,λx hx=>hm.1 x (List.mem_of_mem_take hx),λx hx=>hm.1 x (List.mem_of_mem_drop hx)⟩
theorem uT{ls:List Nat}{a n:Nat}{l d:List Nat}(h:ed ls a=.ok ((l,d),n)):OkL l d:=by
 unfold ed at h;split at h
 ·cases h
 ·rename_i l2 d2 n2 hr;split at h
  ·cases h
  ·rename_i h1;simp only[Except.ok.injEq,Prod.mk.injEq]at h;obtain⟨⟨rfl,rfl⟩,_⟩:=h;obtain⟨a1,a2,a3,a4,a5,a6⟩:=oG hr;refine⟨⟨by omega,by omega,a5,?_⟩,a3,by omega,a6,λhu=>⟨a3,by omega,a6,?_⟩⟩
   ·exact Classical.byContradiction (λhc=>h1 (.inr (.inl hc)))
   ·exact Classical.byContradiction (λhc=>h1 (.inr (.inr ⟨hu,hc⟩)))
theorem fix_ok:OkL fixL fixD:=by refine⟨⟨by decide +kernel,by decide +kernel,by decide +kernel,by decide +kernel⟩,by decide +kernel,by decide +kernel,by decide +kernel,λ_=>⟨by decide +kernel,by decide +kernel,by decide +kernel,by decide +kernel⟩⟩
theorem BJ{ls:List Nat}{c c':Nat}{b:Bk}(h:ez ls c=.ok (b,c')):nZ (some b):=by
 obtain⟨l,c1,_,h⟩:=aI.1 h;obtain⟨k,c2,_,h⟩:=aI.1 h;unfold iX at h;split at h
 ·obtain⟨n,c3,_,h⟩:=aI.1 h;simp only[Except.ok.injEq,Prod.mk.injEq]at h;obtain⟨rfl,_⟩:=h;exact trivial
 ·split at h
  ·simp only[Except.ok.injEq,Prod.mk.injEq]at h;obtain⟨rfl,_⟩:=h;exact fix_ok
  ·split at h
   ·obtain⟨x,c3,hh,h⟩:=aI.1 h;simp only[Except.ok.injEq,Prod.mk.injEq]at h;obtain⟨rfl,_⟩:=h;unfold oN at hh;split at hh
    ·cases hh
    ·rename_i y n h5;simp only[Except.ok.injEq,Prod.mk.injEq]at hh;obtain⟨rfl,_⟩:=hh;exact uT (l:=y.1) (d:=y.2) h5
   ·cases h
theorem pz{ls:List Nat}{b b':Bk}{t:Tok}{c c':Nat}(h:bA ls b c=.ok ((t,b'),c'))(hk:nZ (some b)):nZ (some b')/\b'.last=b.last:=by
 cases b with
 | raw last left=>
  cases left with
  | zero=>
   simp only[bA,Except.ok.injEq,Prod.mk.injEq]at h;obtain⟨⟨_,rfl⟩,_⟩:=h;exact⟨trivial,rfl⟩
  | succ n=>
   rw[ec]at h;obtain⟨v,c2,_,h⟩:=aI.1 h;simp only[Except.ok.injEq,Prod.mk.injEq]at h;obtain⟨⟨_,rfl⟩,_⟩:=h;exact⟨trivial,rfl⟩
 | sym last lit dist=>
  rw[ea]at h;obtain⟨y,c2,_,h⟩:=aI.1 h;unfold jl at h;split at h
  ·simp only[Except.ok.injEq,Prod.mk.injEq]at h;obtain⟨⟨_,rfl⟩,_⟩:=h;exact⟨hk,rfl⟩
  ·split at h
   ·simp only[Except.ok.injEq,Prod.mk.injEq]at h;obtain⟨⟨_,rfl⟩,_⟩:=h;exact⟨hk,rfl⟩
   ·obtain⟨x,c3,_,h⟩:=aI.1 h;simp only[Except.ok.injEq,Prod.mk.injEq]at h;obtain⟨⟨_,rfl⟩,_⟩:=h;exact⟨hk,rfl⟩
theorem gJ(far n:Nat)(out:List Nat):(mM far n out).length=out.length+n:=by
 induction n generalizing out with
 | zero=>rfl
 | succ n ih=>rw[mM,ih,List.length_append];simp;omega
theorem mH{most:Nat}{out out':List Nat}{t:Tok}(h:dA most out t=.ok out'):out.length<=out'.length/\(out.length<=most->out'.length<=most)/\∀m,out'.length<=m->dA m out t=.ok out':=by
 cases t with
 | fin=>simp only[dA,Except.ok.injEq]at h;subst h;exact⟨Nat.le_refl _,λh=>h,λ_ _=>rfl⟩
 | byte b=>
  simp only[dA]at h;split at h
  ·cases h
  ·simp only[Except.ok.injEq]at h;subst h;refine⟨by simp,λ_=>by simp;omega,λm hm=>?_⟩;simp only[dA];rw[if_neg (by simp at hm;omega)]
 | copy n far=>
  simp only[dA]at h;split at h
  ·cases h
  ·split at h
   ·cases h
   ·simp only[Except.ok.injEq]at h;subst h;rw[gJ];refine⟨by omega,λ_=>by omega,λm hm=>?_⟩;simp only[dA];rw[if_neg (by omega),if_neg (by omega)]
theorem mE{most:Nat}{out:List Nat}{t:Tok}{e:Nat}(h:dA most out t=.error e):e=54\/e=56:=by
 cases t with
 | fin=>cases h
 | byte b=>
  simp only[dA]at h;split at h
  ·simp only[Except.error.injEq]at h;omega
  ·cases h
 | copy n far=>
  simp only[dA]at h;split at h
  ·simp only[Except.error.injEq]at h;omega
  ·split at h
   ·simp only[Except.error.injEq]at h;omega
   ·cases h
structure ue(ls:List Nat)(s:Ps):Prop where
 le:s.c<=ls.length
 bk:nZ s.bk
theorem AN{ls:List Nat}(hb:∀b∈ls,b<2){most:Nat}{s t:Ps}{d:Bool}(hs:ue ls s)(h:jF ls most s=.ok (t,d)):
  ue ls t/\s.c<=t.c/\s.out.length<=t.out.length/\(s.out.length<=most->t.out.length<=most):=by
 cases hbk:s.bk with
 | none=>
  cases hg:ez ls s.c with
  | error e=>rw[fV hbk hg]at h;cases h
  | ok x=>
   obtain⟨b,c⟩:=x;rw[dF hbk hg]at h;simp only[Except.ok.injEq,Prod.mk.injEq]at h;obtain⟨rfl,_⟩:=h;have:=(vk ls hb s.c).ge _ _ hg;exact⟨⟨this.2,BJ hg⟩,this.1,Nat.le_refl _,λh=>h⟩
 | some b=>
  have hk:nZ (some b):=(by rw[<-hbk];exact hs.bk);cases hst:bA ls b s.c with
  | error e=>rw[en hbk hst]at h;cases h
  | ok x=>
   obtain⟨⟨tk,b'⟩,c⟩:=x;rw[b8 hbk hst]at h;have h1:=(kC ls hb b s.c hk hs.le).ge _ _ hst;have h2:=pz hst hk;rcases nV h with⟨_,_,h⟩ | ⟨_,_,h⟩ | ⟨_,⟨e,_,h⟩ | ⟨o,hl,h⟩⟩
   ·simp only[Except.ok.injEq,Prod.mk.injEq]at h;obtain⟨rfl,_⟩:=h;exact⟨⟨h1.2,h2.1⟩,h1.1,Nat.le_refl _,λh=>h⟩
   ·simp only[Except.ok.injEq,Prod.mk.injEq]at h;obtain⟨rfl,_⟩:=h;exact⟨⟨h1.2,trivial⟩,h1.1,Nat.le_refl _,λh=>h⟩
   ·cases h
   ·simp only[Except.ok.injEq,Prod.mk.injEq]at h;obtain⟨rfl,_⟩:=h;have h3:=mH hl;exact⟨⟨h1.2,h2.1⟩,h1.1,h3.1,h3.2.1⟩
theorem uc{ls:List Nat}(hb:∀b∈ls,b<2){most:Nat}{s:Ps}{e:Nat}(hs:ue ls s)(h:jF ls most s=.error e):e≠0:=by
 cases hbk:s.bk with
 | none=>
  cases hg:ez ls s.c with
  | error e2=>
   rw[fV hbk hg]at h;simp only[Except.error.injEq]at h;subst h;exact(vk ls hb s.c).ne _ hg
  | ok x=>rw[dF (b:=x.1) (c:=x.2) hbk hg]at h;cases h
 | some b=>
  have hk:nZ (some b):=(by rw[<-hbk];exact hs.bk);cases hst:bA ls b s.c with
  | error e2=>
   rw[en hbk hst]at h;simp only[Except.error.injEq]at h;subst h;exact(kC ls hb b s.c hk hs.le).ne _ hst
  | ok x=>
   obtain⟨⟨tk,b'⟩,c⟩:=x;rw[b8 hbk hst]at h;rcases nV h with⟨_,_,h⟩ | ⟨_,_,h⟩ | ⟨_,⟨e2,hl,h⟩ | ⟨o,hl,h⟩⟩
   ·cases h
   ·cases h
   ·simp only[Except.error.injEq]at h;subst h;have:=mE hl;omega
   ·cases h
theorem Ends.det{ls:List Nat}{most:Nat}{s t t':Ps}{e e':Nat}(h:Ends ls most s t e)(h':Ends ls most s t' e'):t=t'/\e=e':=by
 induction h with
 | stop h=>
  cases h' with
  | stop h2=>rw[h]at h2;simp only[Except.error.injEq]at h2;exact⟨rfl,h2⟩
  | done h2=>rw[h]at h2;cases h2
  | step h2 _=>rw[h]at h2;cases h2
 | done h=>
  cases h' with
  | stop h2=>rw[h]at h2;cases h2
  | done h2=>rw[h]at h2;simp only[Except.ok.injEq,Prod.mk.injEq]at h2;exact⟨h2.1,rfl⟩
  | step h2 _=>rw[h]at h2;simp at h2
 | step h _ ih=>
  cases h' with
  | stop h2=>rw[h]at h2;cases h2
  | done h2=>rw[h]at h2;simp at h2
  | step h2 r2=>
   rw[h]at h2;simp only[Except.ok.injEq,Prod.mk.injEq,and_true]at h2;subst h2;exact ih r2
theorem Ends.inv{ls:List Nat}(hb:∀b∈ls,b<2){most:Nat}{s t:Ps}{e:Nat}(h:Ends ls most s t e)(hs:ue ls s):
  ue ls t/\s.c<=t.c/\s.out.length<=t.out.length/\(s.out.length<=most->t.out.length<=most):=by
 induction h with
 | stop h=>exact⟨hs,Nat.le_refl _,Nat.le_refl _,λh=>h⟩
 | done h=>exact AN hb hs h
 | step h _ ih=>
  have h1:=AN hb hs h;have h2:=ih h1.1;exact⟨h2.1,by omega,by omega,λh=>h2.2.2.2 (h1.2.2.2 h)⟩
def ps0:Ps:=⟨0,[],none⟩
theorem Gc(ls:List Nat):ue ls ps0:=⟨Nat.zero_le _,trivial⟩
theorem CD(ls:List Nat)(hb:∀b∈ls,b<2)(c n:Nat):aW ls c n<2 ^ n:=by unfold aW;refine Nat.lt_of_lt_of_le (wG _ (λb nj=>hb b (List.mem_of_mem_drop (List.mem_of_mem_take nj)))) ?_;rw[List.length_take];exact Nat.pow_le_pow_right (by decide) (Nat.min_le_left _ _)
def bW(n p:Nat):Nat:=oM n-p
def eD(n p:Nat):Nat:=bW n p*2 ^ (p-1)+n / 2 ^ bW n p
def dX(n p:Nat):Nat:=n % 2 ^ bW n p
theorem Jz(n k:Nat)(h:k<oM n):2 ^ k<=n:=by refine Classical.byContradiction (λhc=>?_);have:=(fQ n k).2 (by omega);omega
theorem AO(n p:Nat):dX n p<2 ^ bW n p:=Nat.mod_lt _ (Nat.two_pow_pos _)
theorem sE(A B:List Nat)(n p:Nat)(hp:1<=p):cY (A++(aj (dX n p) (bW n p)++B)) A.length (eD n p) (2 ^ (p-1))=.ok (n,A.length+bW n p):=by
 have hk:0<2 ^ (p-1):=Nat.two_pow_pos _;have Vk:2 ^ p=2*2 ^ (p-1):=by rw[<-Nat.pow_succ'];congr 1;omega
 by_cases hw:bW n p=0
 ·have hn:n<2 ^ p:=(fQ n p).1 (by unfold bW at hw;omega);have hs:eD n p=n:=(by unfold eD;rw[hw];simp);rw[hs,hw];unfold cY;by_cases h:n<2 ^ (p-1)
  ·rw[if_pos h];rfl
  ·rw[if_neg h];have hq:n / 2 ^ (p-1)=1:=Nat.div_eq_of_lt_le (by omega) (by omega);have hm:2 ^ (p-1)+n % 2 ^ (p-1)=n:=by
    have:=Nat.div_add_mod n (2 ^ (p-1));rw[hq]at this;omega
   rw[hq,hm,fe (by rw[List.length_append];omega)];show Except.ok _=_;simp[aW,n2]
 ·obtain⟨w,hw2⟩:∃w,bW n p=w:=⟨_,rfl⟩
  have hb:oM n=w+p:=(by unfold bW at hw2 hw;omega);have lB:2 ^ (w+p-1)<=n:=Jz n _ (by omega);have yp:n<2 ^ (w+p):=(fQ n _).1 (by omega);obtain⟨q,hq⟩:∃q,n / 2 ^ w=q:=⟨_,rfl⟩
  have lY:0<2 ^ w:=Nat.two_pow_pos _;have WZ:2 ^ (p-1)<=q:=(by rw[<-hq,Nat.le_div_iff_mul_le lY,<-Nat.pow_add];rwa [show p-1+w=w+p-1 by omega]);have KB:q<2*2 ^ (p-1):=(by rw[<-hq,<-Vk,Nat.div_lt_iff_lt_mul lY,<-Nat.pow_add];rwa [Nat.add_comm p w]);have hs:eD n p=w*2 ^ (p-1)+q:=(by unfold eD;rw[hw2,hq]);have hx:dX n p=n % 2 ^ w:=(by unfold dX;rw[hw2]);have rF:n % 2 ^ w<2 ^ w:=Nat.mod_lt _ lY;obtain⟨k,hkk⟩:∃k,2 ^ (p-1)=k:=⟨_,rfl⟩
  rw[hkk]at hk WZ KB hs ⊢;have Tu:q / k=1:=Nat.div_eq_of_lt_le (by omega) (by omega);have hd:(w*k+q) / k=w+1:=(by rw[Nat.mul_comm,Nat.mul_add_div hk,Tu]);have hm:k+(w*k+q) % k=q:=by rw[Nat.mul_comm,Nat.mul_add_mod];have h9:=Nat.div_add_mod q k;rw[Tu]at h9;omega
  unfold cY;rw[hs,hw2,hx,if_neg (by have:=Nat.le_mul_of_pos_left k (show 0<w by omega);omega),hd,hm,Nat.add_sub_cancel];rw[fe (by rw[List.length_append,List.length_append,af];omega),d6 A B _ w rF];show Except.ok _=_;have:=Nat.div_add_mod n (2 ^ w);rw[hq,Nat.mul_comm]at this;rw[this]
structure MK where
 sym:Nat
 extra:Nat
 width:Nat
def aJ(t:TK):MK:=if t.len=0 then⟨t.lit,0,0⟩else if t.len=258 then⟨285,0,0⟩ else⟨257+eD (t.len.toNat-3) 3,dX (t.len.toNat-3) 3,bW (t.len.toNat-3) 3⟩
def aH(t:TK):MK:=⟨eD (t.dist.toNat-1) 2,dX (t.dist.toNat-1) 2,bW (t.dist.toNat-1) 2⟩
def cC(cs:List Nat)(m:MK):List Nat:=aE cs m.sym++aj m.extra m.width
def ay(lit dist:List Nat)(t:TK):List Nat:=cC lit (aJ t)++(if t.len=0 then []else cC dist (aH t))
theorem lC(cs:List Nat)(m:MK):∀b∈cC cs m,b<2:=by
 intro b hb;rcases List.mem_append.1 hb with h | h
 ·exact cU _ _ b h
 ·exact d9 _ _ b h
theorem xt(lit dist:List Nat)(t:TK):∀b∈ay lit dist t,b<2:=by
 intro b hb;rcases List.mem_append.1 hb with h | h
 ·exact lC _ _ b h
 ·split at h
  ·simp at h
  ·exact lC _ _ b h
theorem mL(lit dist:List Nat)(ts:List TK):∀b∈ts.flatMap (ay lit dist),b<2:=by intro b hb;obtain⟨t,_,ht⟩:=List.mem_flatMap.1 hb;exact xt _ _ t b ht
def Ln(lit dist:List Nat)(t:TK):Prop:=(aJ t).sym<lit.length/\key lit (aJ t).sym≠0/\(t.len≠0->(aH t).sym<dist.length/\key dist (aH t).sym≠0)
theorem j6{l:List Nat}{s:Nat}(h:s<l.length)(h0:key l s≠0):bR l=true:=by unfold bR;rw[List.any_eq_true];refine⟨l[s],List.getElem_mem h,?_⟩;rw[aY h]at h0;simpa using h0
theorem mW{ns:List Nat}(hp:Pf ns)(A rest:List Nat)(hb:∀b∈rest,b<2){y last:Nat}(hy:y<ns.length)(h0:key ns y≠0)(hl:y<=last):nE ns (A++(aE ns y++rest)) A.length last=.ok (y,A.length+key ns y):=
 zh (by rw[List.drop_left];exact nI hp.ms hp.le hy h0 rest hb) hl
theorem I4(far n:Nat)(out:List Nat):Db far n out=mM far n out:=by
 induction n generalizing out with
 | zero=>rfl
 | succ n ih=>rw[Db,mM,ih]
theorem gS(n p m:Nat)(h:n<2 ^ (m+p))(hp:1<=p):eD n p<(m+2)*2 ^ (p-1):=by
 have hk:0<2 ^ (p-1):=Nat.two_pow_pos _;have hb:oM n<=m+p:=(fQ n _).2 h;have hw:bW n p<=m:=by unfold bW;omega
 have hq:n / 2 ^ bW n p<2*2 ^ (p-1):=by
  rw[Nat.div_lt_iff_lt_mul (Nat.two_pow_pos _)];have h2:n<2 ^ (bW n p+p):=(fQ n _).1 (by unfold bW;omega);have e:2*2 ^ (p-1)*2 ^ bW n p=2 ^ (bW n p+p):=by rw[<-Nat.pow_succ',<-Nat.pow_add];congr 1;omega
  omega
 have h3:bW n p*2 ^ (p-1)<=m*2 ^ (p-1):=Nat.mul_le_mul_right _ hw;unfold eD;rw[Nat.add_mul];omega
theorem Fx{lit dist:List Nat}(ho:OkL lit dist)(A B out:List Nat)(hB:∀b∈B,b<2)(most:Nat)(t:TK)(hm:o5 t out.length=true)(hh:Ln lit dist t)(Qz:t.lit<256)(hd:t.dist≤16384)(hl:out.length+oW t≤most):
  jF (A++(ay lit dist t++B)) most ⟨A.length,out,some (.sym true lit dist)⟩=.ok (⟨A.length+(ay lit dist t).length,mD out t,some (.sym true lit dist)⟩,false):=by
 rcases eY hm with⟨h0,_,h1⟩ | ⟨n,d,h0,G1,_,h3,h4,h5,h6,h1⟩
 ·have rG:aJ t=⟨t.lit,0,0⟩:=(by unfold aJ;rw[if_pos h0]);have hb:ay lit dist t=aE lit t.lit:=by
   unfold ay cC;rw[rG,if_pos h0];simp[aj]
  obtain⟨hs,hk,_⟩:=hh;rw[rG]at hs hk;simp only at hs hk;have h9:=mW ho.lit.pf A B hB (y:=t.lit) (last:=285) hs hk (by omega);have hst:bA (A++(aE lit t.lit++B)) (.sym true lit dist) A.length=.ok ((.byte t.lit,.sym true lit dist),A.length+key lit t.lit):=by rw[ea,aF h9];unfold jl;rw[if_pos Qz]
  rw[hb,aw,b8 (s:=⟨A.length,out,some (.sym true lit dist)⟩) rfl hst];have Ma:mD out t=out++[t.lit]:=(by unfold mD;rw[if_pos h0]);rw[Ma];exact j9 (by intro h;cases h) (by simp only[dA];rw[if_neg (by omega)])
 ·have m6:t.len≠0:=(by omega);obtain⟨hs,hk,yk⟩:=hh;obtain⟨PN,Ru⟩:=yk m6;have hu:=j6 PN Ru;obtain⟨y,hy⟩:∃y,(aJ t).sym=y:=⟨_,rfl⟩
  obtain⟨z,hz⟩:∃z,(aH t).sym=z:=⟨_,rfl⟩
  have RG:z=eD (d-1) 2:=(by rw[<-hz];unfold aH;rw[G1];simp);have um:z<=29:=(by have:=gS (d-1) 2 12 (by omega) (by decide);rw[<-RG]at this;omega);have Rc:aH t=⟨z,dX (d-1) 2,bW (d-1) 2⟩:=(by rw[RG];unfold aH;rw[G1];simp);rw[hy]at hs hk;rw[hz]at PN Ru;obtain⟨D,hD⟩:∃D,cC dist (aH t)=D:=⟨_,rfl⟩
  have QD:D=aE dist z++aj (dX (d-1) 2) (bW (d-1) 2):=(by rw[<-hD,Rc];rfl);have Vs:∀b∈D++B,b<2:=λb hb=>by
   rcases List.mem_append.1 hb with h | h
   ·rw[<-hD]at h;exact lC _ _ b h
   ·exact hB b h
  have ag:∀(C:List Nat),∃X,cC lit (aJ t)=aE lit y++X/\257<=y/\y<=285/\(∀b∈X,b<2)/\jZ (C++(X++(D++B))) C.length y=.ok (n,C.length+X.length):=by
   intro C;by_cases h258:n=258
   ·have rG:aJ t=⟨285,0,0⟩:=(by unfold aJ;rw[if_neg m6,if_pos (by omega)]);have Tc:y=285:=(by rw[<-hy,rG]);refine⟨[],by rw[rG,Tc];unfold cC;simp[aj],by omega,by omega,by simp,?_⟩;rw[Tc,h258];rfl
   ·have rG:aJ t=⟨257+eD (n-3) 3,dX (n-3) 3,bW (n-3) 3⟩:=(by unfold aJ;rw[if_neg m6,if_neg (by omega),h0];simp);have WP:y=257+eD (n-3) 3:=(by rw[<-hy,rG]);have fK:=gS (n-3) 3 5 (by omega) (by decide);refine⟨aj (dX (n-3) 3) (bW (n-3) 3),by rw[rG,WP];rfl,by omega,by omega,d9 _ _,?_⟩;have RC:y<285:=by
     have h9:(5+2)*2 ^ (3-1)=28:=(by decide);omega
    have e1:jZ (C++(aj (dX (n-3) 3) (bW (n-3) 3)++(D++B))) C.length y=aT (cY (C++(aj (dX (n-3) 3) (bW (n-3) 3)++(D++B))) C.length (y-257) 4) (λn c'=>.ok (3+n,c')):=(by unfold jZ;exact if_pos RC);have e2:=sE C (D++B) (n-3) 3 (by decide);rw[e1,show y-257=eD (n-3) 3 by omega,aF (show cY _ _ _ 4=_ from e2),af,show 3+(n-3)=n by omega]
  obtain⟨X,hX,ID,AC,Uz,_⟩:=ag [];have rf:∀(C:List Nat),jZ (C++(X++(D++B))) C.length y=.ok (n,C.length+X.length):=λC=>by obtain⟨X',hX',_,_,_,h9⟩:=ag C;have e:X'=X:=List.append_cancel_left (hX'.symm.trans hX);rw[e]at h9;exact h9
  have hb:ay lit dist t=aE lit y++(X++D):=(by unfold ay;rw[if_neg m6,hD,hX,List.append_assoc]);have Eg:A++(ay lit dist t++B)=A++(aE lit y++(X++(D++B))):=(by rw[hb];simp[List.append_assoc]);have h9:=mW ho.lit.pf A (X++(D++B)) (λb hb=>by
   rcases List.mem_append.1 hb with h | h
   ·exact Uz b h
   ·exact Vs b h) (y:=y) (last:=285) hs hk AC
  have e1:A++(aE lit y++(X++(D++B)))=(A++aE lit y)++(X++(D++B)):=(by simp[List.append_assoc]);have l1:(A++aE lit y).length=A.length+key lit y:=(by rw[List.length_append,aw]);have Hm:=rf (A++aE lit y);rw[<-e1,l1]at Hm;have e2:A++(aE lit y++(X++(D++B)))=(A++aE lit y++X)++(aE dist z++(aj (dX (d-1) 2) (bW (d-1) 2)++B)):=(by rw[QD];simp[List.append_assoc]);have l2:(A++aE lit y++X).length=A.length+key lit y+X.length:=(by rw[List.length_append,l1]);have PH:=mW ho.pf (A++aE lit y++X) (aj (dX (d-1) 2) (bW (d-1) 2)++B) (λb hb=>by
   rcases List.mem_append.1 hb with h | h
   ·exact d9 _ _ b h
   ·exact hB b h) (y:=z) (last:=29) PN Ru um
  rw[<-e2,l2]at PH;have RA:mw dist (A++(aE lit y++(X++(D++B)))) (A.length+key lit y+X.length)=.ok (z,A.length+key lit y+X.length+key dist z):=by unfold mw;rw[if_neg (by rw[hu];decide)];exact PH
  have e3:A++(aE lit y++(X++(D++B)))=(A++aE lit y++X++aE dist z)++(aj (dX (d-1) 2) (bW (d-1) 2)++B):=(by rw[QD];simp[List.append_assoc]);have l3:(A++aE lit y++X++aE dist z).length=A.length+key lit y+X.length+key dist z:=(by rw[List.length_append,l2,aw]);have TV:=sE (A++aE lit y++X++aE dist z) B (d-1) 2 (by decide);rw[<-e3,l3,<-RG]at TV;have R2:fR (A++(aE lit y++(X++(D++B)))) dist (A.length+key lit y) y=.ok ((n,d),A.length+key lit y+X.length+key dist z+bW (d-1) 2):=(by unfold fR;rw[aF Hm,aF RA,aF (show cY _ _ _ 2=_ from TV),show 1+(d-1)=d by omega]);have hst:bA (A++(aE lit y++(X++(D++B)))) (.sym true lit dist) A.length=.ok ((.copy n d,.sym true lit dist),A.length+key lit y+X.length+key dist z+bW (d-1) 2):=(by rw[ea,aF h9];unfold jl;rw[if_neg (by omega),if_neg (by omega),aF R2]);have rL:(ay lit dist t).length=key lit y+X.length+key dist z+bW (d-1) 2:=(by rw[hb,QD];simp only[List.length_append,aw,af];omega);rw[Eg,rL,b8 (s:=⟨A.length,out,some (.sym true lit dist)⟩) rfl hst];have Ma:mD out t=mM d n out:=(by unfold mD;rw[if_neg m6,h0,G1,I4];simp);rw[Ma,<-Nat.add_assoc,<-Nat.add_assoc,<-Nat.add_assoc];exact j9 (by intro h;cases h) (by simp only[dA];rw[if_neg (by omega),if_neg (by omega)])
structure od(lit dist:List Nat)(ts:List TK):Prop where
 has:∀t∈ts,Ln lit dist t
 end':256<lit.length/\key lit 256≠0
 byte:∀t∈ts,t.lit<256
theorem xp{t:TK}{said:Nat}(h:o5 t said=true)(hs:said<=16384):t.dist<=16384:=by
 rcases eY h with⟨_,h2,_⟩ | ⟨n,d,_,h2,_,_,_,_,h6,_⟩
 ·omega
 ·omega
theorem wV{lit dist:List Nat}(ho:OkL lit dist)(B:List Nat)(hB:∀b∈B,b<2)(most:Nat)(VG:most≤16384)(ts:List TK)(hk:od lit dist ts)(A out:List Nat)(n:Nat)(hm:b7 most ts out.length=.ok n)(Pc:out.length≤most):
  Ends (A++(ts.flatMap (ay lit dist)++(aE lit 256++B))) most ⟨A.length,out,some (.sym true lit dist)⟩ ⟨A.length+(ts.flatMap (ay lit dist)).length+key lit 256,xj ts out,some (.sym true lit dist)⟩ 0:=by
 induction ts generalizing A out with
 | nil=>
  refine .done ?_;have h9:=mW ho.lit.pf A B hB (y:=256) (last:=285) hk.end'.1 hk.end'.2 (by omega);have hst:bA (A++(aE lit 256++B)) (.sym true lit dist) A.length=.ok ((.fin,.sym true lit dist),A.length+key lit 256):=by rw[ea,aF h9];rfl
  show jF (A++(aE lit 256++B)) most _=_;rw[b8 (s:=⟨A.length,out,some (.sym true lit dist)⟩) rfl hst,jf];rfl
 | cons t r ih=>
  unfold b7 at hm;split at hm
  ·cases hm
  ·rename_i m7;split at hm
   ·cases hm
   ·rename_i md;have m7:o5 t out.length=true:=(by simpa using m7);have RX:∀b∈r.flatMap (ay lit dist)++(aE lit 256++B),b<2:=λb hb=>by
     rcases List.mem_append.1 hb with h | h
     ·exact mL _ _ _ b h
     ·rcases List.mem_append.1 h with h | h
      ·exact cU _ _ b h
      ·exact hB b h
    have hs:=Fx ho A (r.flatMap (ay lit dist)++(aE lit 256++B)) out RX most t m7 (hk.has t (by simp)) (hk.byte t (by simp)) (xp m7 (by omega)) (by omega);have hl:=uK m7 out;have h9:=ih ⟨λx hx=>hk.has x (by simp[hx]),hk.end',λx hx=>hk.byte x (by simp[hx])⟩ (A++ay lit dist t) (mD out t) (by rw[hl];exact hm) (by rw[hl];omega);have e1:(A++ay lit dist t)++(r.flatMap (ay lit dist)++(aE lit 256++B))=A++(ay lit dist t++(r.flatMap (ay lit dist)++(aE lit 256++B))):=(by simp[List.append_assoc]);rw[e1,List.length_append]at h9;rw[List.flatMap_cons,List.append_assoc,List.length_append];refine .step hs ?_;rw[<-Nat.add_assoc A.length];exact h9
theorem qb{M most:Nat}{ts:List TK}{s n:Nat}(h:b7 M ts s=.ok n)(hs:s<=M)(hn:n<=most):b7 most ts s=.ok n:=by
 induction ts generalizing s with
 | nil=>exact h
 | cons t r ih=>
  unfold b7 at h ⊢;split at h
  ·cases h
  ·rename_i h1;rw[if_neg h1];split at h
   ·cases h
   ·rename_i h2;have:=F0 h (by omega);rw[if_neg (by omega)];exact ih h (by omega)
theorem jm{M:Nat}{ts:List TK}{s n:Nat}(h:b7 M ts s=.ok n)(hs:s<=M):∀t∈ts,∃said,said<=M/\o5 t said=true:=by
 induction ts generalizing s with
 | nil=>intro t ht;simp at ht
 | cons x r ih=>
  unfold b7 at h;split at h
  ·cases h
  ·rename_i h1;split at h
   ·cases h
   ·rename_i h2;intro t ht;rcases List.mem_cons.1 ht with rfl | ht
    ·exact⟨s,hs,by simpa using h1⟩
    ·exact ih h (by omega) t ht
theorem pq{t:TK}{said:Nat}(h:o5 t said=true)(hs:said≤16384)(hl:t.lit<256):
  (aJ t).sym<=285/\(aJ t).extra<2 ^ (aJ t).width/\(aJ t).width<=5/\(t.len=0->(aJ t).sym=t.lit/\(aJ t).extra=0/\(aJ t).width=0)/\(t.len≠0->257<=(aJ t).sym/\(aH t).sym<=29/\(aH t).extra<2 ^ (aH t).width/\(aH t).width<=13):=by
 rcases eY h with⟨h0,_,h1⟩ | ⟨n,d,h0,G1,_,h3,h4,h5,h6,h1⟩
 ·have rG:aJ t=⟨t.lit,0,0⟩:=(by unfold aJ;rw[if_pos h0]);rw[rG];exact⟨by simp only;omega,by simp,by simp,λ_=>⟨rfl,rfl,rfl⟩,λh9=>absurd h0 h9⟩
 ·have m6:t.len≠0:=(by omega);have hd:(aH t).sym<=29/\(aH t).extra<2 ^ (aH t).width/\(aH t).width<=13:=by
   have Rc:aH t=⟨eD (d-1) 2,dX (d-1) 2,bW (d-1) 2⟩:=(by unfold aH;rw[G1];simp);rw[Rc];have:=gS (d-1) 2 12 (by omega) (by decide);have hb:=(fQ (d-1) 14).2 (by omega);exact⟨by simp only;omega,AO _ _,by simp only[bW];omega⟩
  refine⟨?_,?_,?_,λh9=>absurd h9 m6,λ_=>⟨?_,hd⟩⟩
  all_goals
   by_cases h258:n=258
   ·have rG:aJ t=⟨285,0,0⟩:=(by unfold aJ;rw[if_neg m6,if_pos (by omega)]);rw[rG];simp
   ·have rG:aJ t=⟨257+eD (n-3) 3,dX (n-3) 3,bW (n-3) 3⟩:=(by unfold aJ;rw[if_neg m6,if_neg (by omega),h0];simp);rw[rG];have:=gS (n-3) 3 5 (by omega) (by decide);have hb:=(fQ (n-3) 8).2 (by omega);have hx:=AO (n-3) 3;simp only[bW]at hx ⊢
    first
     | exact hx
     | omega
theorem Gw:(List.range 288).all (λs=>decide (key fixL s≠0))=true:=by decide +kernel
theorem Dh:(List.range 32).all (λs=>decide (key fixD s≠0))=true:=by decide +kernel
theorem pU:fixL.length=288/\fixD.length=32:=by decide +kernel
theorem qW{ts:List TK}{n:Nat}(h:b7 16384 ts 0=.ok n)(hb:∀t∈ts,t.lit<256):od fixL fixD ts:=by
 have hk:∀s,s<288->key fixL s≠0:=λs hs=>by simpa using List.all_eq_true.1 Gw s (List.mem_range.2 hs)
 have UP:∀s,s<32->key fixD s≠0:=λs hs=>by simpa using List.all_eq_true.1 Dh s (List.mem_range.2 hs)
 refine⟨λt ht=>?_,⟨by rw[pU.1];decide,hk 256 (by decide)⟩,hb⟩;obtain⟨said,h1,h2⟩:=jm h (by decide) t ht;have h3:=pq h2 h1 (hb t ht);refine⟨by rw[pU.1];omega,hk _ (by omega),λh9=>?_⟩;have h4:=h3.2.2.2.2 h9;exact⟨by rw[pU.2];omega,UP _ (by omega)⟩
structure jX(bs X:List Nat):Prop where
 pad:∃k,ae bs=X++List.replicate k 0
 len:bs.length=(X.length+7) / 8
theorem nz(k:Nat):∀b∈List.replicate k 0,b<2:=λb hb=>by have:=List.eq_of_mem_replicate hb;omega
def fj(ts:List TK):List Nat:=[1,1,0]++(ts.flatMap (ay fixL fixD)++aE fixL 256)
theorem uU{ts:List TK}{n most:Nat}(h:b7 16384 ts 0=.ok n)(hb:∀t∈ts,t.lit<256)(hn:n<=most)(hm:most<=16384){bs:List Nat}(hp:jX bs (fj ts)):∃t,Ends (ae bs) most ps0 t 0/\t.out=xj ts []/\(t.c+7) / 8=bs.length:=by
 obtain⟨k,hk⟩:=hp.pad;have h9:=wV fix_ok (List.replicate k 0) (nz k) most hm ts (qW h hb) [1,1,0] [] n (qb h (by decide) hn) (Nat.zero_le _);have e:ae bs=[1,1,0]++(ts.flatMap (ay fixL fixD)++(aE fixL 256++List.replicate k 0)):=by rw[hk];unfold fj;simp[List.append_assoc]
 rw[<-e]at h9;refine⟨_,.step (dF (s:=ps0) (b:=.sym true fixL fixD) (c:=3) rfl ?_) h9,rfl,?_⟩
 ·rw[e];have h1:∀r:List Nat,iz (1::1::0::r) 0 1=.ok (1,1):=λr=>by rw[fe (by simp)];rfl
  have h2:∀r:List Nat,iz (1::1::0::r) 1 2=.ok (1,3):=λr=>by rw[fe (by simp)];rfl
  show ez (1::1::0::_) 0=_;unfold ez;rw[aF (h1 _),aF (h2 _)];rfl
 ·rw[hp.len];unfold fj;simp only[List.length_append,aw,List.length_cons,List.length_nil];congr 1
def mQ(lit dist:List Nat)(many:Nat)(cs:List Nat)(sn:List (Nat×Nat))(ts:List TK):List Nat:=[1,0,1]++(bC lit.length dist.length many cs sn++(ts.flatMap (ay lit dist)++aE lit 256))
theorem D1{lit dist:List Nat}{many:Nat}{cs:List Nat}{sn:List (Nat×Nat)}(ho:OkL lit dist)(hh:lT lit dist many cs sn){ts:List TK}{n most:Nat}(hk:od lit dist ts)(h:b7 16384 ts 0=.ok n)(hn:n≤most)(hm:most≤16384){bs:List Nat}(hp:jX bs (mQ lit dist many cs sn ts)):
  ∃t,Ends (ae bs) most ps0 t 0/\t.out=xj ts []/\(t.c+7) / 8=bs.length:=by
 obtain⟨k,hkk⟩:=hp.pad;obtain⟨H,hH⟩:∃H,bC lit.length dist.length many cs sn=H:=⟨_,rfl⟩
 have h9:=wV ho (List.replicate k 0) (nz k) most hm ts hk ([1,0,1]++H) [] n (qb h (by decide) hn) (Nat.zero_le _);have e:ae bs=[1,0,1]++(H++(ts.flatMap (ay lit dist)++(aE lit 256++List.replicate k 0))):=by rw[hkk];unfold mQ;rw[hH];simp[List.append_assoc]
 have e2:ae bs=([1,0,1]++H)++(ts.flatMap (ay lit dist)++(aE lit 256++List.replicate k 0)):=by rw[e];simp
 rw[<-e2]at h9;have hrd:=yy hh [1,0,1] (ts.flatMap (ay lit dist)++(aE lit 256++List.replicate k 0)) (λb hb=>by
  rcases List.mem_append.1 hb with h | h
  ·exact mL _ _ _ b h
  ·rcases List.mem_append.1 h with h | h
   ·exact cU _ _ b h
   ·exact nz k b h)
 rw[hH,<-e]at hrd;have Ca:ed (ae bs) 3=.ok ((lit,dist),H.length):=by
  unfold ed;rw[show(3:Nat)=([1,0,1]:List Nat).length from rfl,hrd];simp only;rw[if_neg];intro hc;rcases hc with hc | hc | hc
  ·exact hk.end'.2 hc
  ·exact hc ho.lit.ok
  ·exact hc.2 (ho.dist hc.1).ok
 have Ix:([1,0,1]++H:List Nat).length=3+H.length:=by simp;omega
 rw[Ix]at h9;refine⟨_,.step (dF (s:=ps0) (b:=.sym true lit dist) (c:=3+H.length) rfl ?_) h9,rfl,?_⟩
 ·have h1:iz (ae bs) 0 1=.ok (1,1):=(by rw[e,fe (by simp)];rfl);have h2:iz (ae bs) 1 2=.ok (2,3):=(by rw[e,fe (by simp)];rfl);show ez (ae bs) 0=_;unfold ez;rw[aF h1,aF h2];unfold iX;rw[if_neg (by decide),if_neg (by decide),if_pos rfl];unfold oN;rw[Ca];rfl
 ·rw[hp.len];unfold mQ;rw[hH];simp only[List.length_append,aw,List.length_cons,List.length_nil];congr 1;omega
def bH(data:List Nat):List Nat:=[1,data.length % 256,data.length / 256,255-data.length % 256,255-data.length / 256]++data
theorem Dy(most:Nat)(data:List Nat)(hb:∀b∈data,b<256)(A out:List Nat)(h:out.length+data.length≤most):
  Ends (A++ae data) most ⟨A.length,out,some (.raw true data.length)⟩ ⟨A.length+8*data.length,out++data,some (.raw true 0)⟩ 0:=by
 induction data generalizing A out with
 | nil=>
  refine .done ?_;show jF (A++ae []) most ⟨A.length,out,some (.raw true 0)⟩=_;rw[b8 (s:=⟨A.length,out,some (.raw true 0)⟩) (x:=((.fin,.raw true 0),A.length)) rfl rfl,jf];simp[Bk.last]
 | cons x r ih=>
  have hx:=hb x (by simp);have e0:ae (x::r)=aj x 8++ae r:=(by simp[ae]);have Mv:aW (A++(aj x 8++ae r)) A.length 8=x:=d6 A (ae r) x 8 (by omega);have hst:bA (A++(aj x 8++ae r)) (.raw true (r.length+1)) A.length=.ok ((.byte x,.raw true r.length),A.length+8):=(by rw[ec,fe (by rw[List.length_append,List.length_append,af];omega),Mv];rfl);have h9:=ih (λb iH=>hb b (by simp[iH])) (A++aj x 8) (out++[x]) (by simp at h ⊢;omega);rw[List.append_assoc,List.length_append,af]at h9;rw[e0,List.length_cons];refine .step (s':=⟨A.length+8,out++[x],some (.raw true r.length)⟩) ?_ ?_
  ·rw[b8 (s:=⟨A.length,out,some (.raw true (r.length+1))⟩) rfl hst];exact j9 (by intro h;cases h) (by simp only[dA];rw[if_neg (by simp at h;omega)])
  ·rw[show A.length+8*(r.length+1)=A.length+8+8*r.length by omega];rw[List.append_assoc]at h9;exact h9
theorem tO{data:List Nat}(hb:∀b∈data,b<256){most:Nat}(hl:data.length<=most)(hm:most<=16384):∃t,Ends (ae (bH data)) most ps0 t 0/\t.out=data/\(t.c+7) / 8=(bH data).length:=by
 obtain⟨n,hn⟩:∃n,data.length=n:=⟨_,rfl⟩
 obtain⟨P,hP⟩:∃P,P=aj 1 8++(aj (n % 256) 8++(aj (n / 256) 8++(aj (255-n % 256) 8++aj (255-n / 256) 8))):=⟨_,rfl⟩
 have e:ae (bH data)=P++ae data:=by unfold bH;rw[jQ,hn,hP];simp[ae,List.append_assoc]
 have RJ:P.length=40:=by rw[hP];simp[af]
 have h9:=Dy most data hb P [] (by simpa using hl);rw[<-e,RJ,hn]at h9;have xZ:40<=(ae (bH data)).length:=by rw[e,List.length_append,RJ];omega
 have OT:∀(A B:List Nat) (x y:Nat),x<256->y<256->aW (A++(aj x 8++(aj y 8++B))) A.length 16=x+256*y:=λA B x y hx hy=>by unfold aW;rw[List.drop_left,<-List.append_assoc (aj x 8),List.take_append_of_le_length (by simp[af]),List.take_of_length_le (by simp[af]),dj,dq,dq,af,Nat.mod_eq_of_lt (by omega),Nat.mod_eq_of_lt (by omega)]
 have J0:n<=16384:=by omega
 have t1:iz (ae (bH data)) 0 1=.ok (1,1):=by rw[fe (by omega),e,hP];rfl
 have t2:iz (ae (bH data)) 1 2=.ok (0,3):=by rw[fe (by omega),e,hP];rfl
 have t3:iz (ae (bH data)) 8 16=.ok (n,24):=by rw[fe (by omega),e,hP];have:=OT (aj 1 8) (aj (255-n % 256) 8++aj (255-n / 256) 8++ae data) (n % 256) (n / 256) (by omega) (by omega);rw[af]at this;rw[show n % 256+256*(n / 256)=n by omega]at this;simp only[List.append_assoc]at this ⊢;rw[this]
 have t4:iz (ae (bH data)) 24 16=.ok (65535-n,40):=by rw[fe (by omega),e,hP];have:=OT (aj 1 8++(aj (n % 256) 8++aj (n / 256) 8)) (ae data) (255-n % 256) (255-n / 256) (by omega) (by omega);simp only[List.length_append,af]at this;rw[show 255-n % 256+256*(255-n / 256)=65535-n by omega]at this;simp only[List.append_assoc]at this ⊢;rw[this]
 refine⟨_,.step (dF (s:=ps0) (b:=.raw true n) (c:=40) rfl ?_) h9,rfl,?_⟩
 ·show ez (ae (bH data)) 0=_;unfold ez;rw[aF t1,aF t2];unfold iX;rw[if_pos rfl];unfold mN;rw[show(3+7) / 8*8=8 from rfl,aF t3,aF t4,if_pos (by omega)];rfl
 ·simp only[bH,List.length_append,List.length_cons,List.length_nil];omega
theorem vW(s:Nat):dC s<=7:=by
 unfold dC;split
 ·omega
 ·split
  ·omega
  ·split<;>omega
def eJ(l:List Nat):List (Nat×Nat):=(aZ l).map (λs=>(s.1.toNat,s.2.toNat))
def t8(s:Int×Int):Prop:=0<=s.1/\s.1<=18/\0<=s.2/\s.2.toNat<2 ^ dC s.1.toNat
theorem DJ(n:Nat):∀s∈eS n,t8 s:=by
 induction n using Nat.strongRecOn with
 | ind n ih=>
  intro s hs;by_cases h:11<=n
  ·rw[gt n h]at hs;rcases List.mem_cons.1 hs with rfl | hs
   ·refine⟨by simp,by simp,by simp only;omega,?_⟩;show(((min n 138-11:Nat):Int)).toNat<2 ^ 7;omega
   ·exact ih _ (by omega) s hs
  ·by_cases h3:3<=n
   ·rw[gQ n (by omega) h3]at hs;have:s=(17,((n-3:Nat):Int)):=(by simpa using hs);subst this;refine⟨by simp,by simp,by simp only;omega,?_⟩;show(((n-3:Nat):Int)).toNat<2 ^ 3;omega
   ·rw[gC n (by omega)]at hs;have:=List.eq_of_mem_replicate hs;subst this;exact⟨by simp,by simp,by simp,by decide⟩
theorem DL(v n:Nat)(hv:v<=15):∀s∈gK v n,t8 s:=by
 induction n using Nat.strongRecOn with
 | ind n ih=>
  intro s hs;by_cases h:3<=n
  ·rw[jp v n h]at hs;rcases List.mem_cons.1 hs with rfl | hs
   ·refine⟨by simp,by simp,by simp only;omega,?_⟩;show(((min n 6-3:Nat):Int)).toNat<2 ^ 2;omega
   ·exact ih _ (by omega) s hs
  ·rw[jq v n (by omega)]at hs;have:=List.eq_of_mem_replicate hs;subst this;refine⟨by simp,by simp only;omega,by simp,?_⟩;show(0:Int).toNat<2 ^ dC _;exact Nat.two_pow_pos _
theorem Je(v n:Nat)(hv:v<=15):∀s∈ej v n,t8 s:=by
 intro s hs;unfold ej at hs;split at hs
 ·exact DJ n s hs
 ·rcases List.mem_cons.1 hs with rfl | hs
  ·refine⟨by simp,by simp only;omega,by simp,?_⟩;show(0:Int).toNat<2 ^ dC _;exact Nat.two_pow_pos _
  ·exact DL v _ hv s hs
theorem pP(l:List Nat)(h15:∀x∈l,x<=15):∀s∈aZ l,t8 s:=by
 induction hn:l.length using Nat.strongRecOn generalizing l with
 | ind n ih=>
  cases l with
  | nil=>intro s hs;simp[aZ]at hs
  | cons v r=>
   intro s hs;rw[gG]at hs;rcases List.mem_append.1 hs with hs | hs
   ·exact Je v _ (h15 v (by simp)) s hs
   ·exact ih (r.drop (bG v r)).length (by simp at hn ⊢;omega) _ (λx hx=>h15 x (List.mem_cons_of_mem _ (List.mem_of_mem_drop hx))) rfl s hs
theorem qc(l:List Nat)(h15:∀x∈l,x<=15):(eJ l).map (λs=>((s.1:Int),(s.2:Int)))=aZ l:=by
 unfold eJ;rw[List.map_map];conv=>rhs;rw[<-List.map_id (aZ l)]
 refine List.map_congr_left (λs hs=>?_);have h:=pP l h15 s hs;simp only[Function.comp,id];rw[Int.toNat_of_nonneg h.1,Int.toNat_of_nonneg h.2.2.1]
theorem t7(l:List Nat):(eJ l).length<=l.length:=by unfold eJ;rw[List.length_map];exact sk l
def bY(s:Int):Nat:=if s=16 then 3 else if s=17 then 3 else if s=18 then 11 else 1
def cF(s:Int):Nat:=if s=16 then 2 else if s=17 then 3 else if s=18 then 7 else 0
theorem qC(s:Nat):cF (s:Int)=dC s:=by
 unfold cF dC;by_cases h1:s=16
 ·subst h1;rfl
 ·by_cases h2:s=17
  ·subst h2;rfl
  ·by_cases h3:s=18
   ·subst h3;rfl
   ·rw[if_neg (by omega),if_neg (by omega),if_neg (by omega),if_neg h1,if_neg h2,if_neg h3]
theorem nn(s:Int):cF s<=7:=by
 unfold cF;split
 ·omega
 ·split
  ·omega
  ·split<;>omega
theorem nK(s:Int):1<=bY s/\bY s<=11:=by
 unfold bY;split
 ·omega
 ·split
  ·omega
  ·split<;>omega
def mP(s:Int)(l:List Nat):Nat:=if s=16 then jO l else if s=17\/s=18 then 0 else s.toNat
def iW(s:Int×Int)(said n:Nat):Prop:=0<=s.1/\s.1<=18/\0<=s.2/\s.2<2 ^ cF s.1/\¬(s.1=16/\said=0)/\(said+bY s.1:Nat)+s.2<=n
theorem CA{l:List Nat}{s:Int×Int}{n:Nat}(h:iW s l.length n):et l s n=some (l++List.replicate (bY s.1+s.2.toNat) (mP s.1 l)):=by
 obtain⟨a,b⟩:=s;obtain⟨h1,h2,h3,h4,h5,h6⟩:=h;simp only at h1 h2 h3 h4 h5 h6 ⊢;refine iN ?_ (by omega);unfold ij;simp only;by_cases MQ:a=16
 ·subst MQ;have hw:cF 16=2:=rfl;have hl:bY 16=3:=rfl;rw[hw]at h4;rw[if_neg (by omega),if_pos ⟨rfl,h3,by omega,by omega⟩,hl];simp only[mP,if_true];congr 2;omega
 ·by_cases Pe:a=17
  ·subst Pe;have hw:cF 17=3:=rfl;have hl:bY 17=3:=rfl;rw[hw]at h4;rw[if_neg (by omega),if_neg (by omega),if_pos ⟨rfl,h3,by omega⟩,hl];simp[mP];omega
  ·by_cases O2:a=18
   ·subst O2;have hw:cF 18=7:=rfl;have hl:bY 18=11:=rfl;rw[hw]at h4;rw[if_neg (by omega),if_neg (by omega),if_neg (by omega),if_pos ⟨rfl,h3,by omega⟩,hl];simp[mP];omega
   ·have hw:cF a=0:=(by unfold cF;rw[if_neg MQ,if_neg Pe,if_neg O2]);have hl:bY a=1:=(by unfold bY;rw[if_neg MQ,if_neg Pe,if_neg O2]);rw[hw]at h4;have hb:b=0:=(by omega);subst hb;rw[if_pos ⟨h1,by omega,rfl⟩,hl];unfold mP;rw[if_neg MQ,if_neg (by omega)];rfl
theorem Fs{l:List Nat}{s:Int×Int}{n:Nat}(h:¬iW s l.length n):et l s n=none:=by
 cases hw:et l s n with
 | none=>rfl
 | some m=>
  exfalso;apply h;obtain⟨a,b⟩:=s;unfold et at hw;split at hw
  ·cases hw
  ·rename_i v k hs;split at hw
   ·cases hw
   ·rename_i md;unfold ij at hs;simp only at hs;unfold iW;simp only;split at hs
    ·rename_i h1;simp at hs;have ly:cF a=0:=(by unfold cF;rw[if_neg (by omega),if_neg (by omega),if_neg (by omega)]);have hl:bY a=1:=(by unfold bY;rw[if_neg (by omega),if_neg (by omega),if_neg (by omega)]);rw[ly,hl];omega
    ·split at hs
     ·rename_i h1;simp at hs;obtain⟨rfl,h1⟩:=h1;have ly:cF 16=2:=rfl;have hl:bY 16=3:=rfl;rw[ly,hl];omega
     ·split at hs
      ·rename_i h1;simp at hs;obtain⟨rfl,h1⟩:=h1;have ly:cF 17=3:=rfl;have hl:bY 17=3:=rfl;rw[ly,hl];omega
      ·split at hs
       ·rename_i h1;simp at hs;obtain⟨rfl,h1⟩:=h1;have ly:cF 18=7:=rfl;have hl:bY 18=11:=rfl;rw[ly,hl];omega
       ·cases hs
def cT(s:Int)(lo hi n:Nat):List (Int×Int):=
 if 1<=lo/\lo<=hi/\lo<=n then(s,((min n hi-lo:Nat):Int))::cT s lo hi (n-min n hi)else []
termination_by n
decreasing_by omega
def bQ(lo hi n:Nat):Nat:=
 if 1<=lo/\lo<=hi/\lo<=n then bQ lo hi (n-min n hi)else n
termination_by n
decreasing_by omega
theorem eP{s:Int}{lo hi n:Nat}(h1:1<=lo)(h2:lo<=hi)(h3:lo<=n):cT s lo hi n=(s,((min n hi-lo:Nat):Int))::cT s lo hi (n-min n hi):=by rw[cT,if_pos ⟨h1,h2,h3⟩]
theorem gg{s:Int}{lo hi n:Nat}(h3:n<lo):cT s lo hi n=[]:=by rw[cT,if_neg (by omega)]
theorem eX{lo hi n:Nat}(h1:1<=lo)(h2:lo<=hi)(h3:lo<=n):bQ lo hi n=bQ lo hi (n-min n hi):=by rw[bQ,if_pos ⟨h1,h2,h3⟩]
theorem f9{lo hi n:Nat}(h3:n<lo):bQ lo hi n=n:=by rw[bQ,if_neg (by omega)]
theorem pi(s:Int)(lo hi n:Nat)(h1:1<=lo)(h2:lo<=hi):(cT s lo hi n).length+bQ lo hi n<=n/\bQ lo hi n<lo:=by
 induction n using Nat.strongRecOn with
 | ind n ih=>
  by_cases h:lo<=n
  ·have:=ih (n-min n hi) (by omega);rw[eP h1 h2 h,eX h1 h2 h,List.length_cons];omega
  ·rw[gg (by omega),f9 (by omega)];simp;omega
theorem xB(n:Nat):eS n=cT 18 11 138 n++(cT 17 3 10 (bQ 11 138 n)++List.replicate (bQ 3 10 (bQ 11 138 n)) (0,0)):=by
 induction n using Nat.strongRecOn with
 | ind n ih=>
  by_cases h:11<=n
  ·rw[gt n h,eP (by omega) (by omega) h,eX (by omega) (by omega) h,ih (n-min n 138) (by omega)];rfl
  ·rw[gg (n:=n) (by omega),f9 (n:=n) (by omega)];by_cases h3:3<=n
   ·rw[gQ n (by omega) h3,eP (by omega) (by omega) h3,eX (by omega) (by omega) h3,show min n 10=n by omega,Nat.sub_self,gg (by omega),f9 (by omega)];rfl
   ·rw[gC n (by omega),gg (by omega),f9 (by omega)];rfl
theorem vP(v n:Nat):gK v n=cT 16 3 6 n++List.replicate (bQ 3 6 n) ((v:Int),0):=by
 induction n using Nat.strongRecOn with
 | ind n ih=>
  by_cases h:3<=n
  ·rw[jp v n h,eP (by omega) (by omega) h,eX (by omega) (by omega) h,ih (n-min n 6) (by omega)];rfl
  ·rw[jq v n (by omega),gg (by omega),f9 (by omega)];rfl
def dE(cs:List Nat):Nat->Nat
 | 0=>0
 | k+1=>if 4<k+1/\cs.getD (ord.getD k 0) 0=0 then dE cs k else k+1
theorem EB(cs:List Nat)(k:Nat)(h:4<=k):4<=dE cs k/\dE cs k<=k:=by
 induction k with
 | zero=>omega
 | succ k ih=>
  rw[dE];split
  ·have:=ih (by omega);omega
  ·omega
theorem zH(cs:List Nat)(k:Nat):∀j,dE cs k<=j->j<k->cs.getD (ord.getD j 0) 0=0:=by
 induction k with
 | zero=>intro j _ h;omega
 | succ k ih=>
  intro j h1 h2;rw[dE]at h1;split at h1
  ·rename_i h;by_cases e:j=k
   ·subst e;exact h.2
   ·exact ih j h1 (by omega)
  ·omega
end Go.Proofs.YtllcnlnbpikhdaaGreatDoor
namespace Go.Proofs.YtllcnlnbpikhdaaGreatDoor
open Go.RowKit
def yP(n lo hi:Int):Bool:=decide (lo<=n) && decide (n<=hi)
theorem gT(w:World)(n lo hi:Int):
  Calls Tryz.prog 114 #[.int .i64 n,.int .i64 lo,.int .i64 hi] w λe w'=>e=.returned (.bool (yP n lo hi))/\w'=w:=by
 go_enter Tryz.func114,Tryz.ntmps114;by_cases h:lo<=n
 ·go_wp2_with fail;go_ret;exact⟨by simp only[yP,h,decide_true,Bool.true_and];rfl,rfl⟩
 ·go_wp2_with fail;go_ret;have hd:decide (lo<=n)=false:=(by simp;omega);exact⟨by simp only[yP,hd,Bool.false_and];rfl,rfl⟩
theorem iM(w:World)(s:Int):
  Calls Tryz.prog 148 #[.int .i64 s] w λe w'=>e=.returned (.tuple #[.int .i64 (bY s:Nat),.int .i64 (cF s:Nat)])/\w'=w:=by
 by_cases rO:s=16
 ·subst rO;go_enter Tryz.func148,Tryz.ntmps148;go_wp2_with fail;go_ret2;exact⟨rfl,rfl⟩
 ·by_cases Mf:s=17
  ·subst Mf;go_enter Tryz.func148,Tryz.ntmps148;go_wp2_with fail;go_ret2;exact⟨rfl,rfl⟩
  ·by_cases BR:s=18
   ·subst BR;go_enter Tryz.func148,Tryz.ntmps148;go_wp2_with fail;go_ret2;exact⟨rfl,rfl⟩
   ·have MQ:(s==16)=false:=(by simp;omega);have Pe:(s==17)=false:=(by simp;omega);have O2:(s==18)=false:=(by simp;omega);have HE:Hid (bY s=1/\cF s=0):=hid ⟨by unfold bY;rw[if_neg rO,if_neg Mf,if_neg BR],by unfold cF;rw[if_neg rO,if_neg Mf,if_neg BR]⟩;clear rO Mf BR;go_enter Tryz.func148,Tryz.ntmps148;go_wp2_with fail;go_ret2;exact⟨by rw[HE.out.1,HE.out.2];rfl,rfl⟩
theorem tR(n:Nat)(h:n<=7):(2:Nat) ^ n<=128:=by have:=Nat.pow_le_pow_right (show 0<2 by decide) h;simpa using this
def MayR(e:Ending)(s:Int×Int)(said n:Nat):Prop:=∃r:Bool,e=.returned (.bool r)/\(r=true↔iW s said n)
theorem MayR.no{e:Ending}{s:Int×Int}{said n:Nat}(h:MayR e s said n)(hm:¬iW s said n):e=.returned (.bool false):=by
 obtain⟨r,rfl,hr⟩:=h;cases r with
 | false=>rfl
 | true=>exact absurd (hr.1 rfl) hm
theorem MayR.yes{e:Ending}{s:Int×Int}{said n:Nat}(h:MayR e s said n)(hm:iW s said n):e=.returned (.bool true):=by obtain⟨r,rfl,hr⟩:=h;rw[hr.2 hm]
theorem tA(w:World)(a b:Int)(said n:Nat)(hs:said≤1000000):
  Calls Tryz.prog 205 #[.agg #[.int .i64 a,.int .i64 b],.int .i64 (said:Nat),.int .i64 (n:Nat)] w λe w'=>MayR e (a,b) said n/\Same w w':=by
 have B8:=nn a;have l6:=nK a;have HSH:=iM (w.alloc (.cells #[.int .i64 a,.int .i64 b] 220)) a;obtain⟨wd,mc⟩:∃x,x=cF a:=⟨_,rfl⟩
 obtain⟨ls,xZ⟩:∃x,x=bY a:=⟨_,rfl⟩
 rw[<-mc]at HSH B8;rw[<-xZ]at HSH l6;have HM:Hid (iW (a,b) said n↔(0<=a/\a<=18/\0<=b/\b<2 ^ wd/\¬(a=16/\said=0)/\(said+ls:Nat)+b<=n)):=hid (by rw[mc,xZ];exact Iff.rfl);clear mc xZ;have AD:=tR wd B8;have yn:0<2 ^ wd:=Nat.two_pow_pos wd;obtain⟨pw,lY⟩:∃x,x=2 ^ wd:=⟨_,rfl⟩
 obtain⟨pm,Uk⟩:∃x:Nat,x=pw-1:=⟨_,rfl⟩
 rw[<-lY]at AD yn;have HM2:Hid (iW (a,b) said n↔(yP a 0 18=true/\yP b 0 (pm:Int)=true/\¬(a=16/\said=0)/\(said+ls:Nat)+b<=n)):=hid (by
  rw[HM.out];have:(2:Int) ^ wd=(pw:Int):=(by rw[lY];simp);rw[this];simp only[yP,Bool.and_eq_true,decide_eq_true_eq];omega)
 have GV:wrap64 ((2:Int) ^ wd)=(pw:Int):=by have:(2:Int) ^ wd=(pw:Int):=(by rw[lY];simp);rw[this];unfold wrap64;omega
 have ju:(pw:Int)-1=(pm:Int):=by omega
 have HW1:=λq=>gT ((w.alloc (.cells #[.int .i64 a,.int .i64 b] 220)).drewN q) a 0 18
 have HW2:=λq=>gT ((w.alloc (.cells #[.int .i64 a,.int .i64 b] 220)).drewN q) b 0 (pm:Int)
 clear HM lY;have U1:pm<=127:=by omega
 clear Uk;go_enter Tryz.func205,Tryz.ntmps205;go_wp2_with fail;refine HSH.mono ?_;rintro e w1 ⟨rfl,rfl⟩;clear HSH;have HK0:Hid (Same w (w.alloc (.cells #[.int .i64 a,.int .i64 b] 220))):=hid ((Kept.refl _ w).alloc _);have cB:(w.alloc (.cells #[.int .i64 a,.int .i64 b] 220)).cell? ⟨w.heap.size,1,none⟩=some (.int .i64 b):=by simp
 have cA:(w.alloc (.cells #[.int .i64 a,.int .i64 b] 220)).cell? ⟨w.heap.size,0,none⟩=some (.int .i64 a):=by simp
 generalize w.alloc (.cells #[.int .i64 a,.int .i64 b] 220)=W at *
 cases h1:yP a 0 18 with
 | false=>
  have HE:Hid (¬iW (a,b) said n):=hid (λh=>by have:=(HM2.out.1 h).1;rw[h1]at this;cases this);rw[h1]at HW1;clear h1;go_wp2_with fail;go_quiet ((go_at_call 114;exact Calls.quiet_of_same (HW1 _)));go_wp2_with fail;go_ret;exact⟨⟨false,rfl,by simp[HE.out]⟩,HK0.out.drewN _⟩
 | true=>
  rw[h1]at HW1;cases h2:yP b 0 (pm:Int) with
  | false=>
   have HE:Hid (¬iW (a,b) said n):=hid (λh=>by have:=(HM2.out.1 h).2.1;rw[h2]at this;cases this);rw[h2]at HW2;clear h1 h2;go_wp2_with fail;go_quiet ((go_at_call 114;first | (with_reducible exact Calls.quiet_of_same (HW1 _)) | (with_reducible exact Calls.quiet_of_same (HW2 _))));go_wp2_with fail;go_ret;exact⟨⟨false,rfl,by simp[HE.out]⟩,HK0.out.drewN _⟩
  | true=>
   rw[h2]at HW2;have hb:0<=b/\b<=(pm:Int):=(by simpa[yP]using h2);have HM3:Hid (iW (a,b) said n↔(¬(a=16/\said=0)/\(said+ls:Nat)+b<=n)):=hid (by rw[HM2.out,h1,h2];simp);obtain⟨bn,rfl⟩:∃x:Nat,b=(x:Int):=⟨b.toNat,by omega⟩
   have XS:bn<=127:=(by omega);obtain⟨t,ht⟩:∃t,t=said+ls:=⟨_,rfl⟩
   have htI:(said:Int)+(ls:Int)=(t:Int):=(by omega);have QC:IntKind.i64.wrap (t:Int)=(t:Int):=(by rw[IntKind.wrap_i64];omega);obtain⟨u,hu⟩:∃u,u=t+bn:=⟨_,rfl⟩
   have Yh:(t:Int)+(bn:Int)=(u:Int):=(by omega);have XC:IntKind.i64.wrap (u:Int)=(u:Int):=(by rw[IntKind.wrap_i64];omega);have HM4:Hid (iW (a,(bn:Int)) said n↔(¬(a=16/\said=0)/\u<=n)):=hid (by
    rw[HM3.out];have:((said+ls:Nat):Int)+(bn:Int)<=(n:Int)↔u<=n:=(by omega);rw[this])
   clear h1 h2 hb HM3 HM2 ht hu;go_wp2_with fail;go_quiet ((go_at_call 114;first | (with_reducible exact Calls.quiet_of_same (HW1 _)) | (with_reducible exact Calls.quiet_of_same (HW2 _))));by_cases rO:a=16
   ·subst rO;by_cases h0:said=0
    ·have HE:Hid (¬iW (16,(bn:Int)) 0 n):=hid (λh=>(HM4.out.1 (by rw[h0];exact h)).1 ⟨rfl,h0⟩);have QK:((said:Int)==0)=true:=(by simp[h0]);go_wp2_with fail;go_ret;exact⟨⟨false,rfl,by simp[HE.out]⟩,HK0.out.drewN _⟩
    ·have QK:((said:Int)==0)=false:=(by simp[h0]);have HE:Hid (iW (16,(bn:Int)) said n↔u<=n):=hid (by rw[HM4.out];simp[h0]);clear h0;go_wp2_with fail;go_ret;exact⟨⟨_,rfl,by rw[HE.out];simp⟩,HK0.out.drewN _⟩
   ·have Vg:(a==16)=false:=(by simp[rO]);have HE:Hid (iW (a,(bn:Int)) said n↔u<=n):=hid (by rw[HM4.out];simp[rO]);clear rO;go_wp2_with fail;go_ret;exact⟨⟨_,rfl,by rw[HE.out];simp⟩,HK0.out.drewN _⟩
theorem IL(w:World)(B:Nat)(v:Value)(l:List Nat)(a b:Int)(n:Nat)(hr:NRow B w v l)(hB:B≤w.heap.size)(hl:l.length≤1000000)(hm:iW (a,b) l.length n):
  Calls Tryz.prog 206 #[v,.agg #[.int .i64 a,.int .i64 b]] w λe w'=>∃v',e=.returned v'/\NRow B w' v' (l++List.replicate (bY a+b.toNat) (mP a l))/\Kept (iK B) w w':=by
 obtain⟨ao,cap,rfl,KT,_⟩:=hr.shape;obtain⟨h1,h2,h3,h4,h5,h6⟩:=hm;simp only at h1 h2 h3 h4 h5 h6;have B8:=nn a;have l6:=nK a;have AD:=tR _ B8;have WD:b<128:=by have:((2 ^ cF a:Nat):Int)=2 ^ cF a:=(by simp);omega
 obtain⟨bn,rfl⟩:∃x:Nat,b=(x:Int):=⟨b.toNat,by omega⟩
 obtain⟨an,rfl⟩:∃x:Nat,a=(x:Int):=⟨a.toNat,by omega⟩
 obtain⟨ls,xZ⟩:∃x,x=bY (an:Int):=⟨_,rfl⟩
 have HSH:=iM (w.alloc (.cells #[.int .i64 (an:Int),.int .i64 (bn:Int)] 220)) (an:Int);rw[<-xZ]at HSH l6 ⊢;rw[Int.toNat_natCast];obtain⟨k,hk⟩:∃k,k=ls+bn:=⟨_,rfl⟩
 have Kd:(ls:Int)+(bn:Int)=(k:Int):=by omega
 have ut:IntKind.i64.wrap (k:Int)=(k:Int):=by rw[IntKind.wrap_i64];omega
 rw[<-hk];have SS:k<=138:=by omega
 obtain⟨x,hx⟩:∃x,x=mP (an:Int) l:=⟨_,rfl⟩
 rw[<-hx];have HR:Hid (NRow B (w.alloc (.cells #[.int .i64 (an:Int),.int .i64 (bn:Int)] 220)) (.slice ao l.length cap) l):=hid (World.ownsRow.alloc hr _);have HK0:Hid (Kept (iK B) w (w.alloc (.cells #[.int .i64 (an:Int),.int .i64 (bn:Int)] 220))):=hid ((Kept.refl _ w).alloc _);have cB:(w.alloc (.cells #[.int .i64 (an:Int),.int .i64 (bn:Int)] 220)).cell? ⟨w.heap.size,1,none⟩=some (.int .i64 (bn:Int)):=by simp
 have cA:(w.alloc (.cells #[.int .i64 (an:Int),.int .i64 (bn:Int)] 220)).cell? ⟨w.heap.size,0,none⟩=some (.int .i64 (an:Int)):=by simp
 have cX:B<=(w.alloc (.cells #[.int .i64 (an:Int),.int .i64 (bn:Int)] 220)).heap.size:=by simp;omega
 have NS:∀W:World,W=w.alloc (.cells #[.int .i64 (an:Int),.int .i64 (bn:Int)] 220)->True:=λ_ _=>trivial
 clear NS;obtain⟨L,hL⟩:∃L,L=l.length:=⟨_,rfl⟩
 have HL:Hid (L=l.length):=hL;have Yv:Hid (l≠[]->∃g,ao=some ⟨g,0,none⟩):=KT;have H5:Hid (¬((an:Int)=16/\l.length=0)):=h5;have HX:Hid (x=mP (an:Int) l):=hx;rw[<-hL]at HR hl ⊢;clear hr xZ hk hx hL h3 h4 h5 h6 B8 AD WD KT h1;go_enter Tryz.func206,Tryz.ntmps206;go_wp2_with fail;refine HSH.mono ?_;rintro e w1 ⟨rfl,hw1⟩;subst hw1;clear HSH;generalize w.alloc (.cells #[.int .i64 (an:Int),.int .i64 (bn:Int)] 220)=W at *
 by_cases rO:an=16
 ·subst rO;have W7:0<L:=(by have:=HL.out;have:=H5.out;omega);have Rl:0<l.length:=(by have:=HL.out;omega);obtain⟨b2,o2,eG,e2,_,_,c2⟩:=(SrcE.ofRow HR.out).get (l.length-1) (by omega);simp only[Value.slice.injEq]at e2;obtain⟨rfl,jt,rfl⟩:=e2;clear jt;have md:l[l.length-1]=x:=(by rw[HX.out];simp[mP,jO,List.getD,show l.length-1<l.length by omega]);rw[md,<-HL.out]at c2;unfold am at c2;obtain⟨m,hm⟩:∃m,m=L-1:=⟨_,rfl⟩
  rw[<-hm]at c2;have R4:(L:Int)-1=(m:Int):=(by omega);have PL:m<L:=(by omega);have YA:IntKind.i64.wrap (m:Int)=(m:Int):=(by rw[IntKind.wrap_i64];omega);clear hm md Rl W7;go_wp2_with fail;go_loopg [0,32] k (λq zv zi wr=>∃(i:Nat),k-i<=q/\i<=k/\zi=.int .i64 (i:Nat)/\Hid (NRow B wr zv (l++List.replicate i x))/\Hid (Kept (iK B) w wr))
  case atStart=>exact⟨0,by omega,by omega,rfl,hid (by simpa using HR.out),HK0⟩
  case round=>
   clear HR HK0 cA cB;obtain⟨i,hq,hi,rfl,HV,HK⟩:=hrel;by_cases hlt:i<k
   ·have kV:=HK.out.size;have HLN:Hid ((l++List.replicate i x).length+[x].length<=1000000000):=hid (by have:=HL.out;simp;omega);go_wp2_with (at_builtin;refine aX _ am dJ B 138 3 (am 0) 8 Tryz.underlying138 Tryz.infoN rfl (by decide) rfl (.tmp 34) (.tmp 36) rfl u0 (l++List.replicate i x) rfl (World.ownsRow.alloc HV.out _) ⟨wr.heap.size,0,none⟩ 1 1 [x] rfl rfl (bw _ _ _) HLN.out (by simp;omega) ?_;intro v5 w5 hr5 d8);have HV5:Hid (NRow B w5 v5 (l++List.replicate (i+1) x)):=hid (by rw[List.replicate_succ',<-List.append_assoc];exact hr5);have HK5:Hid (Kept (iK B) w w5):=hid ((HK.out.alloc _).grown d8 (λj e=>.inl (HV.out.ge e)));clear hr5 d8;go_wp2_with fail;go_roundg (gk-1)
    case measure=>omega
    case rel=>exact⟨i+1,by omega,by omega,by go_num,HV5,HK5⟩
   ·have G4:i=k:=(by omega);subst G4;go_wp2_with fail;go_ret;exact⟨_,rfl,HV.out,HK.out⟩
 ·have MQ:((an:Int)==16)=false:=(by simp;omega);by_cases Mf:an=17
  ·subst Mf;have yb:x=0:=(by rw[HX.out];simp[mP]);subst yb;go_wp2_with fail;go_loopg [0,32] k (λq zv zi wr=>∃(i:Nat),k-i<=q/\i<=k/\zi=.int .i64 (i:Nat)/\Hid (NRow B wr zv (l++List.replicate i 0))/\Hid (Kept (iK B) w wr))
   case atStart=>exact⟨0,by omega,by omega,rfl,hid (by simpa using HR.out),HK0⟩
   case round=>
    clear HR HK0 cA cB;obtain⟨i,hq,hi,rfl,HV,HK⟩:=hrel;by_cases hlt:i<k
    ·have kV:=HK.out.size;have HLN:Hid ((l++List.replicate i 0).length+[0].length<=1000000000):=hid (by have:=HL.out;simp;omega);go_wp2_with (at_builtin;refine aX _ am dJ B 138 3 (am 0) 8 Tryz.underlying138 Tryz.infoN rfl (by decide) rfl (.tmp 34) (.tmp 36) rfl u0 (l++List.replicate i 0) rfl (World.ownsRow.alloc HV.out _) ⟨wr.heap.size,0,none⟩ 1 1 [0] rfl rfl (bw _ _ _) HLN.out (by simp;omega) ?_;intro v5 w5 hr5 d8);have HV5:Hid (NRow B w5 v5 (l++List.replicate (i+1) 0)):=hid (by rw[List.replicate_succ',<-List.append_assoc];exact hr5);have HK5:Hid (Kept (iK B) w w5):=hid ((HK.out.alloc _).grown d8 (λj e=>.inl (HV.out.ge e)));clear hr5 d8;go_wp2_with fail;go_roundg (gk-1)
     case measure=>omega
     case rel=>exact⟨i+1,by omega,by omega,by go_num,HV5,HK5⟩
    ·have G4:i=k:=(by omega);subst G4;go_wp2_with fail;go_ret;exact⟨_,rfl,HV.out,HK.out⟩
  ·have Pe:((an:Int)==17)=false:=(by simp;omega);by_cases BR:an=18
   ·subst BR;have yb:x=0:=(by rw[HX.out];simp[mP]);subst yb;go_wp2_with fail;go_loopg [0,32] k (λq zv zi wr=>∃(i:Nat),k-i<=q/\i<=k/\zi=.int .i64 (i:Nat)/\Hid (NRow B wr zv (l++List.replicate i 0))/\Hid (Kept (iK B) w wr))
    case atStart=>exact⟨0,by omega,by omega,rfl,hid (by simpa using HR.out),HK0⟩
    case round=>
     clear HR HK0 cA cB;obtain⟨i,hq,hi,rfl,HV,HK⟩:=hrel;by_cases hlt:i<k
     ·have kV:=HK.out.size;have HLN:Hid ((l++List.replicate i 0).length+[0].length<=1000000000):=hid (by have:=HL.out;simp;omega);go_wp2_with (at_builtin;refine aX _ am dJ B 138 3 (am 0) 8 Tryz.underlying138 Tryz.infoN rfl (by decide) rfl (.tmp 34) (.tmp 36) rfl u0 (l++List.replicate i 0) rfl (World.ownsRow.alloc HV.out _) ⟨wr.heap.size,0,none⟩ 1 1 [0] rfl rfl (bw _ _ _) HLN.out (by simp;omega) ?_;intro v5 w5 hr5 d8);have HV5:Hid (NRow B w5 v5 (l++List.replicate (i+1) 0)):=hid (by rw[List.replicate_succ',<-List.append_assoc];exact hr5);have HK5:Hid (Kept (iK B) w w5):=hid ((HK.out.alloc _).grown d8 (λj e=>.inl (HV.out.ge e)));clear hr5 d8;go_wp2_with fail;go_roundg (gk-1)
      case measure=>omega
      case rel=>exact⟨i+1,by omega,by omega,by go_num,HV5,HK5⟩
     ·have G4:i=k:=(by omega);subst G4;go_wp2_with fail;go_ret;exact⟨_,rfl,HV.out,HK.out⟩
   ·have O2:((an:Int)==18)=false:=(by simp;omega);have yb:x=an:=(by rw[HX.out];unfold mP;rw[if_neg (by omega),if_neg (by omega)];simp);clear rO Mf BR;subst yb;go_wp2_with fail;go_loopg [0,32] k (λq zv zi wr=>∃(i:Nat),k-i<=q/\i<=k/\zi=.int .i64 (i:Nat)/\Hid (NRow B wr zv (l++List.replicate i x))/\Hid (Kept (iK B) w wr))
    case atStart=>exact⟨0,by omega,by omega,rfl,hid (by simpa using HR.out),HK0⟩
    case round=>
     clear HR HK0 cA cB;obtain⟨i,hq,hi,rfl,HV,HK⟩:=hrel;by_cases hlt:i<k
     ·have kV:=HK.out.size;have HLN:Hid ((l++List.replicate i x).length+[x].length<=1000000000):=hid (by have:=HL.out;simp;omega);go_wp2_with (at_builtin;refine aX _ am dJ B 138 3 (am 0) 8 Tryz.underlying138 Tryz.infoN rfl (by decide) rfl (.tmp 34) (.tmp 36) rfl u0 (l++List.replicate i x) rfl (World.ownsRow.alloc HV.out _) ⟨wr.heap.size,0,none⟩ 1 1 [x] rfl rfl (bw _ _ _) HLN.out (by simp;omega) ?_;intro v5 w5 hr5 d8);have HV5:Hid (NRow B w5 v5 (l++List.replicate (i+1) x)):=hid (by rw[List.replicate_succ',<-List.append_assoc];exact hr5);have HK5:Hid (Kept (iK B) w w5):=hid ((HK.out.alloc _).grown d8 (λj e=>.inl (HV.out.ge e)));clear hr5 d8;go_wp2_with fail;go_roundg (gk-1)
      case measure=>omega
      case rel=>exact⟨i+1,by omega,by omega,by go_num,HV5,HK5⟩
     ·have G4:i=k:=(by omega);subst G4;go_wp2_with fail;go_ret;exact⟨_,rfl,HV.out,HK.out⟩
theorem Jg(z:Int):(!yP z 0 15)=d7 0 15 z:=by
 unfold yP d7;by_cases h1:0<=z
 ·by_cases h2:z<=15
  ·have h3:¬z<0:=(by omega);have h4:¬15<z:=(by omega);simp[h1,h2,h3,h4]
  ·have h3:¬z<0:=(by omega);have h4:15<z:=(by omega);simp[h1,h2,h3,h4]
 ·have h3:z<0:=(by omega);simp[h1,h3]
theorem zL(w:World)(z:Int):
  Calls Tryz.prog 144 #[.int .i64 z] w λe w'=>e=.returned (.bool (d7 0 15 z))/\w'=w:=by
 have HW:=gT w z 0 15;go_enter Tryz.func144,Tryz.ntmps144;go_wp2_with fail;refine HW.mono ?_;rintro e w1 ⟨rfl,hw1⟩;subst hw1;clear HW;go_wp2_with fail;go_ret;exact⟨by rw[<-Jg];rfl,rfl⟩
abbrev Bj:Value:=.func (.func 144) #[] #[]
theorem yv(w:World)(v:Value)(I:Nat→Prop)(zs:List Int)(hs:SrcE bI w I v zs)(hn:zs.length≤10000000):
  Calls Tryz.prog 178 #[v,Bj] w λe w'=>(∃z:Int,e=.returned (.int .i64 z)/\decide (0<=z)=zs.any (d7 0 15))/\w'=w:=by
 obtain⟨ao,cap,rfl,fO,fX⟩:=id hs;clear fO fX;have HS:Hid (SrcE bI w I (.slice ao zs.length cap) zs):=hs;clear hs;go_enter Tryz.func178,Tryz.ntmps178;go_wp2_with fail;go_loopg [8] zs.length (λk z wr=>∃i:Nat,zs.length-i<=k/\i<=zs.length/\z=.int .i64 (i:Nat)/\Hid ((zs.take i).any (d7 0 15)=false)/\wr=w)
 case atStart=>exact⟨0,by omega,by omega,rfl,hid (by simp),rfl⟩
 case round=>
  obtain⟨i,hk,AA,rfl,HF,hw⟩:=hrel;subst hw;by_cases hlt:i<zs.length
  ·obtain⟨b,o,eG,e,_,_,hc⟩:=HS.out.get i hlt;simp only[Value.slice.injEq]at e;obtain⟨rfl,jt,rfl⟩:=e;clear jt;obtain⟨x,hx⟩:∃x,x=zs[i]:=⟨_,rfl⟩
   rw[<-hx]at hc;unfold bI at hc;have HX:Hid (x=zs[i]):=hx;have HC:=zL wr x;clear hx;cases hb:d7 0 15 x with
   | true=>
    rw[hb]at HC;have HB:Hid (d7 0 15 x=true):=hb;clear hb;go_wp2_with fail;refine HC.mono ?_;rintro e w2 ⟨rfl,hw2⟩;subst hw2;clear HC;go_wp2_with fail;go_ret;refine⟨⟨_,rfl,?_⟩,rfl⟩;have h1:zs.any (d7 0 15)=true:=List.any_eq_true.2 ⟨x,by rw[HX.out];exact List.getElem_mem _,HB.out⟩;rw[h1];simp
   | false=>
    rw[hb]at HC;have HB:Hid (d7 0 15 x=false):=hb;clear hb;go_wp2_with fail;refine HC.mono ?_;rintro e w2 ⟨rfl,hw2⟩;subst hw2;clear HC;go_wp2_with fail;go_roundg (gk-1)
    case measure=>omega
    case rel=>
     refine⟨i+1,by omega,by omega,by go_num,hid ?_,rfl⟩;rw[List.take_succ_eq_append_getElem hlt,List.any_append,HF.out,<-HX.out];simp[HB.out]
  ·have:i=zs.length:=(by omega);subst this;go_wp2_with fail;go_ret;refine⟨⟨_,rfl,?_⟩,rfl⟩;have h:=HF.out;rw[List.take_of_length_le (Nat.le_refl _)]at h;rw[h];simp
theorem lh(w:World)(v:Value)(I:Nat→Prop)(zs:List Int)(hs:SrcE bI w I v zs)(hn:zs.length≤10000000):
  Calls Tryz.prog 145 #[v,Bj] w λe w'=>e=.returned (.bool (!cH zs))/\w'=w:=by
 have H:=yv w v I zs hs hn;clear hs;go_enter Tryz.func145,Tryz.ntmps145;go_wp2_with fail;refine H.mono ?_;rintro e w2 ⟨⟨z,rfl,hz⟩,hw⟩;subst hw;have HZ:Hid (decide (0<=z)=zs.any (d7 0 15)):=hz;clear hz H;go_wp2_with fail;go_ret;refine⟨?_,rfl⟩;unfold cH;rw[Bool.not_not,<-HZ.out];rfl
theorem zc(w:World)(q b o n cap x y:Nat)(hq:w.cell? ⟨q,0,none⟩=some (.slice (some ⟨b,o,none⟩) n cap))(hn:0<n)(hb:w.cell? ⟨b,o,none⟩=some (.int .i64 (y:Nat))):
  Calls Tryz.prog 179 #[.int .i64 (x:Nat),.pointer (some ⟨q,0,none⟩)] w λe w'=>e=.returned (.bool (!decide (x=y)))/\w'=w:=by
 go_enter Tryz.func179,Tryz.ntmps179;by_cases h:x=y
 ·subst h;go_wp2_with fail;go_ret;exact⟨by simp,rfl⟩
 ·have bh:((x:Int)==(y:Int))=false:=(by simp;omega);have HH:Hid ((!decide (x=y))=true/\¬(x:Int)=(y:Int)):=hid ⟨by simp[h],by omega⟩;clear h;go_wp2_with fail;go_ret;exact⟨by rw[HH.out.1];simp[HH.out.2],rfl⟩
abbrev Be(q:Nat):Value:=.func (.func 179) #[] #[.pointer (some ⟨q,0,none⟩)]
theorem zx(w:World)(b o cap q y:Nat)(I:Nat→Prop)(ns:List Nat)(hs:SrcE am w I (.slice (some ⟨b,o,none⟩) ns.length cap) ns)(hn:ns.length≤1000000)(h0:0<ns.length)(hy:ns[0]=y)
  (hq:w.cell? ⟨q,0,none⟩=some (.slice (some ⟨b,o,none⟩) ns.length cap)):
  Calls Tryz.prog 178 #[.slice (some ⟨b,o,none⟩) ns.length cap,Be q] w λe w'=>((e=.returned (.int .i64 (-1))/\∀j (_:j<ns.length),ns[j]=y)\/∃i,e=.returned (.int .i64 (i:Nat))/\∃h:i<ns.length,ns[i]≠y/\∀j (_:j<ns.length),j<i->ns[j]=y)/\w'=w:=by
 have c0:w.cell? ⟨b,o,none⟩=some (.int .i64 (y:Nat)):=by obtain⟨b',o',cap',e,_,_,c⟩:=hs.get 0 h0;simp only[Value.slice.injEq,Option.some.injEq,Addr.mk.injEq,and_true]at e;obtain⟨⟨rfl,rfl⟩,_,_⟩:=e;rw[hy]at c;exact c
 have HS:Hid (SrcE am w I (.slice (some ⟨b,o,none⟩) ns.length cap) ns):=hs;clear hs hy;go_enter Tryz.func178,Tryz.ntmps178;go_wp2_with fail;go_loopg [8] ns.length (λk z wr=>∃i:Nat,ns.length-i<=k/\i<=ns.length/\z=.int .i64 (i:Nat)/\Hid (∀j (_:j<ns.length),j<i->ns[j]=y)/\wr=w)
 case atStart=>exact⟨0,by omega,by omega,rfl,hid (λj _ h=>by omega),rfl⟩
 case round=>
  obtain⟨i,hk,AA,rfl,HF,hw⟩:=hrel;subst hw;by_cases hlt:i<ns.length
  ·obtain⟨b',o',eG,e,_,_,hc⟩:=HS.out.get i hlt;simp only[Value.slice.injEq,Option.some.injEq,Addr.mk.injEq,and_true]at e;obtain⟨⟨rfl,rfl⟩,jt,rfl⟩:=e;clear jt;obtain⟨x,hx⟩:∃x,x=ns[i]:=⟨_,rfl⟩
   rw[<-hx]at hc;unfold am at hc;have HX:Hid (x=ns[i]):=hx;have HC:=zc wr q b o ns.length cap x y hq h0 c0;clear hx;by_cases hb:x=y
   ·have HB:Hid (x=y):=hb;have hd:(!decide (x=y))=false:=(by simp[hb]);rw[hd]at HC;clear hb hd;go_wp2_with fail;refine HC.mono ?_;rintro e w2 ⟨rfl,hw2⟩;subst hw2;clear HC;go_wp2_with fail;go_roundg (gk-1)
    case measure=>omega
    case rel=>
     refine⟨i+1,by omega,by omega,by go_num,hid (λj hj UQ=>?_),rfl⟩;by_cases e:j=i
     ·subst e;rw[<-HX.out,HB.out]
     ·exact HF.out j hj (by omega)
   ·have HB:Hid (x≠y):=hb;have hd:(!decide (x=y))=true:=(by simp[hb]);rw[hd]at HC;clear hb hd;go_wp2_with fail;refine HC.mono ?_;rintro e w2 ⟨rfl,hw2⟩;subst hw2;clear HC;go_wp2_with fail;go_ret;exact⟨.inr ⟨i,rfl,hlt,by rw[<-HX.out];exact HB.out,HF.out⟩,rfl⟩
  ·have:i=ns.length:=(by omega);subst this;go_wp2_with fail;go_ret;exact⟨.inl ⟨rfl,λj hj=>HF.out j hj hj⟩,rfl⟩
theorem xo{y:Nat}{r:List Nat}{n:Nat}(h:(n=(y::r).length/\∀j (_:j<(y::r).length),(y::r)[j]=y)\/∃h:n<(y::r).length,(y::r)[n]≠y/\∀j (_:j<(y::r).length),j<n->(y::r)[j]=y):n=1+bG y r:=by
 rcases h with⟨h1,h2⟩ | ⟨h1,h2,h3⟩
 ·have:=sS y r r.length (λj hj _=>by have:=h2 (j+1) (by simpa using hj);rw[List.getElem_cons_succ]at this;exact this) (Nat.le_refl _) (λh=>by omega);rw[this,h1];simp;omega
 ·cases n with
  | zero=>simp at h2
  | succ n=>
   have:=sS y r n (λj hj Nt=>by have:=h3 (j+1) (by simpa using hj) (by omega);rw[List.getElem_cons_succ]at this;exact this) (by simp at h1;omega) (λ_=>by simpa using h2);rw[this];omega
theorem D4(w:World)(b o cap:Nat)(I:Nat→Prop)(y:Nat)(r:List Nat)(hs:SrcE am w I (.slice (some ⟨b,o,none⟩) (y::r).length cap) (y::r))(hn:(y::r).length≤1000000):
  Calls Tryz.prog 146 #[.slice (some ⟨b,o,none⟩) (y::r).length cap] w λe w'=>e=.returned (.int .i64 ((1+bG y r:Nat):Int))/\Same w w':=by
 obtain⟨W,hW⟩:∃W,W=w.alloc (.cells #[.slice (some ⟨b,o,none⟩) (y::r).length cap] 138):=⟨_,rfl⟩
 have HK:Hid (Same w W):=hid (by rw[hW];exact(Kept.refl _ w).alloc _);have hq:W.cell? ⟨w.heap.size,0,none⟩=some (.slice (some ⟨b,o,none⟩) (y::r).length cap):=by rw[hW];simp
 have HC:=zx W b o cap w.heap.size y I (y::r) (hs.same HK.out) hn (by simp) rfl hq;have HC2:Calls Tryz.prog 178 #[.slice (some ⟨b,o,none⟩) (y::r).length cap,Be w.heap.size] W λe w'=>((e=.returned (.int .i64 (-1))/\(y::r).length=1+bG y r)\/∃i:Nat,e=.returned (.int .i64 (i:Nat))/\i=1+bG y r)/\w'=W:=HC.mono (by
  rintro e w' ⟨h,hw⟩;refine⟨?_,hw⟩;rcases h with⟨h1,h2⟩ | ⟨i,h1,h2,h3,h4⟩
  ·exact .inl ⟨h1,xo (.inl ⟨rfl,h2⟩)⟩
  ·exact .inr ⟨i,h1,xo (.inr ⟨h2,h3,h4⟩)⟩)
 clear HC;obtain⟨L,hL⟩:∃L,L=(y::r).length:=⟨_,rfl⟩
 rw[<-hL]at HC2 hq hW ⊢;obtain⟨f,hf⟩:∃f,f=1+bG y r:=⟨_,rfl⟩
 rw[<-hf]at HC2 ⊢;clear hs hL hn hf;go_enter Tryz.func146,Tryz.ntmps146;go_wp2_with fail;rw[<-hW];clear hW;go_wp2_with fail;refine HC2.mono ?_;rintro e w2 ⟨h,hw2⟩;subst hw2;clear HC2;rcases h with⟨rfl,VB⟩ | ⟨i,rfl,MJ⟩
 ·subst VB;go_wp2_with fail;go_ret;exact⟨rfl,HK.out⟩
 ·subst MJ;go_wp2_with fail;go_ret;exact⟨rfl,HK.out⟩
theorem wJ(l:List Nat)(h0:0<l.length)(hl:l.length<=288)(h15:∀x∈l,x<=15):chk (l.map (fun(n:Nat)=>(n:Int)))=bm l:=by
 have hok:eC (l.map (fun(n:Nat)=>(n:Int))) 0 15=true:=by simp only[eC,List.length_map,Bool.and_eq_true,decide_eq_true_eq,Bool.not_eq_true',List.any_eq_false];refine⟨⟨by omega,by omega⟩,λz hz=>?_⟩;obtain⟨n,hn,rfl⟩:=List.mem_map.1 hz;have:=h15 n hn;simp[d7];omega
 unfold chk;rw[if_pos hok,List.map_map];have e:l.map (Int.toNat ∘ fun(n:Nat)=>(n:Int))=l:=by
  conv=>rhs;rw[<-List.map_id l]
  exact List.map_congr_left (λn _=>by simp)
 rw[e]
theorem qG{l:List Nat}(h:bR l=false):measure l=0:=by
 induction l with
 | nil=>rfl
 | cons a l ih=>
  unfold bR at h ih;simp only[List.any_cons,Bool.or_eq_false_iff]at h;have ha:a=0:=(by have:=h.1;simpa using this);subst ha;show(ep 0+(l.map ep).sum)=0;have:=ih h.2;unfold measure at this;rw[this];rfl
end Go.Proofs.YtllcnlnbpikhdaaGreatDoor
namespace Go.Proofs.YtllcnlnbpikhdaaGreatDoor
noncomputable def oY (ls:List Nat) (most:Nat):S5:=
 @dite S5 (∃p:Ps×Nat,Ends ls most ps0 p.1 p.2) (Classical.propDecidable _) (λh=>⟨(Classical.choose h).1.c,(Classical.choose h).1.out,(Classical.choose h).2⟩) (λ_=>⟨0,[],1⟩)
theorem Bu{ls:List Nat}{most:Nat}{t:Ps}{er:Nat}(h:Ends ls most ps0 t er):(oY ls most).e=er/\(er=0\/er=55->(oY ls most).out=t.out)/\(er=0->(oY ls most).c=t.c):=by
 have hx:∃p:Ps×Nat,Ends ls most ps0 p.1 p.2:=⟨(t,er),h⟩
 obtain⟨e1,e2⟩:=(Classical.choose_spec hx).det h;unfold oY;rw[dif_pos hx];exact⟨e2,λ_=>by rw[e1],λ_=>by rw[e1]⟩
end Go.Proofs.YtllcnlnbpikhdaaGreatDoor
