import Derived.Deep.RegionLaw
import Derived.Test.YtkhagfgineifhaaGreatDoorJ11
set_option maxHeartbeats 2000000
set_option maxRecDepth 100000
namespace Go.Proofs.YtkhagfgineifhaaGreatDoor
open Go.RowKit
theorem G7(w:World)(zs:List Nat)(n:Nat)(hn:zs.length=n):SrcE am (w.alloc (.cells (zs.map am).toArray 3)) (λk=>k=w.heap.size) (.slice (some ⟨w.heap.size,0,none⟩) n n) zs:=by subst hn;refine⟨_,_,rfl,Nat.le_refl _,λ_=>⟨_,_,rfl,rfl,λj hj=>?_⟩⟩;simp[hj]
theorem iY(l:List Nat)(hl:l.length=19)(h7:∀x∈l,x<=7):chk (l.map (fun(n:Nat)=>(n:Int)))=bw l:=by
 have hok:eC (l.map (fun(n:Nat)=>(n:Int))) 0 15=true:=by simp only[eC,List.length_map,Bool.and_eq_true,decide_eq_true_eq,Bool.not_eq_true',List.any_eq_false];refine⟨⟨by omega,by omega⟩,λz hz=>?_⟩;obtain⟨n,hn,rfl⟩:=List.mem_map.1 hz;have:=h7 n hn;simp[d6];omega
 unfold chk;rw[if_pos hok,List.map_map];have e:l.map (Int.toNat ∘ fun(n:Nat)=>(n:Int))=l:=by
  conv=>rhs;rw[<-List.map_id l]
  exact List.map_congr_left (λn _=>by simp)
 rw[e]
theorem qz{ns ls:List Nat}{c s x c':Nat}(h:dg ns ls c=.ok ((s,x),c')):c'<=ls.length:=by
 unfold dg at h;split at h
 ·cases h
 ·split at h
  ·cases h
  ·simp only[Except.ok.injEq,Prod.mk.injEq]at h;omega
theorem l9{ns ls:List Nat}{N f c s x c':Nat}{l:List Nat}(hl:l.length<N)(hs:dg ns ls c=.ok ((s,x),c')):bC ns ls N (f+1) l c=match ez l ((s:Int),(x:Int)) N with | none=>.error 41 | some m=>bC ns ls N f m c':=by simp only[bC];rw[if_neg (by omega),hs];rfl
theorem sR{ns ls:List Nat}{N f c e:Nat}{l:List Nat}(hl:l.length<N)(hs:dg ns ls c=.error e):bC ns ls N (f+1) l c=.error e:=by simp only[bC];rw[if_neg (by omega),hs]
theorem kE{ns ls:List Nat}{N f c:Nat}{l:List Nat}(hl:N<=l.length):bC ns ls N f l c=.ok (l,c):=by
 cases f with
 | zero=>rfl
 | succ f=>simp only[bC];rw[if_pos hl]
theorem rH{ns ls:List Nat}{c s x c':Nat}(h:dg ns ls c=.ok ((s,x),c')):c<=c':=by
 unfold dg at h;split at h
 ·cases h
 ·split at h
  ·cases h
  ·simp only[Except.ok.injEq,Prod.mk.injEq]at h;omega
theorem uJ:∀i,i<19->ord.getD i 0<=18:=by decide
end Go.Proofs.YtkhagfgineifhaaGreatDoor
namespace Go.Proofs.YtkhagfgineifhaaGreatDoor
theorem x6{ns:List Nat}{s:Nat}(hm:measure ns<=32768)(hs:s∈aD ns)(h15:key ns s<=15)(t:List Nat)(ht:∀b∈t,b<2):B7 ns t s↔key ns s<=t.length/\rv (key ns s) (n2 t)=dC ns s:=by
 have ey:=xN hm hs h15;have LF:∀n,n<=t.length->n2 (t.take n)=n2 t % 2 ^ n:=λn hn=>by have:=BE t ht 0 n (by omega);simpa using this
 unfold B7;rw[List.prefix_iff_eq_take,aq];constructor
 ·rintro⟨_,h⟩;have hl:=congrArg List.length h;rw[aq,List.length_take]at hl;have hk:key ns s<=t.length:=(by omega);refine⟨hk,?_⟩;have h2:=congrArg n2 h;rw[g8,LF _ hk]at h2;rw[<-lS (key ns s) (key ns s) _ (Nat.le_refl _),<-h2,xC,Nat.mod_eq_of_lt ey]
 ·rintro⟨hk,h⟩;refine⟨(aW.1 hs).2,?_⟩;refine qR _ _ (by rw[aq,List.length_take];omega) (cX ns s) (λx hx=>ht x (List.mem_of_mem_take hx)) ?_;rw[g8,LF _ hk,<-h,xC]
theorem nV{ns:List Nat}{s:Nat}(hm:measure ns<=32768)(h15:∀x,key ns x<=15)(hs:s<ns.length)(h0:key ns s≠0)(rest:List Nat)(hr:∀b∈rest,b<2):aT ns (aE ns s++rest)=(s,key ns s,0):=by
 have hb:∀b∈aE ns s++rest,b<2:=λb hb=>by
  rcases List.mem_append.1 hb with h | h
  ·exact cX ns s b h
  ·exact hr b h
 have hsr:s∈aD ns:=aW.2 ⟨hs,h0⟩;have hf:B7 ns (aE ns s++rest) s:=⟨h0,List.prefix_append _ _⟩
 refine wK (.inl ⟨rfl,hs,hf,rfl,λj hj Ut=>?_⟩);have Ue:j∈aD ns:=aW.2 ⟨by omega,Ut.1⟩;have h1:=((x6 hm hsr (h15 s) _ hb).1 hf).2;have h2:=((x6 hm Ue (h15 j) _ hb).1 Ut).2;have:=xf Ue hsr h15 h2 h1;omega
theorem ed(A B:List Nat)(v n:Nat)(h:v<2 ^ n):aX (A++(aj v n++B)) A.length n=v:=by unfold aX;rw[List.drop_left,List.take_append_of_le_length (by rw[af];exact Nat.le_refl _),List.take_of_length_le (by rw[af];exact Nat.le_refl _),eh,Nat.mod_eq_of_lt h]
def aC(cs:List Nat)(s:Nat×Nat):List Nat:=aE cs s.1++aj s.2 (dF s.1)
theorem fS(cs:List Nat)(s:Nat×Nat):(aC cs s).length=key cs s.1+dF s.1:=by rw[aC,List.length_append,aq,af]
theorem uE(cs:List Nat)(s:Nat×Nat):∀b∈aC cs s,b<2:=by
 intro b hb;rcases List.mem_append.1 hb with h | h
 ·exact cX _ _ b h
 ·exact ei _ _ b h
def pB(cs:List Nat)(ss:List (Nat×Nat)):Prop:=∀s∈ss,s.1<cs.length/\key cs s.1≠0/\s.2<2 ^ dF s.1
theorem zA{cs:List Nat}(hm:measure cs≤32768)(h15:∀x,key cs x≤15)(A B:List Nat)(hB:∀b∈B,b<2)(s:Nat×Nat)(h1:s.1<cs.length)(h2:key cs s.1≠0)(h3:s.2<2 ^ dF s.1):
  dg cs (A++(aC cs s++B)) A.length=.ok (s,A.length+(aC cs s).length):=by
 have hn:aT cs ((A++(aC cs s++B)).drop A.length)=(s.1,key cs s.1,0):=by
  rw[List.drop_left,aC,List.append_assoc];refine nV hm h15 h1 h2 _ (λb hb=>?_);rcases List.mem_append.1 hb with h | h
  ·exact ei _ _ b h
  ·exact hB b h
 have hx:aX (A++(aC cs s++B)) (A.length+key cs s.1) (dF s.1)=s.2:=by have:=ed (A++aE cs s.1) B s.2 (dF s.1) h3;rw[List.length_append,aq]at this;rw[aC,List.append_assoc,<-List.append_assoc A];exact this
 unfold dg;rw[hn];simp only;rw[if_neg (by simp),if_neg (by rw[List.length_append,List.length_append,fS];omega),hx,fS,Nat.add_assoc]
theorem As{cs:List Nat}(hm:measure cs≤32768)(h15:∀x,key cs x≤15)(N:Nat)(B:List Nat)(hB:∀b∈B,b<2)(ss:List (Nat×Nat))(hs:pB cs ss)(A l m:List Nat)(f:Nat)(hl:∀x∈l,x≤15)(hf:N-l.length≤f)
  (hr:ij N l (ss.map (λs=>((s.1:Int),(s.2:Int))))=some m) (hN:m.length=N):bC cs (A++(ss.flatMap (aC cs)++B)) N f l A.length=.ok (m,A.length+(ss.flatMap (aC cs)).length):=by
 induction ss generalizing A l f with
 | nil=>
  simp only[List.map_nil,ij,Option.some.injEq]at hr;subst hr;rw[kE (by omega)];simp
 | cons s r ih=>
  have h1:=hs s (by simp);simp only[List.map_cons,ij]at hr;cases hw:ez l ((s.1:Int),(s.2:Int)) N with
  | none=>rw[hw]at hr;cases hr
  | some l2=>
   rw[hw]at hr;simp only at hr;have hg:=iA hw hl;obtain⟨f,rfl⟩:∃g,f=g+1:=⟨f-1,by omega⟩
   have RG:∀b∈r.flatMap (aC cs)++B,b<2:=λb hb=>by
    rcases List.mem_append.1 hb with h | h
    ·obtain⟨t,_,ht⟩:=List.mem_flatMap.1 h;exact uE cs t b ht
    ·exact hB b h
   have hst:=zA hm h15 A (r.flatMap (aC cs)++B) RG s h1.1 h1.2.1 h1.2.2;rw[List.flatMap_cons,List.append_assoc,l9 (by omega) hst,hw];simp only;have:=ih (λt ht=>hs t (List.mem_cons_of_mem _ ht)) (A++aC cs s) l2 f hg.2.2 (by omega) hr;rw[List.append_assoc,List.length_append]at this;rw[this,List.length_append,Nat.add_assoc]
def aP(cs:List Nat):Nat->List Nat
 | 0=>[]
 | i+1=>aP cs i++aj (cs.getD (ord.getD i 0) 0) 3
theorem cP(cs:List Nat)(i:Nat):(aP cs i).length=3*i:=by
 induction i with
 | zero=>rfl
 | succ i ih=>rw[aP,List.length_append,ih,af];omega
theorem qV(cs:List Nat)(i n:Nat)(h:i<n):∃r,aP cs n=aP cs i++(aj (cs.getD (ord.getD i 0) 0) 3++r):=by
 induction n with
 | zero=>omega
 | succ n ih=>
  by_cases e:i=n
  ·subst e;exact⟨[],by simp[aP]⟩
  ·obtain⟨r,hr⟩:=ih (by omega);exact⟨r++aj (cs.getD (ord.getD n 0) 0) 3,by rw[aP,hr];simp⟩
theorem Kq:∀p,p<19->∃j,j<19/\ord.getD j 0=p:=by decide
theorem yl(cs:List Nat)(h7:∀x∈cs,x<=7)(hl:cs.length=19)(A B:List Nat)(n:Nat)(hn:n<=19)(i:Nat)(hi:i<=n):∀p,p<19->(aM (A++(aP cs n++B)) A.length i).getD p 0=if (∃j,j<i/\ord.getD j 0=p)then cs.getD p 0 else 0:=by
 induction i with
 | zero=>
  intro p hp;rw[if_neg (by rintro⟨j,hj,_⟩;omega)];rw[aM,List.getD_eq_getElem?_getD,List.getElem?_replicate,if_pos hp];rfl
 | succ i ih=>
  intro p hp;have ih:=ih (by omega) p hp;obtain⟨r,hr⟩:=qV cs i n (by omega);have ho:=uJ i (by omega);have hv:cs.getD (ord.getD i 0) 0<2 ^ 3:=by have hlt:ord.getD i 0<cs.length:=(by omega);have e:cs.getD (ord.getD i 0) 0=cs[ord.getD i 0]:=(by rw[List.getD_eq_getElem?_getD,List.getElem?_eq_getElem hlt];rfl);rw[e];have:=h7 _ (List.getElem_mem hlt);omega
  have MN:aX (A++(aP cs n++B)) (A.length+3*i) 3=cs.getD (ord.getD i 0) 0:=(by have:=ed (A++aP cs i) (r++B) _ 3 hv;rw[List.length_append,cP]at this;rw[hr];simp only[List.append_assoc]at this ⊢;exact this);rw[aM,MN];have ag:=dt (A++(aP cs n++B)) A.length i;by_cases e:ord.getD i 0=p
  ·rw[if_pos ⟨i,by omega,e⟩,e];rw[List.getD_eq_getElem?_getD,List.getElem?_set_self (by omega)];rfl
  ·rw[List.getD_eq_getElem?_getD,List.getElem?_set_ne e,<-List.getD_eq_getElem?_getD,ih];by_cases h:∃j,j<i/\ord.getD j 0=p
   ·obtain⟨j,hj,hp⟩:=h;rw[if_pos ⟨j,hj,hp⟩,if_pos ⟨j,by omega,hp⟩]
   ·rw[if_neg h,if_neg];rintro⟨j,hj,hp⟩;by_cases e2:j=i
    ·subst e2;exact e hp
    ·exact h ⟨j,by omega,hp⟩
structure l6(lit dist:List Nat)(many:Nat)(cs:List Nat)(ss:List (Nat×Nat)):Prop where
 l1:257<=lit.length
 l2:lit.length<=286
 d1:1<=dist.length
 d2:dist.length<=30
 m1:4<=many
 m2:many<=19
 c19:cs.length=19
 c7:∀x∈cs,x<=7
 ok:bw cs=0
 rest:∀j,many<=j->j<19->cs.getD (ord.getD j 0) 0=0
 st:pB cs ss
 run:ij (lit.length+dist.length) [] (ss.map (λs=>((s.1:Int),(s.2:Int))))=some (lit++dist)
def bB(nl nd many:Nat)(cs:List Nat)(ss:List (Nat×Nat)):List Nat:=
 aj (nl-257) 5++(aj (nd-1) 5++(aj (many-4) 4++(aP cs many++ss.flatMap (aC cs))))
theorem o6(nl nd many:Nat)(cs:List Nat)(ss:List (Nat×Nat)):(bB nl nd many cs ss).length=14+3*many+(ss.flatMap (aC cs)).length:=by unfold bB;simp only[List.length_append,af,cP];omega
theorem yX{lit dist:List Nat}{many:Nat}{cs:List Nat}{ss:List (Nat×Nat)}(h:l6 lit dist many cs ss)(A B:List Nat)(hB:∀b∈B,b<2):
  b8 (A++(bB lit.length dist.length many cs ss++B)) A.length=.ok ((lit,dist),(bB lit.length dist.length many cs ss).length):=by
 have hm:measure cs<=32768:=by
  have:=h.ok;unfold bw at this;split at this
  ·omega
  ·omega
 have h15:∀x,key cs x<=15:=λx=>by
  by_cases e:x<cs.length
  ·rw[aZ e];have:=h.c7 _ (List.getElem_mem e);omega
  ·simp[key,e]
 have kY:=h.l1;have vf:=h.l2;have Cq:=h.d1;have pz:=h.d2;have hm1:=h.m1;have ip:=h.m2;have ag:=o6 lit.length dist.length many cs ss;obtain⟨T,hT⟩:∃T,T=A++(bB lit.length dist.length many cs ss++B):=⟨_,rfl⟩
 have Q1:T.length=A.length+(14+3*many+(ss.flatMap (aC cs)).length)+B.length:=by rw[hT,List.length_append,List.length_append,ag];omega
 have n1:aX T A.length 5=lit.length-257:=by have:=ed A (aj (dist.length-1) 5++(aj (many-4) 4++(aP cs many++ss.flatMap (aC cs)))++B) (lit.length-257) 5 (by omega);rw[hT];unfold bB;simp only[List.append_assoc]at this ⊢;exact this
 have XH:aX T (A.length+5) 5=dist.length-1:=by have:=ed (A++aj (lit.length-257) 5) (aj (many-4) 4++(aP cs many++ss.flatMap (aC cs))++B) (dist.length-1) 5 (by omega);rw[List.length_append,af]at this;rw[hT];unfold bB;simp only[List.append_assoc]at this ⊢;exact this
 have n3:aX T (A.length+10) 4=many-4:=by have:=ed (A++(aj (lit.length-257) 5++aj (dist.length-1) 5)) (aP cs many++ss.flatMap (aC cs)++B) (many-4) 4 (by omega);rw[List.length_append,List.length_append,af,af]at this;rw[hT];unfold bB;simp only[List.append_assoc]at this ⊢;exact this
 have eY:aM T (A.length+14) many=cs:=by
  have hA:(A++(aj (lit.length-257) 5++(aj (dist.length-1) 5++aj (many-4) 4))).length=A.length+14:=(by simp[af]);have:=yl cs h.c7 h.c19 (A++(aj (lit.length-257) 5++(aj (dist.length-1) 5++aj (many-4) 4))) (ss.flatMap (aC cs)++B) many ip many (Nat.le_refl _);rw[hA]at this;have eT:A++(aj (lit.length-257) 5++(aj (dist.length-1) 5++aj (many-4) 4))++(aP cs many++(ss.flatMap (aC cs)++B))=T:=(by rw[hT];unfold bB;simp only[List.append_assoc]);rw[eT]at this;refine List.ext_getElem (by rw[dt,h.c19]) (λp h1 h2=>?_);rw[dt]at h1;have hp:=this p h1;have e1:(aM T (A.length+14) many).getD p 0=(aM T (A.length+14) many)[p]:=(by rw[List.getD_eq_getElem?_getD,List.getElem?_eq_getElem];rfl);have e2:cs.getD p 0=cs[p]:=(by rw[List.getD_eq_getElem?_getD,List.getElem?_eq_getElem];rfl);rw[e1]at hp;rw[hp];obtain⟨j,hj,P7⟩:=Kq p h1;by_cases UB:j<many
  ·rw[if_pos ⟨j,UB,P7⟩,e2]
  ·have hz:=h.rest j (by omega) hj;rw[P7,e2]at hz;split
   ·exact e2
   ·exact hz.symm
 have yq:bC cs T (lit.length+dist.length) (lit.length+dist.length) [] (A.length+14+3*many)=.ok (lit++dist,A.length+14+3*many+(ss.flatMap (aC cs)).length):=by have hA:(A++(aj (lit.length-257) 5++(aj (dist.length-1) 5++(aj (many-4) 4++aP cs many)))).length=A.length+14+3*many:=(by simp[af,cP];omega);have:=As hm h15 (lit.length+dist.length) B hB ss h.st (A++(aj (lit.length-257) 5++(aj (dist.length-1) 5++(aj (many-4) 4++aP cs many)))) [] (lit++dist) (lit.length+dist.length) (by simp) (by simp) h.run (by simp);rw[hA]at this;have eT:A++(aj (lit.length-257) 5++(aj (dist.length-1) 5++(aj (many-4) 4++aP cs many)))++(ss.flatMap (aC cs)++B)=T:=(by rw[hT];unfold bB;simp only[List.append_assoc]);rw[eT]at this;exact this
 rw[<-hT];unfold b8;rw[n1,XH,n3,show many-4+4=many by omega,show lit.length-257+257=lit.length by omega,show dist.length-1+1=dist.length by omega,eY,yq,if_neg (by omega),if_neg (by omega),if_neg (by omega),if_neg (by rw[h.ok];simp)];simp only;rw[List.take_left,List.drop_left,ag];congr 2;omega
structure Agr(c:Nat)(ls ls':List Nat):Prop where
 eq:ls'.take c=ls.take c
 le:c<=ls.length
 le':c<=ls'.length
theorem Agr.less{c d:Nat}{ls ls':List Nat}(h:Agr c ls ls')(hd:d<=c):Agr d ls ls':=by refine⟨?_,Nat.le_trans hd h.le,Nat.le_trans hd h.le'⟩;have e:=congrArg (List.take d) h.eq;rwa [List.take_take,List.take_take,Nat.min_eq_left hd]at e
theorem Agr.ext(ls m:List Nat):Agr ls.length ls (ls++m):=⟨by rw[List.take_left,List.take_length],Nat.le_refl _,by rw[List.length_append];omega⟩
theorem Agr.part{k:Nat}{ls ls':List Nat}(h:Agr k ls ls')(c n:Nat)(hk:c+n<=k):(ls'.drop c).take n=(ls.drop c).take n:=by have e:=(h.less hk).eq;have e2:=congrArg (List.drop c) e;rwa [List.drop_take,List.drop_take,show c+n-c=n by omega]at e2
theorem dN{k:Nat}{ls ls':List Nat}(h:Agr k ls ls')(c n:Nat)(hk:c+n<=k):aX ls' c n=aX ls c n:=by unfold aX;rw[h.part c n hk]
structure Pf(ns:List Nat):Prop where
 ms:measure ns<=32768
 le:∀s,key ns s<=15
theorem nU{ns ls ls':List Nat}(hp:Pf ns)(hb:∀b∈ls',b<2){c s k:Nat}(hn:aT ns (ls.drop c)=(s,k,0))(h:Agr (c+k) ls ls'):aT ns (ls'.drop c)=(s,k,0):=by
 have h1:=jg ns (ls.drop c);rw[hn]at h1;rcases h1 with⟨_,hs,hf,hk,_⟩ | ⟨h0,_⟩ | ⟨h0,_⟩
 ·simp only at hs hf hk;have e1:aE ns s=(ls'.drop c).take k:=by
   rw[h.part c k (Nat.le_refl _)];have:=(List.prefix_iff_eq_take.1 hf.2)
   rw[aq,<-hk]at this;exact this
  have e2:ls'.drop c=aE ns s++(ls'.drop c).drop k:=(by rw[e1,List.take_append_drop]);rw[e2,nV hp.ms hp.le hs hf.1 _ (λb jD=>hb b (List.mem_of_mem_drop (List.mem_of_mem_drop jD))),<-hk]
 ·simp at h0
 ·simp at h0
theorem sI(ns t m:List Nat)(h:(aT ns t).2.2=32):(aT ns (t++m)).2.2=32:=by
 have h1:=jg ns t;rcases h1 with⟨h0,_⟩ | ⟨h0,_⟩ | ⟨_,_,_,so,hnb⟩
 ·omega
 ·omega
 ·have:aT ns (t++m)=(0,0,32):=wK (.inr (.inr ⟨rfl,rfl,rfl,λs hs hf=>?_,λs hs hb=>?_⟩))
  ·rw[this]
  ·rcases List.prefix_or_prefix_of_prefix hf.2 (List.prefix_append t m)with h2 | h2
   ·exact so s hs ⟨hf.1,h2⟩
   ·exact hnb s hs ⟨hf.1,h2⟩
  ·exact hnb s hs ⟨hb.1,List.IsPrefix.trans (List.prefix_append t m) hb.2⟩
theorem lT(ns t:List Nat):(aT ns t).2.2=0\/(aT ns t).2.2=10\/(aT ns t).2.2=32:=by
 rcases jg ns t with h | h | h
 ·exact .inl h.1
 ·exact .inr (.inl h.1)
 ·exact .inr (.inr h.1)
theorem sD{ns ls ls':List Nat}(hp:Pf ns)(hb:∀b∈ls',b<2){c c':Nat}{x:Nat×Nat}(hs:dg ns ls c=.ok (x,c'))(h:Agr c' ls ls'):dg ns ls' c=.ok (x,c'):=by
 unfold dg at hs;split at hs
 ·cases hs
 ·rename_i h0;split at hs
  ·cases hs
  ·rename_i h1;simp only[Except.ok.injEq,Prod.mk.injEq]at hs;obtain⟨rfl,rfl⟩:=hs;have hn:aT ns (ls.drop c)=((aT ns (ls.drop c)).1,(aT ns (ls.drop c)).2.1,0):=by
    have:(aT ns (ls.drop c)).2.2=0:=Classical.not_not.1 h0;rw[<-this]
   have A5:=nU hp hb hn (h.less (Nat.le_add_right _ _));unfold dg;rw[A5];simp only;rw[if_neg (by simp),if_neg (by have:=h.le';omega),dN h _ _ (Nat.le_refl _)]
theorem DE{ns ls:List Nat}{c e:Nat}(hc:c<=ls.length)(hs:dg ns ls c=.error e)(he:e≠10)(m:List Nat):dg ns (ls++m) c=.error e:=by
 unfold dg at hs;split at hs
 ·rename_i h0;simp only[Except.error.injEq]at hs;have QH:(aT ns (ls.drop c)).2.2=32:=by rcases lT ns (ls.drop c)with h | h | h<;>omega
  have h2:=sI ns (ls.drop c) m QH;rw[<-List.drop_append_of_le_length hc]at h2;unfold dg;rw[h2,if_pos (by omega)];congr 1;omega
 ·split at hs
  ·simp only[Except.error.injEq]at hs;omega
  ·cases hs
theorem qC{ns ls:List Nat}{N f c c':Nat}{l m:List Nat}(h:bC ns ls N f l c=.ok (m,c'))(hc:c<=ls.length):c<=c'/\c'<=ls.length:=by
 induction f generalizing l c with
 | zero=>simp only[bC,Except.ok.injEq,Prod.mk.injEq]at h;omega
 | succ f ih=>
  unfold bC at h;split at h
  ·simp only[Except.ok.injEq,Prod.mk.injEq]at h;omega
  ·split at h
   ·cases h
   ·rename_i s c2 hs;have h1:=rH (s:=s.1) (x:=s.2) hs;have h2:=qz (s:=s.1) (x:=s.2) hs;split at h
    ·cases h
    ·have:=ih h h2;omega
theorem CH{ns ls ls':List Nat}(hp:Pf ns)(hb:∀b∈ls',b<2){N f c c':Nat}{l m:List Nat}(h:bC ns ls N f l c=.ok (m,c'))(hc:c<=ls.length)(ha:Agr c' ls ls'):bC ns ls' N f l c=.ok (m,c'):=by
 induction f generalizing l c with
 | zero=>simpa only[bC]using h
 | succ f ih=>
  unfold bC at h ⊢;split at h
  ·rename_i h1;rw[if_pos h1];exact h
  ·rename_i h1;rw[if_neg h1];split at h
   ·cases h
   ·rename_i s c2 hs;have h2:=qz (s:=s.1) (x:=s.2) hs;split at h
    ·cases h
    ·rename_i l2 hw;have h3:=qC h h2;rw[sD hp hb hs (ha.less h3.1)];simp only;rw[hw];exact ih h h2
theorem y8{ns ls:List Nat}(hp:Pf ns)(mo:List Nat)(hb:∀b∈ls++mo,b<2){N f c e:Nat}{l:List Nat}(h:bC ns ls N f l c=.error e)(he:e≠10)(hc:c<=ls.length):bC ns (ls++mo) N f l c=.error e:=by
 induction f generalizing l c with
 | zero=>simp[bC]at h
 | succ f ih=>
  unfold bC at h ⊢;split at h
  ·cases h
  ·rename_i h1;rw[if_neg h1];split at h
   ·rename_i e2 hs;simp only[Except.error.injEq]at h;subst h;rw[DE hc hs he mo]
   ·rename_i s c2 hs;have h2:=qz (s:=s.1) (x:=s.2) hs;rw[sD hp hb hs ((Agr.ext ls mo).less h2)];simp only;split at h
    ·exact h
    ·exact ih h h2
theorem ry{k:Nat}{ls ls':List Nat}(h:Agr k ls ls')(c i:Nat)(hi:c+3*i<=k):aM ls' c i=aM ls c i:=by
 induction i with
 | zero=>rfl
 | succ i ih=>rw[aM,aM,ih (by omega),dN h _ _ (by omega)]
theorem key_le{ns:List Nat}{b:Nat}(h:∀n∈ns,n<=b)(s:Nat):key ns s<=b:=Nat.le_trans (ja ns s) (xU ns b h)
theorem sH{ls:List Nat}(hb:∀b∈ls,b<2)(c i:Nat)(h:bw (aM ls c i)=0):Pf (aM ls c i):=by
 refine⟨?_,λs=>Nat.le_trans (key_le (nR ls hb c i) s) (by omega)⟩;unfold bw at h;split at h
 ·cases h
 ·omega
theorem rE{ls:List Nat}{a n:Nat}{x:List Nat×List Nat}(h:b8 ls a=.ok (x,n)):a+14<=a+n/\a+n<=ls.length:=by
 unfold b8 at h;split at h
 ·cases h
 ·split at h
  ·cases h
  ·split at h
   ·cases h
   ·rename_i h3;split at h
    ·cases h
    ·split at h
     ·cases h
     ·rename_i l c EN;simp only[Except.ok.injEq,Prod.mk.injEq]at h;have:=qC EN (by omega);omega
theorem tD{ls ls':List Nat}(hb:∀b∈ls,b<2)(jD:∀b∈ls',b<2){a n:Nat}{x:List Nat×List Nat}(h:b8 ls a=.ok (x,n))(ha:Agr (a+n) ls ls'):b8 ls' a=.ok (x,n):=by
 have h0:=rE h;unfold b8 at h;split at h
 ·cases h
 ·rename_i h1;split at h
  ·cases h
  ·rename_i h2;split at h
   ·cases h
   ·rename_i h3;split at h
    ·cases h
    ·rename_i h4;split at h
     ·cases h
     ·rename_i l c EN;simp only[Except.ok.injEq,Prod.mk.injEq]at h;obtain⟨rfl,hn⟩:=h;have h5:=qC EN (by omega);have tN:c=a+n:=(by omega);have l1:=ha.le';unfold b8;rw[dN ha a 5 (by omega),dN ha (a+5) 5 (by omega),dN ha (a+10) 4 (by omega),ry ha (a+14) _ (by omega),if_neg (by omega),if_neg h2,if_neg (by omega),if_neg h4,
       CH (sH hb _ _ (Classical.not_not.1 h4)) jD EN (by omega) (by rw[tN];exact ha)]
      simp only;rw[hn]
theorem zx{ls:List Nat}(mo:List Nat)(hb:∀b∈ls++mo,b<2){a e:Nat}(h:b8 ls a=.error e)(he:e≠10):b8 (ls++mo) a=.error e:=by
 have ha:=Agr.ext ls mo;unfold b8 at h;split at h
 ·simp only[Except.error.injEq]at h;omega
 ·rename_i h1;unfold b8;have l1:=ha.le';rw[dN ha a 5 (by omega),dN ha (a+5) 5 (by omega),dN ha (a+10) 4 (by omega),if_neg (by omega)];split at h
  ·rename_i h2;rw[if_pos h2];exact h
  ·rename_i h2;rw[if_neg h2];split at h
   ·simp only[Except.error.injEq]at h;omega
   ·rename_i h3;rw[if_neg (by omega),ry ha (a+14) _ (by omega)];split at h
    ·rename_i h4;rw[if_pos h4];exact h
    ·rename_i h4;rw[if_neg h4];split at h
     ·rename_i e2 EN;simp only[Except.error.injEq]at h;subst h;rw[y8 (sH (λb nL=>hb b (List.mem_append_left _ nL)) _ _ (Classical.not_not.1 h4)) mo hb EN he (by omega)]
     ·cases h
theorem Di{ls ls':List Nat}(hb:∀b∈ls,b<2)(jD:∀b∈ls',b<2){a n:Nat}{x:List Nat×List Nat}(h:ep ls a=.ok (x,n))(ha:Agr (a+n) ls ls'):ep ls' a=.ok (x,n):=by
 unfold ep at h ⊢;split at h
 ·cases h
 ·rename_i l d n2 hr;split at h
  ·cases h
  ·rename_i h1;simp only[Except.ok.injEq,Prod.mk.injEq]at h;obtain⟨rfl,rfl⟩:=h;rw[tD hb jD hr ha];simp only;rw[if_neg h1]
theorem ze{ls:List Nat}(mo:List Nat)(hb:∀b∈ls++mo,b<2){a e:Nat}(h:ep ls a=.error e)(he:e≠55):ep (ls++mo) a=.error e:=by
 have hb1:∀b∈ls,b<2:=λb nL=>hb b (List.mem_append_left _ nL)
 unfold ep at h;split at h
 ·rename_i e2 hr;simp only[Except.error.injEq]at h;have MX:e2≠10:=λIb=>by rw[if_pos Ib]at h;omega
  unfold ep;rw[zx mo hb hr MX];simp only;rw[h]
 ·rename_i l d n2 hr;split at h
  ·rename_i h1;unfold ep;rw[tD hb1 hb hr ((Agr.ext ls mo).less (rE hr).2)];simp only;rw[if_pos h1];exact h
  ·cases h
theorem Gz{ls:List Nat}{a n:Nat}{x:List Nat×List Nat}(h:ep ls a=.ok (x,n)):a+14<=a+n/\a+n<=ls.length:=by
 unfold ep at h;split at h
 ·cases h
 ·rename_i l d n2 hr;split at h
  ·cases h
  ·simp only[Except.ok.injEq,Prod.mk.injEq]at h;obtain⟨_,rfl⟩:=h;exact rE hr
inductive Bk where
 | raw (last:Bool) (left:Nat)
 | sym (last:Bool) (lit dist:List Nat)
def Bk.last:Bk->Bool
 | .raw l _=>l
 | .sym l _ _=>l
inductive Tok where
 | fin
 | byte (b:Nat)
 | copy (n far:Nat)
def iF(ls:List Nat)(c n:Nat):Except Nat (Nat×Nat):=if ls.length<c+n then .error 55 else .ok (aX ls c n,c+n)
def nZ(ns ls:List Nat)(c last:Nat):Except Nat (Nat×Nat):=
 if (aT ns (ls.drop c)).2.2=10 then .error 55
 else if (aT ns (ls.drop c)).2.2≠0\/last<(aT ns (ls.drop c)).1 then .error 53
 else .ok ((aT ns (ls.drop c)).1,c+(aT ns (ls.drop c)).2.1)
def aU{α β:Type}(r:Except Nat (α×Nat))(g:α->Nat->Except Nat (β×Nat)):Except Nat (β×Nat):=
 match r with
 | .error e=>.error e
 | .ok x=>g x.1 x.2
theorem aI{α β:Type}{r:Except Nat (α×Nat)}{g:α->Nat->Except Nat (β×Nat)}{y:β×Nat}:aU r g=.ok y↔∃x c,r=.ok (x,c)/\g x c=.ok y:=by
 cases r with
 | error e=>simp[aU]
 | ok x=>
  refine⟨λh=>⟨x.1,x.2,rfl,h⟩,fun⟨a,c,h1,h2⟩=>?_⟩;simp only[Except.ok.injEq]at h1;subst h1;exact h2
theorem kC{α β:Type}{r:Except Nat (α×Nat)}{g:α->Nat->Except Nat (β×Nat)}{e:Nat}:aU r g=.error e↔r=.error e\/∃x c,r=.ok (x,c)/\g x c=.error e:=by
 cases r with
 | error e2=>simp[aU]
 | ok x=>
  refine⟨λh=>.inr ⟨x.1,x.2,rfl,h⟩,λh=>?_⟩;rcases h with h | ⟨a,c,h1,h2⟩
  ·cases h
  ·simp only[Except.ok.injEq]at h1;subst h1;exact h2
theorem aF{α β:Type}{r:Except Nat (α×Nat)}{g:α->Nat->Except Nat (β×Nat)}{x:α}{c:Nat}(h:r=.ok (x,c)):aU r g=g x c:=by rw[h];rfl
theorem bO{α β:Type}{r:Except Nat (α×Nat)}{g:α->Nat->Except Nat (β×Nat)}{e:Nat}(h:r=.error e):aU r g=.error e:=by rw[h];rfl
def cY(ls:List Nat)(c y k:Nat):Except Nat (Nat×Nat):=
 if y<k then .ok (y,c)else aU (iF ls c (y / k-1)) (λx c'=>.ok ((k+y % k)*2 ^ (y / k-1)+x,c'))
def kh(ls:List Nat)(c y:Nat):Except Nat (Nat×Nat):=
 if y<285 then aU (cY ls c (y-257) 4) (λn c'=>.ok (3+n,c'))else .ok (258,c)
def mB(dist ls:List Nat)(c:Nat):Except Nat (Nat×Nat):=if bR dist=false then .error 53 else nZ dist ls c 29
def f9(ls dist:List Nat)(c y:Nat):Except Nat ((Nat×Nat)×Nat):=
 aU (kh ls c y) (λn c1=>aU (mB dist ls c1) (λz c2=>aU (cY ls c2 z 2) (λd c3=>.ok ((n,1+d),c3))))
def jl(ls:List Nat)(last:Bool)(lit dist:List Nat)(y c1:Nat):Except Nat ((Tok×Bk)×Nat):=
 if y<256 then .ok ((.byte y,.sym last lit dist),c1)
 else if y=256 then .ok ((.fin,.sym last lit dist),c1)
 else aU (f9 ls dist c1 y) (λx c2=>.ok ((.copy x.1 x.2,.sym last lit dist),c2))
def bF(ls:List Nat)(b:Bk)(c:Nat):Except Nat ((Tok×Bk)×Nat):=
 match b with
 | .raw last 0=>.ok ((.fin,.raw last 0),c)
 | .raw last (n+1)=>aU (iF ls c 8) (λv c'=>.ok ((.byte v,.raw last n),c'))
 | .sym last lit dist=>aU (nZ lit ls c 285) (jl ls last lit dist)
def mZ(ls:List Nat)(c:Nat):Except Nat (Nat×Nat):=
 aU (iF ls ((c+7) / 8*8) 16) (λn c1=>aU (iF ls c1 16) (λt c2=>if n+t=65535 then .ok (n,c2)else .error 51))
def o7(ls:List Nat)(c:Nat):Except Nat ((List Nat×List Nat)×Nat):=
 match ep ls c with
 | .error e=>.error e
 | .ok (x,n)=>.ok (x,c+n)
def iW(ls:List Nat)(last:Bool)(c k:Nat):Except Nat (Bk×Nat):=
 if k=0 then aU (mZ ls c) (λn c'=>.ok (.raw last n,c'))
 else if k=1 then .ok (.sym last fixL fixD,c)
 else if k=2 then aU (o7 ls c) (λx c'=>.ok (.sym last x.1 x.2,c'))
 else .error 50
def eJ(ls:List Nat)(c:Nat):Except Nat (Bk×Nat):=
 aU (iF ls c 1) (λl c1=>aU (iF ls c1 2) (λk c2=>iW ls (l==1) c2 k))
def nj(far:Nat):Nat->List Nat->List Nat
 | 0,out=>out
 | n+1,out=>nj far n (out++[out.getD (out.length-far) 0])
def dB(most:Nat)(out:List Nat):Tok->Except Nat (List Nat)
 | .fin=>.ok out
 | .byte b=>if most<out.length+1 then .error 56 else .ok (out++[b])
 | .copy n far=>if out.length<far then .error 54 else if most<out.length+n then .error 56 else .ok (nj far n out)
structure Ps where
 c:Nat
 out:List Nat
 bk:Option Bk
def EW(most:Nat)(s:Ps)(b:Bk)(x:(Tok×Bk)×Nat):Except Nat (Ps×Bool):=
 match x.1.1 with
 | .fin=>if b.last=true then .ok (⟨x.2,s.out,some x.1.2⟩,true)else .ok (⟨x.2,s.out,none⟩,false)
 | t=>match dB most s.out t with
  | .error e=>.error e
  | .ok out=>.ok (⟨x.2,out,some x.1.2⟩,false)
def jQ(ls:List Nat)(most:Nat)(s:Ps):Except Nat (Ps×Bool):=
 match s.bk with
 | none=>match eJ ls s.c with
  | .error e=>.error e
  | .ok x=>.ok (⟨x.2,s.out,some x.1⟩,false)
 | some b=>match bF ls b s.c with
  | .error e=>.error e
  | .ok x=>EW most s b x
inductive Ends(ls:List Nat)(most:Nat):Ps->Ps->Nat->Prop
 | stop {s:Ps} {e:Nat} (h:jQ ls most s=.error e):Ends ls most s s e
 | done {s t:Ps} (h:jQ ls most s=.ok (t,true)):Ends ls most s t 0
 | step {s s' t:Ps} {e:Nat} (h:jQ ls most s=.ok (s',false)) (r:Ends ls most s' t e):Ends ls most s t e
theorem Bw{ls:List Nat}{c n e:Nat}(h:iF ls c n=.error e):e=55/\ls.length<c+n:=by
 unfold iF at h;split at h
 ·rename_i h1;simp only[Except.error.injEq]at h;exact⟨h.symm,h1⟩
 ·cases h
theorem d7{ls:List Nat}{c n x c':Nat}(h:iF ls c n=.ok (x,c')):x=aX ls c n/\c'=c+n/\c+n<=ls.length:=by
 unfold iF at h;split at h
 ·cases h
 ·simp only[Except.ok.injEq,Prod.mk.injEq]at h;exact⟨h.1.symm,h.2.symm,by omega⟩
theorem fo{ls:List Nat}{c n:Nat}(h:c+n<=ls.length):iF ls c n=.ok (aX ls c n,c+n):=by unfold iF;rw[if_neg (by omega)]
theorem Ki{ls:List Nat}{c n:Nat}(h:ls.length<c+n):iF ls c n=.error 55:=by unfold iF;rw[if_pos h]
theorem Jq{ls ls':List Nat}{c n x c':Nat}(h:iF ls c n=.ok (x,c'))(ha:Agr c' ls ls'):iF ls' c n=.ok (x,c'):=by obtain⟨rfl,rfl,_⟩:=d7 h;rw[fo ha.le',dN ha c n (Nat.le_refl _)]
structure Loc{α:Type}(f:List Nat->Except Nat (α×Nat))(ls:List Nat)(c:Nat):Prop where
 ge:∀x c',f ls=.ok (x,c')->c<=c'/\c'<=ls.length
 agr:∀x c' ls',(∀b∈ls',b<2)->f ls=.ok (x,c')->Agr c' ls ls'->f ls'=.ok (x,c')
 err:∀e mo,(∀b∈mo,b<2)->f ls=.error e->e≠55->f (ls++mo)=.error e
 ne:∀e,f ls=.error e->e≠0
theorem Loc.pure{α:Type}(x:α){ls:List Nat}{c:Nat}(hc:c<=ls.length):Loc (λ_=>.ok (x,c)) ls c:=
 ⟨λy c' h=>by simp only[Except.ok.injEq,Prod.mk.injEq]at h;omega,λ_ _ _ _ h _=>h,λ_ _ _ h _=>(by cases h),λ_ h=>(by cases h)⟩
theorem Loc.fail{α:Type}{e:Nat}(he:e≠0){ls:List Nat}{c:Nat}:Loc (α:=α) (λ_=>.error e) ls c:=
 ⟨λ_ _ h=>(by cases h),λ_ _ _ _ h _=>h,λ_ _ _ h _=>h,λ_ h=>by simp only[Except.error.injEq]at h;omega⟩
theorem Loc.of_eq{α:Type}{f g:List Nat->Except Nat (α×Nat)}{ls:List Nat}{c:Nat}(h:Loc f ls c)(e:∀l,g l=f l):Loc g ls c:=by have:g=f:=funext e;rw[this];exact h
theorem Loc.weak{α:Type}{f:List Nat->Except Nat (α×Nat)}{ls:List Nat}{c d:Nat}(h:Loc f ls c)(hd:d<=c):Loc f ls d:=
 ⟨λx c' h1=>by have:=h.ge x c' h1;omega,h.agr,h.err,h.ne⟩
theorem fE(ls:List Nat)(c n:Nat):Loc (λl=>iF l c n) ls c:=
 ⟨λx c' h=>by have:=d7 h;omega,λ_ _ _ _ h ha=>Jq h ha,λe _ _ h he=>absurd (Bw h).1 he,λe h=>by have:=(Bw h).1;omega⟩
theorem dy{ns ls:List Nat}{c last:Nat}{r:Except Nat (Nat×Nat)}(h:nZ ns ls c last=r):
  (r=.error 55/\(aT ns (ls.drop c)).2.2=10)\/(r=.error 53/\(aT ns (ls.drop c)).2.2=32) \/
  (∃y k,aT ns (ls.drop c)=(y,k,0)/\((last<y/\r=.error 53)\/(y<=last/\r=.ok (y,c+k)))):=by
 obtain⟨y,k,g,hn⟩:∃y k g,aT ns (ls.drop c)=(y,k,g):=⟨_,_,_,rfl⟩
 have h3:=lT ns (ls.drop c);unfold nZ at h;rw[hn]at h h3 ⊢;simp only at h h3 ⊢;rcases h3 with rfl | rfl | rfl
 ·refine .inr (.inr ⟨y,k,rfl,?_⟩);rw[if_neg (by omega)]at h;by_cases hy:last<y
  ·rw[if_pos (.inr hy)]at h;exact .inl ⟨hy,h.symm⟩
  ·rw[if_neg (by omega)]at h;exact .inr ⟨by omega,h.symm⟩
 ·rw[if_pos rfl]at h;exact .inl ⟨h.symm,rfl⟩
 ·rw[if_neg (by omega),if_pos (.inl (by omega))]at h;exact .inr (.inl ⟨h.symm,rfl⟩)
theorem vW{ns ls:List Nat}{c last:Nat}(h:(aT ns (ls.drop c)).2.2=32):nZ ns ls c last=.error 53:=by unfold nZ;rw[if_neg (by omega),if_pos (.inl (by omega))]
theorem DR{ns ls:List Nat}{c last:Nat}(h:(aT ns (ls.drop c)).2.2=10):nZ ns ls c last=.error 55:=by unfold nZ;rw[if_pos h]
theorem zL{ns ls:List Nat}{c last y k:Nat}(h:aT ns (ls.drop c)=(y,k,0))(hy:y<=last):nZ ns ls c last=.ok (y,c+k):=by unfold nZ;rw[h];simp only;rw[if_neg (by omega),if_neg (by omega)]
theorem BP{ns ls:List Nat}{c last y k:Nat}(h:aT ns (ls.drop c)=(y,k,0))(hy:last<y):nZ ns ls c last=.error 53:=by unfold nZ;rw[h];simp only;rw[if_neg (by omega),if_pos (.inr hy)]
theorem tu{ns t:List Nat}{y k:Nat}(h:aT ns t=(y,k,0)):k<=t.length/\0<k/\y<ns.length:=by
 have h1:=jg ns t;rw[h]at h1;rcases h1 with⟨_,hs,hf,hk,_⟩ | ⟨h0,_⟩ | ⟨h0,_⟩
 ·simp only at hs hf hk;have:=hf.2.length_le;rw[aq]at this;have:=hf.1;omega
 ·simp at h0
 ·simp at h0
theorem vX{ns ls:List Nat}{c y k:Nat}(hc:c<=ls.length)(h:aT ns (ls.drop c)=(y,k,0)):c+k<=ls.length:=by have:=(tu h).1;rw[List.length_drop]at this;omega
theorem uu{ns:List Nat}(hp:Pf ns)(ls:List Nat)(hb:∀b∈ls,b<2)(c last:Nat)(hc:c<=ls.length):Loc (λl=>nZ ns l c last) ls c:=by
 refine⟨λx c' h=>?_,λx c' ls' jD h ha=>?_,λe mo jD h he=>?_,λe h=>?_⟩
 ·rcases dy h with⟨h1,_⟩ | ⟨h1,_⟩ | ⟨y,k,hn,⟨_,h1⟩ | ⟨_,h1⟩⟩
  ·cases h1
  ·cases h1
  ·cases h1
  ·simp only[Except.ok.injEq,Prod.mk.injEq]at h1;have:=vX hc hn;omega
 ·rcases dy h with⟨h1,_⟩ | ⟨h1,_⟩ | ⟨y,k,hn,⟨_,h1⟩ | ⟨hy,h1⟩⟩
  ·cases h1
  ·cases h1
  ·cases h1
  ·simp only[Except.ok.injEq,Prod.mk.injEq]at h1;obtain⟨rfl,rfl⟩:=h1;exact zL (nU hp jD hn ha) hy
 ·have hb2:∀b∈ls++mo,b<2:=λb nL=>by rcases List.mem_append.1 nL with h | h;exact hb b h;exact jD b h
  rcases dy h with⟨h1,_⟩ | ⟨h1,h2⟩ | ⟨y,k,hn,⟨hy,h1⟩ | ⟨hy,h1⟩⟩
  ·simp only[Except.error.injEq]at h1;omega
  ·rw[h1];have h3:=sI ns (ls.drop c) mo h2;rw[<-List.drop_append_of_le_length hc]at h3;exact vW h3
  ·rw[h1];exact BP (nU hp hb2 hn ((Agr.ext ls mo).less (vX hc hn))) hy
  ·cases h1
 ·rcases dy h with⟨h1,_⟩ | ⟨h1,_⟩ | ⟨y,k,hn,⟨_,h1⟩ | ⟨_,h1⟩⟩
  ·simp only[Except.error.injEq]at h1;omega
  ·simp only[Except.error.injEq]at h1;omega
  ·simp only[Except.error.injEq]at h1;omega
  ·cases h1
theorem Loc.bind{α β:Type}{f:List Nat→Except Nat (α×Nat)}{ls:List Nat}{c:Nat}(hb:∀b∈ls,b<2)(h:Loc f ls c){g:List Nat→α→Nat→Except Nat (β×Nat)}
  (hg:∀x c',f ls=.ok (x,c')->Loc (λl=>g l x c') ls c'):Loc (λl=>aU (f l) (g l)) ls c:=by
 refine⟨λx c' h1=>?_,λx c' ls' jD h1 ha=>?_,λe mo jD h1 he=>?_,λe h1=>?_⟩
 ·obtain⟨y,c2,hf,h2⟩:=aI.1 h1;have a:=h.ge _ _ hf;have b:=(hg y c2 hf).ge _ _ h2;omega
 ·obtain⟨y,c2,hf,h2⟩:=aI.1 h1;have b:=(hg y c2 hf).ge _ _ h2;exact aI.2 ⟨y,c2,h.agr _ _ ls' jD hf (ha.less b.1),(hg y c2 hf).agr _ _ ls' jD h2 ha⟩
 ·have hb2:∀b∈ls++mo,b<2:=λb nL=>by rcases List.mem_append.1 nL with h | h;exact hb b h;exact jD b h
  rcases kC.1 h1 with hf | ⟨y,c2,hf,h2⟩
  ·exact kC.2 (.inl (h.err _ mo jD hf he))
  ·exact kC.2 (.inr ⟨y,c2,h.agr _ _ _ hb2 hf ((Agr.ext ls mo).less (h.ge _ _ hf).2),(hg y c2 hf).err _ mo jD h2 he⟩)
 ·rcases kC.1 h1 with hf | ⟨y,c2,hf,h2⟩
  ·exact h.ne _ hf
  ·exact(hg y c2 hf).ne _ h2
theorem nD(ls:List Nat)(hb:∀b∈ls,b<2)(c y k:Nat)(hc:c<=ls.length):Loc (λl=>cY l c y k) ls c:=by
 by_cases h:y<k
 ·exact(Loc.pure y hc).of_eq (λl=>by unfold cY;rw[if_pos h])
 ·exact(Loc.bind hb (fE ls c (y / k-1)) (g:=λ_ x c'=>.ok ((k+y % k)*2 ^ (y / k-1)+x,c')) (λx c' h1=>Loc.pure _ ((fE ls c _).ge x c' h1).2)).of_eq (λl=>by unfold cY;rw[if_neg h])
theorem He(ls:List Nat)(hb:∀b∈ls,b<2)(c y:Nat)(hc:c<=ls.length):Loc (λl=>kh l c y) ls c:=by
 by_cases h:y<285
 ·exact(Loc.bind hb (nD ls hb c (y-257) 4 hc) (g:=λ_ x c'=>.ok (3+x,c')) (λx c' h1=>Loc.pure _ ((nD ls hb c _ _ hc).ge x c' h1).2)).of_eq (λl=>by unfold kh;rw[if_pos h])
 ·exact(Loc.pure 258 hc).of_eq (λl=>by unfold kh;rw[if_neg h])
theorem wh{dist:List Nat}(hp:Pf dist)(ls:List Nat)(hb:∀b∈ls,b<2)(c:Nat)(hc:c<=ls.length):Loc (λl=>mB dist l c) ls c:=by
 by_cases h:bR dist=false
 ·exact(Loc.fail (e:=53) (by decide)).of_eq (λl=>by unfold mB;rw[if_pos h])
 ·exact(uu hp ls hb c 29 hc).of_eq (λl=>by unfold mB;rw[if_neg h])
theorem rD{dist:List Nat}(hp:Pf dist)(ls:List Nat)(hb:∀b∈ls,b<2)(c y:Nat)(hc:c<=ls.length):Loc (λl=>f9 l dist c y) ls c:=by have h1:=He ls hb c y hc;refine Loc.bind hb h1 (λn c1 e1=>?_);have fF:=(h1.ge _ _ e1).2;refine Loc.bind hb (wh hp ls hb c1 fF) (λz c2 e2=>?_);have cS:=((wh hp ls hb c1 fF).ge _ _ e2).2;exact Loc.bind hb (nD ls hb c2 z 2 cS) (λd c3 e3=>Loc.pure _ ((nD ls hb c2 z 2 cS).ge _ _ e3).2)
structure Lok(l:List Nat):Prop where
 pos:0<l.length
 max:l.length<=288
 le:∀n∈l,n<=15
 ok:bw l=0
structure OkL(lit dist:List Nat):Prop where
 lit:Lok lit
 pos:0<dist.length
 max:dist.length<=288
 le:∀n∈dist,n<=15
 dist:bR dist=true->Lok dist
def oC:Option Bk->Prop
 | some (.sym _ lit dist)=>OkL lit dist
 | _=>True
theorem Lok.pf{l:List Nat}(h:Lok l):Pf l:=by
 refine⟨?_,key_le h.le⟩;have:=h.ok;unfold bw at this;split at this
 ·cases this
 ·omega
theorem OkL.pf{lit dist:List Nat}(h:OkL lit dist):Pf dist:=by
 by_cases hu:bR dist=true
 ·exact(h.dist hu).pf
 ·refine⟨?_,key_le h.le⟩;have:measure dist=0:=by
   have yB:bR dist=false:=(by simpa using hu);unfold bR at yB;rw[List.any_eq_false]at yB;unfold measure;have:dist.map eM=dist.map (λ_=>0):=List.map_congr_left (λn hn=>by
    have:=yB n hn;have h0:n=0:=(by simpa using this);rw[h0];rfl)
   rw[this,List.map_const',List.sum_replicate_nat,Nat.mul_zero]
  omega
theorem kz(ls:List Nat)(hb:∀b∈ls,b<2)(b:Bk)(c:Nat)(hk:oC (some b))(hc:c<=ls.length):Loc (λl=>bF l b c) ls c:=by
 cases b with
 | raw last left=>
  cases left with
  | zero=>exact Loc.pure _ hc
  | succ n=>exact Loc.bind hb (fE ls c 8) (g:=λ_ v c'=>.ok ((Tok.byte v,Bk.raw last n),c')) (λx c' e=>Loc.pure _ ((fE ls c 8).ge _ _ e).2)
 | sym last lit dist=>
  have hk:OkL lit dist:=hk;have h1:=uu hk.lit.pf ls hb c 285 hc;refine Loc.bind hb h1 (λy c1 e1=>?_);have fF:=(h1.ge _ _ e1).2;by_cases h256:y<256
  ·exact(Loc.pure _ fF).of_eq (λl=>by unfold jl;rw[if_pos h256])
  ·by_cases he:y=256
   ·exact(Loc.pure _ fF).of_eq (λl=>by unfold jl;rw[if_neg h256,if_pos he])
   ·exact(Loc.bind hb (rD hk.pf ls hb c1 y fF) (g:=λ_ x c2=>.ok ((.copy x.1 x.2,.sym last lit dist),c2)) (λx c2 e2=>Loc.pure _ ((rD hk.pf ls hb c1 y fF).ge _ _ e2).2)).of_eq (λl=>by unfold jl;rw[if_neg h256,if_neg he])
theorem xi(ls:List Nat)(hb:∀b∈ls,b<2)(c:Nat):Loc (λl=>mZ l c) ls c:=by
 have h1:=fE ls ((c+7) / 8*8) 16;refine(Loc.bind hb h1 (g:=λl n c1=>aU (iF l c1 16) (λt c2=>if n+t=65535 then .ok (n,c2)else .error 51)) (λn c1 e1=>?_)).weak (by omega);refine Loc.bind hb (fE ls c1 16) (λt c2 e2=>?_);have cS:=((fE ls c1 16).ge _ _ e2).2;by_cases h:n+t=65535
 ·exact(Loc.pure n cS).of_eq (λl=>by rw[if_pos h])
 ·exact(Loc.fail (e:=51) (by decide)).of_eq (λl=>by rw[if_neg h])
theorem G5{ls:List Nat}{a e:Nat}(h:ep ls a=.error e):e≠0:=by
 unfold ep at h;split at h
 ·simp only[Except.error.injEq]at h;split at h<;>omega
 ·split at h
  ·simp only[Except.error.injEq]at h;omega
  ·cases h
theorem Bm(ls:List Nat)(hb:∀b∈ls,b<2)(c:Nat):Loc (λl=>o7 l c) ls c:=by
 refine⟨λx c' h=>?_,λx c' ls' jD h ha=>?_,λe mo jD h he=>?_,λe h=>?_⟩
 ·simp only[o7]at h;split at h
  ·cases h
  ·rename_i y n h1;simp only[Except.ok.injEq,Prod.mk.injEq]at h;have:=Gz h1;omega
 ·simp only[o7]at h ⊢;split at h
  ·cases h
  ·rename_i y n h1;simp only[Except.ok.injEq,Prod.mk.injEq]at h;obtain⟨rfl,rfl⟩:=h;rw[Di hb jD h1 ha]
 ·have hb2:∀b∈ls++mo,b<2:=λb nL=>by rcases List.mem_append.1 nL with h | h;exact hb b h;exact jD b h
  simp only[o7]at h ⊢;split at h
  ·rename_i e2 h1;simp only[Except.error.injEq]at h;subst h;rw[ze mo hb2 h1 he]
  ·cases h
 ·simp only[o7]at h;split at h
  ·rename_i e2 h1;simp only[Except.error.injEq]at h;subst h;exact G5 h1
  ·cases h
theorem xu(ls:List Nat)(hb:∀b∈ls,b<2)(last:Bool)(c k:Nat)(hc:c<=ls.length):Loc (λl=>iW l last c k) ls c:=by
 by_cases h0:k=0
 ·exact(Loc.bind hb (xi ls hb c) (g:=λ_ n c'=>.ok (Bk.raw last n,c')) (λn c' e=>Loc.pure _ ((xi ls hb c).ge _ _ e).2)).of_eq (λl=>by unfold iW;rw[if_pos h0])
 ·by_cases h1:k=1
  ·exact(Loc.pure _ hc).of_eq (λl=>by unfold iW;rw[if_neg h0,if_pos h1])
  ·by_cases h2:k=2
   ·exact(Loc.bind hb (Bm ls hb c) (g:=λ_ x c'=>.ok (Bk.sym last x.1 x.2,c')) (λn c' e=>Loc.pure _ ((Bm ls hb c).ge _ _ e).2)).of_eq (λl=>by unfold iW;rw[if_neg h0,if_neg h1,if_pos h2])
   ·exact(Loc.fail (e:=50) (by decide)).of_eq (λl=>by unfold iW;rw[if_neg h0,if_neg h1,if_neg h2])
theorem xp(ls:List Nat)(hb:∀b∈ls,b<2)(c:Nat):Loc (λl=>eJ l c) ls c:=by refine Loc.bind hb (fE ls c 1) (λx c1 e1=>?_);exact Loc.bind hb (fE ls c1 2) (λk c2 e2=>xu ls hb _ c2 k ((fE ls c1 2).ge _ _ e2).2)
theorem gJ(ls:List Nat)(last:Bool)(c:Nat):bF ls (.raw last 0) c=.ok ((.fin,.raw last 0),c):=rfl
theorem ej(ls:List Nat)(last:Bool)(n c:Nat):bF ls (.raw last (n+1)) c=aU (iF ls c 8) (λv c'=>.ok ((.byte v,.raw last n),c')):=rfl
theorem eo(ls:List Nat)(last:Bool)(lit dist:List Nat)(c:Nat):bF ls (.sym last lit dist) c=aU (nZ lit ls c 285) (jl ls last lit dist):=rfl
theorem dI{ls:List Nat}{most:Nat}{s:Ps}{b:Bk}{c:Nat}(h:s.bk=none)(hg:eJ ls s.c=.ok (b,c)):jQ ls most s=.ok (⟨c,s.out,some b⟩,false):=by unfold jQ;rw[h];simp only[hg]
theorem fY{ls:List Nat}{most:Nat}{s:Ps}{e:Nat}(h:s.bk=none)(hg:eJ ls s.c=.error e):jQ ls most s=.error e:=by unfold jQ;rw[h];simp only[hg]
theorem cj{ls:List Nat}{most:Nat}{s:Ps}{b:Bk}{x:(Tok×Bk)×Nat}(h:s.bk=some b)(hg:bF ls b s.c=.ok x):jQ ls most s=EW most s b x:=by unfold jQ;rw[h];simp only[hg]
theorem eA{ls:List Nat}{most:Nat}{s:Ps}{b:Bk}{e:Nat}(h:s.bk=some b)(hg:bF ls b s.c=.error e):jQ ls most s=.error e:=by unfold jQ;rw[h];simp only[hg]
theorem jy(most:Nat)(s:Ps)(b b':Bk)(c:Nat):EW most s b ((.fin,b'),c)=if b.last=true then .ok (⟨c,s.out,some b'⟩,true)else .ok (⟨c,s.out,none⟩,false):=rfl
theorem mV{most:Nat}{s:Ps}{b b':Bk}{c e:Nat}{t:Tok}(ht:t≠.fin)(h:dB most s.out t=.error e):EW most s b ((t,b'),c)=.error e:=by
 cases t with
 | fin=>exact absurd rfl ht
 | byte v=>unfold EW;simp only[h]
 | copy n far=>unfold EW;simp only[h]
theorem kj{most:Nat}{s:Ps}{b b':Bk}{c:Nat}{t:Tok}{out:List Nat}(ht:t≠.fin)(h:dB most s.out t=.ok out):EW most s b ((t,b'),c)=.ok (⟨c,out,some b'⟩,false):=by
 cases t with
 | fin=>exact absurd rfl ht
 | byte v=>unfold EW;simp only[h]
 | copy n far=>unfold EW;simp only[h]
theorem nQ{most:Nat}{s:Ps}{b b':Bk}{c:Nat}{t:Tok}{r:Except Nat (Ps×Bool)}(h:EW most s b ((t,b'),c)=r):
  (t=.fin/\b.last=true/\r=.ok (⟨c,s.out,some b'⟩,true))\/(t=.fin/\b.last=false/\r=.ok (⟨c,s.out,none⟩,false)) \/
  (t≠.fin/\((∃e,dB most s.out t=.error e/\r=.error e)\/∃out,dB most s.out t=.ok out/\r=.ok (⟨c,out,some b'⟩,false))):=by
 by_cases ht:t=.fin
 ·subst ht;rw[jy]at h;cases hl:b.last with
  | true=>rw[hl,if_pos rfl]at h;exact .inl ⟨rfl,rfl,h.symm⟩
  | false=>rw[hl,if_neg (by decide)]at h;exact .inr (.inl ⟨rfl,rfl,h.symm⟩)
 ·cases hl:dB most s.out t with
  | error e=>rw[mV ht hl]at h;exact .inr (.inr ⟨ht,.inl ⟨e,rfl,h.symm⟩⟩)
  | ok out=>rw[kj ht hl]at h;exact .inr (.inr ⟨ht,.inr ⟨out,rfl,h.symm⟩⟩)
theorem zz{ns ls:List Nat}{N f c c':Nat}{l m:List Nat}(h:bC ns ls N f l c=.ok (m,c'))(hl:∀x∈l,x<=15)(hn:l.length<=N)(hf:N-l.length<=f):(∀x∈m,x<=15)/\m.length=N:=by
 induction f generalizing l c with
 | zero=>
  simp only[bC,Except.ok.injEq,Prod.mk.injEq]at h;obtain⟨rfl,_⟩:=h;exact⟨hl,by omega⟩
 | succ f ih=>
  unfold bC at h;split at h
  ·simp only[Except.ok.injEq,Prod.mk.injEq]at h;obtain⟨rfl,_⟩:=h;exact⟨hl,by omega⟩
  ·split at h
   ·cases h
   ·split at h
    ·cases h
    ·rename_i l2 hw;have:=iA hw hl;exact ih h this.2.2 this.2.1 (by omega)
theorem oK{ls:List Nat}{a n:Nat}{l d:List Nat}(h:b8 ls a=.ok ((l,d),n)):257<=l.length/\l.length<=286/\0<d.length/\d.length<=30/\(∀x∈l,x<=15)/\∀x∈d,x<=15:=by
 unfold b8 at h;split at h
 ·cases h
 ·split at h
  ·cases h
  ·rename_i h2;split at h
   ·cases h
   ·split at h
    ·cases h
    ·split at h
     ·cases h
     ·rename_i m c EN;simp only[Except.ok.injEq,Prod.mk.injEq]at h;obtain⟨⟨rfl,rfl⟩,_⟩:=h;have hm:=zz EN (by simp) (by simp) (by simp);rw[List.length_take,List.length_drop,hm.2];exact⟨by omega,by omega,by omega,by omega,λx hx=>hm.1 x (List.mem_of_mem_take hx),λx hx=>hm.1 x (List.mem_of_mem_drop hx)⟩
theorem wg{ls:List Nat}{a n:Nat}{l d:List Nat}(h:ep ls a=.ok ((l,d),n)):OkL l d:=by
 unfold ep at h;split at h
 ·cases h
 ·rename_i l2 d2 n2 hr;split at h
  ·cases h
  ·rename_i h1;simp only[Except.ok.injEq,Prod.mk.injEq]at h;obtain⟨⟨rfl,rfl⟩,_⟩:=h;obtain⟨a1,a2,a3,a4,a5,a6⟩:=oK hr;refine⟨⟨by omega,by omega,a5,?_⟩,a3,by omega,a6,λhu=>⟨a3,by omega,a6,?_⟩⟩
   ·exact Classical.byContradiction (λhc=>h1 (.inr (.inl hc)))
   ·exact Classical.byContradiction (λhc=>h1 (.inr (.inr ⟨hu,hc⟩)))
theorem fix_ok:OkL fixL fixD:=by refine⟨⟨by decide +kernel,by decide +kernel,by decide +kernel,by decide +kernel⟩,by decide +kernel,by decide +kernel,by decide +kernel,λ_=>⟨by decide +kernel,by decide +kernel,by decide +kernel,by decide +kernel⟩⟩
theorem BX{ls:List Nat}{c c':Nat}{b:Bk}(h:eJ ls c=.ok (b,c')):oC (some b):=by
 obtain⟨l,c1,_,h⟩:=aI.1 h;obtain⟨k,c2,_,h⟩:=aI.1 h;unfold iW at h;split at h
 ·obtain⟨n,c3,_,h⟩:=aI.1 h;simp only[Except.ok.injEq,Prod.mk.injEq]at h;obtain⟨rfl,_⟩:=h;exact trivial
 ·split at h
  ·simp only[Except.ok.injEq,Prod.mk.injEq]at h;obtain⟨rfl,_⟩:=h;exact fix_ok
  ·split at h
   ·obtain⟨x,c3,hh,h⟩:=aI.1 h;simp only[Except.ok.injEq,Prod.mk.injEq]at h;obtain⟨rfl,_⟩:=h;unfold o7 at hh;split at hh
    ·cases hh
    ·rename_i y n h5;simp only[Except.ok.injEq,Prod.mk.injEq]at hh;obtain⟨rfl,_⟩:=hh;exact wg (l:=y.1) (d:=y.2) h5
   ·cases h
theorem qw{ls:List Nat}{b b':Bk}{t:Tok}{c c':Nat}(h:bF ls b c=.ok ((t,b'),c'))(hk:oC (some b)):oC (some b')/\b'.last=b.last:=by
 cases b with
 | raw last left=>
  cases left with
  | zero=>
   simp only[bF,Except.ok.injEq,Prod.mk.injEq]at h;obtain⟨⟨_,rfl⟩,_⟩:=h;exact⟨trivial,rfl⟩
  | succ n=>
   rw[ej]at h;obtain⟨v,c2,_,h⟩:=aI.1 h;simp only[Except.ok.injEq,Prod.mk.injEq]at h;obtain⟨⟨_,rfl⟩,_⟩:=h;exact⟨trivial,rfl⟩
 | sym last lit dist=>
  rw[eo]at h;obtain⟨y,c2,_,h⟩:=aI.1 h;unfold jl at h;split at h
  ·simp only[Except.ok.injEq,Prod.mk.injEq]at h;obtain⟨⟨_,rfl⟩,_⟩:=h;exact⟨hk,rfl⟩
  ·split at h
   ·simp only[Except.ok.injEq,Prod.mk.injEq]at h;obtain⟨⟨_,rfl⟩,_⟩:=h;exact⟨hk,rfl⟩
   ·obtain⟨x,c3,_,h⟩:=aI.1 h;simp only[Except.ok.injEq,Prod.mk.injEq]at h;obtain⟨⟨_,rfl⟩,_⟩:=h;exact⟨hk,rfl⟩
theorem gU(far n:Nat)(out:List Nat):(nj far n out).length=out.length+n:=by
 induction n generalizing out with
 | zero=>rfl
 | succ n ih=>rw[nj,ih,List.length_append];simp;omega
theorem mF{most:Nat}{out out':List Nat}{t:Tok}(h:dB most out t=.ok out'):out.length<=out'.length/\(out.length<=most->out'.length<=most)/\∀m,out'.length<=m->dB m out t=.ok out':=by
 cases t with
 | fin=>simp only[dB,Except.ok.injEq]at h;subst h;exact⟨Nat.le_refl _,λh=>h,λ_ _=>rfl⟩
 | byte b=>
  simp only[dB]at h;split at h
  ·cases h
  ·simp only[Except.ok.injEq]at h;subst h;refine⟨by simp,λ_=>by simp;omega,λm hm=>?_⟩;simp only[dB];rw[if_neg (by simp at hm;omega)]
 | copy n far=>
  simp only[dB]at h;split at h
  ·cases h
  ·split at h
   ·cases h
   ·simp only[Except.ok.injEq]at h;subst h;rw[gU];refine⟨by omega,λ_=>by omega,λm hm=>?_⟩;simp only[dB];rw[if_neg (by omega),if_neg (by omega)]
theorem nk{most:Nat}{out:List Nat}{t:Tok}{e:Nat}(h:dB most out t=.error e):e=54\/e=56:=by
 cases t with
 | fin=>cases h
 | byte b=>
  simp only[dB]at h;split at h
  ·simp only[Except.error.injEq]at h;omega
  ·cases h
 | copy n far=>
  simp only[dB]at h;split at h
  ·simp only[Except.error.injEq]at h;omega
  ·split at h
   ·simp only[Except.error.injEq]at h;omega
   ·cases h
structure tW(ls:List Nat)(s:Ps):Prop where
 le:s.c<=ls.length
 bk:oC s.bk
theorem Cb{ls:List Nat}(hb:∀b∈ls,b<2){most:Nat}{s t:Ps}{d:Bool}(hs:tW ls s)(h:jQ ls most s=.ok (t,d)):
  tW ls t/\s.c<=t.c/\s.out.length<=t.out.length/\(s.out.length<=most->t.out.length<=most):=by
 cases hbk:s.bk with
 | none=>
  cases hg:eJ ls s.c with
  | error e=>rw[fY hbk hg]at h;cases h
  | ok x=>
   obtain⟨b,c⟩:=x;rw[dI hbk hg]at h;simp only[Except.ok.injEq,Prod.mk.injEq]at h;obtain⟨rfl,_⟩:=h;have:=(xp ls hb s.c).ge _ _ hg;exact⟨⟨this.2,BX hg⟩,this.1,Nat.le_refl _,λh=>h⟩
 | some b=>
  have hk:oC (some b):=(by rw[<-hbk];exact hs.bk);cases hst:bF ls b s.c with
  | error e=>rw[eA hbk hst]at h;cases h
  | ok x=>
   obtain⟨⟨tk,b'⟩,c⟩:=x;rw[cj hbk hst]at h;have h1:=(kz ls hb b s.c hk hs.le).ge _ _ hst;have h2:=qw hst hk;rcases nQ h with⟨_,_,h⟩ | ⟨_,_,h⟩ | ⟨_,⟨e,_,h⟩ | ⟨o,hl,h⟩⟩
   ·simp only[Except.ok.injEq,Prod.mk.injEq]at h;obtain⟨rfl,_⟩:=h;exact⟨⟨h1.2,h2.1⟩,h1.1,Nat.le_refl _,λh=>h⟩
   ·simp only[Except.ok.injEq,Prod.mk.injEq]at h;obtain⟨rfl,_⟩:=h;exact⟨⟨h1.2,trivial⟩,h1.1,Nat.le_refl _,λh=>h⟩
   ·cases h
   ·simp only[Except.ok.injEq,Prod.mk.injEq]at h;obtain⟨rfl,_⟩:=h;have h3:=mF hl;exact⟨⟨h1.2,h2.1⟩,h1.1,h3.1,h3.2.1⟩
theorem tZ{ls:List Nat}(hb:∀b∈ls,b<2){most:Nat}{s:Ps}{e:Nat}(hs:tW ls s)(h:jQ ls most s=.error e):e≠0:=by
 cases hbk:s.bk with
 | none=>
  cases hg:eJ ls s.c with
  | error e2=>
   rw[fY hbk hg]at h;simp only[Except.error.injEq]at h;subst h;exact(xp ls hb s.c).ne _ hg
  | ok x=>rw[dI (b:=x.1) (c:=x.2) hbk hg]at h;cases h
 | some b=>
  have hk:oC (some b):=(by rw[<-hbk];exact hs.bk);cases hst:bF ls b s.c with
  | error e2=>
   rw[eA hbk hst]at h;simp only[Except.error.injEq]at h;subst h;exact(kz ls hb b s.c hk hs.le).ne _ hst
  | ok x=>
   obtain⟨⟨tk,b'⟩,c⟩:=x;rw[cj hbk hst]at h;rcases nQ h with⟨_,_,h⟩ | ⟨_,_,h⟩ | ⟨_,⟨e2,hl,h⟩ | ⟨o,hl,h⟩⟩
   ·cases h
   ·cases h
   ·simp only[Except.error.injEq]at h;subst h;have:=nk hl;omega
   ·cases h
theorem Ends.det{ls:List Nat}{most:Nat}{s t t':Ps}{e e':Nat}(h:Ends ls most s t e)(h':Ends ls most s t' e'):t=t'/\e=e':=by
 induction h with
 | stop h=>
  cases h' with
  | stop h2=>rw[h]at h2;simp only[Except.error.injEq]at h2;exact⟨rfl,h2⟩
  | done h2=>rw[h]at h2;cases h2
  | step h2 _=>rw[h]at h2;cases h2
 | done h=>
  cases h' with
  | stop h2=>rw[h]at h2;cases h2
  | done h2=>rw[h]at h2;simp only[Except.ok.injEq,Prod.mk.injEq]at h2;exact⟨h2.1,rfl⟩
  | step h2 _=>rw[h]at h2;simp at h2
 | step h _ ih=>
  cases h' with
  | stop h2=>rw[h]at h2;cases h2
  | done h2=>rw[h]at h2;simp at h2
  | step h2 r2=>
   rw[h]at h2;simp only[Except.ok.injEq,Prod.mk.injEq,and_true]at h2;subst h2;exact ih r2
theorem Ends.inv{ls:List Nat}(hb:∀b∈ls,b<2){most:Nat}{s t:Ps}{e:Nat}(h:Ends ls most s t e)(hs:tW ls s):
  tW ls t/\s.c<=t.c/\s.out.length<=t.out.length/\(s.out.length<=most->t.out.length<=most):=by
 induction h with
 | stop h=>exact⟨hs,Nat.le_refl _,Nat.le_refl _,λh=>h⟩
 | done h=>exact Cb hb hs h
 | step h _ ih=>
  have h1:=Cb hb hs h;have h2:=ih h1.1;exact⟨h2.1,by omega,by omega,λh=>h2.2.2.2 (h1.2.2.2 h)⟩
def ps0:Ps:=⟨0,[],none⟩
theorem GR(ls:List Nat):tW ls ps0:=⟨Nat.zero_le _,trivial⟩
theorem CI(ls:List Nat)(hb:∀b∈ls,b<2)(c n:Nat):aX ls c n<2 ^ n:=by unfold aX;refine Nat.lt_of_lt_of_le (vR _ (λb nL=>hb b (List.mem_of_mem_drop (List.mem_of_mem_take nL)))) ?_;rw[List.length_take];exact Nat.pow_le_pow_right (by decide) (Nat.min_le_left _ _)
def bW(n p:Nat):Nat:=pt n-p
def eD(n p:Nat):Nat:=bW n p*2 ^ (p-1)+n / 2 ^ bW n p
def ec(n p:Nat):Nat:=n % 2 ^ bW n p
theorem JL(n k:Nat)(h:k<pt n):2 ^ k<=n:=by refine Classical.byContradiction (λhc=>?_);have:=(fZ n k).2 (by omega);omega
theorem BC(n p:Nat):ec n p<2 ^ bW n p:=Nat.mod_lt _ (Nat.two_pow_pos _)
theorem sY(A B:List Nat)(n p:Nat)(hp:1<=p):cY (A++(aj (ec n p) (bW n p)++B)) A.length (eD n p) (2 ^ (p-1))=.ok (n,A.length+bW n p):=by
 have hk:0<2 ^ (p-1):=Nat.two_pow_pos _;have WP:2 ^ p=2*2 ^ (p-1):=by rw[<-Nat.pow_succ'];congr 1;omega
 by_cases hw:bW n p=0
 ·have hn:n<2 ^ p:=(fZ n p).1 (by unfold bW at hw;omega);have hs:eD n p=n:=(by unfold eD;rw[hw];simp);rw[hs,hw];unfold cY;by_cases h:n<2 ^ (p-1)
  ·rw[if_pos h];rfl
  ·rw[if_neg h];have hq:n / 2 ^ (p-1)=1:=Nat.div_eq_of_lt_le (by omega) (by omega);have hm:2 ^ (p-1)+n % 2 ^ (p-1)=n:=by
    have:=Nat.div_add_mod n (2 ^ (p-1));rw[hq]at this;omega
   rw[hq,hm,fo (by rw[List.length_append];omega)];show Except.ok _=_;simp[aX,n2]
 ·obtain⟨w,hw2⟩:∃w,bW n p=w:=⟨_,rfl⟩
  have hb:pt n=w+p:=(by unfold bW at hw2 hw;omega);have lO:2 ^ (w+p-1)<=n:=JL n _ (by omega);have yR:n<2 ^ (w+p):=(fZ n _).1 (by omega);obtain⟨q,hq⟩:∃q,n / 2 ^ w=q:=⟨_,rfl⟩
  have ml:0<2 ^ w:=Nat.two_pow_pos _;have WO:2 ^ (p-1)<=q:=(by rw[<-hq,Nat.le_div_iff_mul_le ml,<-Nat.pow_add];rwa [show p-1+w=w+p-1 by omega]);have Lx:q<2*2 ^ (p-1):=(by rw[<-hq,<-WP,Nat.div_lt_iff_lt_mul ml,<-Nat.pow_add];rwa [Nat.add_comm p w]);have hs:eD n p=w*2 ^ (p-1)+q:=(by unfold eD;rw[hw2,hq]);have hx:ec n p=n % 2 ^ w:=(by unfold ec;rw[hw2]);have sq:n % 2 ^ w<2 ^ w:=Nat.mod_lt _ ml;obtain⟨k,hkk⟩:∃k,2 ^ (p-1)=k:=⟨_,rfl⟩
  rw[hkk]at hk WO Lx hs ⊢;have T3:q / k=1:=Nat.div_eq_of_lt_le (by omega) (by omega);have hd:(w*k+q) / k=w+1:=(by rw[Nat.mul_comm,Nat.mul_add_div hk,T3]);have hm:k+(w*k+q) % k=q:=by rw[Nat.mul_comm,Nat.mul_add_mod];have h9:=Nat.div_add_mod q k;rw[T3]at h9;omega
  unfold cY;rw[hs,hw2,hx,if_neg (by have:=Nat.le_mul_of_pos_left k (show 0<w by omega);omega),hd,hm,Nat.add_sub_cancel];rw[fo (by rw[List.length_append,List.length_append,af];omega),ed A B _ w sq];show Except.ok _=_;have:=Nat.div_add_mod n (2 ^ w);rw[hq,Nat.mul_comm]at this;rw[this]
structure MK where
 sym:Nat
 extra:Nat
 width:Nat
def aJ(t:TK):MK:=if t.len=0 then⟨t.lit,0,0⟩else if t.len=258 then⟨285,0,0⟩ else⟨257+eD (t.len.toNat-3) 3,ec (t.len.toNat-3) 3,bW (t.len.toNat-3) 3⟩
def aH(t:TK):MK:=⟨eD (t.dist.toNat-1) 2,ec (t.dist.toNat-1) 2,bW (t.dist.toNat-1) 2⟩
def cH(cs:List Nat)(m:MK):List Nat:=aE cs m.sym++aj m.extra m.width
def aw(lit dist:List Nat)(t:TK):List Nat:=cH lit (aJ t)++(if t.len=0 then []else cH dist (aH t))
theorem l7(cs:List Nat)(m:MK):∀b∈cH cs m,b<2:=by
 intro b hb;rcases List.mem_append.1 hb with h | h
 ·exact cX _ _ b h
 ·exact ei _ _ b h
theorem vL(lit dist:List Nat)(t:TK):∀b∈aw lit dist t,b<2:=by
 intro b hb;rcases List.mem_append.1 hb with h | h
 ·exact l7 _ _ b h
 ·split at h
  ·simp at h
  ·exact l7 _ _ b h
theorem mA(lit dist:List Nat)(ts:List TK):∀b∈ts.flatMap (aw lit dist),b<2:=by intro b hb;obtain⟨t,_,ht⟩:=List.mem_flatMap.1 hb;exact vL _ _ t b ht
def Mv(lit dist:List Nat)(t:TK):Prop:=(aJ t).sym<lit.length/\key lit (aJ t).sym≠0/\(t.len≠0->(aH t).sym<dist.length/\key dist (aH t).sym≠0)
theorem kk{l:List Nat}{s:Nat}(h:s<l.length)(h0:key l s≠0):bR l=true:=by unfold bR;rw[List.any_eq_true];refine⟨l[s],List.getElem_mem h,?_⟩;rw[aZ h]at h0;simpa using h0
theorem nE{ns:List Nat}(hp:Pf ns)(A rest:List Nat)(hb:∀b∈rest,b<2){y last:Nat}(hy:y<ns.length)(h0:key ns y≠0)(hl:y<=last):nZ ns (A++(aE ns y++rest)) A.length last=.ok (y,A.length+key ns y):=
 zL (by rw[List.drop_left];exact nV hp.ms hp.le hy h0 rest hb) hl
theorem Jt(far n:Nat)(out:List Nat):Ew far n out=nj far n out:=by
 induction n generalizing out with
 | zero=>rfl
 | succ n ih=>rw[Ew,nj,ih]
theorem gH(n p m:Nat)(h:n<2 ^ (m+p))(hp:1<=p):eD n p<(m+2)*2 ^ (p-1):=by
 have hk:0<2 ^ (p-1):=Nat.two_pow_pos _;have hb:pt n<=m+p:=(fZ n _).2 h;have hw:bW n p<=m:=by unfold bW;omega
 have hq:n / 2 ^ bW n p<2*2 ^ (p-1):=by
  rw[Nat.div_lt_iff_lt_mul (Nat.two_pow_pos _)];have h2:n<2 ^ (bW n p+p):=(fZ n _).1 (by unfold bW;omega);have e:2*2 ^ (p-1)*2 ^ bW n p=2 ^ (bW n p+p):=by rw[<-Nat.pow_succ',<-Nat.pow_add];congr 1;omega
  omega
 have h3:bW n p*2 ^ (p-1)<=m*2 ^ (p-1):=Nat.mul_le_mul_right _ hw;unfold eD;rw[Nat.add_mul];omega
theorem Fv{lit dist:List Nat}(ho:OkL lit dist)(A B out:List Nat)(hB:∀b∈B,b<2)(most:Nat)(t:TK)(hm:pe t out.length=true)(hh:Mv lit dist t)(SG:t.lit<256)(hd:t.dist≤16384)(hl:out.length+pc t≤most):
  jQ (A++(aw lit dist t++B)) most ⟨A.length,out,some (.sym true lit dist)⟩=.ok (⟨A.length+(aw lit dist t).length,mM out t,some (.sym true lit dist)⟩,false):=by
 rcases fa hm with⟨h0,_,h1⟩ | ⟨n,d,h0,IV,_,h3,h4,h5,h6,h1⟩
 ·have sB:aJ t=⟨t.lit,0,0⟩:=(by unfold aJ;rw[if_pos h0]);have hb:aw lit dist t=aE lit t.lit:=by
   unfold aw cH;rw[sB,if_pos h0];simp[aj]
  obtain⟨hs,hk,_⟩:=hh;rw[sB]at hs hk;simp only at hs hk;have h9:=nE ho.lit.pf A B hB (y:=t.lit) (last:=285) hs hk (by omega);have hst:bF (A++(aE lit t.lit++B)) (.sym true lit dist) A.length=.ok ((.byte t.lit,.sym true lit dist),A.length+key lit t.lit):=by rw[eo,aF h9];unfold jl;rw[if_pos SG]
  rw[hb,aq,cj (s:=⟨A.length,out,some (.sym true lit dist)⟩) rfl hst];have MQ:mM out t=out++[t.lit]:=(by unfold mM;rw[if_pos h0]);rw[MQ];exact kj (by intro h;cases h) (by simp only[dB];rw[if_neg (by omega)])
 ·have nG:t.len≠0:=(by omega);obtain⟨hs,hk,EZ⟩:=hh;obtain⟨R7,SJ⟩:=EZ nG;have hu:=kk R7 SJ;obtain⟨y,hy⟩:∃y,(aJ t).sym=y:=⟨_,rfl⟩
  obtain⟨z,hz⟩:∃z,(aH t).sym=z:=⟨_,rfl⟩
  have SE:z=eD (d-1) 2:=(by rw[<-hz];unfold aH;rw[IV];simp);have uX:z<=29:=(by have:=gH (d-1) 2 12 (by omega) (by decide);rw[<-SE]at this;omega);have Tc:aH t=⟨z,ec (d-1) 2,bW (d-1) 2⟩:=(by rw[SE];unfold aH;rw[IV];simp);rw[hy]at hs hk;rw[hz]at R7 SJ;obtain⟨D,hD⟩:∃D,cH dist (aH t)=D:=⟨_,rfl⟩
  have Si:D=aE dist z++aj (ec (d-1) 2) (bW (d-1) 2):=(by rw[<-hD,Tc];rfl);have Yu:∀b∈D++B,b<2:=λb hb=>by
   rcases List.mem_append.1 hb with h | h
   ·rw[<-hD]at h;exact l7 _ _ b h
   ·exact hB b h
  have ag:∀(C:List Nat),∃X,cH lit (aJ t)=aE lit y++X/\257<=y/\y<=285/\(∀b∈X,b<2)/\kh (C++(X++(D++B))) C.length y=.ok (n,C.length+X.length):=by
   intro C;by_cases h258:n=258
   ·have sB:aJ t=⟨285,0,0⟩:=(by unfold aJ;rw[if_neg nG,if_pos (by omega)]);have TD:y=285:=(by rw[<-hy,sB]);refine⟨[],by rw[sB,TD];unfold cH;simp[aj],by omega,by omega,by simp,?_⟩;rw[TD,h258];rfl
   ·have sB:aJ t=⟨257+eD (n-3) 3,ec (n-3) 3,bW (n-3) 3⟩:=(by unfold aJ;rw[if_neg nG,if_neg (by omega),h0];simp);have Xp:y=257+eD (n-3) 3:=(by rw[<-hy,sB]);have gp:=gH (n-3) 3 5 (by omega) (by decide);refine⟨aj (ec (n-3) 3) (bW (n-3) 3),by rw[sB,Xp];rfl,by omega,by omega,ei _ _,?_⟩;have S9:y<285:=by
     have h9:(5+2)*2 ^ (3-1)=28:=(by decide);omega
    have e1:kh (C++(aj (ec (n-3) 3) (bW (n-3) 3)++(D++B))) C.length y=aU (cY (C++(aj (ec (n-3) 3) (bW (n-3) 3)++(D++B))) C.length (y-257) 4) (λn c'=>.ok (3+n,c')):=(by unfold kh;exact if_pos S9);have e2:=sY C (D++B) (n-3) 3 (by decide);rw[e1,show y-257=eD (n-3) 3 by omega,aF (show cY _ _ _ 4=_ from e2),af,show 3+(n-3)=n by omega]
  obtain⟨X,hX,NU,Ba,Wv,_⟩:=ag [];have rJ:∀(C:List Nat),kh (C++(X++(D++B))) C.length y=.ok (n,C.length+X.length):=λC=>by obtain⟨X',hX',_,_,_,h9⟩:=ag C;have e:X'=X:=List.append_cancel_left (hX'.symm.trans hX);rw[e]at h9;exact h9
  have hb:aw lit dist t=aE lit y++(X++D):=(by unfold aw;rw[if_neg nG,hD,hX,List.append_assoc]);have EL:A++(aw lit dist t++B)=A++(aE lit y++(X++(D++B))):=(by rw[hb];simp[List.append_assoc]);have h9:=nE ho.lit.pf A (X++(D++B)) (λb hb=>by
   rcases List.mem_append.1 hb with h | h
   ·exact Wv b h
   ·exact Yu b h) (y:=y) (last:=285) hs hk Ba
  have e1:A++(aE lit y++(X++(D++B)))=(A++aE lit y)++(X++(D++B)):=(by simp[List.append_assoc]);have l1:(A++aE lit y).length=A.length+key lit y:=(by rw[List.length_append,aq]);have Ib:=rJ (A++aE lit y);rw[<-e1,l1]at Ib;have e2:A++(aE lit y++(X++(D++B)))=(A++aE lit y++X)++(aE dist z++(aj (ec (d-1) 2) (bW (d-1) 2)++B)):=(by rw[Si];simp[List.append_assoc]);have l2:(A++aE lit y++X).length=A.length+key lit y+X.length:=(by rw[List.length_append,l1]);have QE:=nE ho.pf (A++aE lit y++X) (aj (ec (d-1) 2) (bW (d-1) 2)++B) (λb hb=>by
   rcases List.mem_append.1 hb with h | h
   ·exact ei _ _ b h
   ·exact hB b h) (y:=z) (last:=29) R7 SJ uX
  rw[<-e2,l2]at QE;have Rj:mB dist (A++(aE lit y++(X++(D++B)))) (A.length+key lit y+X.length)=.ok (z,A.length+key lit y+X.length+key dist z):=by unfold mB;rw[if_neg (by rw[hu];decide)];exact QE
  have e3:A++(aE lit y++(X++(D++B)))=(A++aE lit y++X++aE dist z)++(aj (ec (d-1) 2) (bW (d-1) 2)++B):=(by rw[Si];simp[List.append_assoc]);have l3:(A++aE lit y++X++aE dist z).length=A.length+key lit y+X.length+key dist z:=(by rw[List.length_append,l2,aq]);have UU:=sY (A++aE lit y++X++aE dist z) B (d-1) 2 (by decide);rw[<-e3,l3,<-SE]at UU;have RZ:f9 (A++(aE lit y++(X++(D++B)))) dist (A.length+key lit y) y=.ok ((n,d),A.length+key lit y+X.length+key dist z+bW (d-1) 2):=(by unfold f9;rw[aF Ib,aF Rj,aF (show cY _ _ _ 2=_ from UU),show 1+(d-1)=d by omega]);have hst:bF (A++(aE lit y++(X++(D++B)))) (.sym true lit dist) A.length=.ok ((.copy n d,.sym true lit dist),A.length+key lit y+X.length+key dist z+bW (d-1) 2):=(by rw[eo,aF h9];unfold jl;rw[if_neg (by omega),if_neg (by omega),aF RZ]);have pK:(aw lit dist t).length=key lit y+X.length+key dist z+bW (d-1) 2:=(by rw[hb,Si];simp only[List.length_append,aq,af];omega);rw[EL,pK,cj (s:=⟨A.length,out,some (.sym true lit dist)⟩) rfl hst];have MQ:mM out t=nj d n out:=(by unfold mM;rw[if_neg nG,h0,IV,Jt];simp);rw[MQ,<-Nat.add_assoc,<-Nat.add_assoc,<-Nat.add_assoc];exact kj (by intro h;cases h) (by simp only[dB];rw[if_neg (by omega),if_neg (by omega)])
structure oa(lit dist:List Nat)(ts:List TK):Prop where
 has:∀t∈ts,Mv lit dist t
 end':256<lit.length/\key lit 256≠0
 byte:∀t∈ts,t.lit<256
theorem xI{t:TK}{said:Nat}(h:pe t said=true)(hs:said<=16384):t.dist<=16384:=by
 rcases fa h with⟨_,h2,_⟩ | ⟨n,d,_,h2,_,_,_,_,h6,_⟩
 ·omega
 ·omega
theorem x9{lit dist:List Nat}(ho:OkL lit dist)(B:List Nat)(hB:∀b∈B,b<2)(most:Nat)(Wt:most≤16384)(ts:List TK)(hk:oa lit dist ts)(A out:List Nat)(n:Nat)(hm:ce most ts out.length=.ok n)(OR:out.length≤most):
  Ends (A++(ts.flatMap (aw lit dist)++(aE lit 256++B))) most ⟨A.length,out,some (.sym true lit dist)⟩ ⟨A.length+(ts.flatMap (aw lit dist)).length+key lit 256,xT ts out,some (.sym true lit dist)⟩ 0:=by
 induction ts generalizing A out with
 | nil=>
  refine .done ?_;have h9:=nE ho.lit.pf A B hB (y:=256) (last:=285) hk.end'.1 hk.end'.2 (by omega);have hst:bF (A++(aE lit 256++B)) (.sym true lit dist) A.length=.ok ((.fin,.sym true lit dist),A.length+key lit 256):=by rw[eo,aF h9];rfl
  show jQ (A++(aE lit 256++B)) most _=_;rw[cj (s:=⟨A.length,out,some (.sym true lit dist)⟩) rfl hst,jy];rfl
 | cons t r ih=>
  unfold ce at hm;split at hm
  ·cases hm
  ·rename_i nI;split at hm
   ·cases hm
   ·rename_i mr;have nI:pe t out.length=true:=(by simpa using nI);have RG:∀b∈r.flatMap (aw lit dist)++(aE lit 256++B),b<2:=λb hb=>by
     rcases List.mem_append.1 hb with h | h
     ·exact mA _ _ _ b h
     ·rcases List.mem_append.1 h with h | h
      ·exact cX _ _ b h
      ·exact hB b h
    have hs:=Fv ho A (r.flatMap (aw lit dist)++(aE lit 256++B)) out RG most t nI (hk.has t (by simp)) (hk.byte t (by simp)) (xI nI (by omega)) (by omega);have hl:=xM nI out;have h9:=ih ⟨λx hx=>hk.has x (by simp[hx]),hk.end',λx hx=>hk.byte x (by simp[hx])⟩ (A++aw lit dist t) (mM out t) (by rw[hl];exact hm) (by rw[hl];omega);have e1:(A++aw lit dist t)++(r.flatMap (aw lit dist)++(aE lit 256++B))=A++(aw lit dist t++(r.flatMap (aw lit dist)++(aE lit 256++B))):=(by simp[List.append_assoc]);rw[e1,List.length_append]at h9;rw[List.flatMap_cons,List.append_assoc,List.length_append];refine .step hs ?_;rw[<-Nat.add_assoc A.length];exact h9
theorem pR{M most:Nat}{ts:List TK}{s n:Nat}(h:ce M ts s=.ok n)(hs:s<=M)(hn:n<=most):ce most ts s=.ok n:=by
 induction ts generalizing s with
 | nil=>exact h
 | cons t r ih=>
  unfold ce at h ⊢;split at h
  ·cases h
  ·rename_i h1;rw[if_neg h1];split at h
   ·cases h
   ·rename_i h2;have:=Fq h (by omega);rw[if_neg (by omega)];exact ih h (by omega)
theorem jB{M:Nat}{ts:List TK}{s n:Nat}(h:ce M ts s=.ok n)(hs:s<=M):∀t∈ts,∃said,said<=M/\pe t said=true:=by
 induction ts generalizing s with
 | nil=>intro t ht;simp at ht
 | cons x r ih=>
  unfold ce at h;split at h
  ·cases h
  ·rename_i h1;split at h
   ·cases h
   ·rename_i h2;intro t ht;rcases List.mem_cons.1 ht with rfl | ht
    ·exact⟨s,hs,by simpa using h1⟩
    ·exact ih h (by omega) t ht
theorem pE{t:TK}{said:Nat}(h:pe t said=true)(hs:said≤16384)(hl:t.lit<256):
  (aJ t).sym<=285/\(aJ t).extra<2 ^ (aJ t).width/\(aJ t).width<=5/\(t.len=0->(aJ t).sym=t.lit/\(aJ t).extra=0/\(aJ t).width=0)/\(t.len≠0->257<=(aJ t).sym/\(aH t).sym<=29/\(aH t).extra<2 ^ (aH t).width/\(aH t).width<=13):=by
 rcases fa h with⟨h0,_,h1⟩ | ⟨n,d,h0,IV,_,h3,h4,h5,h6,h1⟩
 ·have sB:aJ t=⟨t.lit,0,0⟩:=(by unfold aJ;rw[if_pos h0]);rw[sB];exact⟨by simp only;omega,by simp,by simp,λ_=>⟨rfl,rfl,rfl⟩,λh9=>absurd h0 h9⟩
 ·have nG:t.len≠0:=(by omega);have hd:(aH t).sym<=29/\(aH t).extra<2 ^ (aH t).width/\(aH t).width<=13:=by
   have Tc:aH t=⟨eD (d-1) 2,ec (d-1) 2,bW (d-1) 2⟩:=(by unfold aH;rw[IV];simp);rw[Tc];have:=gH (d-1) 2 12 (by omega) (by decide);have hb:=(fZ (d-1) 14).2 (by omega);exact⟨by simp only;omega,BC _ _,by simp only[bW];omega⟩
  refine⟨?_,?_,?_,λh9=>absurd h9 nG,λ_=>⟨?_,hd⟩⟩
  all_goals
   by_cases h258:n=258
   ·have sB:aJ t=⟨285,0,0⟩:=(by unfold aJ;rw[if_neg nG,if_pos (by omega)]);rw[sB];simp
   ·have sB:aJ t=⟨257+eD (n-3) 3,ec (n-3) 3,bW (n-3) 3⟩:=(by unfold aJ;rw[if_neg nG,if_neg (by omega),h0];simp);rw[sB];have:=gH (n-3) 3 5 (by omega) (by decide);have hb:=(fZ (n-3) 8).2 (by omega);have hx:=BC (n-3) 3;simp only[bW]at hx ⊢
    first
     | exact hx
     | omega
theorem Gm:(List.range 288).all (λs=>decide (key fixL s≠0))=true:=by decide +kernel
theorem Dq:(List.range 32).all (λs=>decide (key fixD s≠0))=true:=by decide +kernel
theorem qF:fixL.length=288/\fixD.length=32:=by decide +kernel
theorem rx{ts:List TK}{n:Nat}(h:ce 16384 ts 0=.ok n)(hb:∀t∈ts,t.lit<256):oa fixL fixD ts:=by
 have hk:∀s,s<288->key fixL s≠0:=λs hs=>by simpa using List.all_eq_true.1 Gm s (List.mem_range.2 hs)
 have Vl:∀s,s<32->key fixD s≠0:=λs hs=>by simpa using List.all_eq_true.1 Dq s (List.mem_range.2 hs)
 refine⟨λt ht=>?_,⟨by rw[qF.1];decide,hk 256 (by decide)⟩,hb⟩;obtain⟨said,h1,h2⟩:=jB h (by decide) t ht;have h3:=pE h2 h1 (hb t ht);refine⟨by rw[qF.1];omega,hk _ (by omega),λh9=>?_⟩;have h4:=h3.2.2.2.2 h9;exact⟨by rw[qF.2];omega,Vl _ (by omega)⟩
structure mz(bs X:List Nat):Prop where
 pad:∃k,ae bs=X++List.replicate k 0
 len:bs.length=(X.length+7) / 8
theorem og(k:Nat):∀b∈List.replicate k 0,b<2:=λb hb=>by have:=List.eq_of_mem_replicate hb;omega
def dG(ts:List TK):List Nat:=[1,1,0]++(ts.flatMap (aw fixL fixD)++aE fixL 256)
theorem wU{ts:List TK}{n most:Nat}(h:ce 16384 ts 0=.ok n)(hb:∀t∈ts,t.lit<256)(hn:n<=most)(hm:most<=16384){bs:List Nat}(hp:mz bs (dG ts)):∃t,Ends (ae bs) most ps0 t 0/\t.out=xT ts []/\(t.c+7) / 8=bs.length:=by
 obtain⟨k,hk⟩:=hp.pad;have h9:=x9 fix_ok (List.replicate k 0) (og k) most hm ts (rx h hb) [1,1,0] [] n (pR h (by decide) hn) (Nat.zero_le _);have e:ae bs=[1,1,0]++(ts.flatMap (aw fixL fixD)++(aE fixL 256++List.replicate k 0)):=by rw[hk];unfold dG;simp[List.append_assoc]
 rw[<-e]at h9;refine⟨_,.step (dI (s:=ps0) (b:=.sym true fixL fixD) (c:=3) rfl ?_) h9,rfl,?_⟩
 ·rw[e];have h1:∀r:List Nat,iF (1::1::0::r) 0 1=.ok (1,1):=λr=>by rw[fo (by simp)];rfl
  have h2:∀r:List Nat,iF (1::1::0::r) 1 2=.ok (1,3):=λr=>by rw[fo (by simp)];rfl
  show eJ (1::1::0::_) 0=_;unfold eJ;rw[aF (h1 _),aF (h2 _)];rfl
 ·rw[hp.len];unfold dG;simp only[List.length_append,aq,List.length_cons,List.length_nil];congr 1
def kW(lit dist:List Nat)(many:Nat)(cs:List Nat)(sn:List (Nat×Nat))(ts:List TK):List Nat:=[1,0,1]++(bB lit.length dist.length many cs sn++(ts.flatMap (aw lit dist)++aE lit 256))
theorem EA{lit dist:List Nat}{many:Nat}{cs:List Nat}{sn:List (Nat×Nat)}(ho:OkL lit dist)(hh:l6 lit dist many cs sn){ts:List TK}{n most:Nat}(hk:oa lit dist ts)(h:ce 16384 ts 0=.ok n)(hn:n≤most)(hm:most≤16384){bs:List Nat}(hp:mz bs (kW lit dist many cs sn ts)):
  ∃t,Ends (ae bs) most ps0 t 0/\t.out=xT ts []/\(t.c+7) / 8=bs.length:=by
 obtain⟨k,hkk⟩:=hp.pad;obtain⟨H,hH⟩:∃H,bB lit.length dist.length many cs sn=H:=⟨_,rfl⟩
 have h9:=x9 ho (List.replicate k 0) (og k) most hm ts hk ([1,0,1]++H) [] n (pR h (by decide) hn) (Nat.zero_le _);have e:ae bs=[1,0,1]++(H++(ts.flatMap (aw lit dist)++(aE lit 256++List.replicate k 0))):=by rw[hkk];unfold kW;rw[hH];simp[List.append_assoc]
 have e2:ae bs=([1,0,1]++H)++(ts.flatMap (aw lit dist)++(aE lit 256++List.replicate k 0)):=by rw[e];simp
 rw[<-e2]at h9;have hrd:=yX hh [1,0,1] (ts.flatMap (aw lit dist)++(aE lit 256++List.replicate k 0)) (λb hb=>by
  rcases List.mem_append.1 hb with h | h
  ·exact mA _ _ _ b h
  ·rcases List.mem_append.1 h with h | h
   ·exact cX _ _ b h
   ·exact og k b h)
 rw[hH,<-e]at hrd;have Cl:ep (ae bs) 3=.ok ((lit,dist),H.length):=by
  unfold ep;rw[show(3:Nat)=([1,0,1]:List Nat).length from rfl,hrd];simp only;rw[if_neg];intro hc;rcases hc with hc | hc | hc
  ·exact hk.end'.2 hc
  ·exact hc ho.lit.ok
  ·exact hc.2 (ho.dist hc.1).ok
 have Ja:([1,0,1]++H:List Nat).length=3+H.length:=by simp;omega
 rw[Ja]at h9;refine⟨_,.step (dI (s:=ps0) (b:=.sym true lit dist) (c:=3+H.length) rfl ?_) h9,rfl,?_⟩
 ·have h1:iF (ae bs) 0 1=.ok (1,1):=(by rw[e,fo (by simp)];rfl);have h2:iF (ae bs) 1 2=.ok (2,3):=(by rw[e,fo (by simp)];rfl);show eJ (ae bs) 0=_;unfold eJ;rw[aF h1,aF h2];unfold iW;rw[if_neg (by decide),if_neg (by decide),if_pos rfl];unfold o7;rw[Cl];rfl
 ·rw[hp.len];unfold kW;rw[hH];simp only[List.length_append,aq,List.length_cons,List.length_nil];congr 1;omega
def bE(data:List Nat):List Nat:=[1,data.length % 256,data.length / 256,255-data.length % 256,255-data.length / 256]++data
theorem Dj(most:Nat)(data:List Nat)(hb:∀b∈data,b<256)(A out:List Nat)(h:out.length+data.length≤most):
  Ends (A++ae data) most ⟨A.length,out,some (.raw true data.length)⟩ ⟨A.length+8*data.length,out++data,some (.raw true 0)⟩ 0:=by
 induction data generalizing A out with
 | nil=>
  refine .done ?_;show jQ (A++ae []) most ⟨A.length,out,some (.raw true 0)⟩=_;rw[cj (s:=⟨A.length,out,some (.raw true 0)⟩) (x:=((.fin,.raw true 0),A.length)) rfl rfl,jy];simp[Bk.last]
 | cons x r ih=>
  have hx:=hb x (by simp);have e0:ae (x::r)=aj x 8++ae r:=(by simp[ae]);have MN:aX (A++(aj x 8++ae r)) A.length 8=x:=ed A (ae r) x 8 (by omega);have hst:bF (A++(aj x 8++ae r)) (.raw true (r.length+1)) A.length=.ok ((.byte x,.raw true r.length),A.length+8):=(by rw[ej,fo (by rw[List.length_append,List.length_append,af];omega),MN];rfl);have h9:=ih (λb jD=>hb b (by simp[jD])) (A++aj x 8) (out++[x]) (by simp at h ⊢;omega);rw[List.append_assoc,List.length_append,af]at h9;rw[e0,List.length_cons];refine .step (s':=⟨A.length+8,out++[x],some (.raw true r.length)⟩) ?_ ?_
  ·rw[cj (s:=⟨A.length,out,some (.raw true (r.length+1))⟩) rfl hst];exact kj (by intro h;cases h) (by simp only[dB];rw[if_neg (by simp at h;omega)])
  ·rw[show A.length+8*(r.length+1)=A.length+8+8*r.length by omega];rw[List.append_assoc]at h9;exact h9
theorem uc{data:List Nat}(hb:∀b∈data,b<256){most:Nat}(hl:data.length<=most)(hm:most<=16384):∃t,Ends (ae (bE data)) most ps0 t 0/\t.out=data/\(t.c+7) / 8=(bE data).length:=by
 obtain⟨n,hn⟩:∃n,data.length=n:=⟨_,rfl⟩
 obtain⟨P,hP⟩:∃P,P=aj 1 8++(aj (n % 256) 8++(aj (n / 256) 8++(aj (255-n % 256) 8++aj (255-n / 256) 8))):=⟨_,rfl⟩
 have e:ae (bE data)=P++ae data:=by unfold bE;rw[ks,hn,hP];simp[ae,List.append_assoc]
 have RP:P.length=40:=by rw[hP];simp[af]
 have h9:=Dj most data hb P [] (by simpa using hl);rw[<-e,RP,hn]at h9;have yw:40<=(ae (bE data)).length:=by rw[e,List.length_append,RP];omega
 have PF:∀(A B:List Nat) (x y:Nat),x<256->y<256->aX (A++(aj x 8++(aj y 8++B))) A.length 16=x+256*y:=λA B x y hx hy=>by unfold aX;rw[List.drop_left,<-List.append_assoc (aj x 8),List.take_append_of_le_length (by simp[af]),List.take_of_length_le (by simp[af]),dw,eh,eh,af,Nat.mod_eq_of_lt (by omega),Nat.mod_eq_of_lt (by omega)]
 have KT:n<=16384:=by omega
 have t1:iF (ae (bE data)) 0 1=.ok (1,1):=by rw[fo (by omega),e,hP];rfl
 have t2:iF (ae (bE data)) 1 2=.ok (0,3):=by rw[fo (by omega),e,hP];rfl
 have t3:iF (ae (bE data)) 8 16=.ok (n,24):=by rw[fo (by omega),e,hP];have:=PF (aj 1 8) (aj (255-n % 256) 8++aj (255-n / 256) 8++ae data) (n % 256) (n / 256) (by omega) (by omega);rw[af]at this;rw[show n % 256+256*(n / 256)=n by omega]at this;simp only[List.append_assoc]at this ⊢;rw[this]
 have t4:iF (ae (bE data)) 24 16=.ok (65535-n,40):=by rw[fo (by omega),e,hP];have:=PF (aj 1 8++(aj (n % 256) 8++aj (n / 256) 8)) (ae data) (255-n % 256) (255-n / 256) (by omega) (by omega);simp only[List.length_append,af]at this;rw[show 255-n % 256+256*(255-n / 256)=65535-n by omega]at this;simp only[List.append_assoc]at this ⊢;rw[this]
 refine⟨_,.step (dI (s:=ps0) (b:=.raw true n) (c:=40) rfl ?_) h9,rfl,?_⟩
 ·show eJ (ae (bE data)) 0=_;unfold eJ;rw[aF t1,aF t2];unfold iW;rw[if_pos rfl];unfold mZ;rw[show(3+7) / 8*8=8 from rfl,aF t3,aF t4,if_pos (by omega)];rfl
 ·simp only[bE,List.length_append,List.length_cons,List.length_nil];omega
theorem xZ(s:Nat):dF s<=7:=by
 unfold dF;split
 ·omega
 ·split
  ·omega
  ·split<;>omega
def eW(l:List Nat):List (Nat×Nat):=(ba l).map (λs=>(s.1.toNat,s.2.toNat))
def uK(s:Int×Int):Prop:=0<=s.1/\s.1<=18/\0<=s.2/\s.2.toNat<2 ^ dF s.1.toNat
theorem DU(n:Nat):∀s∈fd n,uK s:=by
 induction n using Nat.strongRecOn with
 | ind n ih=>
  intro s hs;by_cases h:11<=n
  ·rw[gT n h]at hs;rcases List.mem_cons.1 hs with rfl | hs
   ·refine⟨by simp,by simp,by simp only;omega,?_⟩;show(((min n 138-11:Nat):Int)).toNat<2 ^ 7;omega
   ·exact ih _ (by omega) s hs
  ·by_cases h3:3<=n
   ·rw[g6 n (by omega) h3]at hs;have:s=(17,((n-3:Nat):Int)):=(by simpa using hs);subst this;refine⟨by simp,by simp,by simp only;omega,?_⟩;show(((n-3:Nat):Int)).toNat<2 ^ 3;omega
   ·rw[gZ n (by omega)]at hs;have:=List.eq_of_mem_replicate hs;subst this;exact⟨by simp,by simp,by simp,by decide⟩
theorem Dk(v n:Nat)(hv:v<=15):∀s∈gP v n,uK s:=by
 induction n using Nat.strongRecOn with
 | ind n ih=>
  intro s hs;by_cases h:3<=n
  ·rw[jo v n h]at hs;rcases List.mem_cons.1 hs with rfl | hs
   ·refine⟨by simp,by simp,by simp only;omega,?_⟩;show(((min n 6-3:Nat):Int)).toNat<2 ^ 2;omega
   ·exact ih _ (by omega) s hs
  ·rw[jx v n (by omega)]at hs;have:=List.eq_of_mem_replicate hs;subst this;refine⟨by simp,by simp only;omega,by simp,?_⟩;show(0:Int).toNat<2 ^ dF _;exact Nat.two_pow_pos _
theorem Kj(v n:Nat)(hv:v<=15):∀s∈eI v n,uK s:=by
 intro s hs;unfold eI at hs;split at hs
 ·exact DU n s hs
 ·rcases List.mem_cons.1 hs with rfl | hs
  ·refine⟨by simp,by simp only;omega,by simp,?_⟩;show(0:Int).toNat<2 ^ dF _;exact Nat.two_pow_pos _
  ·exact Dk v _ hv s hs
theorem qj(l:List Nat)(h15:∀x∈l,x<=15):∀s∈ba l,uK s:=by
 induction hn:l.length using Nat.strongRecOn generalizing l with
 | ind n ih=>
  cases l with
  | nil=>intro s hs;simp[ba]at hs
  | cons v r=>
   intro s hs;rw[gY]at hs;rcases List.mem_append.1 hs with hs | hs
   ·exact Kj v _ (h15 v (by simp)) s hs
   ·exact ih (r.drop (bJ v r)).length (by simp at hn ⊢;omega) _ (λx hx=>h15 x (List.mem_cons_of_mem _ (List.mem_of_mem_drop hx))) rfl s hs
theorem qi(l:List Nat)(h15:∀x∈l,x<=15):(eW l).map (λs=>((s.1:Int),(s.2:Int)))=ba l:=by
 unfold eW;rw[List.map_map];conv=>rhs;rw[<-List.map_id (ba l)]
 refine List.map_congr_left (λs hs=>?_);have h:=qj l h15 s hs;simp only[Function.comp,id];rw[Int.toNat_of_nonneg h.1,Int.toNat_of_nonneg h.2.2.1]
theorem us(l:List Nat):(eW l).length<=l.length:=by unfold eW;rw[List.length_map];exact sK l
def b7(s:Int):Nat:=if s=16 then 3 else if s=17 then 3 else if s=18 then 11 else 1
def cI(s:Int):Nat:=if s=16 then 2 else if s=17 then 3 else if s=18 then 7 else 0
theorem qO(s:Nat):cI (s:Int)=dF s:=by
 unfold cI dF;by_cases h1:s=16
 ·subst h1;rfl
 ·by_cases h2:s=17
  ·subst h2;rfl
  ·by_cases h3:s=18
   ·subst h3;rfl
   ·rw[if_neg (by omega),if_neg (by omega),if_neg (by omega),if_neg h1,if_neg h2,if_neg h3]
theorem oj(s:Int):cI s<=7:=by
 unfold cI;split
 ·omega
 ·split
  ·omega
  ·split<;>omega
theorem nP(s:Int):1<=b7 s/\b7 s<=11:=by
 unfold b7;split
 ·omega
 ·split
  ·omega
  ·split<;>omega
def nh(s:Int)(l:List Nat):Nat:=if s=16 then j8 l else if s=17\/s=18 then 0 else s.toNat
def i9(s:Int×Int)(said n:Nat):Prop:=0<=s.1/\s.1<=18/\0<=s.2/\s.2<2 ^ cI s.1/\¬(s.1=16/\said=0)/\(said+b7 s.1:Nat)+s.2<=n
theorem Db{l:List Nat}{s:Int×Int}{n:Nat}(h:i9 s l.length n):ez l s n=some (l++List.replicate (b7 s.1+s.2.toNat) (nh s.1 l)):=by
 obtain⟨a,b⟩:=s;obtain⟨h1,h2,h3,h4,h5,h6⟩:=h;simp only at h1 h2 h3 h4 h5 h6 ⊢;refine i7 ?_ (by omega);unfold iC;simp only;by_cases NT:a=16
 ·subst NT;have hw:cI 16=2:=rfl;have hl:b7 16=3:=rfl;rw[hw]at h4;rw[if_neg (by omega),if_pos ⟨rfl,h3,by omega,by omega⟩,hl];simp only[nh,if_true];congr 2;omega
 ·by_cases Px:a=17
  ·subst Px;have hw:cI 17=3:=rfl;have hl:b7 17=3:=rfl;rw[hw]at h4;rw[if_neg (by omega),if_neg (by omega),if_pos ⟨rfl,h3,by omega⟩,hl];simp[nh];omega
  ·by_cases OP:a=18
   ·subst OP;have hw:cI 18=7:=rfl;have hl:b7 18=11:=rfl;rw[hw]at h4;rw[if_neg (by omega),if_neg (by omega),if_neg (by omega),if_pos ⟨rfl,h3,by omega⟩,hl];simp[nh];omega
   ·have hw:cI a=0:=(by unfold cI;rw[if_neg NT,if_neg Px,if_neg OP]);have hl:b7 a=1:=(by unfold b7;rw[if_neg NT,if_neg Px,if_neg OP]);rw[hw]at h4;have hb:b=0:=(by omega);subst hb;rw[if_pos ⟨h1,by omega,rfl⟩,hl];unfold nh;rw[if_neg NT,if_neg (by omega)];rfl
theorem Ho{l:List Nat}{s:Int×Int}{n:Nat}(h:¬i9 s l.length n):ez l s n=none:=by
 cases hw:ez l s n with
 | none=>rfl
 | some m=>
  exfalso;apply h;obtain⟨a,b⟩:=s;unfold ez at hw;split at hw
  ·cases hw
  ·rename_i v k hs;split at hw
   ·cases hw
   ·rename_i mr;unfold iC at hs;simp only at hs;unfold i9;simp only;split at hs
    ·rename_i h1;simp at hs;have lQ:cI a=0:=(by unfold cI;rw[if_neg (by omega),if_neg (by omega),if_neg (by omega)]);have hl:b7 a=1:=(by unfold b7;rw[if_neg (by omega),if_neg (by omega),if_neg (by omega)]);rw[lQ,hl];omega
    ·split at hs
     ·rename_i h1;simp at hs;obtain⟨rfl,h1⟩:=h1;have lQ:cI 16=2:=rfl;have hl:b7 16=3:=rfl;rw[lQ,hl];omega
     ·split at hs
      ·rename_i h1;simp at hs;obtain⟨rfl,h1⟩:=h1;have lQ:cI 17=3:=rfl;have hl:b7 17=3:=rfl;rw[lQ,hl];omega
      ·split at hs
       ·rename_i h1;simp at hs;obtain⟨rfl,h1⟩:=h1;have lQ:cI 18=7:=rfl;have hl:b7 18=11:=rfl;rw[lQ,hl];omega
       ·cases hs
def cV(s:Int)(lo hi n:Nat):List (Int×Int):=
 if 1<=lo/\lo<=hi/\lo<=n then(s,((min n hi-lo:Nat):Int))::cV s lo hi (n-min n hi)else []
termination_by n
decreasing_by omega
def bQ(lo hi n:Nat):Nat:=
 if 1<=lo/\lo<=hi/\lo<=n then bQ lo hi (n-min n hi)else n
termination_by n
decreasing_by omega
theorem fv{s:Int}{lo hi n:Nat}(h1:1<=lo)(h2:lo<=hi)(h3:lo<=n):cV s lo hi n=(s,((min n hi-lo:Nat):Int))::cV s lo hi (n-min n hi):=by rw[cV,if_pos ⟨h1,h2,h3⟩]
theorem gu{s:Int}{lo hi n:Nat}(h3:n<lo):cV s lo hi n=[]:=by rw[cV,if_neg (by omega)]
theorem fq{lo hi n:Nat}(h1:1<=lo)(h2:lo<=hi)(h3:lo<=n):bQ lo hi n=bQ lo hi (n-min n hi):=by rw[bQ,if_pos ⟨h1,h2,h3⟩]
theorem gE{lo hi n:Nat}(h3:n<lo):bQ lo hi n=n:=by rw[bQ,if_neg (by omega)]
theorem pH(s:Int)(lo hi n:Nat)(h1:1<=lo)(h2:lo<=hi):(cV s lo hi n).length+bQ lo hi n<=n/\bQ lo hi n<lo:=by
 induction n using Nat.strongRecOn with
 | ind n ih=>
  by_cases h:lo<=n
  ·have:=ih (n-min n hi) (by omega);rw[fv h1 h2 h,fq h1 h2 h,List.length_cons];omega
  ·rw[gu (by omega),gE (by omega)];simp;omega
theorem vy(n:Nat):fd n=cV 18 11 138 n++(cV 17 3 10 (bQ 11 138 n)++List.replicate (bQ 3 10 (bQ 11 138 n)) (0,0)):=by
 induction n using Nat.strongRecOn with
 | ind n ih=>
  by_cases h:11<=n
  ·rw[gT n h,fv (by omega) (by omega) h,fq (by omega) (by omega) h,ih (n-min n 138) (by omega)];rfl
  ·rw[gu (n:=n) (by omega),gE (n:=n) (by omega)];by_cases h3:3<=n
   ·rw[g6 n (by omega) h3,fv (by omega) (by omega) h3,fq (by omega) (by omega) h3,show min n 10=n by omega,Nat.sub_self,gu (by omega),gE (by omega)];rfl
   ·rw[gZ n (by omega),gu (by omega),gE (by omega)];rfl
theorem xS(v n:Nat):gP v n=cV 16 3 6 n++List.replicate (bQ 3 6 n) ((v:Int),0):=by
 induction n using Nat.strongRecOn with
 | ind n ih=>
  by_cases h:3<=n
  ·rw[jo v n h,fv (by omega) (by omega) h,fq (by omega) (by omega) h,ih (n-min n 6) (by omega)];rfl
  ·rw[jx v n (by omega),gu (by omega),gE (by omega)];rfl
def dL(cs:List Nat):Nat->Nat
 | 0=>0
 | k+1=>if 4<k+1/\cs.getD (ord.getD k 0) 0=0 then dL cs k else k+1
theorem Fr(cs:List Nat)(k:Nat)(h:4<=k):4<=dL cs k/\dL cs k<=k:=by
 induction k with
 | zero=>omega
 | succ k ih=>
  rw[dL];split
  ·have:=ih (by omega);omega
  ·omega
theorem zN(cs:List Nat)(k:Nat):∀j,dL cs k<=j->j<k->cs.getD (ord.getD j 0) 0=0:=by
 induction k with
 | zero=>intro j _ h;omega
 | succ k ih=>
  intro j h1 h2;rw[dL]at h1;split at h1
  ·rename_i h;by_cases e:j=k
   ·subst e;exact h.2
   ·exact ih j h1 (by omega)
  ·omega
end Go.Proofs.YtkhagfgineifhaaGreatDoor
namespace Go.Proofs.YtkhagfgineifhaaGreatDoor
open Go.RowKit
def AP(n lo hi:Int):Bool:=decide (lo<=n) && decide (n<=hi)
theorem gL(w:World)(n lo hi:Int):
  Calls Tryz.prog 124 #[.int .i64 n,.int .i64 lo,.int .i64 hi] w λe w'=>e=.returned (.bool (AP n lo hi))/\w'=w:=by
 go_enter Tryz.func124,Tryz.ntmps124;by_cases h:lo<=n
 ·go_wp2_with fail;go_ret;exact⟨by simp only[AP,h,decide_true,Bool.true_and];rfl,rfl⟩
 ·go_wp2_with fail;go_ret;have hd:decide (lo<=n)=false:=(by simp;omega);exact⟨by simp only[AP,hd,Bool.false_and];rfl,rfl⟩
theorem iQ(w:World)(s:Int):
  Calls Tryz.prog 158 #[.int .i64 s] w λe w'=>e=.returned (.tuple #[.int .i64 (b7 s:Nat),.int .i64 (cI s:Nat)])/\w'=w:=by
 by_cases sA:s=16
 ·subst sA;go_enter Tryz.func158,Tryz.ntmps158;go_wp2_with fail;go_ret2;exact⟨rfl,rfl⟩
 ·by_cases Mz:s=17
  ·subst Mz;go_enter Tryz.func158,Tryz.ntmps158;go_wp2_with fail;go_ret2;exact⟨rfl,rfl⟩
  ·by_cases Co:s=18
   ·subst Co;go_enter Tryz.func158,Tryz.ntmps158;go_wp2_with fail;go_ret2;exact⟨rfl,rfl⟩
   ·have NT:(s==16)=false:=(by simp;omega);have Px:(s==17)=false:=(by simp;omega);have OP:(s==18)=false:=(by simp;omega);have HE:Hid (b7 s=1/\cI s=0):=hid ⟨by unfold b7;rw[if_neg sA,if_neg Mz,if_neg Co],by unfold cI;rw[if_neg sA,if_neg Mz,if_neg Co]⟩;clear sA Mz Co;go_enter Tryz.func158,Tryz.ntmps158;go_wp2_with fail;go_ret2;exact⟨by rw[HE.out.1,HE.out.2];rfl,rfl⟩
theorem t8(n:Nat)(h:n<=7):(2:Nat) ^ n<=128:=by have:=Nat.pow_le_pow_right (show 0<2 by decide) h;simpa using this
def MayR(e:Ending)(s:Int×Int)(said n:Nat):Prop:=∃r:Bool,e=.returned (.bool r)/\(r=true↔i9 s said n)
theorem MayR.no{e:Ending}{s:Int×Int}{said n:Nat}(h:MayR e s said n)(hm:¬i9 s said n):e=.returned (.bool false):=by
 obtain⟨r,rfl,hr⟩:=h;cases r with
 | false=>rfl
 | true=>exact absurd (hr.1 rfl) hm
theorem MayR.yes{e:Ending}{s:Int×Int}{said n:Nat}(h:MayR e s said n)(hm:i9 s said n):e=.returned (.bool true):=by obtain⟨r,rfl,hr⟩:=h;rw[hr.2 hm]
theorem ud(w:World)(a b:Int)(said n:Nat)(hs:said≤1000000):
  Calls Tryz.prog 210 #[.agg #[.int .i64 a,.int .i64 b],.int .i64 (said:Nat),.int .i64 (n:Nat)] w λe w'=>MayR e (a,b) said n/\Same w w':=by
 have Cy:=oj a;have kY:=nP a;have HSH:=iQ (w.alloc (.cells #[.int .i64 a,.int .i64 b] 226)) a;obtain⟨wd,my⟩:∃x,x=cI a:=⟨_,rfl⟩
 obtain⟨ls,yw⟩:∃x,x=b7 a:=⟨_,rfl⟩
 rw[<-my]at HSH Cy;rw[<-yw]at HSH kY;have HM:Hid (i9 (a,b) said n↔(0<=a/\a<=18/\0<=b/\b<2 ^ wd/\¬(a=16/\said=0)/\(said+ls:Nat)+b<=n)):=hid (by rw[my,yw];exact Iff.rfl);clear my yw;have A3:=t8 wd Cy;have yO:0<2 ^ wd:=Nat.two_pow_pos wd;obtain⟨pw,ml⟩:∃x,x=2 ^ wd:=⟨_,rfl⟩
 obtain⟨pm,VN⟩:∃x:Nat,x=pw-1:=⟨_,rfl⟩
 rw[<-ml]at A3 yO;have HM2:Hid (i9 (a,b) said n↔(AP a 0 18=true/\AP b 0 (pm:Int)=true/\¬(a=16/\said=0)/\(said+ls:Nat)+b<=n)):=hid (by
  rw[HM.out];have:(2:Int) ^ wd=(pw:Int):=(by rw[ml];simp);rw[this];simp only[AP,Bool.and_eq_true,decide_eq_true_eq];omega)
 have I1:wrap64 ((2:Int) ^ wd)=(pw:Int):=by have:(2:Int) ^ wd=(pw:Int):=(by rw[ml];simp);rw[this];unfold wrap64;omega
 have jE:(pw:Int)-1=(pm:Int):=by omega
 have HW1:=λq=>gL ((w.alloc (.cells #[.int .i64 a,.int .i64 b] 226)).drewN q) a 0 18
 have HW2:=λq=>gL ((w.alloc (.cells #[.int .i64 a,.int .i64 b] 226)).drewN q) b 0 (pm:Int)
 clear HM ml;have Wi:pm<=127:=by omega
 clear VN;go_enter Tryz.func210,Tryz.ntmps210;go_wp2_with fail;refine HSH.mono ?_;rintro e w1 ⟨rfl,rfl⟩;clear HSH;have HK0:Hid (Same w (w.alloc (.cells #[.int .i64 a,.int .i64 b] 226))):=hid ((Kept.refl _ w).alloc _);have cB:(w.alloc (.cells #[.int .i64 a,.int .i64 b] 226)).cell? ⟨w.heap.size,1,none⟩=some (.int .i64 b):=by simp
 have cA:(w.alloc (.cells #[.int .i64 a,.int .i64 b] 226)).cell? ⟨w.heap.size,0,none⟩=some (.int .i64 a):=by simp
 generalize w.alloc (.cells #[.int .i64 a,.int .i64 b] 226)=W at *
 cases h1:AP a 0 18 with
 | false=>
  have HE:Hid (¬i9 (a,b) said n):=hid (λh=>by have:=(HM2.out.1 h).1;rw[h1]at this;cases this);rw[h1]at HW1;clear h1;go_wp2_with fail;go_quiet ((go_at_call 124;exact Calls.quiet_of_same (HW1 _)));go_wp2_with fail;go_ret;exact⟨⟨false,rfl,by simp[HE.out]⟩,HK0.out.drewN _⟩
 | true=>
  rw[h1]at HW1;cases h2:AP b 0 (pm:Int) with
  | false=>
   have HE:Hid (¬i9 (a,b) said n):=hid (λh=>by have:=(HM2.out.1 h).2.1;rw[h2]at this;cases this);rw[h2]at HW2;clear h1 h2;go_wp2_with fail;go_quiet ((go_at_call 124;first | (with_reducible exact Calls.quiet_of_same (HW1 _)) | (with_reducible exact Calls.quiet_of_same (HW2 _))));go_wp2_with fail;go_ret;exact⟨⟨false,rfl,by simp[HE.out]⟩,HK0.out.drewN _⟩
  | true=>
   rw[h2]at HW2;have hb:0<=b/\b<=(pm:Int):=(by simpa[AP]using h2);have HM3:Hid (i9 (a,b) said n↔(¬(a=16/\said=0)/\(said+ls:Nat)+b<=n)):=hid (by rw[HM2.out,h1,h2];simp);obtain⟨bn,rfl⟩:∃x:Nat,b=(x:Int):=⟨b.toNat,by omega⟩
   have YB:bn<=127:=(by omega);obtain⟨t,ht⟩:∃t,t=said+ls:=⟨_,rfl⟩
   have htI:(said:Int)+(ls:Int)=(t:Int):=(by omega);have S8:IntKind.i64.wrap (t:Int)=(t:Int):=(by rw[IntKind.wrap_i64];omega);obtain⟨u,hu⟩:∃u,u=t+bn:=⟨_,rfl⟩
   have YT:(t:Int)+(bn:Int)=(u:Int):=(by omega);have Y9:IntKind.i64.wrap (u:Int)=(u:Int):=(by rw[IntKind.wrap_i64];omega);have HM4:Hid (i9 (a,(bn:Int)) said n↔(¬(a=16/\said=0)/\u<=n)):=hid (by
    rw[HM3.out];have:((said+ls:Nat):Int)+(bn:Int)<=(n:Int)↔u<=n:=(by omega);rw[this])
   clear h1 h2 hb HM3 HM2 ht hu;go_wp2_with fail;go_quiet ((go_at_call 124;first | (with_reducible exact Calls.quiet_of_same (HW1 _)) | (with_reducible exact Calls.quiet_of_same (HW2 _))));by_cases sA:a=16
   ·subst sA;by_cases h0:said=0
    ·have HE:Hid (¬i9 (16,(bn:Int)) 0 n):=hid (λh=>(HM4.out.1 (by rw[h0];exact h)).1 ⟨rfl,h0⟩);have SF:((said:Int)==0)=true:=(by simp[h0]);go_wp2_with fail;go_ret;exact⟨⟨false,rfl,by simp[HE.out]⟩,HK0.out.drewN _⟩
    ·have SF:((said:Int)==0)=false:=(by simp[h0]);have HE:Hid (i9 (16,(bn:Int)) said n↔u<=n):=hid (by rw[HM4.out];simp[h0]);clear h0;go_wp2_with fail;go_ret;exact⟨⟨_,rfl,by rw[HE.out];simp⟩,HK0.out.drewN _⟩
   ·have X8:(a==16)=false:=(by simp[sA]);have HE:Hid (i9 (a,(bn:Int)) said n↔u<=n):=hid (by rw[HM4.out];simp[sA]);clear sA;go_wp2_with fail;go_ret;exact⟨⟨_,rfl,by rw[HE.out];simp⟩,HK0.out.drewN _⟩
theorem Ka(w:World)(B:Nat)(v:Value)(l:List Nat)(a b:Int)(n:Nat)(hr:NRow B w v l)(hB:B≤w.heap.size)(hl:l.length≤1000000)(hm:i9 (a,b) l.length n):
  Calls Tryz.prog 211 #[v,.agg #[.int .i64 a,.int .i64 b]] w λe w'=>∃v',e=.returned v'/\NRow B w' v' (l++List.replicate (b7 a+b.toNat) (nh a l))/\Kept (jd B) w w':=by
 obtain⟨ao,cap,rfl,Lk,_⟩:=hr.shape;obtain⟨h1,h2,h3,h4,h5,h6⟩:=hm;simp only at h1 h2 h3 h4 h5 h6;have Cy:=oj a;have kY:=nP a;have A3:=t8 _ Cy;have YA:b<128:=by have:((2 ^ cI a:Nat):Int)=2 ^ cI a:=(by simp);omega
 obtain⟨bn,rfl⟩:∃x:Nat,b=(x:Int):=⟨b.toNat,by omega⟩
 obtain⟨an,rfl⟩:∃x:Nat,a=(x:Int):=⟨a.toNat,by omega⟩
 obtain⟨ls,yw⟩:∃x,x=b7 (an:Int):=⟨_,rfl⟩
 have HSH:=iQ (w.alloc (.cells #[.int .i64 (an:Int),.int .i64 (bn:Int)] 226)) (an:Int);rw[<-yw]at HSH kY ⊢;rw[Int.toNat_natCast];obtain⟨k,hk⟩:∃k,k=ls+bn:=⟨_,rfl⟩
 have KF:(ls:Int)+(bn:Int)=(k:Int):=by omega
 have uQ:IntKind.i64.wrap (k:Int)=(k:Int):=by rw[IntKind.wrap_i64];omega
 rw[<-hk];have UC:k<=138:=by omega
 obtain⟨x,hx⟩:∃x,x=nh (an:Int) l:=⟨_,rfl⟩
 rw[<-hx];have HR:Hid (NRow B (w.alloc (.cells #[.int .i64 (an:Int),.int .i64 (bn:Int)] 226)) (.slice ao l.length cap) l):=hid (World.ownsRow.alloc hr _);have HK0:Hid (Kept (jd B) w (w.alloc (.cells #[.int .i64 (an:Int),.int .i64 (bn:Int)] 226))):=hid ((Kept.refl _ w).alloc _);have cB:(w.alloc (.cells #[.int .i64 (an:Int),.int .i64 (bn:Int)] 226)).cell? ⟨w.heap.size,1,none⟩=some (.int .i64 (bn:Int)):=by simp
 have cA:(w.alloc (.cells #[.int .i64 (an:Int),.int .i64 (bn:Int)] 226)).cell? ⟨w.heap.size,0,none⟩=some (.int .i64 (an:Int)):=by simp
 have dA:B<=(w.alloc (.cells #[.int .i64 (an:Int),.int .i64 (bn:Int)] 226)).heap.size:=by simp;omega
 have O0:∀W:World,W=w.alloc (.cells #[.int .i64 (an:Int),.int .i64 (bn:Int)] 226)->True:=λ_ _=>trivial
 clear O0;obtain⟨L,hL⟩:∃L,L=l.length:=⟨_,rfl⟩
 have HL:Hid (L=l.length):=hL;have Zg:Hid (l≠[]->∃g,ao=some ⟨g,0,none⟩):=Lk;have H5:Hid (¬((an:Int)=16/\l.length=0)):=h5;have HX:Hid (x=nh (an:Int) l):=hx;rw[<-hL]at HR hl ⊢;clear hr yw hk hx hL h3 h4 h5 h6 Cy A3 YA Lk h1;go_enter Tryz.func211,Tryz.ntmps211;go_wp2_with fail;refine HSH.mono ?_;rintro e w1 ⟨rfl,hw1⟩;subst hw1;clear HSH;generalize w.alloc (.cells #[.int .i64 (an:Int),.int .i64 (bn:Int)] 226)=W at *
 by_cases sA:an=16
 ·subst sA;have W7:0<L:=(by have:=HL.out;have:=H5.out;omega);have Sv:0<l.length:=(by have:=HL.out;omega);obtain⟨b2,o2,eS,e2,_,_,c2⟩:=(SrcE.ofRow HR.out).get (l.length-1) (by omega);simp only[Value.slice.injEq]at e2;obtain⟨rfl,jC,rfl⟩:=e2;clear jC;have mr:l[l.length-1]=x:=(by rw[HX.out];simp[nh,j8,List.getD,show l.length-1<l.length by omega]);rw[mr,<-HL.out]at c2;unfold am at c2;obtain⟨m,hm⟩:∃m,m=L-1:=⟨_,rfl⟩
  rw[<-hm]at c2;have Tj:(L:Int)-1=(m:Int):=(by omega);have Qu:m<L:=(by omega);have YK:IntKind.i64.wrap (m:Int)=(m:Int):=(by rw[IntKind.wrap_i64];omega);clear hm mr Sv W7;go_wp2_with fail;go_loopg [0,32] k (λq zv zi wr=>∃(i:Nat),k-i<=q/\i<=k/\zi=.int .i64 (i:Nat)/\Hid (NRow B wr zv (l++List.replicate i x))/\Hid (Kept (jd B) w wr))
  case atStart=>exact⟨0,by omega,by omega,rfl,hid (by simpa using HR.out),HK0⟩
  case round=>
   clear HR HK0 cA cB;obtain⟨i,hq,hi,rfl,HV,HK⟩:=hrel;by_cases hlt:i<k
   ·have lr:=HK.out.size;have HLN:Hid ((l++List.replicate i x).length+[x].length<=1000000000):=hid (by have:=HL.out;simp;omega);go_wp2_with (at_builtin;refine aY _ am dK B 143 3 (am 0) 8 Tryz.underlying143 Tryz.infoN rfl (by decide) rfl (.tmp 34) (.tmp 36) rfl u0 (l++List.replicate i x) rfl (World.ownsRow.alloc HV.out _) ⟨wr.heap.size,0,none⟩ 1 1 [x] rfl rfl (bA _ _ _) HLN.out (by simp;omega) ?_;intro v5 w5 hr5 ef);have HV5:Hid (NRow B w5 v5 (l++List.replicate (i+1) x)):=hid (by rw[List.replicate_succ',<-List.append_assoc];exact hr5);have HK5:Hid (Kept (jd B) w w5):=hid ((HK.out.alloc _).grown ef (λj e=>.inl (HV.out.ge e)));clear hr5 ef;go_wp2_with fail;go_roundg (gk-1)
    case measure=>omega
    case rel=>exact⟨i+1,by omega,by omega,by go_num,HV5,HK5⟩
   ·have Ik:i=k:=(by omega);subst Ik;go_wp2_with fail;go_ret;exact⟨_,rfl,HV.out,HK.out⟩
 ·have NT:((an:Int)==16)=false:=(by simp;omega);by_cases Mz:an=17
  ·subst Mz;have yH:x=0:=(by rw[HX.out];simp[nh]);subst yH;go_wp2_with fail;go_loopg [0,32] k (λq zv zi wr=>∃(i:Nat),k-i<=q/\i<=k/\zi=.int .i64 (i:Nat)/\Hid (NRow B wr zv (l++List.replicate i 0))/\Hid (Kept (jd B) w wr))
   case atStart=>exact⟨0,by omega,by omega,rfl,hid (by simpa using HR.out),HK0⟩
   case round=>
    clear HR HK0 cA cB;obtain⟨i,hq,hi,rfl,HV,HK⟩:=hrel;by_cases hlt:i<k
    ·have lr:=HK.out.size;have HLN:Hid ((l++List.replicate i 0).length+[0].length<=1000000000):=hid (by have:=HL.out;simp;omega);go_wp2_with (at_builtin;refine aY _ am dK B 143 3 (am 0) 8 Tryz.underlying143 Tryz.infoN rfl (by decide) rfl (.tmp 34) (.tmp 36) rfl u0 (l++List.replicate i 0) rfl (World.ownsRow.alloc HV.out _) ⟨wr.heap.size,0,none⟩ 1 1 [0] rfl rfl (bA _ _ _) HLN.out (by simp;omega) ?_;intro v5 w5 hr5 ef);have HV5:Hid (NRow B w5 v5 (l++List.replicate (i+1) 0)):=hid (by rw[List.replicate_succ',<-List.append_assoc];exact hr5);have HK5:Hid (Kept (jd B) w w5):=hid ((HK.out.alloc _).grown ef (λj e=>.inl (HV.out.ge e)));clear hr5 ef;go_wp2_with fail;go_roundg (gk-1)
     case measure=>omega
     case rel=>exact⟨i+1,by omega,by omega,by go_num,HV5,HK5⟩
    ·have Ik:i=k:=(by omega);subst Ik;go_wp2_with fail;go_ret;exact⟨_,rfl,HV.out,HK.out⟩
  ·have Px:((an:Int)==17)=false:=(by simp;omega);by_cases Co:an=18
   ·subst Co;have yH:x=0:=(by rw[HX.out];simp[nh]);subst yH;go_wp2_with fail;go_loopg [0,32] k (λq zv zi wr=>∃(i:Nat),k-i<=q/\i<=k/\zi=.int .i64 (i:Nat)/\Hid (NRow B wr zv (l++List.replicate i 0))/\Hid (Kept (jd B) w wr))
    case atStart=>exact⟨0,by omega,by omega,rfl,hid (by simpa using HR.out),HK0⟩
    case round=>
     clear HR HK0 cA cB;obtain⟨i,hq,hi,rfl,HV,HK⟩:=hrel;by_cases hlt:i<k
     ·have lr:=HK.out.size;have HLN:Hid ((l++List.replicate i 0).length+[0].length<=1000000000):=hid (by have:=HL.out;simp;omega);go_wp2_with (at_builtin;refine aY _ am dK B 143 3 (am 0) 8 Tryz.underlying143 Tryz.infoN rfl (by decide) rfl (.tmp 34) (.tmp 36) rfl u0 (l++List.replicate i 0) rfl (World.ownsRow.alloc HV.out _) ⟨wr.heap.size,0,none⟩ 1 1 [0] rfl rfl (bA _ _ _) HLN.out (by simp;omega) ?_;intro v5 w5 hr5 ef);have HV5:Hid (NRow B w5 v5 (l++List.replicate (i+1) 0)):=hid (by rw[List.replicate_succ',<-List.append_assoc];exact hr5);have HK5:Hid (Kept (jd B) w w5):=hid ((HK.out.alloc _).grown ef (λj e=>.inl (HV.out.ge e)));clear hr5 ef;go_wp2_with fail;go_roundg (gk-1)
      case measure=>omega
      case rel=>exact⟨i+1,by omega,by omega,by go_num,HV5,HK5⟩
     ·have Ik:i=k:=(by omega);subst Ik;go_wp2_with fail;go_ret;exact⟨_,rfl,HV.out,HK.out⟩
   ·have OP:((an:Int)==18)=false:=(by simp;omega);have yH:x=an:=(by rw[HX.out];unfold nh;rw[if_neg (by omega),if_neg (by omega)];simp);clear sA Mz Co;subst yH;go_wp2_with fail;go_loopg [0,32] k (λq zv zi wr=>∃(i:Nat),k-i<=q/\i<=k/\zi=.int .i64 (i:Nat)/\Hid (NRow B wr zv (l++List.replicate i x))/\Hid (Kept (jd B) w wr))
    case atStart=>exact⟨0,by omega,by omega,rfl,hid (by simpa using HR.out),HK0⟩
    case round=>
     clear HR HK0 cA cB;obtain⟨i,hq,hi,rfl,HV,HK⟩:=hrel;by_cases hlt:i<k
     ·have lr:=HK.out.size;have HLN:Hid ((l++List.replicate i x).length+[x].length<=1000000000):=hid (by have:=HL.out;simp;omega);go_wp2_with (at_builtin;refine aY _ am dK B 143 3 (am 0) 8 Tryz.underlying143 Tryz.infoN rfl (by decide) rfl (.tmp 34) (.tmp 36) rfl u0 (l++List.replicate i x) rfl (World.ownsRow.alloc HV.out _) ⟨wr.heap.size,0,none⟩ 1 1 [x] rfl rfl (bA _ _ _) HLN.out (by simp;omega) ?_;intro v5 w5 hr5 ef);have HV5:Hid (NRow B w5 v5 (l++List.replicate (i+1) x)):=hid (by rw[List.replicate_succ',<-List.append_assoc];exact hr5);have HK5:Hid (Kept (jd B) w w5):=hid ((HK.out.alloc _).grown ef (λj e=>.inl (HV.out.ge e)));clear hr5 ef;go_wp2_with fail;go_roundg (gk-1)
      case measure=>omega
      case rel=>exact⟨i+1,by omega,by omega,by go_num,HV5,HK5⟩
     ·have Ik:i=k:=(by omega);subst Ik;go_wp2_with fail;go_ret;exact⟨_,rfl,HV.out,HK.out⟩
theorem Ky(z:Int):(!AP z 0 15)=d6 0 15 z:=by
 unfold AP d6;by_cases h1:0<=z
 ·by_cases h2:z<=15
  ·have h3:¬z<0:=(by omega);have h4:¬15<z:=(by omega);simp[h1,h2,h3,h4]
  ·have h3:¬z<0:=(by omega);have h4:15<z:=(by omega);simp[h1,h2,h3,h4]
 ·have h3:z<0:=(by omega);simp[h1,h3]
theorem Aa(w:World)(z:Int):
  Calls Tryz.prog 154 #[.int .i64 z] w λe w'=>e=.returned (.bool (d6 0 15 z))/\w'=w:=by
 have HW:=gL w z 0 15;go_enter Tryz.func154,Tryz.ntmps154;go_wp2_with fail;refine HW.mono ?_;rintro e w1 ⟨rfl,hw1⟩;subst hw1;clear HW;go_wp2_with fail;go_ret;exact⟨by rw[<-Ky];rfl,rfl⟩
abbrev B6:Value:=.func (.func 154) #[] #[]
theorem Ab(w:World)(v:Value)(I:Nat→Prop)(zs:List Int)(hs:SrcE bI w I v zs)(hn:zs.length≤10000000):
  Calls Tryz.prog 184 #[v,B6] w λe w'=>(∃z:Int,e=.returned (.int .i64 z)/\decide (0<=z)=zs.any (d6 0 15))/\w'=w:=by
 obtain⟨ao,cap,rfl,ic,gh⟩:=id hs;clear ic gh;have HS:Hid (SrcE bI w I (.slice ao zs.length cap) zs):=hs;clear hs;go_enter Tryz.func184,Tryz.ntmps184;go_wp2_with fail;go_loopg [8] zs.length (λk z wr=>∃i:Nat,zs.length-i<=k/\i<=zs.length/\z=.int .i64 (i:Nat)/\Hid ((zs.take i).any (d6 0 15)=false)/\wr=w)
 case atStart=>exact⟨0,by omega,by omega,rfl,hid (by simp),rfl⟩
 case round=>
  obtain⟨i,hk,yr,rfl,HF,hw⟩:=hrel;subst hw;by_cases hlt:i<zs.length
  ·obtain⟨b,o,eS,e,_,_,hc⟩:=HS.out.get i hlt;simp only[Value.slice.injEq]at e;obtain⟨rfl,jC,rfl⟩:=e;clear jC;obtain⟨x,hx⟩:∃x,x=zs[i]:=⟨_,rfl⟩
   rw[<-hx]at hc;unfold bI at hc;have HX:Hid (x=zs[i]):=hx;have HC:=Aa wr x;clear hx;cases hb:d6 0 15 x with
   | true=>
    rw[hb]at HC;have HB:Hid (d6 0 15 x=true):=hb;clear hb;go_wp2_with fail;refine HC.mono ?_;rintro e w2 ⟨rfl,hw2⟩;subst hw2;clear HC;go_wp2_with fail;go_ret;refine⟨⟨_,rfl,?_⟩,rfl⟩;have h1:zs.any (d6 0 15)=true:=List.any_eq_true.2 ⟨x,by rw[HX.out];exact List.getElem_mem _,HB.out⟩;rw[h1];simp
   | false=>
    rw[hb]at HC;have HB:Hid (d6 0 15 x=false):=hb;clear hb;go_wp2_with fail;refine HC.mono ?_;rintro e w2 ⟨rfl,hw2⟩;subst hw2;clear HC;go_wp2_with fail;go_roundg (gk-1)
    case measure=>omega
    case rel=>
     refine⟨i+1,by omega,by omega,by go_num,hid ?_,rfl⟩;rw[List.take_succ_eq_append_getElem hlt,List.any_append,HF.out,<-HX.out];simp[HB.out]
  ·have:i=zs.length:=(by omega);subst this;go_wp2_with fail;go_ret;refine⟨⟨_,rfl,?_⟩,rfl⟩;have h:=HF.out;rw[List.take_of_length_le (Nat.le_refl _)]at h;rw[h];simp
theorem lz(w:World)(v:Value)(I:Nat→Prop)(zs:List Int)(hs:SrcE bI w I v zs)(hn:zs.length≤10000000):
  Calls Tryz.prog 155 #[v,B6] w λe w'=>e=.returned (.bool (!cG zs))/\w'=w:=by
 have H:=Ab w v I zs hs hn;clear hs;go_enter Tryz.func155,Tryz.ntmps155;go_wp2_with fail;refine H.mono ?_;rintro e w2 ⟨⟨z,rfl,hz⟩,hw⟩;subst hw;have HZ:Hid (decide (0<=z)=zs.any (d6 0 15)):=hz;clear hz H;go_wp2_with fail;go_ret;refine⟨?_,rfl⟩;unfold cG;rw[Bool.not_not,<-HZ.out];rfl
theorem AW(w:World)(q b o n cap x y:Nat)(hq:w.cell? ⟨q,0,none⟩=some (.slice (some ⟨b,o,none⟩) n cap))(hn:0<n)(hb:w.cell? ⟨b,o,none⟩=some (.int .i64 (y:Nat))):
  Calls Tryz.prog 185 #[.int .i64 (x:Nat),.pointer (some ⟨q,0,none⟩)] w λe w'=>e=.returned (.bool (!decide (x=y)))/\w'=w:=by
 go_enter Tryz.func185,Tryz.ntmps185;by_cases h:x=y
 ·subst h;go_wp2_with fail;go_ret;exact⟨by simp,rfl⟩
 ·have bm:((x:Int)==(y:Int))=false:=(by simp;omega);have HH:Hid ((!decide (x=y))=true/\¬(x:Int)=(y:Int)):=hid ⟨by simp[h],by omega⟩;clear h;go_wp2_with fail;go_ret;exact⟨by rw[HH.out.1];simp[HH.out.2],rfl⟩
abbrev Bv(q:Nat):Value:=.func (.func 185) #[] #[.pointer (some ⟨q,0,none⟩)]
theorem y7(w:World)(b o cap q y:Nat)(I:Nat→Prop)(ns:List Nat)(hs:SrcE am w I (.slice (some ⟨b,o,none⟩) ns.length cap) ns)(hn:ns.length≤1000000)(h0:0<ns.length)(hy:ns[0]=y)
  (hq:w.cell? ⟨q,0,none⟩=some (.slice (some ⟨b,o,none⟩) ns.length cap)):
  Calls Tryz.prog 184 #[.slice (some ⟨b,o,none⟩) ns.length cap,Bv q] w λe w'=>((e=.returned (.int .i64 (-1))/\∀j (_:j<ns.length),ns[j]=y)\/∃i,e=.returned (.int .i64 (i:Nat))/\∃h:i<ns.length,ns[i]≠y/\∀j (_:j<ns.length),j<i->ns[j]=y)/\w'=w:=by
 have c0:w.cell? ⟨b,o,none⟩=some (.int .i64 (y:Nat)):=by obtain⟨b',o',cap',e,_,_,c⟩:=hs.get 0 h0;simp only[Value.slice.injEq,Option.some.injEq,Addr.mk.injEq,and_true]at e;obtain⟨⟨rfl,rfl⟩,_,_⟩:=e;rw[hy]at c;exact c
 have HS:Hid (SrcE am w I (.slice (some ⟨b,o,none⟩) ns.length cap) ns):=hs;clear hs hy;go_enter Tryz.func184,Tryz.ntmps184;go_wp2_with fail;go_loopg [8] ns.length (λk z wr=>∃i:Nat,ns.length-i<=k/\i<=ns.length/\z=.int .i64 (i:Nat)/\Hid (∀j (_:j<ns.length),j<i->ns[j]=y)/\wr=w)
 case atStart=>exact⟨0,by omega,by omega,rfl,hid (λj _ h=>by omega),rfl⟩
 case round=>
  obtain⟨i,hk,yr,rfl,HF,hw⟩:=hrel;subst hw;by_cases hlt:i<ns.length
  ·obtain⟨b',o',eS,e,_,_,hc⟩:=HS.out.get i hlt;simp only[Value.slice.injEq,Option.some.injEq,Addr.mk.injEq,and_true]at e;obtain⟨⟨rfl,rfl⟩,jC,rfl⟩:=e;clear jC;obtain⟨x,hx⟩:∃x,x=ns[i]:=⟨_,rfl⟩
   rw[<-hx]at hc;unfold am at hc;have HX:Hid (x=ns[i]):=hx;have HC:=AW wr q b o ns.length cap x y hq h0 c0;clear hx;by_cases hb:x=y
   ·have HB:Hid (x=y):=hb;have hd:(!decide (x=y))=false:=(by simp[hb]);rw[hd]at HC;clear hb hd;go_wp2_with fail;refine HC.mono ?_;rintro e w2 ⟨rfl,hw2⟩;subst hw2;clear HC;go_wp2_with fail;go_roundg (gk-1)
    case measure=>omega
    case rel=>
     refine⟨i+1,by omega,by omega,by go_num,hid (λj hj WZ=>?_),rfl⟩;by_cases e:j=i
     ·subst e;rw[<-HX.out,HB.out]
     ·exact HF.out j hj (by omega)
   ·have HB:Hid (x≠y):=hb;have hd:(!decide (x=y))=true:=(by simp[hb]);rw[hd]at HC;clear hb hd;go_wp2_with fail;refine HC.mono ?_;rintro e w2 ⟨rfl,hw2⟩;subst hw2;clear HC;go_wp2_with fail;go_ret;exact⟨.inr ⟨i,rfl,hlt,by rw[<-HX.out];exact HB.out,HF.out⟩,rfl⟩
  ·have:i=ns.length:=(by omega);subst this;go_wp2_with fail;go_ret;exact⟨.inl ⟨rfl,λj hj=>HF.out j hj hj⟩,rfl⟩
theorem xk{y:Nat}{r:List Nat}{n:Nat}(h:(n=(y::r).length/\∀j (_:j<(y::r).length),(y::r)[j]=y)\/∃h:n<(y::r).length,(y::r)[n]≠y/\∀j (_:j<(y::r).length),j<n->(y::r)[j]=y):n=1+bJ y r:=by
 rcases h with⟨h1,h2⟩ | ⟨h1,h2,h3⟩
 ·have:=sQ y r r.length (λj hj _=>by have:=h2 (j+1) (by simpa using hj);rw[List.getElem_cons_succ]at this;exact this) (Nat.le_refl _) (λh=>by omega);rw[this,h1];simp;omega
 ·cases n with
  | zero=>simp at h2
  | succ n=>
   have:=sQ y r n (λj hj OJ=>by have:=h3 (j+1) (by simpa using hj) (by omega);rw[List.getElem_cons_succ]at this;exact this) (by simp at h1;omega) (λ_=>by simpa using h2);rw[this];omega
theorem Ej(w:World)(b o cap:Nat)(I:Nat→Prop)(y:Nat)(r:List Nat)(hs:SrcE am w I (.slice (some ⟨b,o,none⟩) (y::r).length cap) (y::r))(hn:(y::r).length≤1000000):
  Calls Tryz.prog 156 #[.slice (some ⟨b,o,none⟩) (y::r).length cap] w λe w'=>e=.returned (.int .i64 ((1+bJ y r:Nat):Int))/\Same w w':=by
 obtain⟨W,hW⟩:∃W,W=w.alloc (.cells #[.slice (some ⟨b,o,none⟩) (y::r).length cap] 143):=⟨_,rfl⟩
 have HK:Hid (Same w W):=hid (by rw[hW];exact(Kept.refl _ w).alloc _);have hq:W.cell? ⟨w.heap.size,0,none⟩=some (.slice (some ⟨b,o,none⟩) (y::r).length cap):=by rw[hW];simp
 have HC:=y7 W b o cap w.heap.size y I (y::r) (hs.same HK.out) hn (by simp) rfl hq;have HC2:Calls Tryz.prog 184 #[.slice (some ⟨b,o,none⟩) (y::r).length cap,Bv w.heap.size] W λe w'=>((e=.returned (.int .i64 (-1))/\(y::r).length=1+bJ y r)\/∃i:Nat,e=.returned (.int .i64 (i:Nat))/\i=1+bJ y r)/\w'=W:=HC.mono (by
  rintro e w' ⟨h,hw⟩;refine⟨?_,hw⟩;rcases h with⟨h1,h2⟩ | ⟨i,h1,h2,h3,h4⟩
  ·exact .inl ⟨h1,xk (.inl ⟨rfl,h2⟩)⟩
  ·exact .inr ⟨i,h1,xk (.inr ⟨h2,h3,h4⟩)⟩)
 clear HC;obtain⟨L,hL⟩:∃L,L=(y::r).length:=⟨_,rfl⟩
 rw[<-hL]at HC2 hq hW ⊢;obtain⟨f,hf⟩:∃f,f=1+bJ y r:=⟨_,rfl⟩
 rw[<-hf]at HC2 ⊢;clear hs hL hn hf;go_enter Tryz.func156,Tryz.ntmps156;go_wp2_with fail;rw[<-hW];clear hW;go_wp2_with fail;refine HC2.mono ?_;rintro e w2 ⟨h,hw2⟩;subst hw2;clear HC2;rcases h with⟨rfl,VR⟩ | ⟨i,rfl,NR⟩
 ·subst VR;go_wp2_with fail;go_ret;exact⟨rfl,HK.out⟩
 ·subst NR;go_wp2_with fail;go_ret;exact⟨rfl,HK.out⟩
theorem xD(l:List Nat)(h0:0<l.length)(hl:l.length<=288)(h15:∀x∈l,x<=15):chk (l.map (fun(n:Nat)=>(n:Int)))=bw l:=by
 have hok:eC (l.map (fun(n:Nat)=>(n:Int))) 0 15=true:=by simp only[eC,List.length_map,Bool.and_eq_true,decide_eq_true_eq,Bool.not_eq_true',List.any_eq_false];refine⟨⟨by omega,by omega⟩,λz hz=>?_⟩;obtain⟨n,hn,rfl⟩:=List.mem_map.1 hz;have:=h15 n hn;simp[d6];omega
 unfold chk;rw[if_pos hok,List.map_map];have e:l.map (Int.toNat ∘ fun(n:Nat)=>(n:Int))=l:=by
  conv=>rhs;rw[<-List.map_id l]
  exact List.map_congr_left (λn _=>by simp)
 rw[e]
theorem re{l:List Nat}(h:bR l=false):measure l=0:=by
 induction l with
 | nil=>rfl
 | cons a l ih=>
  unfold bR at h ih;simp only[List.any_cons,Bool.or_eq_false_iff]at h;have ha:a=0:=(by have:=h.1;simpa using this);subst ha;show(eM 0+(l.map eM).sum)=0;have:=ih h.2;unfold measure at this;rw[this];rfl
end Go.Proofs.YtkhagfgineifhaaGreatDoor
namespace Go.Proofs.YtkhagfgineifhaaGreatDoor
noncomputable def tX (ls:List Nat) (most:Nat):S5:=
 @dite S5 (∃p:Ps×Nat,Ends ls most ps0 p.1 p.2) (Classical.propDecidable _) (λh=>⟨(Classical.choose h).1.c,(Classical.choose h).1.out,(Classical.choose h).2⟩) (λ_=>⟨0,[],1⟩)
theorem F4{ls:List Nat}{most:Nat}{t:Ps}{er:Nat}(h:Ends ls most ps0 t er):(tX ls most).e=er/\(er=0\/er=55->(tX ls most).out=t.out)/\(er=0->(tX ls most).c=t.c):=by
 have hx:∃p:Ps×Nat,Ends ls most ps0 p.1 p.2:=⟨(t,er),h⟩
 obtain⟨e1,e2⟩:=(Classical.choose_spec hx).det h;unfold tX;rw[dif_pos hx];exact⟨e2,λ_=>by rw[e1],λ_=>by rw[e1]⟩
end Go.Proofs.YtkhagfgineifhaaGreatDoor
