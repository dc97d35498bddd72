import Derived.Deep.RegionLaw
import Derived.Test.YtljlmfnbeofmmaaGreatDoorJ11
set_option maxHeartbeats 2000000
set_option maxRecDepth 100000
namespace Go.Proofs.YtljlmfnbeofmmaaGreatDoor
open Go.RowKit
theorem Fu(w:World)(zs:List Nat)(n:Nat)(hn:zs.length=n):SrcE am (w.alloc (.cells (zs.map am).toArray 3)) (λk=>k=w.heap.size) (.slice (some ⟨w.heap.size,0,none⟩) n n) zs:=by subst hn;refine⟨_,_,rfl,Nat.le_refl _,λ_=>⟨_,_,rfl,rfl,λj hj=>?_⟩⟩;simp[hj]
theorem jp(l:List Nat)(hl:l.length=19)(h7:∀x∈l,x<=7):chk (l.map (fun(n:Nat)=>(n:Int)))=bA l:=by
 have hok:eD (l.map (fun(n:Nat)=>(n:Int))) 0 15=true:=by simp only[eD,List.length_map,Bool.and_eq_true,decide_eq_true_eq,Bool.not_eq_true',List.any_eq_false];refine⟨⟨by omega,by omega⟩,λz hz=>?_⟩;obtain⟨n,hn,rfl⟩:=List.mem_map.1 hz;have:=h7 n hn;simp[ee];omega
 unfold chk;rw[if_pos hok,List.map_map];have e:l.map (Int.toNat ∘ fun(n:Nat)=>(n:Int))=l:=by
  conv=>rhs;rw[<-List.map_id l]
  exact List.map_congr_left (λn _=>by simp)
 rw[e]
theorem pP{ns ls:List Nat}{c s x c':Nat}(h:dA ns ls c=.ok ((s,x),c')):c'<=ls.length:=by
 unfold dA at h;split at h
 ·cases h
 ·split at h
  ·cases h
  ·simp only[Except.ok.injEq,Prod.mk.injEq]at h;omega
theorem mz{ns ls:List Nat}{N f c s x c':Nat}{l:List Nat}(hl:l.length<N)(hs:dA ns ls c=.ok ((s,x),c')):bD ns ls N (f+1) l c=match eI l ((s:Int),(x:Int)) N with | none=>.error 41 | some m=>bD ns ls N f m c':=by simp only[bD];rw[if_neg (by omega),hs];rfl
theorem tc{ns ls:List Nat}{N f c e:Nat}{l:List Nat}(hl:l.length<N)(hs:dA ns ls c=.error e):bD ns ls N (f+1) l c=.error e:=by simp only[bD];rw[if_neg (by omega),hs]
theorem kX{ns ls:List Nat}{N f c:Nat}{l:List Nat}(hl:N<=l.length):bD ns ls N f l c=.ok (l,c):=by
 cases f with
 | zero=>rfl
 | succ f=>simp only[bD];rw[if_pos hl]
theorem qK{ns ls:List Nat}{c s x c':Nat}(h:dA ns ls c=.ok ((s,x),c')):c<=c':=by
 unfold dA at h;split at h
 ·cases h
 ·split at h
  ·cases h
  ·simp only[Except.ok.injEq,Prod.mk.injEq]at h;omega
theorem ui:∀i,i<19->ord.getD i 0<=18:=by decide
end Go.Proofs.YtljlmfnbeofmmaaGreatDoor
namespace Go.Proofs.YtljlmfnbeofmmaaGreatDoor
theorem xJ{ns:List Nat}{s:Nat}(hm:measure ns<=32768)(hs:s∈aE ns)(h15:key ns s<=15)(t:List Nat)(ht:∀b∈t,b<2):BQ ns t s↔key ns s<=t.length/\rv (key ns s) (n2 t)=dG ns s:=by
 have fJ:=vL hm hs h15;have Lu:∀n,n<=t.length->n2 (t.take n)=n2 t % 2 ^ n:=λn hn=>by have:=B5 t ht 0 n (by omega);simpa using this
 unfold BQ;rw[List.prefix_iff_eq_take,aw];constructor
 ·rintro⟨_,h⟩;have hl:=congrArg List.length h;rw[aw,List.length_take]at hl;have hk:key ns s<=t.length:=(by omega);refine⟨hk,?_⟩;have h2:=congrArg n2 h;rw[im,Lu _ hk]at h2;rw[<-my (key ns s) (key ns s) _ (Nat.le_refl _),<-h2,vJ,Nat.mod_eq_of_lt fJ]
 ·rintro⟨hk,h⟩;refine⟨(aX.1 hs).2,?_⟩;refine ry _ _ (by rw[aw,List.length_take];omega) (de ns s) (λx hx=>ht x (List.mem_of_mem_take hx)) ?_;rw[im,Lu _ hk,<-h,vJ]
theorem nU{ns:List Nat}{s:Nat}(hm:measure ns<=32768)(h15:∀x,key ns x<=15)(hs:s<ns.length)(h0:key ns s≠0)(rest:List Nat)(hr:∀b∈rest,b<2):aN ns (aG ns s++rest)=(s,key ns s,0):=by
 have hb:∀b∈aG ns s++rest,b<2:=λb hb=>by
  rcases List.mem_append.1 hb with h | h
  ·exact de ns s b h
  ·exact hr b h
 have hsr:s∈aE ns:=aX.2 ⟨hs,h0⟩;have hf:BQ ns (aG ns s++rest) s:=⟨h0,List.prefix_append _ _⟩
 refine wn (.inl ⟨rfl,hs,hf,rfl,λj hj T9=>?_⟩);have UR:j∈aE ns:=aX.2 ⟨by omega,T9.1⟩;have h1:=((xJ hm hsr (h15 s) _ hb).1 hf).2;have h2:=((xJ hm UR (h15 j) _ hb).1 T9).2;have:=wS UR hsr h15 h2 h1;omega
theorem ei(A B:List Nat)(v n:Nat)(h:v<2 ^ n):aW (A++(aj v n++B)) A.length n=v:=by unfold aW;rw[List.drop_left,List.take_append_of_le_length (by rw[af];exact Nat.le_refl _),List.take_of_length_le (by rw[af];exact Nat.le_refl _),et,Nat.mod_eq_of_lt h]
def aF(cs:List Nat)(s:Nat×Nat):List Nat:=aG cs s.1++aj s.2 (dI s.1)
theorem fU(cs:List Nat)(s:Nat×Nat):(aF cs s).length=key cs s.1+dI s.1:=by rw[aF,List.length_append,aw,af]
theorem ut(cs:List Nat)(s:Nat×Nat):∀b∈aF cs s,b<2:=by
 intro b hb;rcases List.mem_append.1 hb with h | h
 ·exact de _ _ b h
 ·exact eo _ _ b h
def pE(cs:List Nat)(ss:List (Nat×Nat)):Prop:=∀s∈ss,s.1<cs.length/\key cs s.1≠0/\s.2<2 ^ dI s.1
theorem y5{cs:List Nat}(hm:measure cs≤32768)(h15:∀x,key cs x≤15)(A B:List Nat)(hB:∀b∈B,b<2)(s:Nat×Nat)(h1:s.1<cs.length)(h2:key cs s.1≠0)(h3:s.2<2 ^ dI s.1):
  dA cs (A++(aF cs s++B)) A.length=.ok (s,A.length+(aF cs s).length):=by
 have hn:aN cs ((A++(aF cs s++B)).drop A.length)=(s.1,key cs s.1,0):=by
  rw[List.drop_left,aF,List.append_assoc];refine nU hm h15 h1 h2 _ (λb hb=>?_);rcases List.mem_append.1 hb with h | h
  ·exact eo _ _ b h
  ·exact hB b h
 have hx:aW (A++(aF cs s++B)) (A.length+key cs s.1) (dI s.1)=s.2:=by have:=ei (A++aG cs s.1) B s.2 (dI s.1) h3;rw[List.length_append,aw]at this;rw[aF,List.append_assoc,<-List.append_assoc A];exact this
 unfold dA;rw[hn];simp only;rw[if_neg (by simp),if_neg (by rw[List.length_append,List.length_append,fU];omega),hx,fU,Nat.add_assoc]
theorem Ay{cs:List Nat}(hm:measure cs≤32768)(h15:∀x,key cs x≤15)(N:Nat)(B:List Nat)(hB:∀b∈B,b<2)(ss:List (Nat×Nat))(hs:pE cs ss)(A l m:List Nat)(f:Nat)(hl:∀x∈l,x≤15)(hf:N-l.length≤f)
  (hr:iD N l (ss.map (λs=>((s.1:Int),(s.2:Int))))=some m) (hN:m.length=N):bD cs (A++(ss.flatMap (aF cs)++B)) N f l A.length=.ok (m,A.length+(ss.flatMap (aF cs)).length):=by
 induction ss generalizing A l f with
 | nil=>
  simp only[List.map_nil,iD,Option.some.injEq]at hr;subst hr;rw[kX (by omega)];simp
 | cons s r ih=>
  have h1:=hs s (by simp);simp only[List.map_cons,iD]at hr;cases hw:eI l ((s.1:Int),(s.2:Int)) N with
  | none=>rw[hw]at hr;cases hr
  | some l2=>
   rw[hw]at hr;simp only at hr;have hg:=iF hw hl;obtain⟨f,rfl⟩:∃g,f=g+1:=⟨f-1,by omega⟩
   have SH:∀b∈r.flatMap (aF cs)++B,b<2:=λb hb=>by
    rcases List.mem_append.1 hb with h | h
    ·obtain⟨t,_,ht⟩:=List.mem_flatMap.1 h;exact ut cs t b ht
    ·exact hB b h
   have hst:=y5 hm h15 A (r.flatMap (aF cs)++B) SH s h1.1 h1.2.1 h1.2.2;rw[List.flatMap_cons,List.append_assoc,mz (by omega) hst,hw];simp only;have:=ih (λt ht=>hs t (List.mem_cons_of_mem _ ht)) (A++aF cs s) l2 f hg.2.2 (by omega) hr;rw[List.append_assoc,List.length_append]at this;rw[this,List.length_append,Nat.add_assoc]
def aS(cs:List Nat):Nat->List Nat
 | 0=>[]
 | i+1=>aS cs i++aj (cs.getD (ord.getD i 0) 0) 3
theorem cV(cs:List Nat)(i:Nat):(aS cs i).length=3*i:=by
 induction i with
 | zero=>rfl
 | succ i ih=>rw[aS,List.length_append,ih,af];omega
theorem qe(cs:List Nat)(i n:Nat)(h:i<n):∃r,aS cs n=aS cs i++(aj (cs.getD (ord.getD i 0) 0) 3++r):=by
 induction n with
 | zero=>omega
 | succ n ih=>
  by_cases e:i=n
  ·subst e;exact⟨[],by simp[aS]⟩
  ·obtain⟨r,hr⟩:=ih (by omega);exact⟨r++aj (cs.getD (ord.getD n 0) 0) 3,by rw[aS,hr];simp⟩
theorem Ju:∀p,p<19->∃j,j<19/\ord.getD j 0=p:=by decide
theorem xt(cs:List Nat)(h7:∀x∈cs,x<=7)(hl:cs.length=19)(A B:List Nat)(n:Nat)(hn:n<=19)(i:Nat)(hi:i<=n):∀p,p<19->(aO (A++(aS cs n++B)) A.length i).getD p 0=if (∃j,j<i/\ord.getD j 0=p)then cs.getD p 0 else 0:=by
 induction i with
 | zero=>
  intro p hp;rw[if_neg (by rintro⟨j,hj,_⟩;omega)];rw[aO,List.getD_eq_getElem?_getD,List.getElem?_replicate,if_pos hp];rfl
 | succ i ih=>
  intro p hp;have ih:=ih (by omega) p hp;obtain⟨r,hr⟩:=qe cs i n (by omega);have ho:=ui i (by omega);have hv:cs.getD (ord.getD i 0) 0<2 ^ 3:=by have hlt:ord.getD i 0<cs.length:=(by omega);have e:cs.getD (ord.getD i 0) 0=cs[ord.getD i 0]:=(by rw[List.getD_eq_getElem?_getD,List.getElem?_eq_getElem hlt];rfl);rw[e];have:=h7 _ (List.getElem_mem hlt);omega
  have Ey:aW (A++(aS cs n++B)) (A.length+3*i) 3=cs.getD (ord.getD i 0) 0:=(by have:=ei (A++aS cs i) (r++B) _ 3 hv;rw[List.length_append,cV]at this;rw[hr];simp only[List.append_assoc]at this ⊢;exact this);rw[aO,Ey];have ag:=dC (A++(aS cs n++B)) A.length i;by_cases e:ord.getD i 0=p
  ·rw[if_pos ⟨i,by omega,e⟩,e];rw[List.getD_eq_getElem?_getD,List.getElem?_set_self (by omega)];rfl
  ·rw[List.getD_eq_getElem?_getD,List.getElem?_set_ne e,<-List.getD_eq_getElem?_getD,ih];by_cases h:∃j,j<i/\ord.getD j 0=p
   ·obtain⟨j,hj,hp⟩:=h;rw[if_pos ⟨j,hj,hp⟩,if_pos ⟨j,by omega,hp⟩]
   ·rw[if_neg h,if_neg];rintro⟨j,hj,hp⟩;by_cases e2:j=i
    ·subst e2;exact e hp
    ·exact h ⟨j,by omega,hp⟩
structure mf(lit dist:List Nat)(many:Nat)(cs:List Nat)(ss:List (Nat×Nat)):Prop where
 l1:257<=lit.length
 l2:lit.length<=286
 d1:1<=dist.length
 d2:dist.length<=30
 m1:4<=many
 m2:many<=19
 c19:cs.length=19
 c7:∀x∈cs,x<=7
 ok:bA cs=0
 rest:∀j,many<=j->j<19->cs.getD (ord.getD j 0) 0=0
 st:pE cs ss
 run:iD (lit.length+dist.length) [] (ss.map (λs=>((s.1:Int),(s.2:Int))))=some (lit++dist)
def bz(nl nd many:Nat)(cs:List Nat)(ss:List (Nat×Nat)):List Nat:=
 aj (nl-257) 5++(aj (nd-1) 5++(aj (many-4) 4++(aS cs many++ss.flatMap (aF cs))))
theorem pa(nl nd many:Nat)(cs:List Nat)(ss:List (Nat×Nat)):(bz nl nd many cs ss).length=14+3*many+(ss.flatMap (aF cs)).length:=by unfold bz;simp only[List.length_append,af,cV];omega
theorem zJ{lit dist:List Nat}{many:Nat}{cs:List Nat}{ss:List (Nat×Nat)}(h:mf lit dist many cs ss)(A B:List Nat)(hB:∀b∈B,b<2):
  cf (A++(bz lit.length dist.length many cs ss++B)) A.length=.ok ((lit,dist),(bz lit.length dist.length many cs ss).length):=by
 have hm:measure cs<=32768:=by
  have:=h.ok;unfold bA at this;split at this
  ·omega
  ·omega
 have h15:∀x,key cs x<=15:=λx=>by
  by_cases e:x<cs.length
  ·rw[ba e];have:=h.c7 _ (List.getElem_mem e);omega
  ·simp[key,e]
 have lz:=h.l1;have mK:=h.l2;have Cq:=h.d1;have pC:=h.d2;have hm1:=h.m1;have gD:=h.m2;have ag:=pa lit.length dist.length many cs ss;obtain⟨T,hT⟩:∃T,T=A++(bz lit.length dist.length many cs ss++B):=⟨_,rfl⟩
 have QR:T.length=A.length+(14+3*many+(ss.flatMap (aF cs)).length)+B.length:=by rw[hT,List.length_append,List.length_append,ag];omega
 have n1:aW T A.length 5=lit.length-257:=by have:=ei A (aj (dist.length-1) 5++(aj (many-4) 4++(aS cs many++ss.flatMap (aF cs)))++B) (lit.length-257) 5 (by omega);rw[hT];unfold bz;simp only[List.append_assoc]at this ⊢;exact this
 have WH:aW T (A.length+5) 5=dist.length-1:=by have:=ei (A++aj (lit.length-257) 5) (aj (many-4) 4++(aS cs many++ss.flatMap (aF cs))++B) (dist.length-1) 5 (by omega);rw[List.length_append,af]at this;rw[hT];unfold bz;simp only[List.append_assoc]at this ⊢;exact this
 have n3:aW T (A.length+10) 4=many-4:=by have:=ei (A++(aj (lit.length-257) 5++aj (dist.length-1) 5)) (aS cs many++ss.flatMap (aF cs)++B) (many-4) 4 (by omega);rw[List.length_append,List.length_append,af,af]at this;rw[hT];unfold bz;simp only[List.append_assoc]at this ⊢;exact this
 have dL:aO T (A.length+14) many=cs:=by
  have hA:(A++(aj (lit.length-257) 5++(aj (dist.length-1) 5++aj (many-4) 4))).length=A.length+14:=(by simp[af]);have:=xt cs h.c7 h.c19 (A++(aj (lit.length-257) 5++(aj (dist.length-1) 5++aj (many-4) 4))) (ss.flatMap (aF cs)++B) many gD many (Nat.le_refl _);rw[hA]at this;have eT:A++(aj (lit.length-257) 5++(aj (dist.length-1) 5++aj (many-4) 4))++(aS cs many++(ss.flatMap (aF cs)++B))=T:=(by rw[hT];unfold bz;simp only[List.append_assoc]);rw[eT]at this;refine List.ext_getElem (by rw[dC,h.c19]) (λp h1 h2=>?_);rw[dC]at h1;have hp:=this p h1;have e1:(aO T (A.length+14) many).getD p 0=(aO T (A.length+14) many)[p]:=(by rw[List.getD_eq_getElem?_getD,List.getElem?_eq_getElem];rfl);have e2:cs.getD p 0=cs[p]:=(by rw[List.getD_eq_getElem?_getD,List.getElem?_eq_getElem];rfl);rw[e1]at hp;rw[hp];obtain⟨j,hj,OY⟩:=Ju p h1;by_cases TZ:j<many
  ·rw[if_pos ⟨j,TZ,OY⟩,e2]
  ·have hz:=h.rest j (by omega) hj;rw[OY,e2]at hz;split
   ·exact e2
   ·exact hz.symm
 have yF:bD cs T (lit.length+dist.length) (lit.length+dist.length) [] (A.length+14+3*many)=.ok (lit++dist,A.length+14+3*many+(ss.flatMap (aF cs)).length):=by have hA:(A++(aj (lit.length-257) 5++(aj (dist.length-1) 5++(aj (many-4) 4++aS cs many)))).length=A.length+14+3*many:=(by simp[af,cV];omega);have:=Ay hm h15 (lit.length+dist.length) B hB ss h.st (A++(aj (lit.length-257) 5++(aj (dist.length-1) 5++(aj (many-4) 4++aS cs many)))) [] (lit++dist) (lit.length+dist.length) (by simp) (by simp) h.run (by simp);rw[hA]at this;have eT:A++(aj (lit.length-257) 5++(aj (dist.length-1) 5++(aj (many-4) 4++aS cs many)))++(ss.flatMap (aF cs)++B)=T:=(by rw[hT];unfold bz;simp only[List.append_assoc]);rw[eT]at this;exact this
 rw[<-hT];unfold cf;rw[n1,WH,n3,show many-4+4=many by omega,show lit.length-257+257=lit.length by omega,show dist.length-1+1=dist.length by omega,dL,yF,if_neg (by omega),if_neg (by omega),if_neg (by omega),if_neg (by rw[h.ok];simp)];simp only;rw[List.take_left,List.drop_left,ag];congr 2;omega
structure Agr(c:Nat)(ls ls':List Nat):Prop where
 eq:ls'.take c=ls.take c
 le:c<=ls.length
 le':c<=ls'.length
theorem Agr.less{c d:Nat}{ls ls':List Nat}(h:Agr c ls ls')(hd:d<=c):Agr d ls ls':=by refine⟨?_,Nat.le_trans hd h.le,Nat.le_trans hd h.le'⟩;have e:=congrArg (List.take d) h.eq;rwa [List.take_take,List.take_take,Nat.min_eq_left hd]at e
theorem Agr.ext(ls m:List Nat):Agr ls.length ls (ls++m):=⟨by rw[List.take_left,List.take_length],Nat.le_refl _,by rw[List.length_append];omega⟩
theorem Agr.part{k:Nat}{ls ls':List Nat}(h:Agr k ls ls')(c n:Nat)(hk:c+n<=k):(ls'.drop c).take n=(ls.drop c).take n:=by have e:=(h.less hk).eq;have e2:=congrArg (List.drop c) e;rwa [List.drop_take,List.drop_take,show c+n-c=n by omega]at e2
theorem dR{k:Nat}{ls ls':List Nat}(h:Agr k ls ls')(c n:Nat)(hk:c+n<=k):aW ls' c n=aW ls c n:=by unfold aW;rw[h.part c n hk]
structure Pf(ns:List Nat):Prop where
 ms:measure ns<=32768
 le:∀s,key ns s<=15
theorem oA{ns ls ls':List Nat}(hp:Pf ns)(hb:∀b∈ls',b<2){c s k:Nat}(hn:aN ns (ls.drop c)=(s,k,0))(h:Agr (c+k) ls ls'):aN ns (ls'.drop c)=(s,k,0):=by
 have h1:=jf ns (ls.drop c);rw[hn]at h1;rcases h1 with⟨_,hs,hf,hk,_⟩ | ⟨h0,_⟩ | ⟨h0,_⟩
 ·simp only at hs hf hk;have e1:aG ns s=(ls'.drop c).take k:=by
   rw[h.part c k (Nat.le_refl _)];have:=(List.prefix_iff_eq_take.1 hf.2)
   rw[aw,<-hk]at this;exact this
  have e2:ls'.drop c=aG ns s++(ls'.drop c).drop k:=(by rw[e1,List.take_append_drop]);rw[e2,nU hp.ms hp.le hs hf.1 _ (λb jP=>hb b (List.mem_of_mem_drop (List.mem_of_mem_drop jP))),<-hk]
 ·simp at h0
 ·simp at h0
theorem tw(ns t m:List Nat)(h:(aN ns t).2.2=32):(aN ns (t++m)).2.2=32:=by
 have h1:=jf ns t;rcases h1 with⟨h0,_⟩ | ⟨h0,_⟩ | ⟨_,_,_,sk,hnb⟩
 ·omega
 ·omega
 ·have:aN ns (t++m)=(0,0,32):=wn (.inr (.inr ⟨rfl,rfl,rfl,λs hs hf=>?_,λs hs hb=>?_⟩))
  ·rw[this]
  ·rcases List.prefix_or_prefix_of_prefix hf.2 (List.prefix_append t m)with h2 | h2
   ·exact sk s hs ⟨hf.1,h2⟩
   ·exact hnb s hs ⟨hf.1,h2⟩
  ·exact hnb s hs ⟨hb.1,List.IsPrefix.trans (List.prefix_append t m) hb.2⟩
theorem jJ(ns t:List Nat):(aN ns t).2.2=0\/(aN ns t).2.2=10\/(aN ns t).2.2=32:=by
 rcases jf ns t with h | h | h
 ·exact .inl h.1
 ·exact .inr (.inl h.1)
 ·exact .inr (.inr h.1)
theorem th{ns ls ls':List Nat}(hp:Pf ns)(hb:∀b∈ls',b<2){c c':Nat}{x:Nat×Nat}(hs:dA ns ls c=.ok (x,c'))(h:Agr c' ls ls'):dA ns ls' c=.ok (x,c'):=by
 unfold dA at hs;split at hs
 ·cases hs
 ·rename_i h0;split at hs
  ·cases hs
  ·rename_i h1;simp only[Except.ok.injEq,Prod.mk.injEq]at hs;obtain⟨rfl,rfl⟩:=hs;have hn:aN ns (ls.drop c)=((aN ns (ls.drop c)).1,(aN ns (ls.drop c)).2.1,0):=by
    have:(aN ns (ls.drop c)).2.2=0:=Classical.not_not.1 h0;rw[<-this]
   have yq:=oA hp hb hn (h.less (Nat.le_add_right _ _));unfold dA;rw[yq];simp only;rw[if_neg (by simp),if_neg (by have:=h.le';omega),dR h _ _ (Nat.le_refl _)]
theorem Et{ns ls:List Nat}{c e:Nat}(hc:c<=ls.length)(hs:dA ns ls c=.error e)(he:e≠10)(m:List Nat):dA ns (ls++m) c=.error e:=by
 unfold dA at hs;split at hs
 ·rename_i h0;simp only[Except.error.injEq]at hs;have Tt:(aN ns (ls.drop c)).2.2=32:=by rcases jJ ns (ls.drop c)with h | h | h<;>omega
  have h2:=tw ns (ls.drop c) m Tt;rw[<-List.drop_append_of_le_length hc]at h2;unfold dA;rw[h2,if_pos (by omega)];congr 1;omega
 ·split at hs
  ·simp only[Except.error.injEq]at hs;omega
  ·cases hs
theorem rp{ns ls:List Nat}{N f c c':Nat}{l m:List Nat}(h:bD ns ls N f l c=.ok (m,c'))(hc:c<=ls.length):c<=c'/\c'<=ls.length:=by
 induction f generalizing l c with
 | zero=>simp only[bD,Except.ok.injEq,Prod.mk.injEq]at h;omega
 | succ f ih=>
  unfold bD at h;split at h
  ·simp only[Except.ok.injEq,Prod.mk.injEq]at h;omega
  ·split at h
   ·cases h
   ·rename_i s c2 hs;have h1:=qK (s:=s.1) (x:=s.2) hs;have h2:=pP (s:=s.1) (x:=s.2) hs;split at h
    ·cases h
    ·have:=ih h h2;omega
theorem Dq{ns ls ls':List Nat}(hp:Pf ns)(hb:∀b∈ls',b<2){N f c c':Nat}{l m:List Nat}(h:bD ns ls N f l c=.ok (m,c'))(hc:c<=ls.length)(ha:Agr c' ls ls'):bD ns ls' N f l c=.ok (m,c'):=by
 induction f generalizing l c with
 | zero=>simpa only[bD]using h
 | succ f ih=>
  unfold bD at h ⊢;split at h
  ·rename_i h1;rw[if_pos h1];exact h
  ·rename_i h1;rw[if_neg h1];split at h
   ·cases h
   ·rename_i s c2 hs;have h2:=pP (s:=s.1) (x:=s.2) hs;split at h
    ·cases h
    ·rename_i l2 hw;have h3:=rp h h2;rw[th hp hb hs (ha.less h3.1)];simp only;rw[hw];exact ih h h2
theorem Ah{ns ls:List Nat}(hp:Pf ns)(mo:List Nat)(hb:∀b∈ls++mo,b<2){N f c e:Nat}{l:List Nat}(h:bD ns ls N f l c=.error e)(he:e≠10)(hc:c<=ls.length):bD ns (ls++mo) N f l c=.error e:=by
 induction f generalizing l c with
 | zero=>simp[bD]at h
 | succ f ih=>
  unfold bD at h ⊢;split at h
  ·cases h
  ·rename_i h1;rw[if_neg h1];split at h
   ·rename_i e2 hs;simp only[Except.error.injEq]at h;subst h;rw[Et hc hs he mo]
   ·rename_i s c2 hs;have h2:=pP (s:=s.1) (x:=s.2) hs;rw[th hp hb hs ((Agr.ext ls mo).less h2)];simp only;split at h
    ·exact h
    ·exact ih h h2
theorem qh{k:Nat}{ls ls':List Nat}(h:Agr k ls ls')(c i:Nat)(hi:c+3*i<=k):aO ls' c i=aO ls c i:=by
 induction i with
 | zero=>rfl
 | succ i ih=>rw[aO,aO,ih (by omega),dR h _ _ (by omega)]
theorem key_le{ns:List Nat}{b:Nat}(h:∀n∈ns,n<=b)(s:Nat):key ns s<=b:=Nat.le_trans (jd ns s) (vT ns b h)
theorem sJ{ls:List Nat}(hb:∀b∈ls,b<2)(c i:Nat)(h:bA (aO ls c i)=0):Pf (aO ls c i):=by
 refine⟨?_,λs=>Nat.le_trans (key_le (og ls hb c i) s) (by omega)⟩;unfold bA at h;split at h
 ·cases h
 ·omega
theorem qE{ls:List Nat}{a n:Nat}{x:List Nat×List Nat}(h:cf ls a=.ok (x,n)):a+14<=a+n/\a+n<=ls.length:=by
 unfold cf at h;split at h
 ·cases h
 ·split at h
  ·cases h
  ·split at h
   ·cases h
   ·rename_i h3;split at h
    ·cases h
    ·split at h
     ·cases h
     ·rename_i l c EC;simp only[Except.ok.injEq,Prod.mk.injEq]at h;have:=rp EC (by omega);omega
theorem tx{ls ls':List Nat}(hb:∀b∈ls,b<2)(jP:∀b∈ls',b<2){a n:Nat}{x:List Nat×List Nat}(h:cf ls a=.ok (x,n))(ha:Agr (a+n) ls ls'):cf ls' a=.ok (x,n):=by
 have h0:=qE h;unfold cf at h;split at h
 ·cases h
 ·rename_i h1;split at h
  ·cases h
  ·rename_i h2;split at h
   ·cases h
   ·rename_i h3;split at h
    ·cases h
    ·rename_i h4;split at h
     ·cases h
     ·rename_i l c EC;simp only[Except.ok.injEq,Prod.mk.injEq]at h;obtain⟨rfl,hn⟩:=h;have h5:=rp EC (by omega);have tK:c=a+n:=(by omega);have l1:=ha.le';unfold cf;rw[dR ha a 5 (by omega),dR ha (a+5) 5 (by omega),dR ha (a+10) 4 (by omega),qh ha (a+14) _ (by omega),if_neg (by omega),if_neg h2,if_neg (by omega),if_neg h4,
       Dq (sJ hb _ _ (Classical.not_not.1 h4)) jP EC (by omega) (by rw[tK];exact ha)]
      simp only;rw[hn]
theorem zP{ls:List Nat}(mo:List Nat)(hb:∀b∈ls++mo,b<2){a e:Nat}(h:cf ls a=.error e)(he:e≠10):cf (ls++mo) a=.error e:=by
 have ha:=Agr.ext ls mo;unfold cf at h;split at h
 ·simp only[Except.error.injEq]at h;omega
 ·rename_i h1;unfold cf;have l1:=ha.le';rw[dR ha a 5 (by omega),dR ha (a+5) 5 (by omega),dR ha (a+10) 4 (by omega),if_neg (by omega)];split at h
  ·rename_i h2;rw[if_pos h2];exact h
  ·rename_i h2;rw[if_neg h2];split at h
   ·simp only[Except.error.injEq]at h;omega
   ·rename_i h3;rw[if_neg (by omega),qh ha (a+14) _ (by omega)];split at h
    ·rename_i h4;rw[if_pos h4];exact h
    ·rename_i h4;rw[if_neg h4];split at h
     ·rename_i e2 EC;simp only[Except.error.injEq]at h;subst h;rw[Ah (sJ (λb nS=>hb b (List.mem_append_left _ nS)) _ _ (Classical.not_not.1 h4)) mo hb EC he (by omega)]
     ·cases h
theorem C5{ls ls':List Nat}(hb:∀b∈ls,b<2)(jP:∀b∈ls',b<2){a n:Nat}{x:List Nat×List Nat}(h:dW ls a=.ok (x,n))(ha:Agr (a+n) ls ls'):dW ls' a=.ok (x,n):=by
 unfold dW at h ⊢;split at h
 ·cases h
 ·rename_i l d n2 hr;split at h
  ·cases h
  ·rename_i h1;simp only[Except.ok.injEq,Prod.mk.injEq]at h;obtain⟨rfl,rfl⟩:=h;rw[tx hb jP hr ha];simp only;rw[if_neg h1]
theorem y9{ls:List Nat}(mo:List Nat)(hb:∀b∈ls++mo,b<2){a e:Nat}(h:dW ls a=.error e)(he:e≠55):dW (ls++mo) a=.error e:=by
 have hb1:∀b∈ls,b<2:=λb nS=>hb b (List.mem_append_left _ nS)
 unfold dW at h;split at h
 ·rename_i e2 hr;simp only[Except.error.injEq]at h;have MQ:e2≠10:=λIh=>by rw[if_pos Ih]at h;omega
  unfold dW;rw[zP mo hb hr MQ];simp only;rw[h]
 ·rename_i l d n2 hr;split at h
  ·rename_i h1;unfold dW;rw[tx hb1 hb hr ((Agr.ext ls mo).less (qE hr).2)];simp only;rw[if_pos h1];exact h
  ·cases h
theorem xC{ls:List Nat}{a n:Nat}{x:List Nat×List Nat}(h:dW ls a=.ok (x,n)):a+14<=a+n/\a+n<=ls.length:=by
 unfold dW at h;split at h
 ·cases h
 ·rename_i l d n2 hr;split at h
  ·cases h
  ·simp only[Except.ok.injEq,Prod.mk.injEq]at h;obtain⟨_,rfl⟩:=h;exact qE hr
inductive Bk where
 | raw (last:Bool) (left:Nat)
 | sym (last:Bool) (lit dist:List Nat)
def Bk.last:Bk->Bool
 | .raw l _=>l
 | .sym l _ _=>l
inductive Tok where
 | fin
 | byte (b:Nat)
 | copy (n far:Nat)
def fI(ls:List Nat)(c n:Nat):Except Nat (Nat×Nat):=if ls.length<c+n then .error 55 else .ok (aW ls c n,c+n)
def oo(ns ls:List Nat)(c last:Nat):Except Nat (Nat×Nat):=
 if (aN ns (ls.drop c)).2.2=10 then .error 55
 else if (aN ns (ls.drop c)).2.2≠0\/last<(aN ns (ls.drop c)).1 then .error 53
 else .ok ((aN ns (ls.drop c)).1,c+(aN ns (ls.drop c)).2.1)
def aP{α β:Type}(r:Except Nat (α×Nat))(g:α->Nat->Except Nat (β×Nat)):Except Nat (β×Nat):=
 match r with
 | .error e=>.error e
 | .ok x=>g x.1 x.2
theorem aD{α β:Type}{r:Except Nat (α×Nat)}{g:α->Nat->Except Nat (β×Nat)}{y:β×Nat}:aP r g=.ok y↔∃x c,r=.ok (x,c)/\g x c=.ok y:=by
 cases r with
 | error e=>simp[aP]
 | ok x=>
  refine⟨λh=>⟨x.1,x.2,rfl,h⟩,fun⟨a,c,h1,h2⟩=>?_⟩;simp only[Except.ok.injEq]at h1;subst h1;exact h2
theorem k7{α β:Type}{r:Except Nat (α×Nat)}{g:α->Nat->Except Nat (β×Nat)}{e:Nat}:aP r g=.error e↔r=.error e\/∃x c,r=.ok (x,c)/\g x c=.error e:=by
 cases r with
 | error e2=>simp[aP]
 | ok x=>
  refine⟨λh=>.inr ⟨x.1,x.2,rfl,h⟩,λh=>?_⟩;rcases h with h | ⟨a,c,h1,h2⟩
  ·cases h
  ·simp only[Except.ok.injEq]at h1;subst h1;exact h2
theorem aq{α β:Type}{r:Except Nat (α×Nat)}{g:α->Nat->Except Nat (β×Nat)}{x:α}{c:Nat}(h:r=.ok (x,c)):aP r g=g x c:=by rw[h];rfl
theorem aI{α β:Type}{r:Except Nat (α×Nat)}{g:α->Nat->Except Nat (β×Nat)}{e:Nat}(h:r=.error e):aP r g=.error e:=by rw[h];rfl
def cP(ls:List Nat)(c y k:Nat):Except Nat (Nat×Nat):=
 if y<k then .ok (y,c)else aP (fI ls c (y / k-1)) (λx c'=>.ok ((k+y % k)*2 ^ (y / k-1)+x,c'))
def gj(ls:List Nat)(c y:Nat):Except Nat (Nat×Nat):=
 if y<285 then aP (cP ls c (y-257) 4) (λn c'=>.ok (3+n,c'))else .ok (258,c)
def lD(dist ls:List Nat)(c:Nat):Except Nat (Nat×Nat):=if bI dist=false then .error 53 else oo dist ls c 29
def eU(ls dist:List Nat)(c y:Nat):Except Nat ((Nat×Nat)×Nat):=
 aP (gj ls c y) (λn c1=>aP (lD dist ls c1) (λz c2=>aP (cP ls c2 z 2) (λd c3=>.ok ((n,1+d),c3))))
def iz(ls:List Nat)(last:Bool)(lit dist:List Nat)(y c1:Nat):Except Nat ((Tok×Bk)×Nat):=
 if y<256 then .ok ((.byte y,.sym last lit dist),c1)
 else if y=256 then .ok ((.fin,.sym last lit dist),c1)
 else aP (eU ls dist c1 y) (λx c2=>.ok ((.copy x.1 x.2,.sym last lit dist),c2))
def bm(ls:List Nat)(b:Bk)(c:Nat):Except Nat ((Tok×Bk)×Nat):=
 match b with
 | .raw last 0=>.ok ((.fin,.raw last 0),c)
 | .raw last (n+1)=>aP (fI ls c 8) (λv c'=>.ok ((.byte v,.raw last n),c'))
 | .sym last lit dist=>aP (oo lit ls c 285) (iz ls last lit dist)
def lB(ls:List Nat)(c:Nat):Except Nat (Nat×Nat):=
 aP (fI ls ((c+7) / 8*8) 16) (λn c1=>aP (fI ls c1 16) (λt c2=>if n+t=65535 then .ok (n,c2)else .error 51))
def oj(ls:List Nat)(c:Nat):Except Nat ((List Nat×List Nat)×Nat):=
 match dW ls c with
 | .error e=>.error e
 | .ok (x,n)=>.ok (x,c+n)
def fV(ls:List Nat)(last:Bool)(c k:Nat):Except Nat (Bk×Nat):=
 if k=0 then aP (lB ls c) (λn c'=>.ok (.raw last n,c'))
 else if k=1 then .ok (.sym last fixL fixD,c)
 else if k=2 then aP (oj ls c) (λx c'=>.ok (.sym last x.1 x.2,c'))
 else .error 50
def dq(ls:List Nat)(c:Nat):Except Nat (Bk×Nat):=
 aP (fI ls c 1) (λl c1=>aP (fI ls c1 2) (λk c2=>fV ls (l==1) c2 k))
def lI(far:Nat):Nat->List Nat->List Nat
 | 0,out=>out
 | n+1,out=>lI far n (out++[out.getD (out.length-far) 0])
def b6(most:Nat)(out:List Nat):Tok->Except Nat (List Nat)
 | .fin=>.ok out
 | .byte b=>if most<out.length+1 then .error 56 else .ok (out++[b])
 | .copy n far=>if out.length<far then .error 54 else if most<out.length+n then .error 56 else .ok (lI far n out)
structure Ps where
 c:Nat
 out:List Nat
 bk:Option Bk
def EO(most:Nat)(s:Ps)(b:Bk)(x:(Tok×Bk)×Nat):Except Nat (Ps×Bool):=
 match x.1.1 with
 | .fin=>if b.last=true then .ok (⟨x.2,s.out,some x.1.2⟩,true)else .ok (⟨x.2,s.out,none⟩,false)
 | t=>match b6 most s.out t with
  | .error e=>.error e
  | .ok out=>.ok (⟨x.2,out,some x.1.2⟩,false)
def jK(ls:List Nat)(most:Nat)(s:Ps):Except Nat (Ps×Bool):=
 match s.bk with
 | none=>match dq ls s.c with
  | .error e=>.error e
  | .ok x=>.ok (⟨x.2,s.out,some x.1⟩,false)
 | some b=>match bm ls b s.c with
  | .error e=>.error e
  | .ok x=>EO most s b x
inductive Ends(ls:List Nat)(most:Nat):Ps->Ps->Nat->Prop
 | stop {s:Ps} {e:Nat} (h:jK ls most s=.error e):Ends ls most s s e
 | done {s t:Ps} (h:jK ls most s=.ok (t,true)):Ends ls most s t 0
 | step {s s' t:Ps} {e:Nat} (h:jK ls most s=.ok (s',false)) (r:Ends ls most s' t e):Ends ls most s t e
theorem BW{ls:List Nat}{c n e:Nat}(h:fI ls c n=.error e):e=55/\ls.length<c+n:=by
 unfold fI at h;split at h
 ·rename_i h1;simp only[Except.error.injEq]at h;exact⟨h.symm,h1⟩
 ·cases h
theorem cU{ls:List Nat}{c n x c':Nat}(h:fI ls c n=.ok (x,c')):x=aW ls c n/\c'=c+n/\c+n<=ls.length:=by
 unfold fI at h;split at h
 ·cases h
 ·simp only[Except.ok.injEq,Prod.mk.injEq]at h;exact⟨h.1.symm,h.2.symm,by omega⟩
theorem eC{ls:List Nat}{c n:Nat}(h:c+n<=ls.length):fI ls c n=.ok (aW ls c n,c+n):=by unfold fI;rw[if_neg (by omega)]
theorem Kj{ls:List Nat}{c n:Nat}(h:ls.length<c+n):fI ls c n=.error 55:=by unfold fI;rw[if_pos h]
theorem Kg{ls ls':List Nat}{c n x c':Nat}(h:fI ls c n=.ok (x,c'))(ha:Agr c' ls ls'):fI ls' c n=.ok (x,c'):=by obtain⟨rfl,rfl,_⟩:=cU h;rw[eC ha.le',dR ha c n (Nat.le_refl _)]
structure Loc{α:Type}(f:List Nat->Except Nat (α×Nat))(ls:List Nat)(c:Nat):Prop where
 ge:∀x c',f ls=.ok (x,c')->c<=c'/\c'<=ls.length
 agr:∀x c' ls',(∀b∈ls',b<2)->f ls=.ok (x,c')->Agr c' ls ls'->f ls'=.ok (x,c')
 err:∀e mo,(∀b∈mo,b<2)->f ls=.error e->e≠55->f (ls++mo)=.error e
 ne:∀e,f ls=.error e->e≠0
theorem Loc.pure{α:Type}(x:α){ls:List Nat}{c:Nat}(hc:c<=ls.length):Loc (λ_=>.ok (x,c)) ls c:=
 ⟨λy c' h=>by simp only[Except.ok.injEq,Prod.mk.injEq]at h;omega,λ_ _ _ _ h _=>h,λ_ _ _ h _=>(by cases h),λ_ h=>(by cases h)⟩
theorem Loc.fail{α:Type}{e:Nat}(he:e≠0){ls:List Nat}{c:Nat}:Loc (α:=α) (λ_=>.error e) ls c:=
 ⟨λ_ _ h=>(by cases h),λ_ _ _ _ h _=>h,λ_ _ _ h _=>h,λ_ h=>by simp only[Except.error.injEq]at h;omega⟩
theorem Loc.of_eq{α:Type}{f g:List Nat->Except Nat (α×Nat)}{ls:List Nat}{c:Nat}(h:Loc f ls c)(e:∀l,g l=f l):Loc g ls c:=by have:g=f:=funext e;rw[this];exact h
theorem Loc.weak{α:Type}{f:List Nat->Except Nat (α×Nat)}{ls:List Nat}{c d:Nat}(h:Loc f ls c)(hd:d<=c):Loc f ls d:=
 ⟨λx c' h1=>by have:=h.ge x c' h1;omega,h.agr,h.err,h.ne⟩
theorem fG(ls:List Nat)(c n:Nat):Loc (λl=>fI l c n) ls c:=
 ⟨λx c' h=>by have:=cU h;omega,λ_ _ _ _ h ha=>Kg h ha,λe _ _ h he=>absurd (BW h).1 he,λe h=>by have:=(BW h).1;omega⟩
theorem dh{ns ls:List Nat}{c last:Nat}{r:Except Nat (Nat×Nat)}(h:oo ns ls c last=r):
  (r=.error 55/\(aN ns (ls.drop c)).2.2=10)\/(r=.error 53/\(aN ns (ls.drop c)).2.2=32) \/
  (∃y k,aN ns (ls.drop c)=(y,k,0)/\((last<y/\r=.error 53)\/(y<=last/\r=.ok (y,c+k)))):=by
 obtain⟨y,k,g,hn⟩:∃y k g,aN ns (ls.drop c)=(y,k,g):=⟨_,_,_,rfl⟩
 have h3:=jJ ns (ls.drop c);unfold oo at h;rw[hn]at h h3 ⊢;simp only at h h3 ⊢;rcases h3 with rfl | rfl | rfl
 ·refine .inr (.inr ⟨y,k,rfl,?_⟩);rw[if_neg (by omega)]at h;by_cases hy:last<y
  ·rw[if_pos (.inr hy)]at h;exact .inl ⟨hy,h.symm⟩
  ·rw[if_neg (by omega)]at h;exact .inr ⟨by omega,h.symm⟩
 ·rw[if_pos rfl]at h;exact .inl ⟨h.symm,rfl⟩
 ·rw[if_neg (by omega),if_pos (.inl (by omega))]at h;exact .inr (.inl ⟨h.symm,rfl⟩)
theorem nj{ns ls:List Nat}{c last:Nat}(h:(aN ns (ls.drop c)).2.2=32):oo ns ls c last=.error 53:=by unfold oo;rw[if_neg (by omega),if_pos (.inl (by omega))]
theorem oH{ns ls:List Nat}{c last:Nat}(h:(aN ns (ls.drop c)).2.2=10):oo ns ls c last=.error 55:=by unfold oo;rw[if_pos h]
theorem mC{ns ls:List Nat}{c last y k:Nat}(h:aN ns (ls.drop c)=(y,k,0))(hy:y<=last):oo ns ls c last=.ok (y,c+k):=by unfold oo;rw[h];simp only;rw[if_neg (by omega),if_neg (by omega)]
theorem pG{ns ls:List Nat}{c last y k:Nat}(h:aN ns (ls.drop c)=(y,k,0))(hy:last<y):oo ns ls c last=.error 53:=by unfold oo;rw[h];simp only;rw[if_neg (by omega),if_pos (.inr hy)]
theorem nZ{ns t:List Nat}{y k:Nat}(h:aN ns t=(y,k,0)):k<=t.length/\0<k/\y<ns.length:=by
 have h1:=jf ns t;rw[h]at h1;rcases h1 with⟨_,hs,hf,hk,_⟩ | ⟨h0,_⟩ | ⟨h0,_⟩
 ·simp only at hs hf hk;have:=hf.2.length_le;rw[aw]at this;have:=hf.1;omega
 ·simp at h0
 ·simp at h0
theorem kq{ns ls:List Nat}{c y k:Nat}(hc:c<=ls.length)(h:aN ns (ls.drop c)=(y,k,0)):c+k<=ls.length:=by have:=(nZ h).1;rw[List.length_drop]at this;omega
theorem us{ns:List Nat}(hp:Pf ns)(ls:List Nat)(hb:∀b∈ls,b<2)(c last:Nat)(hc:c<=ls.length):Loc (λl=>oo ns l c last) ls c:=by
 refine⟨λx c' h=>?_,λx c' ls' jP h ha=>?_,λe mo jP h he=>?_,λe h=>?_⟩
 ·rcases dh h with⟨h1,_⟩ | ⟨h1,_⟩ | ⟨y,k,hn,⟨_,h1⟩ | ⟨_,h1⟩⟩
  ·cases h1
  ·cases h1
  ·cases h1
  ·simp only[Except.ok.injEq,Prod.mk.injEq]at h1;have:=kq hc hn;omega
 ·rcases dh h with⟨h1,_⟩ | ⟨h1,_⟩ | ⟨y,k,hn,⟨_,h1⟩ | ⟨hy,h1⟩⟩
  ·cases h1
  ·cases h1
  ·cases h1
  ·simp only[Except.ok.injEq,Prod.mk.injEq]at h1;obtain⟨rfl,rfl⟩:=h1;exact mC (oA hp jP hn ha) hy
 ·have hb2:∀b∈ls++mo,b<2:=λb nS=>by rcases List.mem_append.1 nS with h | h;exact hb b h;exact jP b h
  rcases dh h with⟨h1,_⟩ | ⟨h1,h2⟩ | ⟨y,k,hn,⟨hy,h1⟩ | ⟨hy,h1⟩⟩
  ·simp only[Except.error.injEq]at h1;omega
  ·rw[h1];have h3:=tw ns (ls.drop c) mo h2;rw[<-List.drop_append_of_le_length hc]at h3;exact nj h3
  ·rw[h1];exact pG (oA hp hb2 hn ((Agr.ext ls mo).less (kq hc hn))) hy
  ·cases h1
 ·rcases dh h with⟨h1,_⟩ | ⟨h1,_⟩ | ⟨y,k,hn,⟨_,h1⟩ | ⟨_,h1⟩⟩
  ·simp only[Except.error.injEq]at h1;omega
  ·simp only[Except.error.injEq]at h1;omega
  ·simp only[Except.error.injEq]at h1;omega
  ·cases h1
theorem Loc.bind{α β:Type}{f:List Nat→Except Nat (α×Nat)}{ls:List Nat}{c:Nat}(hb:∀b∈ls,b<2)(h:Loc f ls c){g:List Nat→α→Nat→Except Nat (β×Nat)}
  (hg:∀x c',f ls=.ok (x,c')->Loc (λl=>g l x c') ls c'):Loc (λl=>aP (f l) (g l)) ls c:=by
 refine⟨λx c' h1=>?_,λx c' ls' jP h1 ha=>?_,λe mo jP h1 he=>?_,λe h1=>?_⟩
 ·obtain⟨y,c2,hf,h2⟩:=aD.1 h1;have a:=h.ge _ _ hf;have b:=(hg y c2 hf).ge _ _ h2;omega
 ·obtain⟨y,c2,hf,h2⟩:=aD.1 h1;have b:=(hg y c2 hf).ge _ _ h2;exact aD.2 ⟨y,c2,h.agr _ _ ls' jP hf (ha.less b.1),(hg y c2 hf).agr _ _ ls' jP h2 ha⟩
 ·have hb2:∀b∈ls++mo,b<2:=λb nS=>by rcases List.mem_append.1 nS with h | h;exact hb b h;exact jP b h
  rcases k7.1 h1 with hf | ⟨y,c2,hf,h2⟩
  ·exact k7.2 (.inl (h.err _ mo jP hf he))
  ·exact k7.2 (.inr ⟨y,c2,h.agr _ _ _ hb2 hf ((Agr.ext ls mo).less (h.ge _ _ hf).2),(hg y c2 hf).err _ mo jP h2 he⟩)
 ·rcases k7.1 h1 with hf | ⟨y,c2,hf,h2⟩
  ·exact h.ne _ hf
  ·exact(hg y c2 hf).ne _ h2
theorem m8(ls:List Nat)(hb:∀b∈ls,b<2)(c y k:Nat)(hc:c<=ls.length):Loc (λl=>cP l c y k) ls c:=by
 by_cases h:y<k
 ·exact(Loc.pure y hc).of_eq (λl=>by unfold cP;rw[if_pos h])
 ·exact(Loc.bind hb (fG ls c (y / k-1)) (g:=λ_ x c'=>.ok ((k+y % k)*2 ^ (y / k-1)+x,c')) (λx c' h1=>Loc.pure _ ((fG ls c _).ge x c' h1).2)).of_eq (λl=>by unfold cP;rw[if_neg h])
theorem Ha(ls:List Nat)(hb:∀b∈ls,b<2)(c y:Nat)(hc:c<=ls.length):Loc (λl=>gj l c y) ls c:=by
 by_cases h:y<285
 ·exact(Loc.bind hb (m8 ls hb c (y-257) 4 hc) (g:=λ_ x c'=>.ok (3+x,c')) (λx c' h1=>Loc.pure _ ((m8 ls hb c _ _ hc).ge x c' h1).2)).of_eq (λl=>by unfold gj;rw[if_pos h])
 ·exact(Loc.pure 258 hc).of_eq (λl=>by unfold gj;rw[if_neg h])
theorem wo{dist:List Nat}(hp:Pf dist)(ls:List Nat)(hb:∀b∈ls,b<2)(c:Nat)(hc:c<=ls.length):Loc (λl=>lD dist l c) ls c:=by
 by_cases h:bI dist=false
 ·exact(Loc.fail (e:=53) (by decide)).of_eq (λl=>by unfold lD;rw[if_pos h])
 ·exact(us hp ls hb c 29 hc).of_eq (λl=>by unfold lD;rw[if_neg h])
theorem qg{dist:List Nat}(hp:Pf dist)(ls:List Nat)(hb:∀b∈ls,b<2)(c y:Nat)(hc:c<=ls.length):Loc (λl=>eU l dist c y) ls c:=by have h1:=Ha ls hb c y hc;refine Loc.bind hb h1 (λn c1 e1=>?_);have eS:=(h1.ge _ _ e1).2;refine Loc.bind hb (wo hp ls hb c1 eS) (λz c2 e2=>?_);have cS:=((wo hp ls hb c1 eS).ge _ _ e2).2;exact Loc.bind hb (m8 ls hb c2 z 2 cS) (λd c3 e3=>Loc.pure _ ((m8 ls hb c2 z 2 cS).ge _ _ e3).2)
structure Lok(l:List Nat):Prop where
 pos:0<l.length
 max:l.length<=288
 le:∀n∈l,n<=15
 ok:bA l=0
structure OkL(lit dist:List Nat):Prop where
 lit:Lok lit
 pos:0<dist.length
 max:dist.length<=288
 le:∀n∈dist,n<=15
 dist:bI dist=true->Lok dist
def oy:Option Bk->Prop
 | some (.sym _ lit dist)=>OkL lit dist
 | _=>True
theorem Lok.pf{l:List Nat}(h:Lok l):Pf l:=by
 refine⟨?_,key_le h.le⟩;have:=h.ok;unfold bA at this;split at this
 ·cases this
 ·omega
theorem OkL.pf{lit dist:List Nat}(h:OkL lit dist):Pf dist:=by
 by_cases hu:bI dist=true
 ·exact(h.dist hu).pf
 ·refine⟨?_,key_le h.le⟩;have:measure dist=0:=by
   have yH:bI dist=false:=(by simpa using hu);unfold bI at yH;rw[List.any_eq_false]at yH;unfold measure;have:dist.map eG=dist.map (λ_=>0):=List.map_congr_left (λn hn=>by
    have:=yH n hn;have h0:n=0:=(by simpa using this);rw[h0];rfl)
   rw[this,List.map_const',List.sum_replicate_nat,Nat.mul_zero]
  omega
theorem lu(ls:List Nat)(hb:∀b∈ls,b<2)(b:Bk)(c:Nat)(hk:oy (some b))(hc:c<=ls.length):Loc (λl=>bm l b c) ls c:=by
 cases b with
 | raw last left=>
  cases left with
  | zero=>exact Loc.pure _ hc
  | succ n=>exact Loc.bind hb (fG ls c 8) (g:=λ_ v c'=>.ok ((Tok.byte v,Bk.raw last n),c')) (λx c' e=>Loc.pure _ ((fG ls c 8).ge _ _ e).2)
 | sym last lit dist=>
  have hk:OkL lit dist:=hk;have h1:=us hk.lit.pf ls hb c 285 hc;refine Loc.bind hb h1 (λy c1 e1=>?_);have eS:=(h1.ge _ _ e1).2;by_cases h256:y<256
  ·exact(Loc.pure _ eS).of_eq (λl=>by unfold iz;rw[if_pos h256])
  ·by_cases he:y=256
   ·exact(Loc.pure _ eS).of_eq (λl=>by unfold iz;rw[if_neg h256,if_pos he])
   ·exact(Loc.bind hb (qg hk.pf ls hb c1 y eS) (g:=λ_ x c2=>.ok ((.copy x.1 x.2,.sym last lit dist),c2)) (λx c2 e2=>Loc.pure _ ((qg hk.pf ls hb c1 y eS).ge _ _ e2).2)).of_eq (λl=>by unfold iz;rw[if_neg h256,if_neg he])
theorem vg(ls:List Nat)(hb:∀b∈ls,b<2)(c:Nat):Loc (λl=>lB l c) ls c:=by
 have h1:=fG ls ((c+7) / 8*8) 16;refine(Loc.bind hb h1 (g:=λl n c1=>aP (fI l c1 16) (λt c2=>if n+t=65535 then .ok (n,c2)else .error 51)) (λn c1 e1=>?_)).weak (by omega);refine Loc.bind hb (fG ls c1 16) (λt c2 e2=>?_);have cS:=((fG ls c1 16).ge _ _ e2).2;by_cases h:n+t=65535
 ·exact(Loc.pure n cS).of_eq (λl=>by rw[if_pos h])
 ·exact(Loc.fail (e:=51) (by decide)).of_eq (λl=>by rw[if_neg h])
theorem xi{ls:List Nat}{a e:Nat}(h:dW ls a=.error e):e≠0:=by
 unfold dW at h;split at h
 ·simp only[Except.error.injEq]at h;split at h<;>omega
 ·split at h
  ·simp only[Except.error.injEq]at h;omega
  ·cases h
theorem Bj(ls:List Nat)(hb:∀b∈ls,b<2)(c:Nat):Loc (λl=>oj l c) ls c:=by
 refine⟨λx c' h=>?_,λx c' ls' jP h ha=>?_,λe mo jP h he=>?_,λe h=>?_⟩
 ·simp only[oj]at h;split at h
  ·cases h
  ·rename_i y n h1;simp only[Except.ok.injEq,Prod.mk.injEq]at h;have:=xC h1;omega
 ·simp only[oj]at h ⊢;split at h
  ·cases h
  ·rename_i y n h1;simp only[Except.ok.injEq,Prod.mk.injEq]at h;obtain⟨rfl,rfl⟩:=h;rw[C5 hb jP h1 ha]
 ·have hb2:∀b∈ls++mo,b<2:=λb nS=>by rcases List.mem_append.1 nS with h | h;exact hb b h;exact jP b h
  simp only[oj]at h ⊢;split at h
  ·rename_i e2 h1;simp only[Except.error.injEq]at h;subst h;rw[y9 mo hb2 h1 he]
  ·cases h
 ·simp only[oj]at h;split at h
  ·rename_i e2 h1;simp only[Except.error.injEq]at h;subst h;exact xi h1
  ·cases h
theorem wQ(ls:List Nat)(hb:∀b∈ls,b<2)(last:Bool)(c k:Nat)(hc:c<=ls.length):Loc (λl=>fV l last c k) ls c:=by
 by_cases h0:k=0
 ·exact(Loc.bind hb (vg ls hb c) (g:=λ_ n c'=>.ok (Bk.raw last n,c')) (λn c' e=>Loc.pure _ ((vg ls hb c).ge _ _ e).2)).of_eq (λl=>by unfold fV;rw[if_pos h0])
 ·by_cases h1:k=1
  ·exact(Loc.pure _ hc).of_eq (λl=>by unfold fV;rw[if_neg h0,if_pos h1])
  ·by_cases h2:k=2
   ·exact(Loc.bind hb (Bj ls hb c) (g:=λ_ x c'=>.ok (Bk.sym last x.1 x.2,c')) (λn c' e=>Loc.pure _ ((Bj ls hb c).ge _ _ e).2)).of_eq (λl=>by unfold fV;rw[if_neg h0,if_neg h1,if_pos h2])
   ·exact(Loc.fail (e:=50) (by decide)).of_eq (λl=>by unfold fV;rw[if_neg h0,if_neg h1,if_neg h2])
theorem xO(ls:List Nat)(hb:∀b∈ls,b<2)(c:Nat):Loc (λl=>dq l c) ls c:=by refine Loc.bind hb (fG ls c 1) (λx c1 e1=>?_);exact Loc.bind hb (fG ls c1 2) (λk c2 e2=>wQ ls hb _ c2 k ((fG ls c1 2).ge _ _ e2).2)
theorem gW(ls:List Nat)(last:Bool)(c:Nat):bm ls (.raw last 0) c=.ok ((.fin,.raw last 0),c):=rfl
theorem en(ls:List Nat)(last:Bool)(n c:Nat):bm ls (.raw last (n+1)) c=aP (fI ls c 8) (λv c'=>.ok ((.byte v,.raw last n),c')):=rfl
theorem bU(ls:List Nat)(last:Bool)(lit dist:List Nat)(c:Nat):bm ls (.sym last lit dist) c=aP (oo lit ls c 285) (iz ls last lit dist):=rfl
theorem dj{ls:List Nat}{most:Nat}{s:Ps}{b:Bk}{c:Nat}(h:s.bk=none)(hg:dq ls s.c=.ok (b,c)):jK ls most s=.ok (⟨c,s.out,some b⟩,false):=by unfold jK;rw[h];simp only[hg]
theorem bG{ls:List Nat}{most:Nat}{s:Ps}{e:Nat}(h:s.bk=none)(hg:dq ls s.c=.error e):jK ls most s=.error e:=by unfold jK;rw[h];simp only[hg]
theorem aQ{ls:List Nat}{most:Nat}{s:Ps}{b:Bk}{x:(Tok×Bk)×Nat}(h:s.bk=some b)(hg:bm ls b s.c=.ok x):jK ls most s=EO most s b x:=by unfold jK;rw[h];simp only[hg]
theorem bP{ls:List Nat}{most:Nat}{s:Ps}{b:Bk}{e:Nat}(h:s.bk=some b)(hg:bm ls b s.c=.error e):jK ls most s=.error e:=by unfold jK;rw[h];simp only[hg]
theorem gh(most:Nat)(s:Ps)(b b':Bk)(c:Nat):EO most s b ((.fin,b'),c)=if b.last=true then .ok (⟨c,s.out,some b'⟩,true)else .ok (⟨c,s.out,none⟩,false):=rfl
theorem iN{most:Nat}{s:Ps}{b b':Bk}{c e:Nat}{t:Tok}(ht:t≠.fin)(h:b6 most s.out t=.error e):EO most s b ((t,b'),c)=.error e:=by
 cases t with
 | fin=>exact absurd rfl ht
 | byte v=>unfold EO;simp only[h]
 | copy n far=>unfold EO;simp only[h]
theorem gX{most:Nat}{s:Ps}{b b':Bk}{c:Nat}{t:Tok}{out:List Nat}(ht:t≠.fin)(h:b6 most s.out t=.ok out):EO most s b ((t,b'),c)=.ok (⟨c,out,some b'⟩,false):=by
 cases t with
 | fin=>exact absurd rfl ht
 | byte v=>unfold EO;simp only[h]
 | copy n far=>unfold EO;simp only[h]
theorem oz{most:Nat}{s:Ps}{b b':Bk}{c:Nat}{t:Tok}{r:Except Nat (Ps×Bool)}(h:EO most s b ((t,b'),c)=r):
  (t=.fin/\b.last=true/\r=.ok (⟨c,s.out,some b'⟩,true))\/(t=.fin/\b.last=false/\r=.ok (⟨c,s.out,none⟩,false)) \/
  (t≠.fin/\((∃e,b6 most s.out t=.error e/\r=.error e)\/∃out,b6 most s.out t=.ok out/\r=.ok (⟨c,out,some b'⟩,false))):=by
 by_cases ht:t=.fin
 ·subst ht;rw[gh]at h;cases hl:b.last with
  | true=>rw[hl,if_pos rfl]at h;exact .inl ⟨rfl,rfl,h.symm⟩
  | false=>rw[hl,if_neg (by decide)]at h;exact .inr (.inl ⟨rfl,rfl,h.symm⟩)
 ·cases hl:b6 most s.out t with
  | error e=>rw[iN ht hl]at h;exact .inr (.inr ⟨ht,.inl ⟨e,rfl,h.symm⟩⟩)
  | ok out=>rw[gX ht hl]at h;exact .inr (.inr ⟨ht,.inr ⟨out,rfl,h.symm⟩⟩)
theorem zC{ns ls:List Nat}{N f c c':Nat}{l m:List Nat}(h:bD ns ls N f l c=.ok (m,c'))(hl:∀x∈l,x<=15)(hn:l.length<=N)(hf:N-l.length<=f):(∀x∈m,x<=15)/\m.length=N:=by
 induction f generalizing l c with
 | zero=>
  simp only[bD,Except.ok.injEq,Prod.mk.injEq]at h;obtain⟨rfl,_⟩:=h;exact⟨hl,by omega⟩
 | succ f ih=>
  unfold bD at h;split at h
  ·simp only[Except.ok.injEq,Prod.mk.injEq]at h;obtain⟨rfl,_⟩:=h;exact⟨hl,by omega⟩
  ·split at h
   ·cases h
   ·split at h
    ·cases h
    ·rename_i l2 hw;have:=iF hw hl;exact ih h this.2.2 this.2.1 (by omega)
theorem oO{ls:List Nat}{a n:Nat}{l d:List Nat}(h:cf ls a=.ok ((l,d),n)):257<=l.length/\l.length<=286/\0<d.length/\d.length<=30/\(∀x∈l,x<=15)/\∀x∈d,x<=15:=by
 unfold cf at h;split at h
 ·cases h
 ·split at h
  ·cases h
  ·rename_i h2;split at h
   ·cases h
   ·split at h
    ·cases h
    ·split at h
     ·cases h
     ·rename_i m c EC;simp only[Except.ok.injEq,Prod.mk.injEq]at h;obtain⟨⟨rfl,rfl⟩,_⟩:=h;have hm:=zC EC (by simp) (by simp) (by simp);rw[List.length_take,List.length_drop,hm.2];exact⟨by omega,by omega,by omega,by omega,λx hx=>hm.1 x (List.mem_of_mem_take hx),λx hx=>hm.1 x (List.mem_of_mem_drop hx)⟩
theorem vM{ls:List Nat}{a n:Nat}{l d:List Nat}(h:dW ls a=.ok ((l,d),n)):OkL l d:=by
 unfold dW at h;split at h
 ·cases h
 ·rename_i l2 d2 n2 hr;split at h
  ·cases h
  ·rename_i h1;simp only[Except.ok.injEq,Prod.mk.injEq]at h;obtain⟨⟨rfl,rfl⟩,_⟩:=h;obtain⟨a1,a2,a3,a4,a5,a6⟩:=oO hr;refine⟨⟨by omega,by omega,a5,?_⟩,a3,by omega,a6,λhu=>⟨a3,by omega,a6,?_⟩⟩
   ·exact Classical.byContradiction (λhc=>h1 (.inr (.inl hc)))
   ·exact Classical.byContradiction (λhc=>h1 (.inr (.inr ⟨hu,hc⟩)))
theorem fix_ok:OkL fixL fixD:=by refine⟨⟨by decide +kernel,by decide +kernel,by decide +kernel,by decide +kernel⟩,by decide +kernel,by decide +kernel,by decide +kernel,λ_=>⟨by decide +kernel,by decide +kernel,by decide +kernel,by decide +kernel⟩⟩
theorem Bt{ls:List Nat}{c c':Nat}{b:Bk}(h:dq ls c=.ok (b,c')):oy (some b):=by
 obtain⟨l,c1,_,h⟩:=aD.1 h;obtain⟨k,c2,_,h⟩:=aD.1 h;unfold fV at h;split at h
 ·obtain⟨n,c3,_,h⟩:=aD.1 h;simp only[Except.ok.injEq,Prod.mk.injEq]at h;obtain⟨rfl,_⟩:=h;exact trivial
 ·split at h
  ·simp only[Except.ok.injEq,Prod.mk.injEq]at h;obtain⟨rfl,_⟩:=h;exact fix_ok
  ·split at h
   ·obtain⟨x,c3,hh,h⟩:=aD.1 h;simp only[Except.ok.injEq,Prod.mk.injEq]at h;obtain⟨rfl,_⟩:=h;unfold oj at hh;split at hh
    ·cases hh
    ·rename_i y n h5;simp only[Except.ok.injEq,Prod.mk.injEq]at hh;obtain⟨rfl,_⟩:=hh;exact vM (l:=y.1) (d:=y.2) h5
   ·cases h
theorem qu{ls:List Nat}{b b':Bk}{t:Tok}{c c':Nat}(h:bm ls b c=.ok ((t,b'),c'))(hk:oy (some b)):oy (some b')/\b'.last=b.last:=by
 cases b with
 | raw last left=>
  cases left with
  | zero=>
   simp only[bm,Except.ok.injEq,Prod.mk.injEq]at h;obtain⟨⟨_,rfl⟩,_⟩:=h;exact⟨trivial,rfl⟩
  | succ n=>
   rw[en]at h;obtain⟨v,c2,_,h⟩:=aD.1 h;simp only[Except.ok.injEq,Prod.mk.injEq]at h;obtain⟨⟨_,rfl⟩,_⟩:=h;exact⟨trivial,rfl⟩
 | sym last lit dist=>
  rw[bU]at h;obtain⟨y,c2,_,h⟩:=aD.1 h;unfold iz at h;split at h
  ·simp only[Except.ok.injEq,Prod.mk.injEq]at h;obtain⟨⟨_,rfl⟩,_⟩:=h;exact⟨hk,rfl⟩
  ·split at h
   ·simp only[Except.ok.injEq,Prod.mk.injEq]at h;obtain⟨⟨_,rfl⟩,_⟩:=h;exact⟨hk,rfl⟩
   ·obtain⟨x,c3,_,h⟩:=aD.1 h;simp only[Except.ok.injEq,Prod.mk.injEq]at h;obtain⟨⟨_,rfl⟩,_⟩:=h;exact⟨hk,rfl⟩
theorem gT(far n:Nat)(out:List Nat):(lI far n out).length=out.length+n:=by
 induction n generalizing out with
 | zero=>rfl
 | succ n ih=>rw[lI,ih,List.length_append];simp;omega
theorem kS{most:Nat}{out out':List Nat}{t:Tok}(h:b6 most out t=.ok out'):out.length<=out'.length/\(out.length<=most->out'.length<=most)/\∀m,out'.length<=m->b6 m out t=.ok out':=by
 cases t with
 | fin=>simp only[b6,Except.ok.injEq]at h;subst h;exact⟨Nat.le_refl _,λh=>h,λ_ _=>rfl⟩
 | byte b=>
  simp only[b6]at h;split at h
  ·cases h
  ·simp only[Except.ok.injEq]at h;subst h;refine⟨by simp,λ_=>by simp;omega,λm hm=>?_⟩;simp only[b6];rw[if_neg (by simp at hm;omega)]
 | copy n far=>
  simp only[b6]at h;split at h
  ·cases h
  ·split at h
   ·cases h
   ·simp only[Except.ok.injEq]at h;subst h;rw[gT];refine⟨by omega,λ_=>by omega,λm hm=>?_⟩;simp only[b6];rw[if_neg (by omega),if_neg (by omega)]
theorem kQ{most:Nat}{out:List Nat}{t:Tok}{e:Nat}(h:b6 most out t=.error e):e=54\/e=56:=by
 cases t with
 | fin=>cases h
 | byte b=>
  simp only[b6]at h;split at h
  ·simp only[Except.error.injEq]at h;omega
  ·cases h
 | copy n far=>
  simp only[b6]at h;split at h
  ·simp only[Except.error.injEq]at h;omega
  ·split at h
   ·simp only[Except.error.injEq]at h;omega
   ·cases h
structure uj(ls:List Nat)(s:Ps):Prop where
 le:s.c<=ls.length
 bk:oy s.bk
theorem Bv{ls:List Nat}(hb:∀b∈ls,b<2){most:Nat}{s t:Ps}{d:Bool}(hs:uj ls s)(h:jK ls most s=.ok (t,d)):
  uj ls t/\s.c<=t.c/\s.out.length<=t.out.length/\(s.out.length<=most->t.out.length<=most):=by
 cases hbk:s.bk with
 | none=>
  cases hg:dq ls s.c with
  | error e=>rw[bG hbk hg]at h;cases h
  | ok x=>
   obtain⟨b,c⟩:=x;rw[dj hbk hg]at h;simp only[Except.ok.injEq,Prod.mk.injEq]at h;obtain⟨rfl,_⟩:=h;have:=(xO ls hb s.c).ge _ _ hg;exact⟨⟨this.2,Bt hg⟩,this.1,Nat.le_refl _,λh=>h⟩
 | some b=>
  have hk:oy (some b):=(by rw[<-hbk];exact hs.bk);cases hst:bm ls b s.c with
  | error e=>rw[bP hbk hst]at h;cases h
  | ok x=>
   obtain⟨⟨tk,b'⟩,c⟩:=x;rw[aQ hbk hst]at h;have h1:=(lu ls hb b s.c hk hs.le).ge _ _ hst;have h2:=qu hst hk;rcases oz h with⟨_,_,h⟩ | ⟨_,_,h⟩ | ⟨_,⟨e,_,h⟩ | ⟨o,hl,h⟩⟩
   ·simp only[Except.ok.injEq,Prod.mk.injEq]at h;obtain⟨rfl,_⟩:=h;exact⟨⟨h1.2,h2.1⟩,h1.1,Nat.le_refl _,λh=>h⟩
   ·simp only[Except.ok.injEq,Prod.mk.injEq]at h;obtain⟨rfl,_⟩:=h;exact⟨⟨h1.2,trivial⟩,h1.1,Nat.le_refl _,λh=>h⟩
   ·cases h
   ·simp only[Except.ok.injEq,Prod.mk.injEq]at h;obtain⟨rfl,_⟩:=h;have h3:=kS hl;exact⟨⟨h1.2,h2.1⟩,h1.1,h3.1,h3.2.1⟩
theorem tP{ls:List Nat}(hb:∀b∈ls,b<2){most:Nat}{s:Ps}{e:Nat}(hs:uj ls s)(h:jK ls most s=.error e):e≠0:=by
 cases hbk:s.bk with
 | none=>
  cases hg:dq ls s.c with
  | error e2=>
   rw[bG hbk hg]at h;simp only[Except.error.injEq]at h;subst h;exact(xO ls hb s.c).ne _ hg
  | ok x=>rw[dj (b:=x.1) (c:=x.2) hbk hg]at h;cases h
 | some b=>
  have hk:oy (some b):=(by rw[<-hbk];exact hs.bk);cases hst:bm ls b s.c with
  | error e2=>
   rw[bP hbk hst]at h;simp only[Except.error.injEq]at h;subst h;exact(lu ls hb b s.c hk hs.le).ne _ hst
  | ok x=>
   obtain⟨⟨tk,b'⟩,c⟩:=x;rw[aQ hbk hst]at h;rcases oz h with⟨_,_,h⟩ | ⟨_,_,h⟩ | ⟨_,⟨e2,hl,h⟩ | ⟨o,hl,h⟩⟩
   ·cases h
   ·cases h
   ·simp only[Except.error.injEq]at h;subst h;have:=kQ hl;omega
   ·cases h
theorem Ends.det{ls:List Nat}{most:Nat}{s t t':Ps}{e e':Nat}(h:Ends ls most s t e)(h':Ends ls most s t' e'):t=t'/\e=e':=by
 induction h with
 | stop h=>
  cases h' with
  | stop h2=>rw[h]at h2;simp only[Except.error.injEq]at h2;exact⟨rfl,h2⟩
  | done h2=>rw[h]at h2;cases h2
  | step h2 _=>rw[h]at h2;cases h2
 | done h=>
  cases h' with
  | stop h2=>rw[h]at h2;cases h2
  | done h2=>rw[h]at h2;simp only[Except.ok.injEq,Prod.mk.injEq]at h2;exact⟨h2.1,rfl⟩
  | step h2 _=>rw[h]at h2;simp at h2
 | step h _ ih=>
  cases h' with
  | stop h2=>rw[h]at h2;cases h2
  | done h2=>rw[h]at h2;simp at h2
  | step h2 r2=>
   rw[h]at h2;simp only[Except.ok.injEq,Prod.mk.injEq,and_true]at h2;subst h2;exact ih r2
theorem Ends.inv{ls:List Nat}(hb:∀b∈ls,b<2){most:Nat}{s t:Ps}{e:Nat}(h:Ends ls most s t e)(hs:uj ls s):
  uj ls t/\s.c<=t.c/\s.out.length<=t.out.length/\(s.out.length<=most->t.out.length<=most):=by
 induction h with
 | stop h=>exact⟨hs,Nat.le_refl _,Nat.le_refl _,λh=>h⟩
 | done h=>exact Bv hb hs h
 | step h _ ih=>
  have h1:=Bv hb hs h;have h2:=ih h1.1;exact⟨h2.1,by omega,by omega,λh=>h2.2.2.2 (h1.2.2.2 h)⟩
def ps0:Ps:=⟨0,[],none⟩
theorem Hm(ls:List Nat):uj ls ps0:=⟨Nat.zero_le _,trivial⟩
inductive Runs(ls:List Nat)(most:Nat):Ps->Ps->Prop
 | refl (s:Ps):Runs ls most s s
 | step {s s' t:Ps} (h:jK ls most s=.ok (s',false)) (r:Runs ls most s' t):Runs ls most s t
theorem Runs.ends{ls:List Nat}{most:Nat}{s t u:Ps}{e:Nat}(h:Runs ls most s t)(r:Ends ls most t u e):Ends ls most s u e:=by
 induction h with
 | refl s=>exact r
 | step h _ ih=>exact .step h (ih r)
theorem Runs.trans{ls:List Nat}{most:Nat}{s t u:Ps}(h:Runs ls most s t)(r:Runs ls most t u):Runs ls most s u:=by
 induction h with
 | refl s=>exact r
 | step h _ ih=>exact .step h (ih r)
def Mc(s:S5)(r:Except Nat (Nat×Nat))(p:Nat×S5):Prop:=
 match r with
 | .ok (x,c)=>p=(x,⟨c,s.out,0⟩)
 | .error e=>e≠0/\p.2.e=e/\p.2.out=s.out
theorem gp(ls:List Nat)(s:S5)(n:Nat)(he:s.e=0):Mc s (fI ls s.c n) (tk ls s n):=by
 unfold tk fI;have h0:¬s.e≠0:=by omega
 by_cases h:ls.length<s.c+n
 ·rw[if_pos h,if_neg h0,if_pos h];exact⟨by decide,rfl,rfl⟩
 ·rw[if_neg h,if_neg h0,if_neg h];show _=_;rw[he]
theorem wG(ls:List Nat)(c:Nat)(h:c<=ls.length):fI ls c 0=.ok (0,c):=by rw[eC (by omega)];rfl
theorem Gg:∀k,k<28->G9 (257+k)=3+(if k<4 then k else(4+k % 4)*2 ^ (k / 4-1))/\Dz (257+k)=if k<4 then 0 else k / 4-1:=by decide +kernel
theorem Ho:∀k,k<30->Lj k=1+(if k<2 then k else(2+k % 2)*2 ^ (k / 2-1))/\BA k=if k<2 then 0 else k / 2-1:=by decide +kernel
theorem GB(ls:List Nat)(s:S5)(y:Nat)(he:s.e=0)(hc:s.c<=ls.length)(h1:257<=y)(h2:y<=285):Mc s (gj ls s.c y) (tL ls s y):=by
 by_cases h:y=285
 ·have e1:gj ls s.c y=.ok (258,s.c):=(by subst h;rfl);have e2:tL ls s y=(258,s):=(by subst h;rfl);rw[e1,e2];show _=_;rw[<-he]
 ·have A6:y<285:=(by omega);have e1:gj ls s.c y=aP (cP ls s.c (y-257) 4) (λn c'=>.ok (3+n,c')):=(by unfold gj;exact if_pos A6);have e2:tL ls s y=(G9 y+(tk ls s (Dz y)).1,(tk ls s (Dz y)).2):=(by unfold tL;exact if_neg h);obtain⟨k,hk⟩:∃k,y-257=k:=⟨_,rfl⟩
  have hy:y=257+k:=(by omega);obtain⟨hb,hx⟩:=Gg k (by omega);rw[e1,e2,hk,hy,hb,hx];clear hy hk h1 h2 h A6 e1 e2;unfold cP;by_cases hk:k<4
  ·rw[if_pos hk,if_pos hk,if_pos hk];have ht:=gp ls s 0 he;rw[wG ls s.c hc]at ht;have ht:tk ls s 0=(0,⟨s.c,s.out,0⟩):=ht;rw[ht];rfl
  ·rw[if_neg hk,if_neg hk,if_neg hk];have ht:=gp ls s (k / 4-1) he;cases hr:fI ls s.c (k / 4-1) with
   | error e=>
    rw[hr]at ht;exact ht
   | ok x=>
    obtain⟨x,c⟩:=x;rw[hr]at ht;have ht:tk ls s (k / 4-1)=(x,⟨c,s.out,0⟩):=ht;rw[ht];show _=_;simp only[Prod.mk.injEq,and_true];omega
theorem DM(ls:List Nat)(s:S5)(y:Nat)(he:s.e=0)(hc:s.c<=ls.length)(h2:y<=29):Mc s (aP (cP ls s.c y 2) (λd c=>.ok (1+d,c))) (jh ls s y):=by
 unfold jh;obtain⟨hb,hx⟩:=Ho y (by omega);rw[hb,hx];unfold cP;by_cases hk:y<2
 ·rw[if_pos hk,if_pos hk,if_pos hk];have ht:=gp ls s 0 he;rw[wG ls s.c hc]at ht;have ht:tk ls s 0=(0,⟨s.c,s.out,0⟩):=ht;rw[ht];rfl
 ·rw[if_neg hk,if_neg hk,if_neg hk];have ht:=gp ls s (y / 2-1) he;cases hr:fI ls s.c (y / 2-1) with
  | error e=>
   rw[hr]at ht;exact ht
  | ok x=>
   obtain⟨x,c⟩:=x;rw[hr]at ht;have ht:tk ls s (y / 2-1)=(x,⟨c,s.out,0⟩):=ht;rw[ht];show _=_;simp only[Prod.mk.injEq,and_true];omega
theorem Bi(ns ls:List Nat)(s:S5)(he:s.e=0):
  ((aN ns (ls.drop s.c)).2.2=10/\(sy ns ls s 53).2.e=55/\(sy ns ls s 53).2.out=s.out)\/((aN ns (ls.drop s.c)).2.2=32/\(sy ns ls s 53).2.e=53) \/
  ∃y k,aN ns (ls.drop s.c)=(y,k,0)/\sy ns ls s 53=(y,⟨s.c+k,s.out,0⟩):=by
 unfold sy;rw[if_neg (by omega)];obtain⟨y,k,g,hn⟩:∃y k g,aN ns (ls.drop s.c)=(y,k,g):=⟨_,_,_,rfl⟩
 have h3:=jJ ns (ls.drop s.c);rw[hn]at h3 ⊢;simp only at h3 ⊢;rcases h3 with rfl | rfl | rfl
 ·exact .inr (.inr ⟨y,k,rfl,by rw[if_neg (by decide),if_neg (by decide)]⟩)
 ·left;simp
 ·right;left;simp
theorem GX(most far n:Nat)(s:S5)(he:s.e=0)(ho:s.out.length≤most):
  (most<s.out.length+n/\(gu most far n s).e=56)\/(s.out.length+n<=most/\gu most far n s=⟨s.c,lI far n s.out,0⟩):=by
 induction n generalizing s with
 | zero=>
  refine .inr ⟨by omega,?_⟩;unfold gu lI;rw[<-he]
 | succ n ih=>
  unfold gu lI;rw[if_neg (by omega)];unfold ly;rw[if_neg (by omega)];by_cases h:most<=s.out.length
  ·rw[if_pos h];refine .inl ⟨by omega,?_⟩;cases n with
   | zero=>rfl
   | succ n=>unfold gu;rw[if_pos (by simp)]
  ·rw[if_neg h];have:=ih ⟨s.c,s.out++[s.out.getD (s.out.length-far) 0],s.e⟩ he (by simp;omega);simp only[List.length_append,List.length_singleton]at this;rcases this with⟨h1,h2⟩ | ⟨h1,h2⟩
   ·exact .inl ⟨by omega,h2⟩
   ·exact .inr ⟨by omega,h2⟩
def Ol(most:Nat)(s:S5)(r:Except Nat ((Nat×Nat)×Nat))(p:S5):Prop:=
 match r with
 | .error e=>e≠0/\p.e=e/\p.out=s.out
 | .ok ((n,far),c)=>match b6 most s.out (.copy n far) with
  | .error e=>p.e=e
  | .ok out=>p=⟨c,out,0⟩
theorem gJ{ls:List Nat}{most:Nat}{dist:List Nat}{s:S5}{y:Nat}(h:y≤285){n:Nat}{s1 s2 s3 s4:S5}{d:Nat}(e1:tL ls s y=(n,s1))(e2:(if s1.e=0∧bI dist=false then {s1 with e:=53} else s1:S5)=s2)(e3:sy dist ls s2 53=(d,s3))(e4:(if s3.e=0∧29<d then {s3 with e:=53} else s3:S5)=s4):
  fE ls most dist s y=if s4.e≠0 then s4 else gu most (jh ls s4 d).1 n (if (jh ls s4 d).2.e=0/\(jh ls s4 d).2.out.length<(jh ls s4 d).1 then {(jh ls s4 d).2 with e:=54} else(jh ls s4 d).2):=by
 unfold fE;rw[if_neg (by omega)];simp only[e1];rw[e2];simp only[e3];rw[e4]
theorem xP(ls:List Nat)(most:Nat)(dist:List Nat)(s:S5)(y:Nat)(he:s.e=0)(hc:s.c<=ls.length)(ho:s.out.length<=most)(h1:257<=y)(h2:y<=285):Ol most s (eU ls dist s.c y) (fE ls most dist s y):=by
 unfold eU;have hl:=GB ls s y he hc h1 h2;cases hr:gj ls s.c y with
 | error e=>
  rw[hr]at hl;obtain⟨hn,lw,kg⟩:=hl;rw[aI rfl];obtain⟨n,s1,hp⟩:∃n s1,tL ls s y=(n,s1):=⟨_,_,rfl⟩
  rw[hp]at lw kg;simp only at lw kg;have h9:s1.e≠0:=(by omega);rw[gJ h2 hp (if_neg (λh=>h9 h.1)) (d:=0) (s3:=s1) (by unfold sy;rw[if_pos h9]) (if_neg (λh=>h9 h.1)),if_pos h9];exact⟨hn,lw,kg⟩
 | ok x=>
  obtain⟨n,c1⟩:=x;rw[hr]at hl;have hl:tL ls s y=(n,⟨c1,s.out,0⟩):=hl;have eS:c1<=ls.length:=by
   unfold gj at hr;split at hr
   ·obtain⟨m,c2,hm,hr⟩:=aD.1 hr;simp only[Except.ok.injEq,Prod.mk.injEq]at hr;unfold cP at hm;split at hm
    ·simp only[Except.ok.injEq,Prod.mk.injEq]at hm;omega
    ·obtain⟨m2,c3,gD,hm⟩:=aD.1 hm;simp only[Except.ok.injEq,Prod.mk.injEq]at hm;have:=cU gD;omega
   ·simp only[Except.ok.injEq,Prod.mk.injEq]at hr;omega
  rw[aq rfl];unfold lD;by_cases hu:bI dist=false
  ·rw[if_pos hu,aI rfl];rw[gJ h2 hl (s2:=⟨c1,s.out,53⟩) (if_pos ⟨rfl,hu⟩) (d:=0) (s3:=⟨c1,s.out,53⟩) (by unfold sy;rw[if_pos (by simp)]) (if_neg (λh=>by cases h.1)),if_pos (by simp)];exact⟨by decide,rfl,rfl⟩
  ·rw[if_neg hu];have e2:(if (⟨c1,s.out,0⟩:S5).e=0/\bI dist=false then {(⟨c1,s.out,0⟩:S5)with e:=53} else⟨c1,s.out,0⟩:S5)=⟨c1,s.out,0⟩:=if_neg (λh=>hu h.2);rcases Bi dist ls ⟨c1,s.out,0⟩ rfl with⟨hn,Ii,hso⟩ | ⟨hn,Ii⟩ | ⟨z,k,hn,iw⟩
   ·rw[oH hn,aI rfl];obtain⟨d,s3,hp⟩:∃d s3,sy dist ls ⟨c1,s.out,0⟩ 53=(d,s3):=⟨_,_,rfl⟩
    rw[hp]at Ii hso;simp only at Ii hso;rw[gJ h2 hl e2 hp (if_neg (λh=>by omega)),if_pos (by omega)];exact⟨by decide,Ii,hso⟩
   ·rw[nj hn,aI rfl];have hso:(sy dist ls ⟨c1,s.out,0⟩ 53).2.out=s.out:=(by unfold sy;split<;>rfl);obtain⟨d,s3,hp⟩:∃d s3,sy dist ls ⟨c1,s.out,0⟩ 53=(d,s3):=⟨_,_,rfl⟩
    rw[hp]at Ii hso;simp only at Ii hso;rw[gJ h2 hl e2 hp (if_neg (λh=>by omega)),if_pos (by omega)];exact⟨by decide,Ii,hso⟩
   ·simp only at hn iw;by_cases hz:29<z
    ·rw[pG hn hz,aI rfl,gJ h2 hl e2 iw (s4:=⟨c1+k,s.out,53⟩) (if_pos ⟨rfl,hz⟩),if_pos (by simp)];exact⟨by decide,rfl,rfl⟩
    ·rw[mC hn (by omega),aq rfl,gJ h2 hl e2 iw (s4:=⟨c1+k,s.out,0⟩) (if_neg (λh=>hz h.2)),if_neg (by simp)];have cS:c1+k<=ls.length:=kq eS hn;have hd:=DM ls ⟨c1+k,s.out,0⟩ z rfl cS (by omega);simp only at hd;cases hq:cP ls (c1+k) z 2 with
     | error e=>
      rw[hq,aI rfl]at hd;obtain⟨I5,hde,TR⟩:=hd;simp only at TR;rw[aI rfl];rw[if_neg (λh=>I5 (hde.symm.trans h.1))];have hcp:∀f m,gu most f m (jh ls ⟨c1+k,s.out,0⟩ z).2=(jh ls ⟨c1+k,s.out,0⟩ z).2:=λf m=>by
       cases m with
       | zero=>rfl
       | succ m=>unfold gu;rw[if_pos (by rw[hde];exact I5)]
      rw[hcp];exact⟨I5,hde,TR⟩
     | ok x=>
      obtain⟨d,c3⟩:=x;rw[hq,aq rfl]at hd;have hd:jh ls ⟨c1+k,s.out,0⟩ z=(1+d,⟨c3,s.out,0⟩):=hd;rw[aq rfl,hd];simp only[true_and];unfold Ol;simp only;by_cases hf:s.out.length<1+d
      ·rw[if_pos hf];have mK:b6 most s.out (.copy n (1+d))=.error 54:=(by simp only[b6];rw[if_pos hf]);rw[mK];show(gu most (1+d) n ⟨c3,s.out,54⟩).e=54;cases n with
       | zero=>rfl
       | succ m=>unfold gu;rw[if_pos (by simp)]
      ·rw[if_neg hf];rcases GX most (1+d) n ⟨c3,s.out,0⟩ rfl ho with⟨h8,h9⟩ | ⟨h8,h9⟩
       ·have mK:b6 most s.out (.copy n (1+d))=.error 56:=(by simp only[b6];rw[if_neg hf,if_pos h8]);rw[mK];exact h9
       ·have mK:b6 most s.out (.copy n (1+d))=.ok (lI (1+d) n s.out):=(by simp only[b6];rw[if_neg hf,if_neg (by simp only at h8;omega)]);rw[mK];exact h9
def BlkS(ls:List Nat)(most:Nat)(b:Bk)(s r:S5):Prop:=
 (r.e=0/\s.c<=r.c/\r.c<=ls.length/\r.out.length<=most/\∃c1 b1,b1.last=b.last/\Runs ls most ⟨s.c,s.out,some b⟩ ⟨c1,r.out,some b1⟩/\bm ls b1 c1=.ok ((.fin,b1),r.c)) \/
 (r.e≠0/\∃t,Ends ls most ⟨s.c,s.out,some b⟩ t r.e/\(r.e=55->t.out=r.out))
theorem BlkS.step{ls:List Nat}{most:Nat}{b b':Bk}{s s' r:S5}(h:jK ls most ⟨s.c,s.out,some b⟩=.ok (⟨s'.c,s'.out,some b'⟩,false))(hc:s.c<=s'.c)(hl:b'.last=b.last)(hr:BlkS ls most b' s' r):BlkS ls most b s r:=by
 rcases hr with⟨h1,h2,h3,h4,c1,b1,h5,h6,h7⟩ | ⟨h1,t,h2,h3⟩
 ·exact .inl ⟨h1,by omega,h3,h4,c1,b1,h5.trans hl,.step h h6,h7⟩
 ·exact .inr ⟨h1,t,.step h h2,h3⟩
theorem jE(ls:List Nat)(most:Nat)(lit dist:List Nat)(f:Nat)(s:S5)(h:s.e≠0):oP ls most lit dist f s=s:=by
 cases f with
 | zero=>rfl
 | succ f=>unfold oP;rw[if_pos h]
theorem sI(ls:List Nat)(most:Nat)(lit dist:List Nat)(last:Bool)(f:Nat)(s:S5)(he:s.e=0)(hc:s.c<=ls.length)(ho:s.out.length<=most)(hf:ls.length-s.c<f):BlkS ls most (.sym last lit dist) s (oP ls most lit dist f s):=by
 induction f generalizing s with
 | zero=>omega
 | succ f ih=>
  unfold oP;rw[if_neg (by omega)];simp only;rcases Bi lit ls s he with⟨hn,Ii,hso⟩ | ⟨hn,Ii⟩ | ⟨y,k,hn,iw⟩
  ·rw[if_pos (by omega)];refine .inr ⟨by omega,_,.stop ?_,λ_=>hso.symm⟩;rw[Ii];exact bP rfl (by rw[bU];exact aI (oH hn))
  ·rw[if_pos (by omega)];refine .inr ⟨by omega,_,.stop ?_,λh=>by omega⟩;rw[Ii];exact bP rfl (by rw[bU];exact aI (nj hn))
  ·rw[iw];simp only;rw[if_neg (by simp)];have hk:=nZ hn;have hck:=kq hc hn;by_cases h256:y<256
   ·rw[if_pos h256];have hst:bm ls (.sym last lit dist) s.c=.ok ((.byte y,.sym last lit dist),s.c+k):=by
     rw[bU,aq (mC hn (by omega))];unfold iz;rw[if_pos h256]
    unfold ly;rw[if_neg (by simp)];by_cases hm:most<=s.out.length
    ·rw[if_pos hm,jE _ _ _ _ _ _ (by simp)];refine .inr ⟨by simp,_,.stop ?_,λh=>by cases h⟩;rw[aQ rfl hst];exact iN (by intro h;cases h) (by simp only[b6];rw[if_pos (by omega)])
    ·rw[if_neg hm];refine BlkS.step (s':=⟨s.c+k,s.out++[y],0⟩) (b':=.sym last lit dist) ?_ (by simp) rfl (ih _ rfl hck (by simp;omega) (by simp only;omega));rw[aQ rfl hst];exact gX (by intro h;cases h) (by simp only[b6];rw[if_neg (by omega)])
   ·rw[if_neg h256];by_cases h6:y=256
    ·rw[if_pos h6];refine .inl ⟨rfl,by simp,hck,ho,s.c,.sym last lit dist,rfl,.refl _,?_⟩;rw[bU,aq (mC hn (by omega))];unfold iz;rw[if_neg h256,if_pos h6]
    ·rw[if_neg h6];by_cases A6:285<y
     ·have hcp:fE ls most dist ⟨s.c+k,s.out,0⟩ y=⟨s.c+k,s.out,53⟩:=(by unfold fE;rw[if_pos A6]);rw[hcp,jE _ _ _ _ _ _ (by simp)];refine .inr ⟨by simp,_,.stop ?_,λh=>by cases h⟩;exact bP rfl (by rw[bU];exact aI (pG hn A6))
     ·have dL:=xP ls most dist ⟨s.c+k,s.out,0⟩ y rfl hck ho (by omega) (by omega);simp only at dL;have hsp:bm ls (.sym last lit dist) s.c=aP (eU ls dist (s.c+k) y) (λx c2=>.ok ((.copy x.1 x.2,.sym last lit dist),c2)):=by
       rw[bU,aq (mC hn (by omega))];unfold iz;rw[if_neg h256,if_neg h6]
      cases hq:eU ls dist (s.c+k) y with
      | error e=>
       rw[hq]at dL;obtain⟨I5,h8,h9⟩:=dL;rw[hq,aI rfl]at hsp;rw[jE _ _ _ _ _ _ (by rw[h8];exact I5)];refine .inr ⟨by rw[h8];exact I5,_,.stop ?_,λ_=>h9.symm⟩;rw[h8];exact bP rfl hsp
      | ok x=>
       obtain⟨⟨n,far⟩,c2⟩:=x;have cS:s.c+k<=c2/\c2<=ls.length:=by
        obtain⟨n1,c3,hl,hq⟩:=aD.1 hq;obtain⟨z,c4,hd,hq⟩:=aD.1 hq;obtain⟨d,c5,hm,hq⟩:=aD.1 hq;simp only[Except.ok.injEq,Prod.mk.injEq]at hq;have Ey:∀a b c d' e',a<=ls.length->cP ls a b c=.ok (d',e')->a<=e'/\e'<=ls.length:=λa b c d' e' ha h=>by
         unfold cP at h;split at h
         ·simp only[Except.ok.injEq,Prod.mk.injEq]at h;omega
         ·obtain⟨m2,c9,gD,h⟩:=aD.1 h;simp only[Except.ok.injEq,Prod.mk.injEq]at h;have:=cU gD;omega
        have g1:s.c+k<=c3/\c3<=ls.length:=by
         unfold gj at hl;split at hl
         ·obtain⟨m,c9,hm9,hl⟩:=aD.1 hl;simp only[Except.ok.injEq,Prod.mk.injEq]at hl;have:=Ey _ _ _ _ _ hck hm9;omega
         ·simp only[Except.ok.injEq,Prod.mk.injEq]at hl;omega
        have g2:c3<=c4/\c4<=ls.length:=by
         unfold lD at hd;split at hd
         ·cases hd
         ·rcases dh hd with⟨h1,_⟩ | ⟨h1,_⟩ | ⟨y',k',yq,⟨_,h1⟩ | ⟨_,h1⟩⟩
          ·cases h1
          ·cases h1
          ·cases h1
          ·simp only[Except.ok.injEq,Prod.mk.injEq]at h1;have:=kq g1.2 yq;omega
        have g3:=Ey _ _ _ _ _ g2.2 hm;omega
       rw[hq]at dL;have dL:match b6 most s.out (.copy n far)with | .error e=>(fE ls most dist ⟨s.c+k,s.out,0⟩ y).e=e | .ok out=>fE ls most dist ⟨s.c+k,s.out,0⟩ y=⟨c2,out,0⟩:=dL
       rw[hq,aq rfl]at hsp;cases hlp:b6 most s.out (.copy n far) with
       | error e=>
        rw[hlp]at dL;have dL:(fE ls most dist ⟨s.c+k,s.out,0⟩ y).e=e:=dL;have YP:=kQ hlp;rw[jE _ _ _ _ _ _ (by rw[dL];omega)];refine .inr ⟨by rw[dL];omega,_,.stop ?_,λh=>by rw[dL]at h;omega⟩;rw[dL,aQ rfl hsp];exact iN (by intro h;cases h) hlp
       | ok out=>
        rw[hlp]at dL;have dL:fE ls most dist ⟨s.c+k,s.out,0⟩ y=⟨c2,out,0⟩:=dL;rw[dL];refine BlkS.step (s':=⟨c2,out,0⟩) (b':=.sym last lit dist) ?_ (by simp only;omega) rfl (ih _ rfl cS.2 ((kS hlp).2.1 ho) (by simp only;omega));rw[aQ rfl hsp];exact gX (by intro h;cases h) hlp
theorem Hk(ls:List Nat)(most:Nat)(last:Bool)(k:Nat)(s:S5)(he:s.e=0)(hc:s.c<=ls.length)(ho:s.out.length<=most):BlkS ls most (.raw last k) s (Lk ls most k s):=by
 induction k generalizing s with
 | zero=>exact .inl ⟨he,Nat.le_refl _,hc,ho,s.c,.raw last 0,rfl,.refl _,rfl⟩
 | succ k ih=>
  have ht:=gp ls s 8 he;have hst:bm ls (.raw last (k+1)) s.c=aP (fI ls s.c 8) (λv c'=>.ok ((.byte v,.raw last k),c')):=rfl;have yD:∀q:S5,q.e≠0->Lk ls most k q=q:=λq hq=>by
   cases k with
   | zero=>rfl
   | succ k=>unfold Lk;rw[if_pos hq]
  unfold Lk;rw[if_neg (by omega)];cases hr:fI ls s.c 8 with
  | error e=>
   rw[hr]at ht hst;obtain⟨I5,h8,h9⟩:=ht;have j9:ly most (tk ls s 8).2 (tk ls s 8).1=(tk ls s 8).2:=(by unfold ly;rw[if_pos (by omega)]);rw[j9,yD _ (by omega)];refine .inr ⟨by omega,_,.stop ?_,λ_=>h9.symm⟩;rw[h8];exact bP rfl hst
  | ok x=>
   obtain⟨x,c⟩:=x;have hx:=cU hr;rw[hr,aq rfl]at hst;rw[hr]at ht;have ht:tk ls s 8=(x,⟨c,s.out,0⟩):=ht;rw[ht];simp only;unfold ly;rw[if_neg (by simp)];by_cases hm:most<=s.out.length
   ·rw[if_pos hm,yD _ (by simp)];refine .inr ⟨by simp,_,.stop ?_,λh=>by cases h⟩;rw[aQ rfl hst];exact iN (by intro h;cases h) (by simp only[b6];rw[if_pos (by omega)])
   ·rw[if_neg hm];refine BlkS.step (s':=⟨c,s.out++[x],0⟩) (b':=.raw last k) ?_ (by simp only;omega) rfl (ih _ rfl (by simp only;omega) (by simp;omega));rw[aQ rfl hst];exact gX (by intro h;cases h) (by simp only[b6];rw[if_neg (by omega)])
def OneS(ls:List Nat)(most:Nat)(s:S5)(r:Nat×S5):Prop:=
 (r.2.e=0/\s.c<r.2.c/\r.2.c<=ls.length/\r.2.out.length<=most/\((r.1=0/\Runs ls most ⟨s.c,s.out,none⟩ ⟨r.2.c,r.2.out,none⟩)\/(r.1≠0/\∃bk,Ends ls most ⟨s.c,s.out,none⟩ ⟨r.2.c,r.2.out,bk⟩ 0))) \/
 (r.2.e≠0/\∃t,Ends ls most ⟨s.c,s.out,none⟩ t r.2.e/\(r.2.e=55->t.out=r.2.out))
theorem OneS.of{ls:List Nat}{most l c:Nat}{b:Bk}{s r:S5}(hb:dq ls s.c=.ok (b,c))(hc:s.c<c)(hl:b.last=(l==1))(mK:l<2)(h:BlkS ls most b ⟨c,s.out,0⟩ r):OneS ls most s (l,r):=by
 have hs:jK ls most ⟨s.c,s.out,none⟩=.ok (⟨c,s.out,some b⟩,false):=dj rfl hb;rcases h with⟨h1,h2,h3,h4,c1,b1,h5,h6,h7⟩ | ⟨h1,t,h2,h3⟩
 ·refine .inl ⟨h1,by simp only at h2;simp only;omega,h3,h4,?_⟩;by_cases h0:l=0
  ·refine .inl ⟨h0,.step hs (h6.trans (.step ?_ (.refl _)))⟩;rw[aQ rfl h7,gh,if_neg (by rw[h5,hl,h0];decide)]
  ·refine .inr ⟨h0,some b1,.step hs (h6.ends (.done ?_))⟩;rw[aQ rfl h7,gh,if_pos (by rw[h5,hl];simp;omega)]
 ·exact .inr ⟨h1,t,.step hs h2,h3⟩
theorem sN(ls:List Nat)(hb:∀b∈ls,b<2)(c n:Nat):aW ls c n<2 ^ n:=by unfold aW;refine Nat.lt_of_lt_of_le (vG _ (λb nS=>hb b (List.mem_of_mem_drop (List.mem_of_mem_take nS)))) ?_;rw[List.length_take];exact Nat.pow_le_pow_right (by decide) (Nat.min_le_left _ _)
theorem FD(ls:List Nat)(hb:∀b∈ls,b<2)(most:Nat)(s:S5)(he:s.e=0)(ho:s.out.length<=most):OneS ls most s (zT ls most s):=by
 unfold zT;simp only;have jY:=gp ls s 1 he;cases h1:fI ls s.c 1 with
 | error e=>
  rw[h1]at jY;obtain⟨I5,h8,h9⟩:=jY;have h2:tk ls (tk ls s 1).2 2=(0,(tk ls s 1).2):=by show(if (tk ls s 1).2.e≠0 then(0,(tk ls s 1).2)else _)=_;rw[if_pos (by omega)]
  rw[h2,if_pos (by simp only;omega)];refine .inr ⟨by simp only;omega,_,.stop ?_,λ_=>h9.symm⟩;simp only;rw[h8];exact bG rfl (aI h1)
 | ok x=>
  obtain⟨l,c1⟩:=x;have ip:=cU h1;have mK:l<2:=(by have:=sN ls hb s.c 1;omega);rw[h1]at jY;have jY:tk ls s 1=(l,⟨c1,s.out,0⟩):=jY;rw[jY];simp only;have fZ:=gp ls ⟨c1,s.out,0⟩ 2 rfl;simp only at fZ;cases h2:fI ls c1 2 with
  | error e=>
   rw[h2]at fZ;obtain⟨I5,h8,h9⟩:=fZ;rw[if_pos (by omega)];refine .inr ⟨by simp only;omega,_,.stop ?_,λ_=>h9.symm⟩;simp only;rw[h8];exact bG rfl (by unfold dq;rw[aq h1];exact aI h2)
  | ok x=>
   obtain⟨k,c2⟩:=x;have f8:=cU h2;rw[h2]at fZ;have fZ:tk ls ⟨c1,s.out,0⟩ 2=(k,⟨c2,s.out,0⟩):=fZ;rw[fZ];simp only;rw[if_neg (by simp)];have ez:dq ls s.c=fV ls (l==1) c2 k:=(by unfold dq;rw[aq h1,aq h2]);by_cases k0:k=0
   ·rw[if_pos k0];have ez:dq ls s.c=aP (lB ls c2) (λn c'=>.ok (.raw (l==1) n,c')):=(by rw[ez];unfold fV;rw[if_pos k0]);unfold BM;simp only;have j8:=gp ls ⟨(c2+7) / 8*8,s.out,0⟩ 16 rfl;simp only at j8;unfold lB at ez;have yD:∀(m:Nat) (q:S5),q.e≠0->Lk ls most m q=q:=λm q hq=>by
     cases m with
     | zero=>rfl
     | succ m=>unfold Lk;rw[if_pos hq]
    cases h3:fI ls ((c2+7) / 8*8) 16 with
    | error e=>
     rw[h3]at j8 ez;obtain⟨I5,h8,h9⟩:=j8;have h4:tk ls (tk ls ⟨(c2+7) / 8*8,s.out,0⟩ 16).2 16=(0,(tk ls ⟨(c2+7) / 8*8,s.out,0⟩ 16).2):=by show(if (tk ls ⟨(c2+7) / 8*8,s.out,0⟩ 16).2.e≠0 then(0,(tk ls ⟨(c2+7) / 8*8,s.out,0⟩ 16).2)else _)=_;rw[if_pos (by omega)]
     rw[h4];simp only;rw[if_neg (λh=>by omega),yD _ _ (by omega)];refine .inr ⟨by simp only;omega,_,.stop ?_,λ_=>h9.symm⟩;simp only;rw[h8];exact bG rfl ez
    | ok x=>
     obtain⟨n,c3⟩:=x;have MT:=cU h3;rw[h3]at j8;rw[h3,aq rfl]at ez;have j8:tk ls ⟨(c2+7) / 8*8,s.out,0⟩ 16=(n,⟨c3,s.out,0⟩):=j8;rw[j8];simp only;have l6:=gp ls ⟨c3,s.out,0⟩ 16 rfl;simp only at l6;cases h4:fI ls c3 16 with
     | error e=>
      rw[h4]at l6 ez;obtain⟨I5,h8,h9⟩:=l6;rw[if_neg (λh=>by omega),yD _ _ (by omega)];refine .inr ⟨by simp only;omega,_,.stop ?_,λ_=>h9.symm⟩;simp only;rw[h8];exact bG rfl ez
     | ok x=>
      obtain⟨m,c4⟩:=x;have Co:=cU h4;rw[h4]at l6;rw[h4,aq rfl]at ez;have l6:tk ls ⟨c3,s.out,0⟩ 16=(m,⟨c4,s.out,0⟩):=l6;rw[l6];simp only[true_and];by_cases yE:n+m=65535
      ·rw[if_neg (λh=>h yE)];rw[if_pos yE,aq rfl]at ez;exact OneS.of ez (by omega) rfl mK (Hk ls most (l==1) n ⟨c4,s.out,0⟩ rfl (by simp only;omega) ho)
      ·rw[if_pos yE,yD _ _ (by simp)];rw[if_neg yE,aI rfl]at ez;exact .inr ⟨by simp,_,.stop (bG rfl ez),λh=>by cases h⟩
   ·rw[if_neg k0];by_cases k1:k=1
    ·rw[if_pos k1];have ez:dq ls s.c=.ok (.sym (l==1) fixL fixD,c2):=(by rw[ez];unfold fV;rw[if_neg k0,if_pos k1]);exact OneS.of ez (by omega) rfl mK (sI ls most fixL fixD (l==1) (ls.length+1) ⟨c2,s.out,0⟩ rfl (by simp only;omega) ho (by simp only;omega))
    ·rw[if_neg k1];by_cases k2:k=2
     ·rw[if_pos k2];have ez:dq ls s.c=aP (oj ls c2) (λx c'=>.ok (.sym (l==1) x.1 x.2,c')):=(by rw[ez];unfold fV;rw[if_neg k0,if_neg k1,if_pos k2]);unfold oj at ez;cases h5:dW ls c2 with
      | error e=>
       rw[h5]at ez;have ez:dq ls s.c=.error e:=ez;exact .inr ⟨xi h5,_,.stop (bG rfl ez),λ_=>rfl⟩
      | ok x=>
       obtain⟨⟨lt,ds⟩,n⟩:=x;rw[h5]at ez;have ez:dq ls s.c=.ok (.sym (l==1) lt ds,c2+n):=ez;have hg:=xC h5;exact OneS.of ez (by omega) rfl mK (sI ls most lt ds (l==1) (ls.length+1) ⟨c2+n,s.out,0⟩ rfl (by simp only;omega) ho (by simp only;omega))
     ·rw[if_neg k2];have ez:dq ls s.c=.error 50:=(by rw[ez];unfold fV;rw[if_neg k0,if_neg k1,if_neg k2]);exact .inr ⟨by simp,_,.stop (bG rfl ez),λh=>by cases h⟩
theorem Eb(ls:List Nat)(hb:∀b∈ls,b<2)(most f:Nat)(s:S5)(he:s.e=0)(ho:s.out.length≤most)(hf:ls.length-s.c<f):
  ∃t,Ends ls most ⟨s.c,s.out,none⟩ t (kF ls most f s).e/\((kF ls most f s).e=0\/(kF ls most f s).e=55->t.out=(kF ls most f s).out)/\((kF ls most f s).e=0->t.c=(kF ls most f s).c):=by
 induction f generalizing s with
 | zero=>omega
 | succ f ih=>
  unfold kF;rw[if_neg (by omega)];have yD:∀q:S5,q.e≠0->kF ls most f q=q:=λq hq=>by
   cases f with
   | zero=>rfl
   | succ f=>unfold kF;rw[if_pos hq]
  rcases FD ls hb most s he ho with⟨h1,h2,h3,h4,⟨h5,h6⟩ | ⟨h5,bk,h6⟩⟩ | ⟨h1,t,h2,h3⟩
  ·rw[if_pos h5];obtain⟨t,h7,h8,h9⟩:=ih (zT ls most s).2 h1 h4 (by omega);exact⟨t,h6.ends h7,h8,h9⟩
  ·rw[if_neg h5];exact⟨_,by rw[h1];exact h6,λ_=>rfl,λ_=>rfl⟩
  ·by_cases h0:(zT ls most s).1=0
   ·rw[if_pos h0,yD _ h1];exact⟨t,h2,λh=>h3 (h.resolve_left h1),λh=>absurd h h1⟩
   ·rw[if_neg h0];exact⟨t,h2,λh=>h3 (h.resolve_left h1),λh=>absurd h h1⟩
theorem DE(ls:List Nat)(hb:∀b∈ls,b<2)(most:Nat):
  ∃t,Ends ls most ps0 t (iO ls most).e/\((iO ls most).e=0\/(iO ls most).e=55->t.out=(iO ls most).out)/\((iO ls most).e=0->t.c=(iO ls most).c):=
 Eb ls hb most (ls.length+1) ⟨0,[],0⟩ rfl (Nat.zero_le _) (by simp only;omega)
def bZ(n p:Nat):Nat:=pt n-p
def eB(n p:Nat):Nat:=bZ n p*2 ^ (p-1)+n / 2 ^ bZ n p
def ed(n p:Nat):Nat:=n % 2 ^ bZ n p
theorem Kr(n k:Nat)(h:k<pt n):2 ^ k<=n:=by refine Classical.byContradiction (λhc=>?_);have:=(gt n k).2 (by omega);omega
theorem Bg(n p:Nat):ed n p<2 ^ bZ n p:=Nat.mod_lt _ (Nat.two_pow_pos _)
theorem sS(A B:List Nat)(n p:Nat)(hp:1<=p):cP (A++(aj (ed n p) (bZ n p)++B)) A.length (eB n p) (2 ^ (p-1))=.ok (n,A.length+bZ n p):=by
 have hk:0<2 ^ (p-1):=Nat.two_pow_pos _;have VU:2 ^ p=2*2 ^ (p-1):=by rw[<-Nat.pow_succ'];congr 1;omega
 by_cases hw:bZ n p=0
 ·have hn:n<2 ^ p:=(gt n p).1 (by unfold bZ at hw;omega);have hs:eB n p=n:=(by unfold eB;rw[hw];simp);rw[hs,hw];unfold cP;by_cases h:n<2 ^ (p-1)
  ·rw[if_pos h];rfl
  ·rw[if_neg h];have hq:n / 2 ^ (p-1)=1:=Nat.div_eq_of_lt_le (by omega) (by omega);have hm:2 ^ (p-1)+n % 2 ^ (p-1)=n:=by
    have:=Nat.div_add_mod n (2 ^ (p-1));rw[hq]at this;omega
   rw[hq,hm,eC (by rw[List.length_append];omega)];show Except.ok _=_;simp[aW,n2]
 ·obtain⟨w,hw2⟩:∃w,bZ n p=w:=⟨_,rfl⟩
  have hb:pt n=w+p:=(by unfold bZ at hw2 hw;omega);have kg:2 ^ (w+p-1)<=n:=Kr n _ (by omega);have yT:n<2 ^ (w+p):=(gt n _).1 (by omega);obtain⟨q,hq⟩:∃q,n / 2 ^ w=q:=⟨_,rfl⟩
  have mI:0<2 ^ w:=Nat.two_pow_pos _;have Yr:2 ^ (p-1)<=q:=(by rw[<-hq,Nat.le_div_iff_mul_le mI,<-Nat.pow_add];rwa [show p-1+w=w+p-1 by omega]);have Lp:q<2*2 ^ (p-1):=(by rw[<-hq,<-VU,Nat.div_lt_iff_lt_mul mI,<-Nat.pow_add];rwa [Nat.add_comm p w]);have hs:eB n p=w*2 ^ (p-1)+q:=(by unfold eB;rw[hw2,hq]);have hx:ed n p=n % 2 ^ w:=(by unfold ed;rw[hw2]);have sd:n % 2 ^ w<2 ^ w:=Nat.mod_lt _ mI;obtain⟨k,hkk⟩:∃k,2 ^ (p-1)=k:=⟨_,rfl⟩
  rw[hkk]at hk Yr Lp hs ⊢;have TJ:q / k=1:=Nat.div_eq_of_lt_le (by omega) (by omega);have hd:(w*k+q) / k=w+1:=(by rw[Nat.mul_comm,Nat.mul_add_div hk,TJ]);have hm:k+(w*k+q) % k=q:=by rw[Nat.mul_comm,Nat.mul_add_mod];have h9:=Nat.div_add_mod q k;rw[TJ]at h9;omega
  unfold cP;rw[hs,hw2,hx,if_neg (by have:=Nat.le_mul_of_pos_left k (show 0<w by omega);omega),hd,hm,Nat.add_sub_cancel];rw[eC (by rw[List.length_append,List.length_append,af];omega),ei A B _ w sd];show Except.ok _=_;have:=Nat.div_add_mod n (2 ^ w);rw[hq,Nat.mul_comm]at this;rw[this]
structure MK where
 sym:Nat
 extra:Nat
 width:Nat
def aK(t:TK):MK:=if t.len=0 then⟨t.lit,0,0⟩else if t.len=258 then⟨285,0,0⟩ else⟨257+eB (t.len.toNat-3) 3,ed (t.len.toNat-3) 3,bZ (t.len.toNat-3) 3⟩
def aJ(t:TK):MK:=⟨eB (t.dist.toNat-1) 2,ed (t.dist.toNat-1) 2,bZ (t.dist.toNat-1) 2⟩
def cH(cs:List Nat)(m:MK):List Nat:=aG cs m.sym++aj m.extra m.width
def az(lit dist:List Nat)(t:TK):List Nat:=cH lit (aK t)++(if t.len=0 then []else cH dist (aJ t))
theorem mD(cs:List Nat)(m:MK):∀b∈cH cs m,b<2:=by
 intro b hb;rcases List.mem_append.1 hb with h | h
 ·exact de _ _ b h
 ·exact eo _ _ b h
theorem xj(lit dist:List Nat)(t:TK):∀b∈az lit dist t,b<2:=by
 intro b hb;rcases List.mem_append.1 hb with h | h
 ·exact mD _ _ b h
 ·split at h
  ·simp at h
  ·exact mD _ _ b h
theorem nk(lit dist:List Nat)(ts:List TK):∀b∈ts.flatMap (az lit dist),b<2:=by intro b hb;obtain⟨t,_,ht⟩:=List.mem_flatMap.1 hb;exact xj _ _ t b ht
def Ms(lit dist:List Nat)(t:TK):Prop:=(aK t).sym<lit.length/\key lit (aK t).sym≠0/\(t.len≠0->(aJ t).sym<dist.length/\key dist (aJ t).sym≠0)
theorem kG{l:List Nat}{s:Nat}(h:s<l.length)(h0:key l s≠0):bI l=true:=by unfold bI;rw[List.any_eq_true];refine⟨l[s],List.getElem_mem h,?_⟩;rw[ba h]at h0;simpa using h0
theorem nn{ns:List Nat}(hp:Pf ns)(A rest:List Nat)(hb:∀b∈rest,b<2){y last:Nat}(hy:y<ns.length)(h0:key ns y≠0)(hl:y<=last):oo ns (A++(aG ns y++rest)) A.length last=.ok (y,A.length+key ns y):=
 mC (by rw[List.drop_left];exact nU hp.ms hp.le hy h0 rest hb) hl
theorem J4(far n:Nat)(out:List Nat):CT far n out=lI far n out:=by
 induction n generalizing out with
 | zero=>rfl
 | succ n ih=>rw[CT,lI,ih]
theorem gO(n p m:Nat)(h:n<2 ^ (m+p))(hp:1<=p):eB n p<(m+2)*2 ^ (p-1):=by
 have hk:0<2 ^ (p-1):=Nat.two_pow_pos _;have hb:pt n<=m+p:=(gt n _).2 h;have hw:bZ n p<=m:=by unfold bZ;omega
 have hq:n / 2 ^ bZ n p<2*2 ^ (p-1):=by
  rw[Nat.div_lt_iff_lt_mul (Nat.two_pow_pos _)];have h2:n<2 ^ (bZ n p+p):=(gt n _).1 (by unfold bZ;omega);have e:2*2 ^ (p-1)*2 ^ bZ n p=2 ^ (bZ n p+p):=by rw[<-Nat.pow_succ',<-Nat.pow_add];congr 1;omega
  omega
 have h3:bZ n p*2 ^ (p-1)<=m*2 ^ (p-1):=Nat.mul_le_mul_right _ hw;unfold eB;rw[Nat.add_mul];omega
theorem GU{lit dist:List Nat}(ho:OkL lit dist)(A B out:List Nat)(hB:∀b∈B,b<2)(most:Nat)(t:TK)(hm:ph t out.length=true)(hh:Ms lit dist t)(Rn:t.lit<256)(hd:t.dist≤16384)(hl:out.length+pv t≤most):
  jK (A++(az lit dist t++B)) most ⟨A.length,out,some (.sym true lit dist)⟩=.ok (⟨A.length+(az lit dist t).length,nH out t,some (.sym true lit dist)⟩,false):=by
 rcases fe hm with⟨h0,_,h1⟩ | ⟨n,d,h0,Ia,_,h3,h4,h5,h6,h1⟩
 ·have sq:aK t=⟨t.lit,0,0⟩:=(by unfold aK;rw[if_pos h0]);have hb:az lit dist t=aG lit t.lit:=by
   unfold az cH;rw[sq,if_pos h0];simp[aj]
  obtain⟨hs,hk,_⟩:=hh;rw[sq]at hs hk;simp only at hs hk;have h9:=nn ho.lit.pf A B hB (y:=t.lit) (last:=285) hs hk (by omega);have hst:bm (A++(aG lit t.lit++B)) (.sym true lit dist) A.length=.ok ((.byte t.lit,.sym true lit dist),A.length+key lit t.lit):=by rw[bU,aq h9];unfold iz;rw[if_pos Rn]
  rw[hb,aw,aQ (s:=⟨A.length,out,some (.sym true lit dist)⟩) rfl hst];have Ng:nH out t=out++[t.lit]:=(by unfold nH;rw[if_pos h0]);rw[Ng];exact gX (by intro h;cases h) (by simp only[b6];rw[if_neg (by omega)])
 ·have nP:t.len≠0:=(by omega);obtain⟨hs,hk,ET⟩:=hh;obtain⟨R2,Sa⟩:=ET nP;have hu:=kG R2 Sa;obtain⟨y,hy⟩:∃y,(aK t).sym=y:=⟨_,rfl⟩
  obtain⟨z,hz⟩:∃z,(aJ t).sym=z:=⟨_,rfl⟩
  have Ro:z=eB (d-1) 2:=(by rw[<-hz];unfold aJ;rw[Ia];simp);have uJ:z<=29:=(by have:=gO (d-1) 2 12 (by omega) (by decide);rw[<-Ro]at this;omega);have SO:aJ t=⟨z,ed (d-1) 2,bZ (d-1) 2⟩:=(by rw[Ro];unfold aJ;rw[Ia];simp);rw[hy]at hs hk;rw[hz]at R2 Sa;obtain⟨D,hD⟩:∃D,cH dist (aJ t)=D:=⟨_,rfl⟩
  have ST:D=aG dist z++aj (ed (d-1) 2) (bZ (d-1) 2):=(by rw[<-hD,SO];rfl);have Xt:∀b∈D++B,b<2:=λb hb=>by
   rcases List.mem_append.1 hb with h | h
   ·rw[<-hD]at h;exact mD _ _ b h
   ·exact hB b h
  have ag:∀(C:List Nat),∃X,cH lit (aK t)=aG lit y++X/\257<=y/\y<=285/\(∀b∈X,b<2)/\gj (C++(X++(D++B))) C.length y=.ok (n,C.length+X.length):=by
   intro C;by_cases h258:n=258
   ·have sq:aK t=⟨285,0,0⟩:=(by unfold aK;rw[if_neg nP,if_pos (by omega)]);have Ts:y=285:=(by rw[<-hy,sq]);refine⟨[],by rw[sq,Ts];unfold cH;simp[aj],by omega,by omega,by simp,?_⟩;rw[Ts,h258];rfl
   ·have sq:aK t=⟨257+eB (n-3) 3,ed (n-3) 3,bZ (n-3) 3⟩:=(by unfold aK;rw[if_neg nP,if_neg (by omega),h0];simp);have VE:y=257+eB (n-3) 3:=(by rw[<-hy,sq]);have iy:=gO (n-3) 3 5 (by omega) (by decide);refine⟨aj (ed (n-3) 3) (bZ (n-3) 3),by rw[sq,VE];rfl,by omega,by omega,eo _ _,?_⟩;have A6:y<285:=by
     have h9:(5+2)*2 ^ (3-1)=28:=(by decide);omega
    have e1:gj (C++(aj (ed (n-3) 3) (bZ (n-3) 3)++(D++B))) C.length y=aP (cP (C++(aj (ed (n-3) 3) (bZ (n-3) 3)++(D++B))) C.length (y-257) 4) (λn c'=>.ok (3+n,c')):=(by unfold gj;exact if_pos A6);have e2:=sS C (D++B) (n-3) 3 (by decide);rw[e1,show y-257=eB (n-3) 3 by omega,aq (show cP _ _ _ 4=_ from e2),af,show 3+(n-3)=n by omega]
  obtain⟨X,hX,NS,AU,Vl,_⟩:=ag [];have rG:∀(C:List Nat),gj (C++(X++(D++B))) C.length y=.ok (n,C.length+X.length):=λC=>by obtain⟨X',hX',_,_,_,h9⟩:=ag C;have e:X'=X:=List.append_cancel_left (hX'.symm.trans hX);rw[e]at h9;exact h9
  have hb:az lit dist t=aG lit y++(X++D):=(by unfold az;rw[if_neg nP,hD,hX,List.append_assoc]);have EG:A++(az lit dist t++B)=A++(aG lit y++(X++(D++B))):=(by rw[hb];simp[List.append_assoc]);have h9:=nn ho.lit.pf A (X++(D++B)) (λb hb=>by
   rcases List.mem_append.1 hb with h | h
   ·exact Vl b h
   ·exact Xt b h) (y:=y) (last:=285) hs hk AU
  have e1:A++(aG lit y++(X++(D++B)))=(A++aG lit y)++(X++(D++B)):=(by simp[List.append_assoc]);have l1:(A++aG lit y).length=A.length+key lit y:=(by rw[List.length_append,aw]);have Ih:=rG (A++aG lit y);rw[<-e1,l1]at Ih;have e2:A++(aG lit y++(X++(D++B)))=(A++aG lit y++X)++(aG dist z++(aj (ed (d-1) 2) (bZ (d-1) 2)++B)):=(by rw[ST];simp[List.append_assoc]);have l2:(A++aG lit y++X).length=A.length+key lit y+X.length:=(by rw[List.length_append,l1]);have QA:=nn ho.pf (A++aG lit y++X) (aj (ed (d-1) 2) (bZ (d-1) 2)++B) (λb hb=>by
   rcases List.mem_append.1 hb with h | h
   ·exact eo _ _ b h
   ·exact hB b h) (y:=z) (last:=29) R2 Sa uJ
  rw[<-e2,l2]at QA;have SE:lD dist (A++(aG lit y++(X++(D++B)))) (A.length+key lit y+X.length)=.ok (z,A.length+key lit y+X.length+key dist z):=by unfold lD;rw[if_neg (by rw[hu];decide)];exact QA
  have e3:A++(aG lit y++(X++(D++B)))=(A++aG lit y++X++aG dist z)++(aj (ed (d-1) 2) (bZ (d-1) 2)++B):=(by rw[ST];simp[List.append_assoc]);have l3:(A++aG lit y++X++aG dist z).length=A.length+key lit y+X.length+key dist z:=(by rw[List.length_append,l2,aw]);have UA:=sS (A++aG lit y++X++aG dist z) B (d-1) 2 (by decide);rw[<-e3,l3,<-Ro]at UA;have Rv:eU (A++(aG lit y++(X++(D++B)))) dist (A.length+key lit y) y=.ok ((n,d),A.length+key lit y+X.length+key dist z+bZ (d-1) 2):=(by unfold eU;rw[aq Ih,aq SE,aq (show cP _ _ _ 2=_ from UA),show 1+(d-1)=d by omega]);have hst:bm (A++(aG lit y++(X++(D++B)))) (.sym true lit dist) A.length=.ok ((.copy n d,.sym true lit dist),A.length+key lit y+X.length+key dist z+bZ (d-1) 2):=(by rw[bU,aq h9];unfold iz;rw[if_neg (by omega),if_neg (by omega),aq Rv]);have sl:(az lit dist t).length=key lit y+X.length+key dist z+bZ (d-1) 2:=(by rw[hb,ST];simp only[List.length_append,aw,af];omega);rw[EG,sl,aQ (s:=⟨A.length,out,some (.sym true lit dist)⟩) rfl hst];have Ng:nH out t=lI d n out:=(by unfold nH;rw[if_neg nP,h0,Ia,J4];simp);rw[Ng,<-Nat.add_assoc,<-Nat.add_assoc,<-Nat.add_assoc];exact gX (by intro h;cases h) (by simp only[b6];rw[if_neg (by omega),if_neg (by omega)])
structure ox(lit dist:List Nat)(ts:List TK):Prop where
 has:∀t∈ts,Ms lit dist t
 end':256<lit.length/\key lit 256≠0
 byte:∀t∈ts,t.lit<256
theorem wN{t:TK}{said:Nat}(h:ph t said=true)(hs:said<=16384):t.dist<=16384:=by
 rcases fe h with⟨_,h2,_⟩ | ⟨n,d,_,h2,_,_,_,_,h6,_⟩
 ·omega
 ·omega
theorem xf{lit dist:List Nat}(ho:OkL lit dist)(B:List Nat)(hB:∀b∈B,b<2)(most:Nat)(Vy:most≤16384)(ts:List TK)(hk:ox lit dist ts)(A out:List Nat)(n:Nat)(hm:cj most ts out.length=.ok n)(Qh:out.length≤most):
  Ends (A++(ts.flatMap (az lit dist)++(aG lit 256++B))) most ⟨A.length,out,some (.sym true lit dist)⟩ ⟨A.length+(ts.flatMap (az lit dist)).length+key lit 256,wH ts out,some (.sym true lit dist)⟩ 0:=by
 induction ts generalizing A out with
 | nil=>
  refine .done ?_;have h9:=nn ho.lit.pf A B hB (y:=256) (last:=285) hk.end'.1 hk.end'.2 (by omega);have hst:bm (A++(aG lit 256++B)) (.sym true lit dist) A.length=.ok ((.fin,.sym true lit dist),A.length+key lit 256):=by rw[bU,aq h9];rfl
  show jK (A++(aG lit 256++B)) most _=_;rw[aQ (s:=⟨A.length,out,some (.sym true lit dist)⟩) rfl hst,gh];rfl
 | cons t r ih=>
  unfold cj at hm;split at hm
  ·cases hm
  ·rename_i nO;split at hm
   ·cases hm
   ·rename_i lw;have nO:ph t out.length=true:=(by simpa using nO);have SH:∀b∈r.flatMap (az lit dist)++(aG lit 256++B),b<2:=λb hb=>by
     rcases List.mem_append.1 hb with h | h
     ·exact nk _ _ _ b h
     ·rcases List.mem_append.1 h with h | h
      ·exact de _ _ b h
      ·exact hB b h
    have hs:=GU ho A (r.flatMap (az lit dist)++(aG lit 256++B)) out SH most t nO (hk.has t (by simp)) (hk.byte t (by simp)) (wN nO (by omega)) (by omega);have hl:=xq nO out;have h9:=ih ⟨λx hx=>hk.has x (by simp[hx]),hk.end',λx hx=>hk.byte x (by simp[hx])⟩ (A++az lit dist t) (nH out t) (by rw[hl];exact hm) (by rw[hl];omega);have e1:(A++az lit dist t)++(r.flatMap (az lit dist)++(aG lit 256++B))=A++(az lit dist t++(r.flatMap (az lit dist)++(aG lit 256++B))):=(by simp[List.append_assoc]);rw[e1,List.length_append]at h9;rw[List.flatMap_cons,List.append_assoc,List.length_append];refine .step hs ?_;rw[<-Nat.add_assoc A.length];exact h9
theorem qp{M most:Nat}{ts:List TK}{s n:Nat}(h:cj M ts s=.ok n)(hs:s<=M)(hn:n<=most):cj most ts s=.ok n:=by
 induction ts generalizing s with
 | nil=>exact h
 | cons t r ih=>
  unfold cj at h ⊢;split at h
  ·cases h
  ·rename_i h1;rw[if_neg h1];split at h
   ·cases h
   ·rename_i h2;have:=FT h (by omega);rw[if_neg (by omega)];exact ih h (by omega)
theorem jz{M:Nat}{ts:List TK}{s n:Nat}(h:cj M ts s=.ok n)(hs:s<=M):∀t∈ts,∃said,said<=M/\ph t said=true:=by
 induction ts generalizing s with
 | nil=>intro t ht;simp at ht
 | cons x r ih=>
  unfold cj at h;split at h
  ·cases h
  ·rename_i h1;split at h
   ·cases h
   ·rename_i h2;intro t ht;rcases List.mem_cons.1 ht with rfl | ht
    ·exact⟨s,hs,by simpa using h1⟩
    ·exact ih h (by omega) t ht
theorem pJ{t:TK}{said:Nat}(h:ph t said=true)(hs:said≤16384)(hl:t.lit<256):
  (aK t).sym<=285/\(aK t).extra<2 ^ (aK t).width/\(aK t).width<=5/\(t.len=0->(aK t).sym=t.lit/\(aK t).extra=0/\(aK t).width=0)/\(t.len≠0->257<=(aK t).sym/\(aJ t).sym<=29/\(aJ t).extra<2 ^ (aJ t).width/\(aJ t).width<=13):=by
 rcases fe h with⟨h0,_,h1⟩ | ⟨n,d,h0,Ia,_,h3,h4,h5,h6,h1⟩
 ·have sq:aK t=⟨t.lit,0,0⟩:=(by unfold aK;rw[if_pos h0]);rw[sq];exact⟨by simp only;omega,by simp,by simp,λ_=>⟨rfl,rfl,rfl⟩,λh9=>absurd h0 h9⟩
 ·have nP:t.len≠0:=(by omega);have hd:(aJ t).sym<=29/\(aJ t).extra<2 ^ (aJ t).width/\(aJ t).width<=13:=by
   have SO:aJ t=⟨eB (d-1) 2,ed (d-1) 2,bZ (d-1) 2⟩:=(by unfold aJ;rw[Ia];simp);rw[SO];have:=gO (d-1) 2 12 (by omega) (by decide);have hb:=(gt (d-1) 14).2 (by omega);exact⟨by simp only;omega,Bg _ _,by simp only[bZ];omega⟩
  refine⟨?_,?_,?_,λh9=>absurd h9 nP,λ_=>⟨?_,hd⟩⟩
  all_goals
   by_cases h258:n=258
   ·have sq:aK t=⟨285,0,0⟩:=(by unfold aK;rw[if_neg nP,if_pos (by omega)]);rw[sq];simp
   ·have sq:aK t=⟨257+eB (n-3) 3,ed (n-3) 3,bZ (n-3) 3⟩:=(by unfold aK;rw[if_neg nP,if_neg (by omega),h0];simp);rw[sq];have:=gO (n-3) 3 5 (by omega) (by decide);have hb:=(gt (n-3) 8).2 (by omega);have hx:=Bg (n-3) 3;simp only[bZ]at hx ⊢
    first
     | exact hx
     | omega
theorem G7:(List.range 288).all (λs=>decide (key fixL s≠0))=true:=by decide +kernel
theorem Dc:(List.range 32).all (λs=>decide (key fixD s≠0))=true:=by decide +kernel
theorem qj:fixL.length=288/\fixD.length=32:=by decide +kernel
theorem qy{ts:List TK}{n:Nat}(h:cj 16384 ts 0=.ok n)(hb:∀t∈ts,t.lit<256):ox fixL fixD ts:=by
 have hk:∀s,s<288->key fixL s≠0:=λs hs=>by simpa using List.all_eq_true.1 G7 s (List.mem_range.2 hs)
 have WK:∀s,s<32->key fixD s≠0:=λs hs=>by simpa using List.all_eq_true.1 Dc s (List.mem_range.2 hs)
 refine⟨λt ht=>?_,⟨by rw[qj.1];decide,hk 256 (by decide)⟩,hb⟩;obtain⟨said,h1,h2⟩:=jz h (by decide) t ht;have h3:=pJ h2 h1 (hb t ht);refine⟨by rw[qj.1];omega,hk _ (by omega),λh9=>?_⟩;have h4:=h3.2.2.2.2 h9;exact⟨by rw[qj.2];omega,WK _ (by omega)⟩
structure nN(bs X:List Nat):Prop where
 pad:∃k,ae bs=X++List.replicate k 0
 len:bs.length=(X.length+7) / 8
theorem ot(k:Nat):∀b∈List.replicate k 0,b<2:=λb hb=>by have:=List.eq_of_mem_replicate hb;omega
def dJ(ts:List TK):List Nat:=[1,1,0]++(ts.flatMap (az fixL fixD)++aG fixL 256)
theorem vH{ts:List TK}{n most:Nat}(h:cj 16384 ts 0=.ok n)(hb:∀t∈ts,t.lit<256)(hn:n<=most)(hm:most<=16384){bs:List Nat}(hp:nN bs (dJ ts)):∃t,Ends (ae bs) most ps0 t 0/\t.out=wH ts []/\(t.c+7) / 8=bs.length:=by
 obtain⟨k,hk⟩:=hp.pad;have h9:=xf fix_ok (List.replicate k 0) (ot k) most hm ts (qy h hb) [1,1,0] [] n (qp h (by decide) hn) (Nat.zero_le _);have e:ae bs=[1,1,0]++(ts.flatMap (az fixL fixD)++(aG fixL 256++List.replicate k 0)):=by rw[hk];unfold dJ;simp[List.append_assoc]
 rw[<-e]at h9;refine⟨_,.step (dj (s:=ps0) (b:=.sym true fixL fixD) (c:=3) rfl ?_) h9,rfl,?_⟩
 ·rw[e];have h1:∀r:List Nat,fI (1::1::0::r) 0 1=.ok (1,1):=λr=>by rw[eC (by simp)];rfl
  have h2:∀r:List Nat,fI (1::1::0::r) 1 2=.ok (1,3):=λr=>by rw[eC (by simp)];rfl
  show dq (1::1::0::_) 0=_;unfold dq;rw[aq (h1 _),aq (h2 _)];rfl
 ·rw[hp.len];unfold dJ;simp only[List.length_append,aw,List.length_cons,List.length_nil];congr 1
def kO(lit dist:List Nat)(many:Nat)(cs:List Nat)(sn:List (Nat×Nat))(ts:List TK):List Nat:=[1,0,1]++(bz lit.length dist.length many cs sn++(ts.flatMap (az lit dist)++aG lit 256))
theorem Dg{lit dist:List Nat}{many:Nat}{cs:List Nat}{sn:List (Nat×Nat)}(ho:OkL lit dist)(hh:mf lit dist many cs sn){ts:List TK}{n most:Nat}(hk:ox lit dist ts)(h:cj 16384 ts 0=.ok n)(hn:n≤most)(hm:most≤16384){bs:List Nat}(hp:nN bs (kO lit dist many cs sn ts)):
  ∃t,Ends (ae bs) most ps0 t 0/\t.out=wH ts []/\(t.c+7) / 8=bs.length:=by
 obtain⟨k,hkk⟩:=hp.pad;obtain⟨H,hH⟩:∃H,bz lit.length dist.length many cs sn=H:=⟨_,rfl⟩
 have h9:=xf ho (List.replicate k 0) (ot k) most hm ts hk ([1,0,1]++H) [] n (qp h (by decide) hn) (Nat.zero_le _);have e:ae bs=[1,0,1]++(H++(ts.flatMap (az lit dist)++(aG lit 256++List.replicate k 0))):=by rw[hkk];unfold kO;rw[hH];simp[List.append_assoc]
 have e2:ae bs=([1,0,1]++H)++(ts.flatMap (az lit dist)++(aG lit 256++List.replicate k 0)):=by rw[e];simp
 rw[<-e2]at h9;have hrd:=zJ hh [1,0,1] (ts.flatMap (az lit dist)++(aG lit 256++List.replicate k 0)) (λb hb=>by
  rcases List.mem_append.1 hb with h | h
  ·exact nk _ _ _ b h
  ·rcases List.mem_append.1 h with h | h
   ·exact de _ _ b h
   ·exact ot k b h)
 rw[hH,<-e]at hrd;have Cw:dW (ae bs) 3=.ok ((lit,dist),H.length):=by
  unfold dW;rw[show(3:Nat)=([1,0,1]:List Nat).length from rfl,hrd];simp only;rw[if_neg];intro hc;rcases hc with hc | hc | hc
  ·exact hk.end'.2 hc
  ·exact hc ho.lit.ok
  ·exact hc.2 (ho.dist hc.1).ok
 have Jn:([1,0,1]++H:List Nat).length=3+H.length:=by simp;omega
 rw[Jn]at h9;refine⟨_,.step (dj (s:=ps0) (b:=.sym true lit dist) (c:=3+H.length) rfl ?_) h9,rfl,?_⟩
 ·have h1:fI (ae bs) 0 1=.ok (1,1):=(by rw[e,eC (by simp)];rfl);have h2:fI (ae bs) 1 2=.ok (2,3):=(by rw[e,eC (by simp)];rfl);show dq (ae bs) 0=_;unfold dq;rw[aq h1,aq h2];unfold fV;rw[if_neg (by decide),if_neg (by decide),if_pos rfl];unfold oj;rw[Cw];rfl
 ·rw[hp.len];unfold kO;rw[hH];simp only[List.length_append,aw,List.length_cons,List.length_nil];congr 1;omega
def bH(data:List Nat):List Nat:=[1,data.length % 256,data.length / 256,255-data.length % 256,255-data.length / 256]++data
theorem D1(most:Nat)(data:List Nat)(hb:∀b∈data,b<256)(A out:List Nat)(h:out.length+data.length≤most):
  Ends (A++ae data) most ⟨A.length,out,some (.raw true data.length)⟩ ⟨A.length+8*data.length,out++data,some (.raw true 0)⟩ 0:=by
 induction data generalizing A out with
 | nil=>
  refine .done ?_;show jK (A++ae []) most ⟨A.length,out,some (.raw true 0)⟩=_;rw[aQ (s:=⟨A.length,out,some (.raw true 0)⟩) (x:=((.fin,.raw true 0),A.length)) rfl rfl,gh];simp[Bk.last]
 | cons x r ih=>
  have hx:=hb x (by simp);have e0:ae (x::r)=aj x 8++ae r:=(by simp[ae]);have Ey:aW (A++(aj x 8++ae r)) A.length 8=x:=ei A (ae r) x 8 (by omega);have hst:bm (A++(aj x 8++ae r)) (.raw true (r.length+1)) A.length=.ok ((.byte x,.raw true r.length),A.length+8):=(by rw[en,eC (by rw[List.length_append,List.length_append,af];omega),Ey];rfl);have h9:=ih (λb jP=>hb b (by simp[jP])) (A++aj x 8) (out++[x]) (by simp at h ⊢;omega);rw[List.append_assoc,List.length_append,af]at h9;rw[e0,List.length_cons];refine .step (s':=⟨A.length+8,out++[x],some (.raw true r.length)⟩) ?_ ?_
  ·rw[aQ (s:=⟨A.length,out,some (.raw true (r.length+1))⟩) rfl hst];exact gX (by intro h;cases h) (by simp only[b6];rw[if_neg (by simp at h;omega)])
  ·rw[show A.length+8*(r.length+1)=A.length+8+8*r.length by omega];rw[List.append_assoc]at h9;exact h9
theorem tN{data:List Nat}(hb:∀b∈data,b<256){most:Nat}(hl:data.length<=most)(hm:most<=16384):∃t,Ends (ae (bH data)) most ps0 t 0/\t.out=data/\(t.c+7) / 8=(bH data).length:=by
 obtain⟨n,hn⟩:∃n,data.length=n:=⟨_,rfl⟩
 obtain⟨P,hP⟩:∃P,P=aj 1 8++(aj (n % 256) 8++(aj (n / 256) 8++(aj (255-n % 256) 8++aj (255-n / 256) 8))):=⟨_,rfl⟩
 have e:ae (bH data)=P++ae data:=by unfold bH;rw[kv,hn,hP];simp[ae,List.append_assoc]
 have RT:P.length=40:=by rw[hP];simp[af]
 have h9:=D1 most data hb P [] (by simpa using hl);rw[<-e,RT,hn]at h9;have yn:40<=(ae (bH data)).length:=by rw[e,List.length_append,RT];omega
 have OX:∀(A B:List Nat) (x y:Nat),x<256->y<256->aW (A++(aj x 8++(aj y 8++B))) A.length 16=x+256*y:=λA B x y hx hy=>by unfold aW;rw[List.drop_left,<-List.append_assoc (aj x 8),List.take_append_of_le_length (by simp[af]),List.take_of_length_le (by simp[af]),dD,et,et,af,Nat.mod_eq_of_lt (by omega),Nat.mod_eq_of_lt (by omega)]
 have KV:n<=16384:=by omega
 have t1:fI (ae (bH data)) 0 1=.ok (1,1):=by rw[eC (by omega),e,hP];rfl
 have t2:fI (ae (bH data)) 1 2=.ok (0,3):=by rw[eC (by omega),e,hP];rfl
 have t3:fI (ae (bH data)) 8 16=.ok (n,24):=by rw[eC (by omega),e,hP];have:=OX (aj 1 8) (aj (255-n % 256) 8++aj (255-n / 256) 8++ae data) (n % 256) (n / 256) (by omega) (by omega);rw[af]at this;rw[show n % 256+256*(n / 256)=n by omega]at this;simp only[List.append_assoc]at this ⊢;rw[this]
 have t4:fI (ae (bH data)) 24 16=.ok (65535-n,40):=by rw[eC (by omega),e,hP];have:=OX (aj 1 8++(aj (n % 256) 8++aj (n / 256) 8)) (ae data) (255-n % 256) (255-n / 256) (by omega) (by omega);simp only[List.length_append,af]at this;rw[show 255-n % 256+256*(255-n / 256)=65535-n by omega]at this;simp only[List.append_assoc]at this ⊢;rw[this]
 refine⟨_,.step (dj (s:=ps0) (b:=.raw true n) (c:=40) rfl ?_) h9,rfl,?_⟩
 ·show dq (ae (bH data)) 0=_;unfold dq;rw[aq t1,aq t2];unfold fV;rw[if_pos rfl];unfold lB;rw[show(3+7) / 8*8=8 from rfl,aq t3,aq t4,if_pos (by omega)];rfl
 ·simp only[bH,List.length_append,List.length_cons,List.length_nil];omega
theorem wl(s:Nat):dI s<=7:=by
 unfold dI;split
 ·omega
 ·split
  ·omega
  ·split<;>omega
def eZ(l:List Nat):List (Nat×Nat):=(be l).map (λs=>(s.1.toNat,s.2.toNat))
def tX(s:Int×Int):Prop:=0<=s.1/\s.1<=18/\0<=s.2/\s.2.toNat<2 ^ dI s.1.toNat
theorem DK(n:Nat):∀s∈fo n,tX s:=by
 induction n using Nat.strongRecOn with
 | ind n ih=>
  intro s hs;by_cases h:11<=n
  ·rw[gS n h]at hs;rcases List.mem_cons.1 hs with rfl | hs
   ·refine⟨by simp,by simp,by simp only;omega,?_⟩;show(((min n 138-11:Nat):Int)).toNat<2 ^ 7;omega
   ·exact ih _ (by omega) s hs
  ·by_cases h3:3<=n
   ·rw[ia n (by omega) h3]at hs;have:s=(17,((n-3:Nat):Int)):=(by simpa using hs);subst this;refine⟨by simp,by simp,by simp only;omega,?_⟩;show(((n-3:Nat):Int)).toNat<2 ^ 3;omega
   ·rw[gM n (by omega)]at hs;have:=List.eq_of_mem_replicate hs;subst this;exact⟨by simp,by simp,by simp,by decide⟩
theorem DG(v n:Nat)(hv:v<=15):∀s∈ie v n,tX s:=by
 induction n using Nat.strongRecOn with
 | ind n ih=>
  intro s hs;by_cases h:3<=n
  ·rw[jy v n h]at hs;rcases List.mem_cons.1 hs with rfl | hs
   ·refine⟨by simp,by simp,by simp only;omega,?_⟩;show(((min n 6-3:Nat):Int)).toNat<2 ^ 2;omega
   ·exact ih _ (by omega) s hs
  ·rw[jF v n (by omega)]at hs;have:=List.eq_of_mem_replicate hs;subst this;refine⟨by simp,by simp only;omega,by simp,?_⟩;show(0:Int).toNat<2 ^ dI _;exact Nat.two_pow_pos _
theorem Kt(v n:Nat)(hv:v<=15):∀s∈eO v n,tX s:=by
 intro s hs;unfold eO at hs;split at hs
 ·exact DK n s hs
 ·rcases List.mem_cons.1 hs with rfl | hs
  ·refine⟨by simp,by simp only;omega,by simp,?_⟩;show(0:Int).toNat<2 ^ dI _;exact Nat.two_pow_pos _
  ·exact DG v _ hv s hs
theorem qQ(l:List Nat)(h15:∀x∈l,x<=15):∀s∈be l,tX s:=by
 induction hn:l.length using Nat.strongRecOn generalizing l with
 | ind n ih=>
  cases l with
  | nil=>intro s hs;simp[be]at hs
  | cons v r=>
   intro s hs;rw[gY]at hs;rcases List.mem_append.1 hs with hs | hs
   ·exact Kt v _ (h15 v (by simp)) s hs
   ·exact ih (r.drop (bK v r)).length (by simp at hn ⊢;omega) _ (λx hx=>h15 x (List.mem_cons_of_mem _ (List.mem_of_mem_drop hx))) rfl s hs
theorem pY(l:List Nat)(h15:∀x∈l,x<=15):(eZ l).map (λs=>((s.1:Int),(s.2:Int)))=be l:=by
 unfold eZ;rw[List.map_map];conv=>rhs;rw[<-List.map_id (be l)]
 refine List.map_congr_left (λs hs=>?_);have h:=qQ l h15 s hs;simp only[Function.comp,id];rw[Int.toNat_of_nonneg h.1,Int.toNat_of_nonneg h.2.2.1]
theorem uy(l:List Nat):(eZ l).length<=l.length:=by unfold eZ;rw[List.length_map];exact tj l
def ce(s:Int):Nat:=if s=16 then 3 else if s=17 then 3 else if s=18 then 11 else 1
def cK(s:Int):Nat:=if s=16 then 2 else if s=17 then 3 else if s=18 then 7 else 0
theorem qU(s:Nat):cK (s:Int)=dI s:=by
 unfold cK dI;by_cases h1:s=16
 ·subst h1;rfl
 ·by_cases h2:s=17
  ·subst h2;rfl
  ·by_cases h3:s=18
   ·subst h3;rfl
   ·rw[if_neg (by omega),if_neg (by omega),if_neg (by omega),if_neg h1,if_neg h2,if_neg h3]
theorem oG(s:Int):cK s<=7:=by
 unfold cK;split
 ·omega
 ·split
  ·omega
  ·split<;>omega
theorem nX(s:Int):1<=ce s/\ce s<=11:=by
 unfold ce;split
 ·omega
 ·split
  ·omega
  ·split<;>omega
def mQ(s:Int)(l:List Nat):Nat:=if s=16 then ko l else if s=17\/s=18 then 0 else s.toNat
def i8(s:Int×Int)(said n:Nat):Prop:=0<=s.1/\s.1<=18/\0<=s.2/\s.2<2 ^ cK s.1/\¬(s.1=16/\said=0)/\(said+ce s.1:Nat)+s.2<=n
theorem Ea{l:List Nat}{s:Int×Int}{n:Nat}(h:i8 s l.length n):eI l s n=some (l++List.replicate (ce s.1+s.2.toNat) (mQ s.1 l)):=by
 obtain⟨a,b⟩:=s;obtain⟨h1,h2,h3,h4,h5,h6⟩:=h;simp only at h1 h2 h3 h4 h5 h6 ⊢;refine i9 ?_ (by omega);unfold iM;simp only;by_cases NH:a=16
 ·subst NH;have hw:cK 16=2:=rfl;have hl:ce 16=3:=rfl;rw[hw]at h4;rw[if_neg (by omega),if_pos ⟨rfl,h3,by omega,by omega⟩,hl];simp only[mQ,if_true];congr 2;omega
 ·by_cases PY:a=17
  ·subst PY;have hw:cK 17=3:=rfl;have hl:ce 17=3:=rfl;rw[hw]at h4;rw[if_neg (by omega),if_neg (by omega),if_pos ⟨rfl,h3,by omega⟩,hl];simp[mQ];omega
  ·by_cases OZ:a=18
   ·subst OZ;have hw:cK 18=7:=rfl;have hl:ce 18=11:=rfl;rw[hw]at h4;rw[if_neg (by omega),if_neg (by omega),if_neg (by omega),if_pos ⟨rfl,h3,by omega⟩,hl];simp[mQ];omega
   ·have hw:cK a=0:=(by unfold cK;rw[if_neg NH,if_neg PY,if_neg OZ]);have hl:ce a=1:=(by unfold ce;rw[if_neg NH,if_neg PY,if_neg OZ]);rw[hw]at h4;have hb:b=0:=(by omega);subst hb;rw[if_pos ⟨h1,by omega,rfl⟩,hl];unfold mQ;rw[if_neg NH,if_neg (by omega)];rfl
theorem FG{l:List Nat}{s:Int×Int}{n:Nat}(h:¬i8 s l.length n):eI l s n=none:=by
 cases hw:eI l s n with
 | none=>rfl
 | some m=>
  exfalso;apply h;obtain⟨a,b⟩:=s;unfold eI at hw;split at hw
  ·cases hw
  ·rename_i v k hs;split at hw
   ·cases hw
   ·rename_i lw;unfold iM at hs;simp only at hs;unfold i8;simp only;split at hs
    ·rename_i h1;simp at hs;have l7:cK a=0:=(by unfold cK;rw[if_neg (by omega),if_neg (by omega),if_neg (by omega)]);have hl:ce a=1:=(by unfold ce;rw[if_neg (by omega),if_neg (by omega),if_neg (by omega)]);rw[l7,hl];omega
    ·split at hs
     ·rename_i h1;simp at hs;obtain⟨rfl,h1⟩:=h1;have l7:cK 16=2:=rfl;have hl:ce 16=3:=rfl;rw[l7,hl];omega
     ·split at hs
      ·rename_i h1;simp at hs;obtain⟨rfl,h1⟩:=h1;have l7:cK 17=3:=rfl;have hl:ce 17=3:=rfl;rw[l7,hl];omega
      ·split at hs
       ·rename_i h1;simp at hs;obtain⟨rfl,h1⟩:=h1;have l7:cK 18=7:=rfl;have hl:ce 18=11:=rfl;rw[l7,hl];omega
       ·cases hs
def dg(s:Int)(lo hi n:Nat):List (Int×Int):=
 if 1<=lo/\lo<=hi/\lo<=n then(s,((min n hi-lo:Nat):Int))::dg s lo hi (n-min n hi)else []
termination_by n
decreasing_by omega
def bT(lo hi n:Nat):Nat:=
 if 1<=lo/\lo<=hi/\lo<=n then bT lo hi (n-min n hi)else n
termination_by n
decreasing_by omega
theorem fz{s:Int}{lo hi n:Nat}(h1:1<=lo)(h2:lo<=hi)(h3:lo<=n):dg s lo hi n=(s,((min n hi-lo:Nat):Int))::dg s lo hi (n-min n hi):=by rw[dg,if_pos ⟨h1,h2,h3⟩]
theorem gG{s:Int}{lo hi n:Nat}(h3:n<lo):dg s lo hi n=[]:=by rw[dg,if_neg (by omega)]
theorem fi{lo hi n:Nat}(h1:1<=lo)(h2:lo<=hi)(h3:lo<=n):bT lo hi n=bT lo hi (n-min n hi):=by rw[bT,if_pos ⟨h1,h2,h3⟩]
theorem gH{lo hi n:Nat}(h3:n<lo):bT lo hi n=n:=by rw[bT,if_neg (by omega)]
theorem pI(s:Int)(lo hi n:Nat)(h1:1<=lo)(h2:lo<=hi):(dg s lo hi n).length+bT lo hi n<=n/\bT lo hi n<lo:=by
 induction n using Nat.strongRecOn with
 | ind n ih=>
  by_cases h:lo<=n
  ·have:=ih (n-min n hi) (by omega);rw[fz h1 h2 h,fi h1 h2 h,List.length_cons];omega
  ·rw[gG (by omega),gH (by omega)];simp;omega
theorem vE(n:Nat):fo n=dg 18 11 138 n++(dg 17 3 10 (bT 11 138 n)++List.replicate (bT 3 10 (bT 11 138 n)) (0,0)):=by
 induction n using Nat.strongRecOn with
 | ind n ih=>
  by_cases h:11<=n
  ·rw[gS n h,fz (by omega) (by omega) h,fi (by omega) (by omega) h,ih (n-min n 138) (by omega)];rfl
  ·rw[gG (n:=n) (by omega),gH (n:=n) (by omega)];by_cases h3:3<=n
   ·rw[ia n (by omega) h3,fz (by omega) (by omega) h3,fi (by omega) (by omega) h3,show min n 10=n by omega,Nat.sub_self,gG (by omega),gH (by omega)];rfl
   ·rw[gM n (by omega),gG (by omega),gH (by omega)];rfl
theorem vx(v n:Nat):ie v n=dg 16 3 6 n++List.replicate (bT 3 6 n) ((v:Int),0):=by
 induction n using Nat.strongRecOn with
 | ind n ih=>
  by_cases h:3<=n
  ·rw[jy v n h,fz (by omega) (by omega) h,fi (by omega) (by omega) h,ih (n-min n 6) (by omega)];rfl
  ·rw[jF v n (by omega),gG (by omega),gH (by omega)];rfl
def dQ(cs:List Nat):Nat->Nat
 | 0=>0
 | k+1=>if 4<k+1/\cs.getD (ord.getD k 0) 0=0 then dQ cs k else k+1
theorem Gq(cs:List Nat)(k:Nat)(h:4<=k):4<=dQ cs k/\dQ cs k<=k:=by
 induction k with
 | zero=>omega
 | succ k ih=>
  rw[dQ];split
  ·have:=ih (by omega);omega
  ·omega
theorem zx(cs:List Nat)(k:Nat):∀j,dQ cs k<=j->j<k->cs.getD (ord.getD j 0) 0=0:=by
 induction k with
 | zero=>intro j _ h;omega
 | succ k ih=>
  intro j h1 h2;rw[dQ]at h1;split at h1
  ·rename_i h;by_cases e:j=k
   ·subst e;exact h.2
   ·exact ih j h1 (by omega)
  ·omega
end Go.Proofs.YtljlmfnbeofmmaaGreatDoor
namespace Go.Proofs.YtljlmfnbeofmmaaGreatDoor
open Go.RowKit
def zK(n lo hi:Int):Bool:=decide (lo<=n) && decide (n<=hi)
theorem gN(w:World)(n lo hi:Int):
  Calls Tryz.prog 127 #[.int .i64 n,.int .i64 lo,.int .i64 hi] w λe w'=>e=.returned (.bool (zK n lo hi))/\w'=w:=by
 go_enter Tryz.func127,Tryz.ntmps127;by_cases h:lo<=n
 ·go_wp2_with fail;go_ret;exact⟨by simp only[zK,h,decide_true,Bool.true_and];rfl,rfl⟩
 ·go_wp2_with fail;go_ret;have hd:decide (lo<=n)=false:=(by simp;omega);exact⟨by simp only[zK,hd,Bool.false_and];rfl,rfl⟩
theorem je(w:World)(s:Int):
  Calls Tryz.prog 164 #[.int .i64 s] w λe w'=>e=.returned (.tuple #[.int .i64 (ce s:Nat),.int .i64 (cK s:Nat)])/\w'=w:=by
 by_cases sv:s=16
 ·subst sv;go_enter Tryz.func164,Tryz.ntmps164;go_wp2_with fail;go_ret2;exact⟨rfl,rfl⟩
 ·by_cases MP:s=17
  ·subst MP;go_enter Tryz.func164,Tryz.ntmps164;go_wp2_with fail;go_ret2;exact⟨rfl,rfl⟩
  ·by_cases Cu:s=18
   ·subst Cu;go_enter Tryz.func164,Tryz.ntmps164;go_wp2_with fail;go_ret2;exact⟨rfl,rfl⟩
   ·have NH:(s==16)=false:=(by simp;omega);have PY:(s==17)=false:=(by simp;omega);have OZ:(s==18)=false:=(by simp;omega);have HE:Hid (ce s=1/\cK s=0):=hid ⟨by unfold ce;rw[if_neg sv,if_neg MP,if_neg Cu],by unfold cK;rw[if_neg sv,if_neg MP,if_neg Cu]⟩;clear sv MP Cu;go_enter Tryz.func164,Tryz.ntmps164;go_wp2_with fail;go_ret2;exact⟨by rw[HE.out.1,HE.out.2];rfl,rfl⟩
theorem ul(n:Nat)(h:n<=7):(2:Nat) ^ n<=128:=by have:=Nat.pow_le_pow_right (show 0<2 by decide) h;simpa using this
def MayR(e:Ending)(s:Int×Int)(said n:Nat):Prop:=∃r:Bool,e=.returned (.bool r)/\(r=true↔i8 s said n)
theorem MayR.no{e:Ending}{s:Int×Int}{said n:Nat}(h:MayR e s said n)(hm:¬i8 s said n):e=.returned (.bool false):=by
 obtain⟨r,rfl,hr⟩:=h;cases r with
 | false=>rfl
 | true=>exact absurd (hr.1 rfl) hm
theorem MayR.yes{e:Ending}{s:Int×Int}{said n:Nat}(h:MayR e s said n)(hm:i8 s said n):e=.returned (.bool true):=by obtain⟨r,rfl,hr⟩:=h;rw[hr.2 hm]
theorem ud(w:World)(a b:Int)(said n:Nat)(hs:said≤1000000):
  Calls Tryz.prog 263 #[.agg #[.int .i64 a,.int .i64 b],.int .i64 (said:Nat),.int .i64 (n:Nat)] w λe w'=>MayR e (a,b) said n/\Same w w':=by
 have uX:=oG a;have lz:=nX a;have HSH:=je (w.alloc (.cells #[.int .i64 a,.int .i64 b] 220)) a;obtain⟨wd,mN⟩:∃x,x=cK a:=⟨_,rfl⟩
 obtain⟨ls,yn⟩:∃x,x=ce a:=⟨_,rfl⟩
 rw[<-mN]at HSH uX;rw[<-yn]at HSH lz;have HM:Hid (i8 (a,b) said n↔(0<=a/\a<=18/\0<=b/\b<2 ^ wd/\¬(a=16/\said=0)/\(said+ls:Nat)+b<=n)):=hid (by rw[mN,yn];exact Iff.rfl);clear mN yn;have A0:=ul wd uX;have yR:0<2 ^ wd:=Nat.two_pow_pos wd;obtain⟨pw,mI⟩:∃x,x=2 ^ wd:=⟨_,rfl⟩
 obtain⟨pm,X6⟩:∃x:Nat,x=pw-1:=⟨_,rfl⟩
 rw[<-mI]at A0 yR;have HM2:Hid (i8 (a,b) said n↔(zK a 0 18=true/\zK b 0 (pm:Int)=true/\¬(a=16/\said=0)/\(said+ls:Nat)+b<=n)):=hid (by
  rw[HM.out];have:(2:Int) ^ wd=(pw:Int):=(by rw[mI];simp);rw[this];simp only[zK,Bool.and_eq_true,decide_eq_true_eq];omega)
 have Ie:wrap64 ((2:Int) ^ wd)=(pw:Int):=by have:(2:Int) ^ wd=(pw:Int):=(by rw[mI];simp);rw[this];unfold wrap64;omega
 have jN:(pw:Int)-1=(pm:Int):=by omega
 have HW1:=λq=>gN ((w.alloc (.cells #[.int .i64 a,.int .i64 b] 220)).drewN q) a 0 18
 have HW2:=λq=>gN ((w.alloc (.cells #[.int .i64 a,.int .i64 b] 220)).drewN q) b 0 (pm:Int)
 clear HM mI;have Xl:pm<=127:=by omega
 clear X6;go_enter Tryz.func263,Tryz.ntmps263;go_wp2_with fail;refine HSH.mono ?_;rintro e w1 ⟨rfl,rfl⟩;clear HSH;have HK0:Hid (Same w (w.alloc (.cells #[.int .i64 a,.int .i64 b] 220))):=hid ((Kept.refl _ w).alloc _);have cB:(w.alloc (.cells #[.int .i64 a,.int .i64 b] 220)).cell? ⟨w.heap.size,1,none⟩=some (.int .i64 b):=by simp
 have cA:(w.alloc (.cells #[.int .i64 a,.int .i64 b] 220)).cell? ⟨w.heap.size,0,none⟩=some (.int .i64 a):=by simp
 generalize w.alloc (.cells #[.int .i64 a,.int .i64 b] 220)=W at *
 cases h1:zK a 0 18 with
 | false=>
  have HE:Hid (¬i8 (a,b) said n):=hid (λh=>by have:=(HM2.out.1 h).1;rw[h1]at this;cases this);rw[h1]at HW1;clear h1;go_wp2_with fail;go_quiet ((go_at_call 127;exact Calls.quiet_of_same (HW1 _)));go_wp2_with fail;go_ret;exact⟨⟨false,rfl,by simp[HE.out]⟩,HK0.out.drewN _⟩
 | true=>
  rw[h1]at HW1;cases h2:zK b 0 (pm:Int) with
  | false=>
   have HE:Hid (¬i8 (a,b) said n):=hid (λh=>by have:=(HM2.out.1 h).2.1;rw[h2]at this;cases this);rw[h2]at HW2;clear h1 h2;go_wp2_with fail;go_quiet ((go_at_call 127;first | (with_reducible exact Calls.quiet_of_same (HW1 _)) | (with_reducible exact Calls.quiet_of_same (HW2 _))));go_wp2_with fail;go_ret;exact⟨⟨false,rfl,by simp[HE.out]⟩,HK0.out.drewN _⟩
  | true=>
   rw[h2]at HW2;have hb:0<=b/\b<=(pm:Int):=(by simpa[zK]using h2);have HM3:Hid (i8 (a,b) said n↔(¬(a=16/\said=0)/\(said+ls:Nat)+b<=n)):=hid (by rw[HM2.out,h1,h2];simp);obtain⟨bn,rfl⟩:∃x:Nat,b=(x:Int):=⟨b.toNat,by omega⟩
   have YH:bn<=127:=(by omega);obtain⟨t,ht⟩:∃t,t=said+ls:=⟨_,rfl⟩
   have htI:(said:Int)+(ls:Int)=(t:Int):=(by omega);have Sy:IntKind.i64.wrap (t:Int)=(t:Int):=(by rw[IntKind.wrap_i64];omega);obtain⟨u,hu⟩:∃u,u=t+bn:=⟨_,rfl⟩
   have YE:(t:Int)+(bn:Int)=(u:Int):=(by omega);have Zm:IntKind.i64.wrap (u:Int)=(u:Int):=(by rw[IntKind.wrap_i64];omega);have HM4:Hid (i8 (a,(bn:Int)) said n↔(¬(a=16/\said=0)/\u<=n)):=hid (by
    rw[HM3.out];have:((said+ls:Nat):Int)+(bn:Int)<=(n:Int)↔u<=n:=(by omega);rw[this])
   clear h1 h2 hb HM3 HM2 ht hu;go_wp2_with fail;go_quiet ((go_at_call 127;first | (with_reducible exact Calls.quiet_of_same (HW1 _)) | (with_reducible exact Calls.quiet_of_same (HW2 _))));by_cases sv:a=16
   ·subst sv;by_cases h0:said=0
    ·have HE:Hid (¬i8 (16,(bn:Int)) 0 n):=hid (λh=>(HM4.out.1 (by rw[h0];exact h)).1 ⟨rfl,h0⟩);have Sz:((said:Int)==0)=true:=(by simp[h0]);go_wp2_with fail;go_ret;exact⟨⟨false,rfl,by simp[HE.out]⟩,HK0.out.drewN _⟩
    ·have Sz:((said:Int)==0)=false:=(by simp[h0]);have HE:Hid (i8 (16,(bn:Int)) said n↔u<=n):=hid (by rw[HM4.out];simp[h0]);clear h0;go_wp2_with fail;go_ret;exact⟨⟨_,rfl,by rw[HE.out];simp⟩,HK0.out.drewN _⟩
   ·have Xa:(a==16)=false:=(by simp[sv]);have HE:Hid (i8 (a,(bn:Int)) said n↔u<=n):=hid (by rw[HM4.out];simp[sv]);clear sv;go_wp2_with fail;go_ret;exact⟨⟨_,rfl,by rw[HE.out];simp⟩,HK0.out.drewN _⟩
theorem JU(w:World)(B:Nat)(v:Value)(l:List Nat)(a b:Int)(n:Nat)(hr:NRow B w v l)(hB:B≤w.heap.size)(hl:l.length≤1000000)(hm:i8 (a,b) l.length n):
  Calls Tryz.prog 264 #[v,.agg #[.int .i64 a,.int .i64 b]] w λe w'=>∃v',e=.returned v'/\NRow B w' v' (l++List.replicate (ce a+b.toNat) (mQ a l))/\Kept (ja B) w w':=by
 obtain⟨ao,cap,rfl,Lv,_⟩:=hr.shape;obtain⟨h1,h2,h3,h4,h5,h6⟩:=hm;simp only at h1 h2 h3 h4 h5 h6;have uX:=oG a;have lz:=nX a;have A0:=ul _ uX;have VX:b<128:=by have:((2 ^ cK a:Nat):Int)=2 ^ cK a:=(by simp);omega
 obtain⟨bn,rfl⟩:∃x:Nat,b=(x:Int):=⟨b.toNat,by omega⟩
 obtain⟨an,rfl⟩:∃x:Nat,a=(x:Int):=⟨a.toNat,by omega⟩
 obtain⟨ls,yn⟩:∃x,x=ce (an:Int):=⟨_,rfl⟩
 have HSH:=je (w.alloc (.cells #[.int .i64 (an:Int),.int .i64 (bn:Int)] 220)) (an:Int);rw[<-yn]at HSH lz ⊢;rw[Int.toNat_natCast];obtain⟨k,hk⟩:∃k,k=ls+bn:=⟨_,rfl⟩
 have KI:(ls:Int)+(bn:Int)=(k:Int):=by omega
 have uO:IntKind.i64.wrap (k:Int)=(k:Int):=by rw[IntKind.wrap_i64];omega
 rw[<-hk];have Uv:k<=138:=by omega
 obtain⟨x,hx⟩:∃x,x=mQ (an:Int) l:=⟨_,rfl⟩
 rw[<-hx];have HR:Hid (NRow B (w.alloc (.cells #[.int .i64 (an:Int),.int .i64 (bn:Int)] 220)) (.slice ao l.length cap) l):=hid (World.ownsRow.alloc hr _);have HK0:Hid (Kept (ja B) w (w.alloc (.cells #[.int .i64 (an:Int),.int .i64 (bn:Int)] 220))):=hid ((Kept.refl _ w).alloc _);have cB:(w.alloc (.cells #[.int .i64 (an:Int),.int .i64 (bn:Int)] 220)).cell? ⟨w.heap.size,1,none⟩=some (.int .i64 (bn:Int)):=by simp
 have cA:(w.alloc (.cells #[.int .i64 (an:Int),.int .i64 (bn:Int)] 220)).cell? ⟨w.heap.size,0,none⟩=some (.int .i64 (an:Int)):=by simp
 have cZ:B<=(w.alloc (.cells #[.int .i64 (an:Int),.int .i64 (bn:Int)] 220)).heap.size:=by simp;omega
 have PO:∀W:World,W=w.alloc (.cells #[.int .i64 (an:Int),.int .i64 (bn:Int)] 220)->True:=λ_ _=>trivial
 clear PO;obtain⟨L,hL⟩:∃L,L=l.length:=⟨_,rfl⟩
 have HL:Hid (L=l.length):=hL;have Y7:Hid (l≠[]->∃g,ao=some ⟨g,0,none⟩):=Lv;have H5:Hid (¬((an:Int)=16/\l.length=0)):=h5;have HX:Hid (x=mQ (an:Int) l):=hx;rw[<-hL]at HR hl ⊢;clear hr yn hk hx hL h3 h4 h5 h6 uX A0 VX Lv h1;go_enter Tryz.func264,Tryz.ntmps264;go_wp2_with fail;refine HSH.mono ?_;rintro e w1 ⟨rfl,hw1⟩;subst hw1;clear HSH;generalize w.alloc (.cells #[.int .i64 (an:Int),.int .i64 (bn:Int)] 220)=W at *
 by_cases sv:an=16
 ·subst sv;have VL:0<L:=(by have:=HL.out;have:=H5.out;omega);have SL:0<l.length:=(by have:=HL.out;omega);obtain⟨b2,o2,eV,e2,_,_,c2⟩:=(SrcE.ofRow HR.out).get (l.length-1) (by omega);simp only[Value.slice.injEq]at e2;obtain⟨rfl,jO,rfl⟩:=e2;clear jO;have lw:l[l.length-1]=x:=(by rw[HX.out];simp[mQ,ko,List.getD,show l.length-1<l.length by omega]);rw[lw,<-HL.out]at c2;unfold am at c2;obtain⟨m,hm⟩:∃m,m=L-1:=⟨_,rfl⟩
  rw[<-hm]at c2;have Su:(L:Int)-1=(m:Int):=(by omega);have Q4:m<L:=(by omega);have YJ:IntKind.i64.wrap (m:Int)=(m:Int):=(by rw[IntKind.wrap_i64];omega);clear hm lw SL VL;go_wp2_with fail;go_loopg [0,32] k (λq zv zi wr=>∃(i:Nat),k-i<=q/\i<=k/\zi=.int .i64 (i:Nat)/\Hid (NRow B wr zv (l++List.replicate i x))/\Hid (Kept (ja B) w wr))
  case atStart=>exact⟨0,by omega,by omega,rfl,hid (by simpa using HR.out),HK0⟩
  case round=>
   clear HR HK0 cA cB;obtain⟨i,hq,hi,rfl,HV,HK⟩:=hrel;by_cases hlt:i<k
   ·have lO:=HK.out.size;have HLN:Hid ((l++List.replicate i x).length+[x].length<=1000000000):=hid (by have:=HL.out;simp;omega);go_wp2_with (at_builtin;refine aZ _ am dO B 117 3 (am 0) 8 Tryz.underlying117 Tryz.infoN rfl (by decide) rfl (.tmp 34) (.tmp 36) rfl u0 (l++List.replicate i x) rfl (World.ownsRow.alloc HV.out _) ⟨wr.heap.size,0,none⟩ 1 1 [x] rfl rfl (bB _ _ _) HLN.out (by simp;omega) ?_;intro v5 w5 hr5 ej);have HV5:Hid (NRow B w5 v5 (l++List.replicate (i+1) x)):=hid (by rw[List.replicate_succ',<-List.append_assoc];exact hr5);have HK5:Hid (Kept (ja B) w w5):=hid ((HK.out.alloc _).grown ej (λj e=>.inl (HV.out.ge e)));clear hr5 ej;go_wp2_with fail;go_roundg (gk-1)
    case measure=>omega
    case rel=>exact⟨i+1,by omega,by omega,by go_num,HV5,HK5⟩
   ·have IF:i=k:=(by omega);subst IF;go_wp2_with fail;go_ret;exact⟨_,rfl,HV.out,HK.out⟩
 ·have NH:((an:Int)==16)=false:=(by simp;omega);by_cases MP:an=17
  ·subst MP;have yC:x=0:=(by rw[HX.out];simp[mQ]);subst yC;go_wp2_with fail;go_loopg [0,32] k (λq zv zi wr=>∃(i:Nat),k-i<=q/\i<=k/\zi=.int .i64 (i:Nat)/\Hid (NRow B wr zv (l++List.replicate i 0))/\Hid (Kept (ja B) w wr))
   case atStart=>exact⟨0,by omega,by omega,rfl,hid (by simpa using HR.out),HK0⟩
   case round=>
    clear HR HK0 cA cB;obtain⟨i,hq,hi,rfl,HV,HK⟩:=hrel;by_cases hlt:i<k
    ·have lO:=HK.out.size;have HLN:Hid ((l++List.replicate i 0).length+[0].length<=1000000000):=hid (by have:=HL.out;simp;omega);go_wp2_with (at_builtin;refine aZ _ am dO B 117 3 (am 0) 8 Tryz.underlying117 Tryz.infoN rfl (by decide) rfl (.tmp 34) (.tmp 36) rfl u0 (l++List.replicate i 0) rfl (World.ownsRow.alloc HV.out _) ⟨wr.heap.size,0,none⟩ 1 1 [0] rfl rfl (bB _ _ _) HLN.out (by simp;omega) ?_;intro v5 w5 hr5 ej);have HV5:Hid (NRow B w5 v5 (l++List.replicate (i+1) 0)):=hid (by rw[List.replicate_succ',<-List.append_assoc];exact hr5);have HK5:Hid (Kept (ja B) w w5):=hid ((HK.out.alloc _).grown ej (λj e=>.inl (HV.out.ge e)));clear hr5 ej;go_wp2_with fail;go_roundg (gk-1)
     case measure=>omega
     case rel=>exact⟨i+1,by omega,by omega,by go_num,HV5,HK5⟩
    ·have IF:i=k:=(by omega);subst IF;go_wp2_with fail;go_ret;exact⟨_,rfl,HV.out,HK.out⟩
  ·have PY:((an:Int)==17)=false:=(by simp;omega);by_cases Cu:an=18
   ·subst Cu;have yC:x=0:=(by rw[HX.out];simp[mQ]);subst yC;go_wp2_with fail;go_loopg [0,32] k (λq zv zi wr=>∃(i:Nat),k-i<=q/\i<=k/\zi=.int .i64 (i:Nat)/\Hid (NRow B wr zv (l++List.replicate i 0))/\Hid (Kept (ja B) w wr))
    case atStart=>exact⟨0,by omega,by omega,rfl,hid (by simpa using HR.out),HK0⟩
    case round=>
     clear HR HK0 cA cB;obtain⟨i,hq,hi,rfl,HV,HK⟩:=hrel;by_cases hlt:i<k
     ·have lO:=HK.out.size;have HLN:Hid ((l++List.replicate i 0).length+[0].length<=1000000000):=hid (by have:=HL.out;simp;omega);go_wp2_with (at_builtin;refine aZ _ am dO B 117 3 (am 0) 8 Tryz.underlying117 Tryz.infoN rfl (by decide) rfl (.tmp 34) (.tmp 36) rfl u0 (l++List.replicate i 0) rfl (World.ownsRow.alloc HV.out _) ⟨wr.heap.size,0,none⟩ 1 1 [0] rfl rfl (bB _ _ _) HLN.out (by simp;omega) ?_;intro v5 w5 hr5 ej);have HV5:Hid (NRow B w5 v5 (l++List.replicate (i+1) 0)):=hid (by rw[List.replicate_succ',<-List.append_assoc];exact hr5);have HK5:Hid (Kept (ja B) w w5):=hid ((HK.out.alloc _).grown ej (λj e=>.inl (HV.out.ge e)));clear hr5 ej;go_wp2_with fail;go_roundg (gk-1)
      case measure=>omega
      case rel=>exact⟨i+1,by omega,by omega,by go_num,HV5,HK5⟩
     ·have IF:i=k:=(by omega);subst IF;go_wp2_with fail;go_ret;exact⟨_,rfl,HV.out,HK.out⟩
   ·have OZ:((an:Int)==18)=false:=(by simp;omega);have yC:x=an:=(by rw[HX.out];unfold mQ;rw[if_neg (by omega),if_neg (by omega)];simp);clear sv MP Cu;subst yC;go_wp2_with fail;go_loopg [0,32] k (λq zv zi wr=>∃(i:Nat),k-i<=q/\i<=k/\zi=.int .i64 (i:Nat)/\Hid (NRow B wr zv (l++List.replicate i x))/\Hid (Kept (ja B) w wr))
    case atStart=>exact⟨0,by omega,by omega,rfl,hid (by simpa using HR.out),HK0⟩
    case round=>
     clear HR HK0 cA cB;obtain⟨i,hq,hi,rfl,HV,HK⟩:=hrel;by_cases hlt:i<k
     ·have lO:=HK.out.size;have HLN:Hid ((l++List.replicate i x).length+[x].length<=1000000000):=hid (by have:=HL.out;simp;omega);go_wp2_with (at_builtin;refine aZ _ am dO B 117 3 (am 0) 8 Tryz.underlying117 Tryz.infoN rfl (by decide) rfl (.tmp 34) (.tmp 36) rfl u0 (l++List.replicate i x) rfl (World.ownsRow.alloc HV.out _) ⟨wr.heap.size,0,none⟩ 1 1 [x] rfl rfl (bB _ _ _) HLN.out (by simp;omega) ?_;intro v5 w5 hr5 ej);have HV5:Hid (NRow B w5 v5 (l++List.replicate (i+1) x)):=hid (by rw[List.replicate_succ',<-List.append_assoc];exact hr5);have HK5:Hid (Kept (ja B) w w5):=hid ((HK.out.alloc _).grown ej (λj e=>.inl (HV.out.ge e)));clear hr5 ej;go_wp2_with fail;go_roundg (gk-1)
      case measure=>omega
      case rel=>exact⟨i+1,by omega,by omega,by go_num,HV5,HK5⟩
     ·have IF:i=k:=(by omega);subst IF;go_wp2_with fail;go_ret;exact⟨_,rfl,HV.out,HK.out⟩
theorem KD(z:Int):(!zK z 0 15)=ee 0 15 z:=by
 unfold zK ee;by_cases h1:0<=z
 ·by_cases h2:z<=15
  ·have h3:¬z<0:=(by omega);have h4:¬15<z:=(by omega);simp[h1,h2,h3,h4]
  ·have h3:¬z<0:=(by omega);have h4:15<z:=(by omega);simp[h1,h2,h3,h4]
 ·have h3:z<0:=(by omega);simp[h1,h3]
theorem zV(w:World)(z:Int):
  Calls Tryz.prog 160 #[.int .i64 z] w λe w'=>e=.returned (.bool (ee 0 15 z))/\w'=w:=by
 have HW:=gN w z 0 15;go_enter Tryz.func160,Tryz.ntmps160;go_wp2_with fail;refine HW.mono ?_;rintro e w1 ⟨rfl,hw1⟩;subst hw1;clear HW;go_wp2_with fail;go_ret;exact⟨by rw[<-KD];rfl,rfl⟩
abbrev BX:Value:=.func (.func 160) #[] #[]
theorem yW(w:World)(v:Value)(I:Nat→Prop)(zs:List Int)(hs:SrcE bM w I v zs)(hn:zs.length≤10000000):
  Calls Tryz.prog 193 #[v,BX] w λe w'=>(∃z:Int,e=.returned (.int .i64 z)/\decide (0<=z)=zs.any (ee 0 15))/\w'=w:=by
 obtain⟨ao,cap,rfl,ip,f8⟩:=id hs;clear ip f8;have HS:Hid (SrcE bM w I (.slice ao zs.length cap) zs):=hs;clear hs;go_enter Tryz.func193,Tryz.ntmps193;go_wp2_with fail;go_loopg [8] zs.length (λk z wr=>∃i:Nat,zs.length-i<=k/\i<=zs.length/\z=.int .i64 (i:Nat)/\Hid ((zs.take i).any (ee 0 15)=false)/\wr=w)
 case atStart=>exact⟨0,by omega,by omega,rfl,hid (by simp),rfl⟩
 case round=>
  obtain⟨i,hk,Ck,rfl,HF,hw⟩:=hrel;subst hw;by_cases hlt:i<zs.length
  ·obtain⟨b,o,eV,e,_,_,hc⟩:=HS.out.get i hlt;simp only[Value.slice.injEq]at e;obtain⟨rfl,jO,rfl⟩:=e;clear jO;obtain⟨x,hx⟩:∃x,x=zs[i]:=⟨_,rfl⟩
   rw[<-hx]at hc;unfold bM at hc;have HX:Hid (x=zs[i]):=hx;have HC:=zV wr x;clear hx;cases hb:ee 0 15 x with
   | true=>
    rw[hb]at HC;have HB:Hid (ee 0 15 x=true):=hb;clear hb;go_wp2_with fail;refine HC.mono ?_;rintro e w2 ⟨rfl,hw2⟩;subst hw2;clear HC;go_wp2_with fail;go_ret;refine⟨⟨_,rfl,?_⟩,rfl⟩;have h1:zs.any (ee 0 15)=true:=List.any_eq_true.2 ⟨x,by rw[HX.out];exact List.getElem_mem _,HB.out⟩;rw[h1];simp
   | false=>
    rw[hb]at HC;have HB:Hid (ee 0 15 x=false):=hb;clear hb;go_wp2_with fail;refine HC.mono ?_;rintro e w2 ⟨rfl,hw2⟩;subst hw2;clear HC;go_wp2_with fail;go_roundg (gk-1)
    case measure=>omega
    case rel=>
     refine⟨i+1,by omega,by omega,by go_num,hid ?_,rfl⟩;rw[List.take_succ_eq_append_getElem hlt,List.any_append,HF.out,<-HX.out];simp[HB.out]
  ·have:i=zs.length:=(by omega);subst this;go_wp2_with fail;go_ret;refine⟨⟨_,rfl,?_⟩,rfl⟩;have h:=HF.out;rw[List.take_of_length_le (Nat.le_refl _)]at h;rw[h];simp
theorem lZ(w:World)(v:Value)(I:Nat→Prop)(zs:List Int)(hs:SrcE bM w I v zs)(hn:zs.length≤10000000):
  Calls Tryz.prog 161 #[v,BX] w λe w'=>e=.returned (.bool (!cI zs))/\w'=w:=by
 have H:=yW w v I zs hs hn;clear hs;go_enter Tryz.func161,Tryz.ntmps161;go_wp2_with fail;refine H.mono ?_;rintro e w2 ⟨⟨z,rfl,hz⟩,hw⟩;subst hw;have HZ:Hid (decide (0<=z)=zs.any (ee 0 15)):=hz;clear hz H;go_wp2_with fail;go_ret;refine⟨?_,rfl⟩;unfold cI;rw[Bool.not_not,<-HZ.out];rfl
theorem Aw(w:World)(q b o n cap x y:Nat)(hq:w.cell? ⟨q,0,none⟩=some (.slice (some ⟨b,o,none⟩) n cap))(hn:0<n)(hb:w.cell? ⟨b,o,none⟩=some (.int .i64 (y:Nat))):
  Calls Tryz.prog 194 #[.int .i64 (x:Nat),.pointer (some ⟨q,0,none⟩)] w λe w'=>e=.returned (.bool (!decide (x=y)))/\w'=w:=by
 go_enter Tryz.func194,Tryz.ntmps194;by_cases h:x=y
 ·subst h;go_wp2_with fail;go_ret;exact⟨by simp,rfl⟩
 ·have bw:((x:Int)==(y:Int))=false:=(by simp;omega);have HH:Hid ((!decide (x=y))=true/\¬(x:Int)=(y:Int)):=hid ⟨by simp[h],by omega⟩;clear h;go_wp2_with fail;go_ret;exact⟨by rw[HH.out.1];simp[HH.out.2],rfl⟩
abbrev Cg(q:Nat):Value:=.func (.func 194) #[] #[.pointer (some ⟨q,0,none⟩)]
theorem AD(w:World)(b o cap q y:Nat)(I:Nat→Prop)(ns:List Nat)(hs:SrcE am w I (.slice (some ⟨b,o,none⟩) ns.length cap) ns)(hn:ns.length≤1000000)(h0:0<ns.length)(hy:ns[0]=y)
  (hq:w.cell? ⟨q,0,none⟩=some (.slice (some ⟨b,o,none⟩) ns.length cap)):
  Calls Tryz.prog 193 #[.slice (some ⟨b,o,none⟩) ns.length cap,Cg q] w λe w'=>((e=.returned (.int .i64 (-1))/\∀j (_:j<ns.length),ns[j]=y)\/∃i,e=.returned (.int .i64 (i:Nat))/\∃h:i<ns.length,ns[i]≠y/\∀j (_:j<ns.length),j<i->ns[j]=y)/\w'=w:=by
 have c0:w.cell? ⟨b,o,none⟩=some (.int .i64 (y:Nat)):=by obtain⟨b',o',cap',e,_,_,c⟩:=hs.get 0 h0;simp only[Value.slice.injEq,Option.some.injEq,Addr.mk.injEq,and_true]at e;obtain⟨⟨rfl,rfl⟩,_,_⟩:=e;rw[hy]at c;exact c
 have HS:Hid (SrcE am w I (.slice (some ⟨b,o,none⟩) ns.length cap) ns):=hs;clear hs hy;go_enter Tryz.func193,Tryz.ntmps193;go_wp2_with fail;go_loopg [8] ns.length (λk z wr=>∃i:Nat,ns.length-i<=k/\i<=ns.length/\z=.int .i64 (i:Nat)/\Hid (∀j (_:j<ns.length),j<i->ns[j]=y)/\wr=w)
 case atStart=>exact⟨0,by omega,by omega,rfl,hid (λj _ h=>by omega),rfl⟩
 case round=>
  obtain⟨i,hk,Ck,rfl,HF,hw⟩:=hrel;subst hw;by_cases hlt:i<ns.length
  ·obtain⟨b',o',eV,e,_,_,hc⟩:=HS.out.get i hlt;simp only[Value.slice.injEq,Option.some.injEq,Addr.mk.injEq,and_true]at e;obtain⟨⟨rfl,rfl⟩,jO,rfl⟩:=e;clear jO;obtain⟨x,hx⟩:∃x,x=ns[i]:=⟨_,rfl⟩
   rw[<-hx]at hc;unfold am at hc;have HX:Hid (x=ns[i]):=hx;have HC:=Aw wr q b o ns.length cap x y hq h0 c0;clear hx;by_cases hb:x=y
   ·have HB:Hid (x=y):=hb;have hd:(!decide (x=y))=false:=(by simp[hb]);rw[hd]at HC;clear hb hd;go_wp2_with fail;refine HC.mono ?_;rintro e w2 ⟨rfl,hw2⟩;subst hw2;clear HC;go_wp2_with fail;go_roundg (gk-1)
    case measure=>omega
    case rel=>
     refine⟨i+1,by omega,by omega,by go_num,hid (λj hj VQ=>?_),rfl⟩;by_cases e:j=i
     ·subst e;rw[<-HX.out,HB.out]
     ·exact HF.out j hj (by omega)
   ·have HB:Hid (x≠y):=hb;have hd:(!decide (x=y))=true:=(by simp[hb]);rw[hd]at HC;clear hb hd;go_wp2_with fail;refine HC.mono ?_;rintro e w2 ⟨rfl,hw2⟩;subst hw2;clear HC;go_wp2_with fail;go_ret;exact⟨.inr ⟨i,rfl,hlt,by rw[<-HX.out];exact HB.out,HF.out⟩,rfl⟩
  ·have:i=ns.length:=(by omega);subst this;go_wp2_with fail;go_ret;exact⟨.inl ⟨rfl,λj hj=>HF.out j hj hj⟩,rfl⟩
theorem vn{y:Nat}{r:List Nat}{n:Nat}(h:(n=(y::r).length/\∀j (_:j<(y::r).length),(y::r)[j]=y)\/∃h:n<(y::r).length,(y::r)[n]≠y/\∀j (_:j<(y::r).length),j<n->(y::r)[j]=y):n=1+bK y r:=by
 rcases h with⟨h1,h2⟩ | ⟨h1,h2,h3⟩
 ·have:=tn y r r.length (λj hj _=>by have:=h2 (j+1) (by simpa using hj);rw[List.getElem_cons_succ]at this;exact this) (Nat.le_refl _) (λh=>by omega);rw[this,h1];simp;omega
 ·cases n with
  | zero=>simp at h2
  | succ n=>
   have:=tn y r n (λj hj OV=>by have:=h3 (j+1) (by simpa using hj) (by omega);rw[List.getElem_cons_succ]at this;exact this) (by simp at h1;omega) (λ_=>by simpa using h2);rw[this];omega
theorem CD(w:World)(b o cap:Nat)(I:Nat→Prop)(y:Nat)(r:List Nat)(hs:SrcE am w I (.slice (some ⟨b,o,none⟩) (y::r).length cap) (y::r))(hn:(y::r).length≤1000000):
  Calls Tryz.prog 162 #[.slice (some ⟨b,o,none⟩) (y::r).length cap] w λe w'=>e=.returned (.int .i64 ((1+bK y r:Nat):Int))/\Same w w':=by
 obtain⟨W,hW⟩:∃W,W=w.alloc (.cells #[.slice (some ⟨b,o,none⟩) (y::r).length cap] 117):=⟨_,rfl⟩
 have HK:Hid (Same w W):=hid (by rw[hW];exact(Kept.refl _ w).alloc _);have hq:W.cell? ⟨w.heap.size,0,none⟩=some (.slice (some ⟨b,o,none⟩) (y::r).length cap):=by rw[hW];simp
 have HC:=AD W b o cap w.heap.size y I (y::r) (hs.same HK.out) hn (by simp) rfl hq;have HC2:Calls Tryz.prog 193 #[.slice (some ⟨b,o,none⟩) (y::r).length cap,Cg w.heap.size] W λe w'=>((e=.returned (.int .i64 (-1))/\(y::r).length=1+bK y r)\/∃i:Nat,e=.returned (.int .i64 (i:Nat))/\i=1+bK y r)/\w'=W:=HC.mono (by
  rintro e w' ⟨h,hw⟩;refine⟨?_,hw⟩;rcases h with⟨h1,h2⟩ | ⟨i,h1,h2,h3,h4⟩
  ·exact .inl ⟨h1,vn (.inl ⟨rfl,h2⟩)⟩
  ·exact .inr ⟨i,h1,vn (.inr ⟨h2,h3,h4⟩)⟩)
 clear HC;obtain⟨L,hL⟩:∃L,L=(y::r).length:=⟨_,rfl⟩
 rw[<-hL]at HC2 hq hW ⊢;obtain⟨f,hf⟩:∃f,f=1+bK y r:=⟨_,rfl⟩
 rw[<-hf]at HC2 ⊢;clear hs hL hn hf;go_enter Tryz.func162,Tryz.ntmps162;go_wp2_with fail;rw[<-hW];clear hW;go_wp2_with fail;refine HC2.mono ?_;rintro e w2 ⟨h,hw2⟩;subst hw2;clear HC2;rcases h with⟨rfl,Yc⟩ | ⟨i,rfl,NX⟩
 ·subst Yc;go_wp2_with fail;go_ret;exact⟨rfl,HK.out⟩
 ·subst NX;go_wp2_with fail;go_ret;exact⟨rfl,HK.out⟩
theorem vV(l:List Nat)(h0:0<l.length)(hl:l.length<=288)(h15:∀x∈l,x<=15):chk (l.map (fun(n:Nat)=>(n:Int)))=bA l:=by
 have hok:eD (l.map (fun(n:Nat)=>(n:Int))) 0 15=true:=by simp only[eD,List.length_map,Bool.and_eq_true,decide_eq_true_eq,Bool.not_eq_true',List.any_eq_false];refine⟨⟨by omega,by omega⟩,λz hz=>?_⟩;obtain⟨n,hn,rfl⟩:=List.mem_map.1 hz;have:=h15 n hn;simp[ee];omega
 unfold chk;rw[if_pos hok,List.map_map];have e:l.map (Int.toNat ∘ fun(n:Nat)=>(n:Int))=l:=by
  conv=>rhs;rw[<-List.map_id l]
  exact List.map_congr_left (λn _=>by simp)
 rw[e]
theorem qk{l:List Nat}(h:bI l=false):measure l=0:=by
 induction l with
 | nil=>rfl
 | cons a l ih=>
  unfold bI at h ih;simp only[List.any_cons,Bool.or_eq_false_iff]at h;have ha:a=0:=(by have:=h.1;simpa using this);subst ha;show(eG 0+(l.map eG).sum)=0;have:=ih h.2;unfold measure at this;rw[this];rfl
theorem uh{P:List Nat}{most:Nat}{t:Ps}{er:Nat}(h:Ends (ae P) most ps0 t er):(iO (ae P) most).e=er/\(er=0\/er=55->(iO (ae P) most).out=t.out)/\(er=0->(iO (ae P) most).c=t.c):=by obtain⟨t0,h1,h2,h3⟩:=DE (ae P) (ay P) most;obtain⟨rfl,rfl⟩:=h1.det h;exact⟨rfl,λh9=>(h2 h9).symm,λh9=>(h3 h9).symm⟩
end Go.Proofs.YtljlmfnbeofmmaaGreatDoor
