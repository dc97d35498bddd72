/-
  Of the proof: parts LnStep, LnRead, LnWrM, InLo, InPm, InPe, DfM, DfN, LnStepsM, LnPgM, LnShape, LnIdx, InSy, InSt, InCp, InCq, InSm, InHm, InSh, InRd.
-/
import Derived.Deep.RegionLaw
import Derived.Test.YtggcbnhckcenmaaGreatDoorJ9
import Derived.Test.YtggcbnhckcenmaaGreatDoorJ3
import Derived.Test.YtggcbnhckcenmaaGreatDoorJ7
import Derived.Test.YtggcbnhckcenmaaGreatDoorJ1

namespace Go.Proofs.YtggcbnhckcenmaaGreatDoor
open Go.RowKit

theorem RW.kept{F:Nat→Prop}{w0 w' w2:World}{go n:Nat}{ns:List Nat}{p:Nat→Prop}{rs:List (Option Addr×Nat×Nat)}(h:RW w0 w' go n ns p rs)(hk:Kept F w' w2)(h1:∀k,k<w0.heap.size→¬F k)(h2:¬F go)(h3:∀s (hs:s<rs.length),p s→∀k,(slV rs[s]).ownBlock=some k→¬F k):RW w0 w2 go n ns p rs:=
 ⟨h.row.kept hk (fun k e=>by simp[Value.ownBlock]at e;subst e;exact h2),fun s hs hp=>⟨(h.have' s hs hp).1.kept hk (fun k e=>h3 s hs hp k e),(h.have' s hs hp).2⟩,h.none',Same.then h.same hk h1⟩

end Go.Proofs.YtggcbnhckcenmaaGreatDoor

namespace Go.Proofs.YtggcbnhckcenmaaGreatDoor
open Go.RowKit

theorem src_nats(w:World)(zs:List Nat)(n:Nat)(hn:zs.length=n):SrcE natV (w.alloc (.cells (zs.map natV).toArray 3)) (fun k=>k=w.heap.size) (.slice (some ⟨w.heap.size,0,none⟩) n n) zs:=by
 subst hn
 refine⟨_,_,rfl,Nat.le_refl _,fun _=>⟨_,_,rfl,rfl,fun j hj=>?_⟩⟩
 simp[hj]

theorem RW.down{w w0 w':World}{go n:Nat}{ns:List Nat}{p:Nat→Prop}{rs:List (Option Addr×Nat×Nat)}(h:RW w0 w' go n ns p rs)(hk:Same w w0):RW w w' go n ns p rs:=
 ⟨RowE.base h.row hk.size,fun s hs hp=>⟨(h.have' s hs hp).1,fun k e=>Nat.le_trans hk.size ((h.have' s hs hp).2 k e)⟩,h.none',Same.trans hk h.same⟩

theorem chk_codes(l:List Nat)(hl:l.length=19)(h7:∀x∈l,x≤7):chk (l.map (fun(n:Nat)=>(n:Int)))=chkN l:=by
 have hok:okAll (l.map (fun(n:Nat)=>(n:Int))) 0 15=true:=by
  simp only[okAll,List.length_map,Bool.and_eq_true,decide_eq_true_eq,Bool.not_eq_true',List.any_eq_false]
  refine⟨⟨by omega,by omega⟩,fun z hz=>?_⟩
  obtain⟨n,hn,rfl⟩:=List.mem_map.1 hz
  have:=h7 n hn
  simp[badI];omega
 unfold chk
 rw[if_pos hok,List.map_map]
 have e:l.map (Int.toNat ∘ fun(n:Nat)=>(n:Int))=l:=by
  conv=>rhs;rw[←List.map_id l]
  exact List.map_congr_left (fun n _=>by simp)
 rw[e]

theorem stepF_le{ns ls:List Nat}{c s x c':Nat}(h:stepF ns ls c=.ok ((s,x),c')):c'≤ls.length:=by
 unfold stepF at h
 split at h
 ·cases h
 ·split at h
  ·cases h
  ·simp only[Except.ok.injEq,Prod.mk.injEq]at h
   omega

theorem bodyF_step{ns ls:List Nat}{N f c s x c':Nat}{l:List Nat}(hl:l.length<N)(hs:stepF ns ls c=.ok ((s,x),c')):bodyF ns ls N (f+1) l c=match withM l ((s:Int),(x:Int)) N with | none=>.error 41 | some m=>bodyF ns ls N f m c':=by
 simp only[bodyF]
 rw[if_neg (by omega),hs]
 rfl

theorem bodyF_err{ns ls:List Nat}{N f c e:Nat}{l:List Nat}(hl:l.length<N)(hs:stepF ns ls c=.error e):bodyF ns ls N (f+1) l c=.error e:=by
 simp only[bodyF]
 rw[if_neg (by omega),hs]

theorem bodyF_end{ns ls:List Nat}{N f c:Nat}{l:List Nat}(hl:N≤l.length):bodyF ns ls N f l c=.ok (l,c):=by
 cases f with
 | zero=>rfl
 | succ f=>simp only[bodyF];rw[if_pos hl]

theorem stepF_ge{ns ls:List Nat}{c s x c':Nat}(h:stepF ns ls c=.ok ((s,x),c')):c≤c':=by
 unfold stepF at h
 split at h
 ·cases h
 ·split at h
  ·cases h
  ·simp only[Except.ok.injEq,Prod.mk.injEq]at h
   omega

theorem ord_le:∀i,i<19→ord.getD i 0≤18:=by decide

end Go.Proofs.YtggcbnhckcenmaaGreatDoor

namespace Go.Proofs.YtggcbnhckcenmaaGreatDoor

theorem fitL_iff{ns:List Nat}{s:Nat}(hm:measure ns≤32768)(hs:s∈ris ns)(h15:key ns s≤15)(t:List Nat)(ht:∀b∈t,b<2):Fit ns t s↔key ns s≤t.length∧rv (key ns s) (n2 t)=codeOf ns s:=by
 have hcl:=code_lt2 hm hs h15
 have hpart:∀n,n≤t.length→n2 (t.take n)=n2 t % 2 ^ n:=fun n hn=>by
  have:=n2_part t ht 0 n (by omega)
  simpa using this
 unfold Fit
 rw[List.prefix_iff_eq_take,rowOf_length]
 constructor
 ·rintro⟨_,h⟩
  have hl:=congrArg List.length h
  rw[rowOf_length,List.length_take]at hl
  have hk:key ns s≤t.length:=by omega
  refine⟨hk,?_⟩
  have h2:=congrArg n2 h
  rw[rowOf_n2,hpart _ hk]at h2
  rw[←rv_mod (key ns s) (key ns s) _ (Nat.le_refl _),←h2,rv_rv,Nat.mod_eq_of_lt hcl]
 ·rintro⟨hk,h⟩
  refine⟨(mem_ris.1 hs).2,?_⟩
  refine n2_inj _ _ (by rw[rowOf_length,List.length_take];omega) (rowOf_bit ns s) (fun x hx=>ht x (List.mem_of_mem_take hx)) ?_
  rw[rowOf_n2,hpart _ hk,←h,rv_rv]

theorem nextF_row{ns:List Nat}{s:Nat}(hm:measure ns≤32768)(h15:∀x,key ns x≤15)(hs:s<ns.length)(h0:key ns s≠0)(rest:List Nat)(hr:∀b∈rest,b<2):nextF ns (rowOf ns s++rest)=(s,key ns s,0):=by
 have hb:∀b∈rowOf ns s++rest,b<2:=fun b hb=>by
  rcases List.mem_append.1 hb with h | h
  ·exact rowOf_bit ns s b h
  ·exact hr b h
 have hsr:s∈ris ns:=mem_ris.2 ⟨hs,h0⟩
 have hf:Fit ns (rowOf ns s++rest) s:=⟨h0,List.prefix_append _ _⟩
 refine nextF_of (.inl ⟨rfl,hs,hf,rfl,fun j hj hfj=>?_⟩)
 have hjr:j∈ris ns:=mem_ris.2 ⟨by omega,hfj.1⟩
 have h1:=((fitL_iff hm hsr (h15 s) _ hb).1 hf).2
 have h2:=((fitL_iff hm hjr (h15 j) _ hb).1 hfj).2
 have:=fits_one hjr hsr h15 h2 h1
 omega

theorem numAt_laid(A B:List Nat)(v n:Nat)(h:v<2 ^ n):numAt (A++(bitsOf v n++B)) A.length n=v:=by
 unfold numAt
 rw[List.drop_left,List.take_append_of_le_length (by rw[bitsOf_length];exact Nat.le_refl _),List.take_of_length_le (by rw[bitsOf_length];exact Nat.le_refl _),bitsOf_n2,Nat.mod_eq_of_lt h]

def stepBits(cs:List Nat)(s:Nat×Nat):List Nat:=rowOf cs s.1++bitsOf s.2 (xbits s.1)

theorem stepBits_length(cs:List Nat)(s:Nat×Nat):(stepBits cs s).length=key cs s.1+xbits s.1:=by rw[stepBits,List.length_append,rowOf_length,bitsOf_length]

theorem stepBits_bit(cs:List Nat)(s:Nat×Nat):∀b∈stepBits cs s,b<2:=by
 intro b hb
 rcases List.mem_append.1 hb with h | h
 ·exact rowOf_bit _ _ b h
 ·exact bitsOf_lt _ _ b h

def StepsOk(cs:List Nat)(ss:List (Nat×Nat)):Prop:=∀s∈ss,s.1<cs.length∧key cs s.1≠0∧s.2<2 ^ xbits s.1

theorem stepF_laid{cs:List Nat}(hm:measure cs≤32768)(h15:∀x,key cs x≤15)(A B:List Nat)(hB:∀b∈B,b<2)(s:Nat×Nat)(h1:s.1<cs.length)(h2:key cs s.1≠0)(h3:s.2<2 ^ xbits s.1):
  stepF cs (A++(stepBits cs s++B)) A.length=.ok (s,A.length+(stepBits cs s).length):=by
 have hn:nextF cs ((A++(stepBits cs s++B)).drop A.length)=(s.1,key cs s.1,0):=by
  rw[List.drop_left,stepBits,List.append_assoc]
  refine nextF_row hm h15 h1 h2 _ (fun b hb=>?_)
  rcases List.mem_append.1 hb with h | h
  ·exact bitsOf_lt _ _ b h
  ·exact hB b h
 have hx:numAt (A++(stepBits cs s++B)) (A.length+key cs s.1) (xbits s.1)=s.2:=by
  have:=numAt_laid (A++rowOf cs s.1) B s.2 (xbits s.1) h3
  rw[List.length_append,rowOf_length]at this
  rw[stepBits,List.append_assoc,←List.append_assoc A]
  exact this
 unfold stepF
 rw[hn]
 simp only
 rw[if_neg (by simp),if_neg (by rw[List.length_append,List.length_append,stepBits_length];omega),hx,stepBits_length,Nat.add_assoc]

theorem bodyF_laid{cs:List Nat}(hm:measure cs≤32768)(h15:∀x,key cs x≤15)(N:Nat)(B:List Nat)(hB:∀b∈B,b<2)(ss:List (Nat×Nat))(hs:StepsOk cs ss)(A l m:List Nat)(f:Nat)(hl:∀x∈l,x≤15)(hf:N-l.length≤f)
  (hr:runM N l (ss.map (fun s=>((s.1:Int),(s.2:Int))))=some m) (hN:m.length=N):bodyF cs (A++(ss.flatMap (stepBits cs)++B)) N f l A.length=.ok (m,A.length+(ss.flatMap (stepBits cs)).length):=by
 induction ss generalizing A l f with
 | nil=>
  simp only[List.map_nil,runM,Option.some.injEq]at hr
  subst hr
  rw[bodyF_end (by omega)]
  simp
 | cons s r ih=>
  have h1:=hs s (by simp)
  simp only[List.map_cons,runM]at hr
  cases hw:withM l ((s.1:Int),(s.2:Int)) N with
  | none=>rw[hw]at hr;cases hr
  | some l2=>
   rw[hw]at hr
   simp only at hr
   have hg:=withM_grows hw hl
   obtain⟨f,rfl⟩:∃g,f=g+1:=⟨f-1,by omega⟩
   have hB2:∀b∈r.flatMap (stepBits cs)++B,b<2:=fun b hb=>by
    rcases List.mem_append.1 hb with h | h
    ·obtain⟨t,_,ht⟩:=List.mem_flatMap.1 h
     exact stepBits_bit cs t b ht
    ·exact hB b h
   have hst:=stepF_laid hm h15 A (r.flatMap (stepBits cs)++B) hB2 s h1.1 h1.2.1 h1.2.2
   rw[List.flatMap_cons,List.append_assoc,bodyF_step (by omega) hst,hw]
   simp only
   have:=ih (fun t ht=>hs t (List.mem_cons_of_mem _ ht)) (A++stepBits cs s) l2 f hg.2.2 (by omega) hr
   rw[List.append_assoc,List.length_append]at this
   rw[this,List.length_append,Nat.add_assoc]

def codeBits(cs:List Nat):Nat→List Nat
 | 0=>[]
 | i+1=>codeBits cs i++bitsOf (cs.getD (ord.getD i 0) 0) 3

theorem codeBits_length(cs:List Nat)(i:Nat):(codeBits cs i).length=3*i:=by
 induction i with
 | zero=>rfl
 | succ i ih=>rw[codeBits,List.length_append,ih,bitsOf_length];omega

theorem codeBits_split(cs:List Nat)(i n:Nat)(h:i<n):∃r,codeBits cs n=codeBits cs i++(bitsOf (cs.getD (ord.getD i 0) 0) 3++r):=by
 induction n with
 | zero=>omega
 | succ n ih=>
  by_cases e:i=n
  ·subst e;exact⟨[],by simp[codeBits]⟩
  ·obtain⟨r,hr⟩:=ih (by omega)
   exact⟨r++bitsOf (cs.getD (ord.getD n 0) 0) 3,by rw[codeBits,hr];simp⟩

theorem ord_all:∀p,p<19→∃j,j<19∧ord.getD j 0=p:=by decide

theorem codesF_laid(cs:List Nat)(h7:∀x∈cs,x≤7)(hl:cs.length=19)(A B:List Nat)(n:Nat)(hn:n≤19)(i:Nat)(hi:i≤n):∀p,p<19→(codesF (A++(codeBits cs n++B)) A.length i).getD p 0=if (∃j,j<i∧ord.getD j 0=p)then cs.getD p 0 else 0:=by
 induction i with
 | zero=>
  intro p hp
  rw[if_neg (by rintro⟨j,hj,_⟩;omega)]
  rw[codesF,List.getD_eq_getElem?_getD,List.getElem?_replicate,if_pos hp]
  rfl
 | succ i ih=>
  intro p hp
  have ih:=ih (by omega) p hp
  obtain⟨r,hr⟩:=codeBits_split cs i n (by omega)
  have ho:=ord_le i (by omega)
  have hv:cs.getD (ord.getD i 0) 0<2 ^ 3:=by
   have hlt:ord.getD i 0<cs.length:=by omega
   have e:cs.getD (ord.getD i 0) 0=cs[ord.getD i 0]:=by rw[List.getD_eq_getElem?_getD,List.getElem?_eq_getElem hlt];rfl
   rw[e]
   have:=h7 _ (List.getElem_mem hlt)
   omega
  have hnum:numAt (A++(codeBits cs n++B)) (A.length+3*i) 3=cs.getD (ord.getD i 0) 0:=by
   have:=numAt_laid (A++codeBits cs i) (r++B) _ 3 hv
   rw[List.length_append,codeBits_length]at this
   rw[hr]
   simp only[List.append_assoc]at this ⊢
   exact this
  rw[codesF,hnum]
  have hlen:=codesF_length (A++(codeBits cs n++B)) A.length i
  by_cases e:ord.getD i 0=p
  ·rw[if_pos ⟨i,by omega,e⟩,e]
   rw[List.getD_eq_getElem?_getD,List.getElem?_set_self (by omega)]
   rfl
  ·rw[List.getD_eq_getElem?_getD,List.getElem?_set_ne e,←List.getD_eq_getElem?_getD,ih]
   by_cases h:∃j,j<i∧ord.getD j 0=p
   ·obtain⟨j,hj,hp⟩:=h
    rw[if_pos ⟨j,hj,hp⟩,if_pos ⟨j,by omega,hp⟩]
   ·rw[if_neg h,if_neg]
    rintro⟨j,hj,hp⟩
    by_cases e2:j=i
    ·subst e2;exact e hp
    ·exact h ⟨j,by omega,hp⟩

structure HeadOk(lit dist:List Nat)(many:Nat)(cs:List Nat)(ss:List (Nat×Nat)):Prop where
 l1:257≤lit.length
 l2:lit.length≤286
 d1:1≤dist.length
 d2:dist.length≤30
 m1:4≤many
 m2:many≤19
 c19:cs.length=19
 c7:∀x∈cs,x≤7
 ok:chkN cs=0
 rest:∀j,many≤j→j<19→cs.getD (ord.getD j 0) 0=0
 st:StepsOk cs ss
 run:runM (lit.length+dist.length) [] (ss.map (fun s=>((s.1:Int),(s.2:Int))))=some (lit++dist)

def headBits(nl nd many:Nat)(cs:List Nat)(ss:List (Nat×Nat)):List Nat:=
 bitsOf (nl-257) 5++(bitsOf (nd-1) 5++(bitsOf (many-4) 4++(codeBits cs many++ss.flatMap (stepBits cs))))

theorem headBits_length(nl nd many:Nat)(cs:List Nat)(ss:List (Nat×Nat)):(headBits nl nd many cs ss).length=14+3*many+(ss.flatMap (stepBits cs)).length:=by
 unfold headBits
 simp only[List.length_append,bitsOf_length,codeBits_length]
 omega

theorem readF_laid{lit dist:List Nat}{many:Nat}{cs:List Nat}{ss:List (Nat×Nat)}(h:HeadOk lit dist many cs ss)(A B:List Nat)(hB:∀b∈B,b<2):
  readF (A++(headBits lit.length dist.length many cs ss++B)) A.length=.ok ((lit,dist),(headBits lit.length dist.length many cs ss).length):=by
 have hm:measure cs≤32768:=by
  have:=h.ok
  unfold chkN at this
  split at this
  ·omega
  ·omega
 have h15:∀x,key cs x≤15:=fun x=>by
  by_cases e:x<cs.length
  ·rw[key_get e];have:=h.c7 _ (List.getElem_mem e);omega
  ·simp[key,e]
 have hl1:=h.l1;have hl2:=h.l2;have hd1:=h.d1;have hd2:=h.d2;have hm1:=h.m1;have hm2:=h.m2
 have hlen:=headBits_length lit.length dist.length many cs ss
 obtain⟨T,hT⟩:∃T,T=A++(headBits lit.length dist.length many cs ss++B):=⟨_,rfl⟩
 have hTl:T.length=A.length+(14+3*many+(ss.flatMap (stepBits cs)).length)+B.length:=by rw[hT,List.length_append,List.length_append,hlen];omega
 have n1:numAt T A.length 5=lit.length-257:=by
  have:=numAt_laid A (bitsOf (dist.length-1) 5++(bitsOf (many-4) 4++(codeBits cs many++ss.flatMap (stepBits cs)))++B) (lit.length-257) 5 (by omega)
  rw[hT]
  unfold headBits
  simp only[List.append_assoc]at this ⊢
  exact this
 have n2':numAt T (A.length+5) 5=dist.length-1:=by
  have:=numAt_laid (A++bitsOf (lit.length-257) 5) (bitsOf (many-4) 4++(codeBits cs many++ss.flatMap (stepBits cs))++B) (dist.length-1) 5 (by omega)
  rw[List.length_append,bitsOf_length]at this
  rw[hT]
  unfold headBits
  simp only[List.append_assoc]at this ⊢
  exact this
 have n3:numAt T (A.length+10) 4=many-4:=by
  have:=numAt_laid (A++(bitsOf (lit.length-257) 5++bitsOf (dist.length-1) 5)) (codeBits cs many++ss.flatMap (stepBits cs)++B) (many-4) 4 (by omega)
  rw[List.length_append,List.length_append,bitsOf_length,bitsOf_length]at this
  rw[hT]
  unfold headBits
  simp only[List.append_assoc]at this ⊢
  exact this
 have hcs:codesF T (A.length+14) many=cs:=by
  have hA:(A++(bitsOf (lit.length-257) 5++(bitsOf (dist.length-1) 5++bitsOf (many-4) 4))).length=A.length+14:=by simp[bitsOf_length]
  have:=codesF_laid cs h.c7 h.c19 (A++(bitsOf (lit.length-257) 5++(bitsOf (dist.length-1) 5++bitsOf (many-4) 4))) (ss.flatMap (stepBits cs)++B) many hm2 many (Nat.le_refl _)
  rw[hA]at this
  have eT:A++(bitsOf (lit.length-257) 5++(bitsOf (dist.length-1) 5++bitsOf (many-4) 4))++(codeBits cs many++(ss.flatMap (stepBits cs)++B))=T:=by rw[hT];unfold headBits;simp only[List.append_assoc]
  rw[eT]at this
  refine List.ext_getElem (by rw[codesF_length,h.c19]) (fun p h1 h2=>?_)
  rw[codesF_length]at h1
  have hp:=this p h1
  have e1:(codesF T (A.length+14) many).getD p 0=(codesF T (A.length+14) many)[p]:=by rw[List.getD_eq_getElem?_getD,List.getElem?_eq_getElem];rfl
  have e2:cs.getD p 0=cs[p]:=by rw[List.getD_eq_getElem?_getD,List.getElem?_eq_getElem];rfl
  rw[e1]at hp
  rw[hp]
  obtain⟨j,hj,hjp⟩:=ord_all p h1
  by_cases hjm:j<many
  ·rw[if_pos ⟨j,hjm,hjp⟩,e2]
  ·have hz:=h.rest j (by omega) hj
   rw[hjp,e2]at hz
   split
   ·exact e2
   ·exact hz.symm
 have hbody:bodyF cs T (lit.length+dist.length) (lit.length+dist.length) [] (A.length+14+3*many)=.ok (lit++dist,A.length+14+3*many+(ss.flatMap (stepBits cs)).length):=by
  have hA:(A++(bitsOf (lit.length-257) 5++(bitsOf (dist.length-1) 5++(bitsOf (many-4) 4++codeBits cs many)))).length=A.length+14+3*many:=by simp[bitsOf_length,codeBits_length];omega
  have:=bodyF_laid hm h15 (lit.length+dist.length) B hB ss h.st (A++(bitsOf (lit.length-257) 5++(bitsOf (dist.length-1) 5++(bitsOf (many-4) 4++codeBits cs many)))) [] (lit++dist) (lit.length+dist.length) (by simp) (by simp) h.run (by simp)
  rw[hA]at this
  have eT:A++(bitsOf (lit.length-257) 5++(bitsOf (dist.length-1) 5++(bitsOf (many-4) 4++codeBits cs many)))++(ss.flatMap (stepBits cs)++B)=T:=by rw[hT];unfold headBits;simp only[List.append_assoc]
  rw[eT]at this
  exact this
 rw[←hT]
 unfold readF
 rw[n1,n2',n3,show many-4+4=many by omega,show lit.length-257+257=lit.length by omega,show dist.length-1+1=dist.length by omega,hcs,hbody,if_neg (by omega),if_neg (by omega),if_neg (by omega),if_neg (by rw[h.ok];simp)]
 simp only
 rw[List.take_left,List.drop_left,hlen]
 congr 2
 omega

end Go.Proofs.YtggcbnhckcenmaaGreatDoor

namespace Go.Proofs.YtggcbnhckcenmaaGreatDoor

structure Agr(c:Nat)(ls ls':List Nat):Prop where
 eq:ls'.take c=ls.take c
 le:c≤ls.length
 le':c≤ls'.length

theorem Agr.less{c d:Nat}{ls ls':List Nat}(h:Agr c ls ls')(hd:d≤c):Agr d ls ls':=by
 refine⟨?_,Nat.le_trans hd h.le,Nat.le_trans hd h.le'⟩
 have e:=congrArg (List.take d) h.eq
 rwa [List.take_take,List.take_take,Nat.min_eq_left hd]at e

theorem Agr.ext(ls m:List Nat):Agr ls.length ls (ls++m):=⟨by rw[List.take_left,List.take_length],Nat.le_refl _,by rw[List.length_append];omega⟩

theorem Agr.part{k:Nat}{ls ls':List Nat}(h:Agr k ls ls')(c n:Nat)(hk:c+n≤k):(ls'.drop c).take n=(ls.drop c).take n:=by
 have e:=(h.less hk).eq
 have e2:=congrArg (List.drop c) e
 rwa [List.drop_take,List.drop_take,show c+n-c=n by omega]at e2

theorem numAt_agr{k:Nat}{ls ls':List Nat}(h:Agr k ls ls')(c n:Nat)(hk:c+n≤k):numAt ls' c n=numAt ls c n:=by
 unfold numAt;rw[h.part c n hk]

structure Pf(ns:List Nat):Prop where
 ms:measure ns≤32768
 le:∀s,key ns s≤15

theorem nextF_agr{ns ls ls':List Nat}(hp:Pf ns)(hb:∀b∈ls',b<2){c s k:Nat}(hn:nextF ns (ls.drop c)=(s,k,0))(h:Agr (c+k) ls ls'):nextF ns (ls'.drop c)=(s,k,0):=by
 have h1:=nextF_is ns (ls.drop c)
 rw[hn]at h1
 rcases h1 with⟨_,hs,hf,hk,_⟩ | ⟨h0,_⟩ | ⟨h0,_⟩
 ·simp only at hs hf hk
  have e1:rowOf ns s=(ls'.drop c).take k:=by
   rw[h.part c k (Nat.le_refl _)]
   have:=(List.prefix_iff_eq_take.1 hf.2)
   rw[rowOf_length,←hk]at this
   exact this
  have e2:ls'.drop c=rowOf ns s++(ls'.drop c).drop k:=by rw[e1,List.take_append_drop]
  rw[e2,nextF_row hp.ms hp.le hs hf.1 _ (fun b hb'=>hb b (List.mem_of_mem_drop (List.mem_of_mem_drop hb'))),←hk]
 ·simp at h0
 ·simp at h0

theorem nextF_err(ns t m:List Nat)(h:(nextF ns t).2.2=32):(nextF ns (t++m)).2.2=32:=by
 have h1:=nextF_is ns t
 rcases h1 with⟨h0,_⟩ | ⟨h0,_⟩ | ⟨_,_,_,hnf,hnb⟩
 ·omega
 ·omega
 ·have:nextF ns (t++m)=(0,0,32):=nextF_of (.inr (.inr ⟨rfl,rfl,rfl,fun s hs hf=>?_,fun s hs hb=>?_⟩))
  ·rw[this]
  ·rcases List.prefix_or_prefix_of_prefix hf.2 (List.prefix_append t m)with h2 | h2
   ·exact hnf s hs ⟨hf.1,h2⟩
   ·exact hnb s hs ⟨hf.1,h2⟩
  ·exact hnb s hs ⟨hb.1,List.IsPrefix.trans (List.prefix_append t m) hb.2⟩

theorem nextF_ends(ns t:List Nat):(nextF ns t).2.2=0∨(nextF ns t).2.2=10∨(nextF ns t).2.2=32:=by
 rcases nextF_is ns t with h | h | h
 ·exact .inl h.1
 ·exact .inr (.inl h.1)
 ·exact .inr (.inr h.1)

theorem stepF_agr{ns ls ls':List Nat}(hp:Pf ns)(hb:∀b∈ls',b<2){c c':Nat}{x:Nat×Nat}(hs:stepF ns ls c=.ok (x,c'))(h:Agr c' ls ls'):stepF ns ls' c=.ok (x,c'):=by
 unfold stepF at hs
 split at hs
 ·cases hs
 ·rename_i h0
  split at hs
  ·cases hs
  ·rename_i h1
   simp only[Except.ok.injEq,Prod.mk.injEq]at hs
   obtain⟨rfl,rfl⟩:=hs
   have hn:nextF ns (ls.drop c)=((nextF ns (ls.drop c)).1,(nextF ns (ls.drop c)).2.1,0):=by
    have:(nextF ns (ls.drop c)).2.2=0:=Classical.not_not.1 h0
    rw[←this]
   have hn':=nextF_agr hp hb hn (h.less (Nat.le_add_right _ _))
   unfold stepF
   rw[hn']
   simp only
   rw[if_neg (by simp),if_neg (by have:=h.le';omega),numAt_agr h _ _ (Nat.le_refl _)]

theorem stepF_err{ns ls:List Nat}{c e:Nat}(hc:c≤ls.length)(hs:stepF ns ls c=.error e)(he:e≠10)(m:List Nat):stepF ns (ls++m) c=.error e:=by
 unfold stepF at hs
 split at hs
 ·rename_i h0
  simp only[Except.error.injEq]at hs
  have h32:(nextF ns (ls.drop c)).2.2=32:=by rcases nextF_ends ns (ls.drop c)with h | h | h<;>omega
  have h2:=nextF_err ns (ls.drop c) m h32
  rw[←List.drop_append_of_le_length hc]at h2
  unfold stepF
  rw[h2,if_pos (by omega)]
  congr 1
  omega
 ·split at hs
  ·simp only[Except.error.injEq]at hs;omega
  ·cases hs

theorem bodyF_ge{ns ls:List Nat}{N f c c':Nat}{l m:List Nat}(h:bodyF ns ls N f l c=.ok (m,c'))(hc:c≤ls.length):c≤c'∧c'≤ls.length:=by
 induction f generalizing l c with
 | zero=>simp only[bodyF,Except.ok.injEq,Prod.mk.injEq]at h;omega
 | succ f ih=>
  unfold bodyF at h
  split at h
  ·simp only[Except.ok.injEq,Prod.mk.injEq]at h;omega
  ·split at h
   ·cases h
   ·rename_i s c2 hs
    have h1:=stepF_ge (s:=s.1) (x:=s.2) hs
    have h2:=stepF_le (s:=s.1) (x:=s.2) hs
    split at h
    ·cases h
    ·have:=ih h h2;omega

theorem bodyF_agr{ns ls ls':List Nat}(hp:Pf ns)(hb:∀b∈ls',b<2){N f c c':Nat}{l m:List Nat}(h:bodyF ns ls N f l c=.ok (m,c'))(hc:c≤ls.length)(ha:Agr c' ls ls'):bodyF ns ls' N f l c=.ok (m,c'):=by
 induction f generalizing l c with
 | zero=>simpa only[bodyF]using h
 | succ f ih=>
  unfold bodyF at h ⊢
  split at h
  ·rename_i h1;rw[if_pos h1];exact h
  ·rename_i h1
   rw[if_neg h1]
   split at h
   ·cases h
   ·rename_i s c2 hs
    have h2:=stepF_le (s:=s.1) (x:=s.2) hs
    split at h
    ·cases h
    ·rename_i l2 hw
     have h3:=bodyF_ge h h2
     rw[stepF_agr hp hb hs (ha.less h3.1)]
     simp only
     rw[hw]
     exact ih h h2

theorem bodyF_fail{ns ls:List Nat}(hp:Pf ns)(mo:List Nat)(hb:∀b∈ls++mo,b<2){N f c e:Nat}{l:List Nat}(h:bodyF ns ls N f l c=.error e)(he:e≠10)(hc:c≤ls.length):bodyF ns (ls++mo) N f l c=.error e:=by
 induction f generalizing l c with
 | zero=>simp[bodyF]at h
 | succ f ih=>
  unfold bodyF at h ⊢
  split at h
  ·cases h
  ·rename_i h1
   rw[if_neg h1]
   split at h
   ·rename_i e2 hs
    simp only[Except.error.injEq]at h
    subst h
    rw[stepF_err hc hs he mo]
   ·rename_i s c2 hs
    have h2:=stepF_le (s:=s.1) (x:=s.2) hs
    rw[stepF_agr hp hb hs ((Agr.ext ls mo).less h2)]
    simp only
    split at h
    ·exact h
    ·exact ih h h2

theorem codesF_agr{k:Nat}{ls ls':List Nat}(h:Agr k ls ls')(c i:Nat)(hi:c+3*i≤k):codesF ls' c i=codesF ls c i:=by
 induction i with
 | zero=>rfl
 | succ i ih=>rw[codesF,codesF,ih (by omega),numAt_agr h _ _ (by omega)]

theorem key_le{ns:List Nat}{b:Nat}(h:∀n∈ns,n≤b)(s:Nat):key ns s≤b:=Nat.le_trans (key_le_mx ns s) (mx_le ns b h)

theorem codesF_pf{ls:List Nat}(hb:∀b∈ls,b<2)(c i:Nat)(h:chkN (codesF ls c i)=0):Pf (codesF ls c i):=by
 refine⟨?_,fun s=>Nat.le_trans (key_le (codesF_le ls hb c i) s) (by omega)⟩
 unfold chkN at h
 split at h
 ·cases h
 ·omega

theorem readF_ge{ls:List Nat}{a n:Nat}{x:List Nat×List Nat}(h:readF ls a=.ok (x,n)):a+14≤a+n∧a+n≤ls.length:=by
 unfold readF at h
 split at h
 ·cases h
 ·split at h
  ·cases h
  ·split at h
   ·cases h
   ·rename_i h3
    split at h
    ·cases h
    ·split at h
     ·cases h
     ·rename_i l c hbd
      simp only[Except.ok.injEq,Prod.mk.injEq]at h
      have:=bodyF_ge hbd (by omega)
      omega

theorem readF_agr{ls ls':List Nat}(hb:∀b∈ls,b<2)(hb':∀b∈ls',b<2){a n:Nat}{x:List Nat×List Nat}(h:readF ls a=.ok (x,n))(ha:Agr (a+n) ls ls'):readF ls' a=.ok (x,n):=by
 have h0:=readF_ge h
 unfold readF at h
 split at h
 ·cases h
 ·rename_i h1
  split at h
  ·cases h
  ·rename_i h2
   split at h
   ·cases h
   ·rename_i h3
    split at h
    ·cases h
    ·rename_i h4
     split at h
     ·cases h
     ·rename_i l c hbd
      simp only[Except.ok.injEq,Prod.mk.injEq]at h
      obtain⟨rfl,hn⟩:=h
      have h5:=bodyF_ge hbd (by omega)
      have hcn:c=a+n:=by omega
      have l1:=ha.le'
      unfold readF
      rw[numAt_agr ha a 5 (by omega),numAt_agr ha (a+5) 5 (by omega),numAt_agr ha (a+10) 4 (by omega),codesF_agr ha (a+14) _ (by omega),if_neg (by omega),if_neg h2,if_neg (by omega),if_neg h4,
       bodyF_agr (codesF_pf hb _ _ (Classical.not_not.1 h4)) hb' hbd (by omega) (by rw[hcn];exact ha)]
      simp only
      rw[hn]

theorem readF_fail{ls:List Nat}(mo:List Nat)(hb:∀b∈ls++mo,b<2){a e:Nat}(h:readF ls a=.error e)(he:e≠10):readF (ls++mo) a=.error e:=by
 have ha:=Agr.ext ls mo
 unfold readF at h
 split at h
 ·simp only[Except.error.injEq]at h;omega
 ·rename_i h1
  unfold readF
  have l1:=ha.le'
  rw[numAt_agr ha a 5 (by omega),numAt_agr ha (a+5) 5 (by omega),numAt_agr ha (a+10) 4 (by omega),if_neg (by omega)]
  split at h
  ·rename_i h2;rw[if_pos h2];exact h
  ·rename_i h2
   rw[if_neg h2]
   split at h
   ·simp only[Except.error.injEq]at h;omega
   ·rename_i h3
    rw[if_neg (by omega),codesF_agr ha (a+14) _ (by omega)]
    split at h
    ·rename_i h4;rw[if_pos h4];exact h
    ·rename_i h4
     rw[if_neg h4]
     split at h
     ·rename_i e2 hbd
      simp only[Except.error.injEq]at h
      subst h
      rw[bodyF_fail (codesF_pf (fun b hbb=>hb b (List.mem_append_left _ hbb)) _ _ (Classical.not_not.1 h4)) mo hb hbd he (by omega)]
     ·cases h

theorem head5_agr{ls ls':List Nat}(hb:∀b∈ls,b<2)(hb':∀b∈ls',b<2){a n:Nat}{x:List Nat×List Nat}(h:head5 ls a=.ok (x,n))(ha:Agr (a+n) ls ls'):head5 ls' a=.ok (x,n):=by
 unfold head5 at h ⊢
 split at h
 ·cases h
 ·rename_i l d n2 hr
  split at h
  ·cases h
  ·rename_i h1
   simp only[Except.ok.injEq,Prod.mk.injEq]at h
   obtain⟨rfl,rfl⟩:=h
   rw[readF_agr hb hb' hr ha]
   simp only
   rw[if_neg h1]

theorem head5_fail{ls:List Nat}(mo:List Nat)(hb:∀b∈ls++mo,b<2){a e:Nat}(h:head5 ls a=.error e)(he:e≠55):head5 (ls++mo) a=.error e:=by
 have hb1:∀b∈ls,b<2:=fun b hbb=>hb b (List.mem_append_left _ hbb)
 unfold head5 at h
 split at h
 ·rename_i e2 hr
  simp only[Except.error.injEq]at h
  have he2:e2≠10:=fun h10=>by rw[if_pos h10]at h;omega
  unfold head5
  rw[readF_fail mo hb hr he2]
  simp only
  rw[h]
 ·rename_i l d n2 hr
  split at h
  ·rename_i h1
   unfold head5
   rw[readF_agr hb1 hb hr ((Agr.ext ls mo).less (readF_ge hr).2)]
   simp only
   rw[if_pos h1]
   exact h
  ·cases h

theorem head5_ge{ls:List Nat}{a n:Nat}{x:List Nat×List Nat}(h:head5 ls a=.ok (x,n)):a+14≤a+n∧a+n≤ls.length:=by
 unfold head5 at h
 split at h
 ·cases h
 ·rename_i l d n2 hr
  split at h
  ·cases h
  ·simp only[Except.ok.injEq,Prod.mk.injEq]at h
   obtain⟨_,rfl⟩:=h
   exact readF_ge hr

end Go.Proofs.YtggcbnhckcenmaaGreatDoor

namespace Go.Proofs.YtggcbnhckcenmaaGreatDoor

inductive Bk where
 | raw (last:Bool) (left:Nat)
 | sym (last:Bool) (lit dist:List Nat)

def Bk.last:Bk→Bool
 | .raw l _=>l
 | .sym l _ _=>l

inductive Tok where
 | fin
 | byte (b:Nat)
 | copy (n far:Nat)

def tkP(ls:List Nat)(c n:Nat):Except Nat (Nat×Nat):=if ls.length<c+n then .error 55 else .ok (numAt ls c n,c+n)

def syP(ns ls:List Nat)(c last:Nat):Except Nat (Nat×Nat):=
 if (nextF ns (ls.drop c)).2.2=10 then .error 55
 else if (nextF ns (ls.drop c)).2.2≠0∨last<(nextF ns (ls.drop c)).1 then .error 53
 else .ok ((nextF ns (ls.drop c)).1,c+(nextF ns (ls.drop c)).2.1)

def bindP{α β:Type}(r:Except Nat (α×Nat))(g:α→Nat→Except Nat (β×Nat)):Except Nat (β×Nat):=
 match r with
 | .error e=>.error e
 | .ok x=>g x.1 x.2

theorem bindP_ok{α β:Type}{r:Except Nat (α×Nat)}{g:α→Nat→Except Nat (β×Nat)}{y:β×Nat}:bindP r g=.ok y↔∃x c,r=.ok (x,c)∧g x c=.ok y:=by
 cases r with
 | error e=>simp[bindP]
 | ok x=>
  refine⟨fun h=>⟨x.1,x.2,rfl,h⟩,fun⟨a,c,h1,h2⟩=>?_⟩
  simp only[Except.ok.injEq]at h1
  subst h1
  exact h2

theorem bindP_err{α β:Type}{r:Except Nat (α×Nat)}{g:α→Nat→Except Nat (β×Nat)}{e:Nat}:bindP r g=.error e↔r=.error e∨∃x c,r=.ok (x,c)∧g x c=.error e:=by
 cases r with
 | error e2=>simp[bindP]
 | ok x=>
  refine⟨fun h=>.inr ⟨x.1,x.2,rfl,h⟩,fun h=>?_⟩
  rcases h with h | ⟨a,c,h1,h2⟩
  ·cases h
  ·simp only[Except.ok.injEq]at h1
   subst h1
   exact h2

theorem bindP_is{α β:Type}{r:Except Nat (α×Nat)}{g:α→Nat→Except Nat (β×Nat)}{x:α}{c:Nat}(h:r=.ok (x,c)):bindP r g=g x c:=by rw[h];rfl
theorem bindP_no{α β:Type}{r:Except Nat (α×Nat)}{g:α→Nat→Except Nat (β×Nat)}{e:Nat}(h:r=.error e):bindP r g=.error e:=by rw[h];rfl

def numP(ls:List Nat)(c y k:Nat):Except Nat (Nat×Nat):=
 if y<k then .ok (y,c)else bindP (tkP ls c (y / k-1)) (fun x c'=>.ok ((k+y % k)*2 ^ (y / k-1)+x,c'))

def lenP(ls:List Nat)(c y:Nat):Except Nat (Nat×Nat):=
 if y<285 then bindP (numP ls c (y-257) 4) (fun n c'=>.ok (3+n,c'))else .ok (258,c)

def dsyP(dist ls:List Nat)(c:Nat):Except Nat (Nat×Nat):=if usedB dist=false then .error 53 else syP dist ls c 29

def copP(ls dist:List Nat)(c y:Nat):Except Nat ((Nat×Nat)×Nat):=
 bindP (lenP ls c y) (fun n c1=>bindP (dsyP dist ls c1) (fun z c2=>bindP (numP ls c2 z 2) (fun d c3=>.ok ((n,1+d),c3))))

def symP(ls:List Nat)(last:Bool)(lit dist:List Nat)(y c1:Nat):Except Nat ((Tok×Bk)×Nat):=
 if y<256 then .ok ((.byte y,.sym last lit dist),c1)
 else if y=256 then .ok ((.fin,.sym last lit dist),c1)
 else bindP (copP ls dist c1 y) (fun x c2=>.ok ((.copy x.1 x.2,.sym last lit dist),c2))

def stepP(ls:List Nat)(b:Bk)(c:Nat):Except Nat ((Tok×Bk)×Nat):=
 match b with
 | .raw last 0=>.ok ((.fin,.raw last 0),c)
 | .raw last (n+1)=>bindP (tkP ls c 8) (fun v c'=>.ok ((.byte v,.raw last n),c'))
 | .sym last lit dist=>bindP (syP lit ls c 285) (symP ls last lit dist)

def cntP(ls:List Nat)(c:Nat):Except Nat (Nat×Nat):=
 bindP (tkP ls ((c+7) / 8*8) 16) (fun n c1=>bindP (tkP ls c1 16) (fun t c2=>if n+t=65535 then .ok (n,c2)else .error 51))

def hdP(ls:List Nat)(c:Nat):Except Nat ((List Nat×List Nat)×Nat):=
 match head5 ls c with
 | .error e=>.error e
 | .ok (x,n)=>.ok (x,c+n)

def kndP(ls:List Nat)(last:Bool)(c k:Nat):Except Nat (Bk×Nat):=
 if k=0 then bindP (cntP ls c) (fun n c'=>.ok (.raw last n,c'))
 else if k=1 then .ok (.sym last fixL fixD,c)
 else if k=2 then bindP (hdP ls c) (fun x c'=>.ok (.sym last x.1 x.2,c'))
 else .error 50

def begP(ls:List Nat)(c:Nat):Except Nat (Bk×Nat):=
 bindP (tkP ls c 1) (fun l c1=>bindP (tkP ls c1 2) (fun k c2=>kndP ls (l==1) c2 k))

def cpL(far:Nat):Nat→List Nat→List Nat
 | 0,out=>out
 | n+1,out=>cpL far n (out++[out.getD (out.length-far) 0])

def layP(most:Nat)(out:List Nat):Tok→Except Nat (List Nat)
 | .fin=>.ok out
 | .byte b=>if most<out.length+1 then .error 56 else .ok (out++[b])
 | .copy n far=>if out.length<far then .error 54 else if most<out.length+n then .error 56 else .ok (cpL far n out)

structure Ps where
 c:Nat
 out:List Nat
 bk:Option Bk

def goP(most:Nat)(s:Ps)(b:Bk)(x:(Tok×Bk)×Nat):Except Nat (Ps×Bool):=
 match x.1.1 with
 | .fin=>if b.last=true then .ok (⟨x.2,s.out,some x.1.2⟩,true)else .ok (⟨x.2,s.out,none⟩,false)
 | t=>match layP most s.out t with
  | .error e=>.error e
  | .ok out=>.ok (⟨x.2,out,some x.1.2⟩,false)

def stP(ls:List Nat)(most:Nat)(s:Ps):Except Nat (Ps×Bool):=
 match s.bk with
 | none=>match begP ls s.c with
  | .error e=>.error e
  | .ok x=>.ok (⟨x.2,s.out,some x.1⟩,false)
 | some b=>match stepP ls b s.c with
  | .error e=>.error e
  | .ok x=>goP most s b x

inductive Ends(ls:List Nat)(most:Nat):Ps→Ps→Nat→Prop
 | stop {s:Ps} {e:Nat} (h:stP ls most s=.error e):Ends ls most s s e
 | done {s t:Ps} (h:stP ls most s=.ok (t,true)):Ends ls most s t 0
 | step {s s' t:Ps} {e:Nat} (h:stP ls most s=.ok (s',false)) (r:Ends ls most s' t e):Ends ls most s t e

theorem tkP_err{ls:List Nat}{c n e:Nat}(h:tkP ls c n=.error e):e=55∧ls.length<c+n:=by
 unfold tkP at h
 split at h
 ·rename_i h1;simp only[Except.error.injEq]at h;exact⟨h.symm,h1⟩
 ·cases h
theorem tkP_ok{ls:List Nat}{c n x c':Nat}(h:tkP ls c n=.ok (x,c')):x=numAt ls c n∧c'=c+n∧c+n≤ls.length:=by
 unfold tkP at h
 split at h
 ·cases h
 ·simp only[Except.ok.injEq,Prod.mk.injEq]at h;exact⟨h.1.symm,h.2.symm,by omega⟩
theorem tkP_is{ls:List Nat}{c n:Nat}(h:c+n≤ls.length):tkP ls c n=.ok (numAt ls c n,c+n):=by unfold tkP;rw[if_neg (by omega)]
theorem tkP_end{ls:List Nat}{c n:Nat}(h:ls.length<c+n):tkP ls c n=.error 55:=by unfold tkP;rw[if_pos h]

theorem tkP_agr{ls ls':List Nat}{c n x c':Nat}(h:tkP ls c n=.ok (x,c'))(ha:Agr c' ls ls'):tkP ls' c n=.ok (x,c'):=by
 obtain⟨rfl,rfl,_⟩:=tkP_ok h
 rw[tkP_is ha.le',numAt_agr ha c n (Nat.le_refl _)]

structure Loc{α:Type}(f:List Nat→Except Nat (α×Nat))(ls:List Nat)(c:Nat):Prop where
 ge:∀x c',f ls=.ok (x,c')→c≤c'∧c'≤ls.length
 agr:∀x c' ls',(∀b∈ls',b<2)→f ls=.ok (x,c')→Agr c' ls ls'→f ls'=.ok (x,c')
 err:∀e mo,(∀b∈mo,b<2)→f ls=.error e→e≠55→f (ls++mo)=.error e
 ne:∀e,f ls=.error e→e≠0

theorem Loc.pure{α:Type}(x:α){ls:List Nat}{c:Nat}(hc:c≤ls.length):Loc (fun _=>.ok (x,c)) ls c:=
 ⟨fun y c' h=>by simp only[Except.ok.injEq,Prod.mk.injEq]at h;omega,fun _ _ _ _ h _=>h,fun _ _ _ h _=>(by cases h),fun _ h=>(by cases h)⟩
theorem Loc.fail{α:Type}{e:Nat}(he:e≠0){ls:List Nat}{c:Nat}:Loc (α:=α) (fun _=>.error e) ls c:=
 ⟨fun _ _ h=>(by cases h),fun _ _ _ _ h _=>h,fun _ _ _ h _=>h,fun _ h=>by simp only[Except.error.injEq]at h;omega⟩
theorem Loc.of_eq{α:Type}{f g:List Nat→Except Nat (α×Nat)}{ls:List Nat}{c:Nat}(h:Loc f ls c)(e:∀l,g l=f l):Loc g ls c:=by
 have:g=f:=funext e
 rw[this];exact h
theorem Loc.weak{α:Type}{f:List Nat→Except Nat (α×Nat)}{ls:List Nat}{c d:Nat}(h:Loc f ls c)(hd:d≤c):Loc f ls d:=
 ⟨fun x c' h1=>by have:=h.ge x c' h1;omega,h.agr,h.err,h.ne⟩

theorem tkP_loc(ls:List Nat)(c n:Nat):Loc (fun l=>tkP l c n) ls c:=
 ⟨fun x c' h=>by have:=tkP_ok h;omega,fun _ _ _ _ h ha=>tkP_agr h ha,fun e _ _ h he=>absurd (tkP_err h).1 he,fun e h=>by have:=(tkP_err h).1;omega⟩

theorem syP_cases{ns ls:List Nat}{c last:Nat}{r:Except Nat (Nat×Nat)}(h:syP ns ls c last=r):
  (r=.error 55∧(nextF ns (ls.drop c)).2.2=10)∨(r=.error 53∧(nextF ns (ls.drop c)).2.2=32) ∨
  (∃y k,nextF ns (ls.drop c)=(y,k,0)∧((last<y∧r=.error 53)∨(y≤last∧r=.ok (y,c+k)))):=by
 obtain⟨y,k,g,hn⟩:∃y k g,nextF ns (ls.drop c)=(y,k,g):=⟨_,_,_,rfl⟩
 have h3:=nextF_ends ns (ls.drop c)
 unfold syP at h
 rw[hn]at h h3 ⊢
 simp only at h h3 ⊢
 rcases h3 with rfl | rfl | rfl
 ·refine .inr (.inr ⟨y,k,rfl,?_⟩)
  rw[if_neg (by omega)]at h
  by_cases hy:last<y
  ·rw[if_pos (.inr hy)]at h;exact .inl ⟨hy,h.symm⟩
  ·rw[if_neg (by omega)]at h;exact .inr ⟨by omega,h.symm⟩
 ·rw[if_pos rfl]at h;exact .inl ⟨h.symm,rfl⟩
 ·rw[if_neg (by omega),if_pos (.inl (by omega))]at h;exact .inr (.inl ⟨h.symm,rfl⟩)

theorem syP_none{ns ls:List Nat}{c last:Nat}(h:(nextF ns (ls.drop c)).2.2=32):syP ns ls c last=.error 53:=by
 unfold syP;rw[if_neg (by omega),if_pos (.inl (by omega))]
theorem syP_short{ns ls:List Nat}{c last:Nat}(h:(nextF ns (ls.drop c)).2.2=10):syP ns ls c last=.error 55:=by
 unfold syP;rw[if_pos h]
theorem syP_is{ns ls:List Nat}{c last y k:Nat}(h:nextF ns (ls.drop c)=(y,k,0))(hy:y≤last):syP ns ls c last=.ok (y,c+k):=by
 unfold syP;rw[h];simp only;rw[if_neg (by omega),if_neg (by omega)]
theorem syP_far{ns ls:List Nat}{c last y k:Nat}(h:nextF ns (ls.drop c)=(y,k,0))(hy:last<y):syP ns ls c last=.error 53:=by
 unfold syP;rw[h];simp only;rw[if_neg (by omega),if_pos (.inr hy)]

theorem nextF_len{ns t:List Nat}{y k:Nat}(h:nextF ns t=(y,k,0)):k≤t.length∧0<k∧y<ns.length:=by
 have h1:=nextF_is ns t
 rw[h]at h1
 rcases h1 with⟨_,hs,hf,hk,_⟩ | ⟨h0,_⟩ | ⟨h0,_⟩
 ·simp only at hs hf hk
  have:=hf.2.length_le
  rw[rowOf_length]at this
  have:=hf.1
  omega
 ·simp at h0
 ·simp at h0

theorem nextF_in{ns ls:List Nat}{c y k:Nat}(hc:c≤ls.length)(h:nextF ns (ls.drop c)=(y,k,0)):c+k≤ls.length:=by
 have:=(nextF_len h).1
 rw[List.length_drop]at this
 omega

theorem syP_loc{ns:List Nat}(hp:Pf ns)(ls:List Nat)(hb:∀b∈ls,b<2)(c last:Nat)(hc:c≤ls.length):Loc (fun l=>syP ns l c last) ls c:=by
 refine⟨fun x c' h=>?_,fun x c' ls' hb' h ha=>?_,fun e mo hb' h he=>?_,fun e h=>?_⟩
 ·rcases syP_cases h with⟨h1,_⟩ | ⟨h1,_⟩ | ⟨y,k,hn,⟨_,h1⟩ | ⟨_,h1⟩⟩
  ·cases h1
  ·cases h1
  ·cases h1
  ·simp only[Except.ok.injEq,Prod.mk.injEq]at h1
   have:=nextF_in hc hn
   omega
 ·rcases syP_cases h with⟨h1,_⟩ | ⟨h1,_⟩ | ⟨y,k,hn,⟨_,h1⟩ | ⟨hy,h1⟩⟩
  ·cases h1
  ·cases h1
  ·cases h1
  ·simp only[Except.ok.injEq,Prod.mk.injEq]at h1
   obtain⟨rfl,rfl⟩:=h1
   exact syP_is (nextF_agr hp hb' hn ha) hy
 ·have hb2:∀b∈ls++mo,b<2:=fun b hbb=>by rcases List.mem_append.1 hbb with h | h;exact hb b h;exact hb' b h
  rcases syP_cases h with⟨h1,_⟩ | ⟨h1,h2⟩ | ⟨y,k,hn,⟨hy,h1⟩ | ⟨hy,h1⟩⟩
  ·simp only[Except.error.injEq]at h1;omega
  ·rw[h1]
   have h3:=nextF_err ns (ls.drop c) mo h2
   rw[←List.drop_append_of_le_length hc]at h3
   exact syP_none h3
  ·rw[h1]
   exact syP_far (nextF_agr hp hb2 hn ((Agr.ext ls mo).less (nextF_in hc hn))) hy
  ·cases h1
 ·rcases syP_cases h with⟨h1,_⟩ | ⟨h1,_⟩ | ⟨y,k,hn,⟨_,h1⟩ | ⟨_,h1⟩⟩
  ·simp only[Except.error.injEq]at h1;omega
  ·simp only[Except.error.injEq]at h1;omega
  ·simp only[Except.error.injEq]at h1;omega
  ·cases h1

theorem Loc.bind{α β:Type}{f:List Nat→Except Nat (α×Nat)}{ls:List Nat}{c:Nat}(hb:∀b∈ls,b<2)(h:Loc f ls c){g:List Nat→α→Nat→Except Nat (β×Nat)}
  (hg:∀x c',f ls=.ok (x,c')→Loc (fun l=>g l x c') ls c'):Loc (fun l=>bindP (f l) (g l)) ls c:=by
 refine⟨fun x c' h1=>?_,fun x c' ls' hb' h1 ha=>?_,fun e mo hb' h1 he=>?_,fun e h1=>?_⟩
 ·obtain⟨y,c2,hf,h2⟩:=bindP_ok.1 h1
  have a:=h.ge _ _ hf
  have b:=(hg y c2 hf).ge _ _ h2
  omega
 ·obtain⟨y,c2,hf,h2⟩:=bindP_ok.1 h1
  have b:=(hg y c2 hf).ge _ _ h2
  exact bindP_ok.2 ⟨y,c2,h.agr _ _ ls' hb' hf (ha.less b.1),(hg y c2 hf).agr _ _ ls' hb' h2 ha⟩
 ·have hb2:∀b∈ls++mo,b<2:=fun b hbb=>by rcases List.mem_append.1 hbb with h | h;exact hb b h;exact hb' b h
  rcases bindP_err.1 h1 with hf | ⟨y,c2,hf,h2⟩
  ·exact bindP_err.2 (.inl (h.err _ mo hb' hf he))
  ·exact bindP_err.2 (.inr ⟨y,c2,h.agr _ _ _ hb2 hf ((Agr.ext ls mo).less (h.ge _ _ hf).2),(hg y c2 hf).err _ mo hb' h2 he⟩)
 ·rcases bindP_err.1 h1 with hf | ⟨y,c2,hf,h2⟩
  ·exact h.ne _ hf
  ·exact(hg y c2 hf).ne _ h2

theorem numP_loc(ls:List Nat)(hb:∀b∈ls,b<2)(c y k:Nat)(hc:c≤ls.length):Loc (fun l=>numP l c y k) ls c:=by
 by_cases h:y<k
 ·exact(Loc.pure y hc).of_eq (fun l=>by unfold numP;rw[if_pos h])
 ·exact(Loc.bind hb (tkP_loc ls c (y / k-1)) (g:=fun _ x c'=>.ok ((k+y % k)*2 ^ (y / k-1)+x,c')) (fun x c' h1=>Loc.pure _ ((tkP_loc ls c _).ge x c' h1).2)).of_eq (fun l=>by unfold numP;rw[if_neg h])

theorem lenP_loc(ls:List Nat)(hb:∀b∈ls,b<2)(c y:Nat)(hc:c≤ls.length):Loc (fun l=>lenP l c y) ls c:=by
 by_cases h:y<285
 ·exact(Loc.bind hb (numP_loc ls hb c (y-257) 4 hc) (g:=fun _ x c'=>.ok (3+x,c')) (fun x c' h1=>Loc.pure _ ((numP_loc ls hb c _ _ hc).ge x c' h1).2)).of_eq (fun l=>by unfold lenP;rw[if_pos h])
 ·exact(Loc.pure 258 hc).of_eq (fun l=>by unfold lenP;rw[if_neg h])

theorem dsyP_loc{dist:List Nat}(hp:Pf dist)(ls:List Nat)(hb:∀b∈ls,b<2)(c:Nat)(hc:c≤ls.length):Loc (fun l=>dsyP dist l c) ls c:=by
 by_cases h:usedB dist=false
 ·exact(Loc.fail (e:=53) (by decide)).of_eq (fun l=>by unfold dsyP;rw[if_pos h])
 ·exact(syP_loc hp ls hb c 29 hc).of_eq (fun l=>by unfold dsyP;rw[if_neg h])

theorem copP_loc{dist:List Nat}(hp:Pf dist)(ls:List Nat)(hb:∀b∈ls,b<2)(c y:Nat)(hc:c≤ls.length):Loc (fun l=>copP l dist c y) ls c:=by
 have h1:=lenP_loc ls hb c y hc
 refine Loc.bind hb h1 (fun n c1 e1=>?_)
 have hc1:=(h1.ge _ _ e1).2
 refine Loc.bind hb (dsyP_loc hp ls hb c1 hc1) (fun z c2 e2=>?_)
 have hc2:=((dsyP_loc hp ls hb c1 hc1).ge _ _ e2).2
 exact Loc.bind hb (numP_loc ls hb c2 z 2 hc2) (fun d c3 e3=>Loc.pure _ ((numP_loc ls hb c2 z 2 hc2).ge _ _ e3).2)

structure Lok(l:List Nat):Prop where
 pos:0<l.length
 max:l.length≤288
 le:∀n∈l,n≤15
 ok:chkN l=0

structure OkL(lit dist:List Nat):Prop where
 lit:Lok lit
 pos:0<dist.length
 max:dist.length≤288
 le:∀n∈dist,n≤15
 dist:usedB dist=true→Lok dist

def BkOk:Option Bk→Prop
 | some (.sym _ lit dist)=>OkL lit dist
 | _=>True

theorem Lok.pf{l:List Nat}(h:Lok l):Pf l:=by
 refine⟨?_,key_le h.le⟩
 have:=h.ok
 unfold chkN at this
 split at this
 ·cases this
 ·omega

theorem OkL.pf{lit dist:List Nat}(h:OkL lit dist):Pf dist:=by
 by_cases hu:usedB dist=true
 ·exact(h.dist hu).pf
 ·refine⟨?_,key_le h.le⟩
  have:measure dist=0:=by
   have hu2:usedB dist=false:=by simpa using hu
   unfold usedB at hu2
   rw[List.any_eq_false]at hu2
   unfold measure
   have:dist.map unit=dist.map (fun _=>0):=List.map_congr_left (fun n hn=>by
    have:=hu2 n hn
    have h0:n=0:=by simpa using this
    rw[h0];rfl)
   rw[this,List.map_const',List.sum_replicate_nat,Nat.mul_zero]
  omega

theorem stepP_loc(ls:List Nat)(hb:∀b∈ls,b<2)(b:Bk)(c:Nat)(hk:BkOk (some b))(hc:c≤ls.length):Loc (fun l=>stepP l b c) ls c:=by
 cases b with
 | raw last left=>
  cases left with
  | zero=>exact Loc.pure _ hc
  | succ n=>exact Loc.bind hb (tkP_loc ls c 8) (g:=fun _ v c'=>.ok ((Tok.byte v,Bk.raw last n),c')) (fun x c' e=>Loc.pure _ ((tkP_loc ls c 8).ge _ _ e).2)
 | sym last lit dist=>
  have hk:OkL lit dist:=hk
  have h1:=syP_loc hk.lit.pf ls hb c 285 hc
  refine Loc.bind hb h1 (fun y c1 e1=>?_)
  have hc1:=(h1.ge _ _ e1).2
  by_cases h256:y<256
  ·exact(Loc.pure _ hc1).of_eq (fun l=>by unfold symP;rw[if_pos h256])
  ·by_cases he:y=256
   ·exact(Loc.pure _ hc1).of_eq (fun l=>by unfold symP;rw[if_neg h256,if_pos he])
   ·exact(Loc.bind hb (copP_loc hk.pf ls hb c1 y hc1) (g:=fun _ x c2=>.ok ((.copy x.1 x.2,.sym last lit dist),c2)) (fun x c2 e2=>Loc.pure _ ((copP_loc hk.pf ls hb c1 y hc1).ge _ _ e2).2)).of_eq (fun l=>by unfold symP;rw[if_neg h256,if_neg he])

theorem cntP_loc(ls:List Nat)(hb:∀b∈ls,b<2)(c:Nat):Loc (fun l=>cntP l c) ls c:=by
 have h1:=tkP_loc ls ((c+7) / 8*8) 16
 refine(Loc.bind hb h1 (g:=fun l n c1=>bindP (tkP l c1 16) (fun t c2=>if n+t=65535 then .ok (n,c2)else .error 51)) (fun n c1 e1=>?_)).weak (by omega)
 refine Loc.bind hb (tkP_loc ls c1 16) (fun t c2 e2=>?_)
 have hc2:=((tkP_loc ls c1 16).ge _ _ e2).2
 by_cases h:n+t=65535
 ·exact(Loc.pure n hc2).of_eq (fun l=>by rw[if_pos h])
 ·exact(Loc.fail (e:=51) (by decide)).of_eq (fun l=>by rw[if_neg h])

theorem head5_ne{ls:List Nat}{a e:Nat}(h:head5 ls a=.error e):e≠0:=by
 unfold head5 at h
 split at h
 ·simp only[Except.error.injEq]at h
  split at h<;>omega
 ·split at h
  ·simp only[Except.error.injEq]at h;omega
  ·cases h

theorem hdP_loc(ls:List Nat)(hb:∀b∈ls,b<2)(c:Nat):Loc (fun l=>hdP l c) ls c:=by
 refine⟨fun x c' h=>?_,fun x c' ls' hb' h ha=>?_,fun e mo hb' h he=>?_,fun e h=>?_⟩
 ·simp only[hdP]at h
  split at h
  ·cases h
  ·rename_i y n h1
   simp only[Except.ok.injEq,Prod.mk.injEq]at h
   have:=head5_ge h1
   omega
 ·simp only[hdP]at h ⊢
  split at h
  ·cases h
  ·rename_i y n h1
   simp only[Except.ok.injEq,Prod.mk.injEq]at h
   obtain⟨rfl,rfl⟩:=h
   rw[head5_agr hb hb' h1 ha]
 ·have hb2:∀b∈ls++mo,b<2:=fun b hbb=>by rcases List.mem_append.1 hbb with h | h;exact hb b h;exact hb' b h
  simp only[hdP]at h ⊢
  split at h
  ·rename_i e2 h1
   simp only[Except.error.injEq]at h
   subst h
   rw[head5_fail mo hb2 h1 he]
  ·cases h
 ·simp only[hdP]at h
  split at h
  ·rename_i e2 h1
   simp only[Except.error.injEq]at h
   subst h
   exact head5_ne h1
  ·cases h

theorem kndP_loc(ls:List Nat)(hb:∀b∈ls,b<2)(last:Bool)(c k:Nat)(hc:c≤ls.length):Loc (fun l=>kndP l last c k) ls c:=by
 by_cases h0:k=0
 ·exact(Loc.bind hb (cntP_loc ls hb c) (g:=fun _ n c'=>.ok (Bk.raw last n,c')) (fun n c' e=>Loc.pure _ ((cntP_loc ls hb c).ge _ _ e).2)).of_eq (fun l=>by unfold kndP;rw[if_pos h0])
 ·by_cases h1:k=1
  ·exact(Loc.pure _ hc).of_eq (fun l=>by unfold kndP;rw[if_neg h0,if_pos h1])
  ·by_cases h2:k=2
   ·exact(Loc.bind hb (hdP_loc ls hb c) (g:=fun _ x c'=>.ok (Bk.sym last x.1 x.2,c')) (fun n c' e=>Loc.pure _ ((hdP_loc ls hb c).ge _ _ e).2)).of_eq (fun l=>by unfold kndP;rw[if_neg h0,if_neg h1,if_pos h2])
   ·exact(Loc.fail (e:=50) (by decide)).of_eq (fun l=>by unfold kndP;rw[if_neg h0,if_neg h1,if_neg h2])

theorem begP_loc(ls:List Nat)(hb:∀b∈ls,b<2)(c:Nat):Loc (fun l=>begP l c) ls c:=by
 refine Loc.bind hb (tkP_loc ls c 1) (fun x c1 e1=>?_)
 exact Loc.bind hb (tkP_loc ls c1 2) (fun k c2 e2=>kndP_loc ls hb _ c2 k ((tkP_loc ls c1 2).ge _ _ e2).2)

theorem stepP_zero(ls:List Nat)(last:Bool)(c:Nat):stepP ls (.raw last 0) c=.ok ((.fin,.raw last 0),c):=rfl
theorem stepP_raw(ls:List Nat)(last:Bool)(n c:Nat):stepP ls (.raw last (n+1)) c=bindP (tkP ls c 8) (fun v c'=>.ok ((.byte v,.raw last n),c')):=rfl
theorem stepP_sym(ls:List Nat)(last:Bool)(lit dist:List Nat)(c:Nat):stepP ls (.sym last lit dist) c=bindP (syP lit ls c 285) (symP ls last lit dist):=rfl

theorem stP_none_ok{ls:List Nat}{most:Nat}{s:Ps}{b:Bk}{c:Nat}(h:s.bk=none)(hg:begP ls s.c=.ok (b,c)):stP ls most s=.ok (⟨c,s.out,some b⟩,false):=by
 unfold stP;rw[h];simp only[hg]
theorem stP_none_err{ls:List Nat}{most:Nat}{s:Ps}{e:Nat}(h:s.bk=none)(hg:begP ls s.c=.error e):stP ls most s=.error e:=by
 unfold stP;rw[h];simp only[hg]
theorem stP_some_ok{ls:List Nat}{most:Nat}{s:Ps}{b:Bk}{x:(Tok×Bk)×Nat}(h:s.bk=some b)(hg:stepP ls b s.c=.ok x):stP ls most s=goP most s b x:=by
 unfold stP;rw[h];simp only[hg]
theorem stP_some_err{ls:List Nat}{most:Nat}{s:Ps}{b:Bk}{e:Nat}(h:s.bk=some b)(hg:stepP ls b s.c=.error e):stP ls most s=.error e:=by
 unfold stP;rw[h];simp only[hg]

theorem goP_fin(most:Nat)(s:Ps)(b b':Bk)(c:Nat):goP most s b ((.fin,b'),c)=if b.last=true then .ok (⟨c,s.out,some b'⟩,true)else .ok (⟨c,s.out,none⟩,false):=rfl
theorem goP_err{most:Nat}{s:Ps}{b b':Bk}{c e:Nat}{t:Tok}(ht:t≠.fin)(h:layP most s.out t=.error e):goP most s b ((t,b'),c)=.error e:=by
 cases t with
 | fin=>exact absurd rfl ht
 | byte v=>unfold goP;simp only[h]
 | copy n far=>unfold goP;simp only[h]
theorem goP_ok{most:Nat}{s:Ps}{b b':Bk}{c:Nat}{t:Tok}{out:List Nat}(ht:t≠.fin)(h:layP most s.out t=.ok out):goP most s b ((t,b'),c)=.ok (⟨c,out,some b'⟩,false):=by
 cases t with
 | fin=>exact absurd rfl ht
 | byte v=>unfold goP;simp only[h]
 | copy n far=>unfold goP;simp only[h]

theorem goP_cases{most:Nat}{s:Ps}{b b':Bk}{c:Nat}{t:Tok}{r:Except Nat (Ps×Bool)}(h:goP most s b ((t,b'),c)=r):
  (t=.fin∧b.last=true∧r=.ok (⟨c,s.out,some b'⟩,true))∨(t=.fin∧b.last=false∧r=.ok (⟨c,s.out,none⟩,false)) ∨
  (t≠.fin∧((∃e,layP most s.out t=.error e∧r=.error e)∨∃out,layP most s.out t=.ok out∧r=.ok (⟨c,out,some b'⟩,false))):=by
 by_cases ht:t=.fin
 ·subst ht
  rw[goP_fin]at h
  cases hl:b.last with
  | true=>rw[hl,if_pos rfl]at h;exact .inl ⟨rfl,rfl,h.symm⟩
  | false=>rw[hl,if_neg (by decide)]at h;exact .inr (.inl ⟨rfl,rfl,h.symm⟩)
 ·cases hl:layP most s.out t with
  | error e=>rw[goP_err ht hl]at h;exact .inr (.inr ⟨ht,.inl ⟨e,rfl,h.symm⟩⟩)
  | ok out=>rw[goP_ok ht hl]at h;exact .inr (.inr ⟨ht,.inr ⟨out,rfl,h.symm⟩⟩)

end Go.Proofs.YtggcbnhckcenmaaGreatDoor

namespace Go.Proofs.YtggcbnhckcenmaaGreatDoor

theorem bodyF_le15{ns ls:List Nat}{N f c c':Nat}{l m:List Nat}(h:bodyF ns ls N f l c=.ok (m,c'))(hl:∀x∈l,x≤15)(hn:l.length≤N)(hf:N-l.length≤f):(∀x∈m,x≤15)∧m.length=N:=by
 induction f generalizing l c with
 | zero=>
  simp only[bodyF,Except.ok.injEq,Prod.mk.injEq]at h
  obtain⟨rfl,_⟩:=h
  exact⟨hl,by omega⟩
 | succ f ih=>
  unfold bodyF at h
  split at h
  ·simp only[Except.ok.injEq,Prod.mk.injEq]at h
   obtain⟨rfl,_⟩:=h
   exact⟨hl,by omega⟩
  ·split at h
   ·cases h
   ·split at h
    ·cases h
    ·rename_i l2 hw
     have:=withM_grows hw hl
     exact ih h this.2.2 this.2.1 (by omega)

theorem readF_lists{ls:List Nat}{a n:Nat}{l d:List Nat}(h:readF ls a=.ok ((l,d),n)):257≤l.length∧l.length≤286∧0<d.length∧d.length≤30∧(∀x∈l,x≤15)∧∀x∈d,x≤15:=by
 unfold readF at h
 split at h
 ·cases h
 ·split at h
  ·cases h
  ·rename_i h2
   split at h
   ·cases h
   ·split at h
    ·cases h
    ·split at h
     ·cases h
     ·rename_i m c hbd
      simp only[Except.ok.injEq,Prod.mk.injEq]at h
      obtain⟨⟨rfl,rfl⟩,_⟩:=h
      have hm:=bodyF_le15 hbd (by simp) (by simp) (by simp)
      rw[List.length_take,List.length_drop,hm.2]
      exact⟨by omega,by omega,by omega,by omega,fun x hx=>hm.1 x (List.mem_of_mem_take hx),fun x hx=>hm.1 x (List.mem_of_mem_drop hx)⟩

theorem head5_lists{ls:List Nat}{a n:Nat}{l d:List Nat}(h:head5 ls a=.ok ((l,d),n)):OkL l d:=by
 unfold head5 at h
 split at h
 ·cases h
 ·rename_i l2 d2 n2 hr
  split at h
  ·cases h
  ·rename_i h1
   simp only[Except.ok.injEq,Prod.mk.injEq]at h
   obtain⟨⟨rfl,rfl⟩,_⟩:=h
   obtain⟨a1,a2,a3,a4,a5,a6⟩:=readF_lists hr
   refine⟨⟨by omega,by omega,a5,?_⟩,a3,by omega,a6,fun hu=>⟨a3,by omega,a6,?_⟩⟩
   ·exact Classical.byContradiction (fun hc=>h1 (.inr (.inl hc)))
   ·exact Classical.byContradiction (fun hc=>h1 (.inr (.inr ⟨hu,hc⟩)))

theorem fix_ok:OkL fixL fixD:=by
 refine⟨⟨by decide +kernel,by decide +kernel,by decide +kernel,by decide +kernel⟩,by decide +kernel,by decide +kernel,by decide +kernel,fun _=>⟨by decide +kernel,by decide +kernel,by decide +kernel,by decide +kernel⟩⟩

theorem begP_ok{ls:List Nat}{c c':Nat}{b:Bk}(h:begP ls c=.ok (b,c')):BkOk (some b):=by
 obtain⟨l,c1,_,h⟩:=bindP_ok.1 h
 obtain⟨k,c2,_,h⟩:=bindP_ok.1 h
 unfold kndP at h
 split at h
 ·obtain⟨n,c3,_,h⟩:=bindP_ok.1 h
  simp only[Except.ok.injEq,Prod.mk.injEq]at h
  obtain⟨rfl,_⟩:=h
  exact trivial
 ·split at h
  ·simp only[Except.ok.injEq,Prod.mk.injEq]at h
   obtain⟨rfl,_⟩:=h
   exact fix_ok
  ·split at h
   ·obtain⟨x,c3,hh,h⟩:=bindP_ok.1 h
    simp only[Except.ok.injEq,Prod.mk.injEq]at h
    obtain⟨rfl,_⟩:=h
    unfold hdP at hh
    split at hh
    ·cases hh
    ·rename_i y n h5
     simp only[Except.ok.injEq,Prod.mk.injEq]at hh
     obtain⟨rfl,_⟩:=hh
     exact head5_lists (l:=y.1) (d:=y.2) h5
   ·cases h

theorem stepP_ok{ls:List Nat}{b b':Bk}{t:Tok}{c c':Nat}(h:stepP ls b c=.ok ((t,b'),c'))(hk:BkOk (some b)):BkOk (some b')∧b'.last=b.last:=by
 cases b with
 | raw last left=>
  cases left with
  | zero=>
   simp only[stepP,Except.ok.injEq,Prod.mk.injEq]at h
   obtain⟨⟨_,rfl⟩,_⟩:=h
   exact⟨trivial,rfl⟩
  | succ n=>
   rw[stepP_raw]at h
   obtain⟨v,c2,_,h⟩:=bindP_ok.1 h
   simp only[Except.ok.injEq,Prod.mk.injEq]at h
   obtain⟨⟨_,rfl⟩,_⟩:=h
   exact⟨trivial,rfl⟩
 | sym last lit dist=>
  rw[stepP_sym]at h
  obtain⟨y,c2,_,h⟩:=bindP_ok.1 h
  unfold symP at h
  split at h
  ·simp only[Except.ok.injEq,Prod.mk.injEq]at h
   obtain⟨⟨_,rfl⟩,_⟩:=h
   exact⟨hk,rfl⟩
  ·split at h
   ·simp only[Except.ok.injEq,Prod.mk.injEq]at h
    obtain⟨⟨_,rfl⟩,_⟩:=h
    exact⟨hk,rfl⟩
   ·obtain⟨x,c3,_,h⟩:=bindP_ok.1 h
    simp only[Except.ok.injEq,Prod.mk.injEq]at h
    obtain⟨⟨_,rfl⟩,_⟩:=h
    exact⟨hk,rfl⟩

theorem cpL_length(far n:Nat)(out:List Nat):(cpL far n out).length=out.length+n:=by
 induction n generalizing out with
 | zero=>rfl
 | succ n ih=>rw[cpL,ih,List.length_append];simp;omega

theorem layP_ok{most:Nat}{out out':List Nat}{t:Tok}(h:layP most out t=.ok out'):out.length≤out'.length∧(out.length≤most→out'.length≤most)∧∀m,out'.length≤m→layP m out t=.ok out':=by
 cases t with
 | fin=>simp only[layP,Except.ok.injEq]at h;subst h;exact⟨Nat.le_refl _,fun h=>h,fun _ _=>rfl⟩
 | byte b=>
  simp only[layP]at h
  split at h
  ·cases h
  ·simp only[Except.ok.injEq]at h
   subst h
   refine⟨by simp,fun _=>by simp;omega,fun m hm=>?_⟩
   simp only[layP]
   rw[if_neg (by simp at hm;omega)]
 | copy n far=>
  simp only[layP]at h
  split at h
  ·cases h
  ·split at h
   ·cases h
   ·simp only[Except.ok.injEq]at h
    subst h
    rw[cpL_length]
    refine⟨by omega,fun _=>by omega,fun m hm=>?_⟩
    simp only[layP]
    rw[if_neg (by omega),if_neg (by omega)]

theorem layP_ne{most:Nat}{out:List Nat}{t:Tok}{e:Nat}(h:layP most out t=.error e):e=54∨e=56:=by
 cases t with
 | fin=>cases h
 | byte b=>
  simp only[layP]at h
  split at h
  ·simp only[Except.error.injEq]at h;omega
  ·cases h
 | copy n far=>
  simp only[layP]at h
  split at h
  ·simp only[Except.error.injEq]at h;omega
  ·split at h
   ·simp only[Except.error.injEq]at h;omega
   ·cases h

structure PsOk(ls:List Nat)(s:Ps):Prop where
 le:s.c≤ls.length
 bk:BkOk s.bk

theorem stP_same{ls ls':List Nat}{most most':Nat}{s:Ps}{r:Except Nat (Ps×Bool)}(h:stP ls most s=r)
  (hB:s.bk=none→begP ls' s.c=begP ls s.c) (hS:∀b,s.bk=some b→stepP ls' b s.c=stepP ls b s.c) (hL:∀b t b' c,s.bk=some b→stepP ls b s.c=.ok ((t,b'),c)→layP most' s.out t=layP most s.out t):stP ls' most' s=r:=by
 rw[←h]
 cases hbk:s.bk with
 | none=>
  cases hg:begP ls s.c with
  | error e=>rw[stP_none_err hbk hg,stP_none_err hbk ((hB hbk).trans hg)]
  | ok x=>rw[stP_none_ok (b:=x.1) (c:=x.2) hbk hg,stP_none_ok (b:=x.1) (c:=x.2) hbk ((hB hbk).trans hg)]
 | some b=>
  cases hst:stepP ls b s.c with
  | error e=>rw[stP_some_err hbk hst,stP_some_err hbk ((hS b hbk).trans hst)]
  | ok x=>
   obtain⟨⟨t,b'⟩,c⟩:=x
   have hl:=hL b t b' c hbk hst
   rw[stP_some_ok hbk hst,stP_some_ok hbk ((hS b hbk).trans hst)]
   by_cases ht:t=.fin
   ·subst ht;rfl
   ·cases hl2:layP most s.out t with
    | error e=>rw[goP_err ht hl2,goP_err ht (hl.trans hl2)]
    | ok o=>rw[goP_ok ht hl2,goP_ok ht (hl.trans hl2)]

theorem stP_inv{ls:List Nat}(hb:∀b∈ls,b<2){most:Nat}{s t:Ps}{d:Bool}(hs:PsOk ls s)(h:stP ls most s=.ok (t,d)):
  PsOk ls t∧s.c≤t.c∧s.out.length≤t.out.length∧(s.out.length≤most→t.out.length≤most):=by
 cases hbk:s.bk with
 | none=>
  cases hg:begP ls s.c with
  | error e=>rw[stP_none_err hbk hg]at h;cases h
  | ok x=>
   obtain⟨b,c⟩:=x
   rw[stP_none_ok hbk hg]at h
   simp only[Except.ok.injEq,Prod.mk.injEq]at h
   obtain⟨rfl,_⟩:=h
   have:=(begP_loc ls hb s.c).ge _ _ hg
   exact⟨⟨this.2,begP_ok hg⟩,this.1,Nat.le_refl _,fun h=>h⟩
 | some b=>
  have hk:BkOk (some b):=by rw[←hbk];exact hs.bk
  cases hst:stepP ls b s.c with
  | error e=>rw[stP_some_err hbk hst]at h;cases h
  | ok x=>
   obtain⟨⟨tk,b'⟩,c⟩:=x
   rw[stP_some_ok hbk hst]at h
   have h1:=(stepP_loc ls hb b s.c hk hs.le).ge _ _ hst
   have h2:=stepP_ok hst hk
   rcases goP_cases h with⟨_,_,h⟩ | ⟨_,_,h⟩ | ⟨_,⟨e,_,h⟩ | ⟨o,hl,h⟩⟩
   ·simp only[Except.ok.injEq,Prod.mk.injEq]at h
    obtain⟨rfl,_⟩:=h
    exact⟨⟨h1.2,h2.1⟩,h1.1,Nat.le_refl _,fun h=>h⟩
   ·simp only[Except.ok.injEq,Prod.mk.injEq]at h
    obtain⟨rfl,_⟩:=h
    exact⟨⟨h1.2,trivial⟩,h1.1,Nat.le_refl _,fun h=>h⟩
   ·cases h
   ·simp only[Except.ok.injEq,Prod.mk.injEq]at h
    obtain⟨rfl,_⟩:=h
    have h3:=layP_ok hl
    exact⟨⟨h1.2,h2.1⟩,h1.1,h3.1,h3.2.1⟩

theorem stP_agr{ls ls':List Nat}(hb:∀b∈ls,b<2)(hb':∀b∈ls',b<2){most most':Nat}{s t:Ps}{d:Bool}(hs:PsOk ls s)(h:stP ls most s=.ok (t,d))(ha:Agr t.c ls ls')(hm:t.out.length≤most'):stP ls' most' s=.ok (t,d):=by
 refine stP_same h (fun hbk=>?_) (fun b hbk=>?_) (fun b tk b' c hbk hst=>?_)
 ·cases hg:begP ls s.c with
  | error e=>rw[stP_none_err hbk hg]at h;cases h
  | ok x=>
   obtain⟨b,c⟩:=x
   rw[stP_none_ok hbk hg]at h
   simp only[Except.ok.injEq,Prod.mk.injEq]at h
   obtain⟨rfl,_⟩:=h
   exact(begP_loc ls hb s.c).agr _ _ ls' hb' hg ha
 ·have hk:BkOk (some b):=by rw[←hbk];exact hs.bk
  cases hst:stepP ls b s.c with
  | error e=>rw[stP_some_err hbk hst]at h;cases h
  | ok x=>
   obtain⟨⟨tk,b'⟩,c⟩:=x
   rw[stP_some_ok hbk hst]at h
   have hc:t.c=c:=by
    rcases goP_cases h with⟨_,_,h⟩ | ⟨_,_,h⟩ | ⟨_,⟨e,_,h⟩ | ⟨o,hl,h⟩⟩
    ·simp only[Except.ok.injEq,Prod.mk.injEq]at h;obtain⟨rfl,_⟩:=h;rfl
    ·simp only[Except.ok.injEq,Prod.mk.injEq]at h;obtain⟨rfl,_⟩:=h;rfl
    ·cases h
    ·simp only[Except.ok.injEq,Prod.mk.injEq]at h;obtain⟨rfl,_⟩:=h;rfl
   exact(stepP_loc ls hb b s.c hk hs.le).agr _ _ ls' hb' hst (by rw[←hc];exact ha)
 ·rw[stP_some_ok hbk hst]at h
  rcases goP_cases h with⟨rfl,_,h⟩ | ⟨rfl,_,h⟩ | ⟨_,⟨e,_,h⟩ | ⟨o,hl,h⟩⟩
  ·rfl
  ·rfl
  ·cases h
  ·simp only[Except.ok.injEq,Prod.mk.injEq]at h
   obtain⟨rfl,_⟩:=h
   rw[hl]
   exact(layP_ok hl).2.2 most' hm

theorem stP_err{ls:List Nat}(hb:∀b∈ls,b<2)(mo:List Nat)(hm:∀b∈mo,b<2){most:Nat}{s:Ps}{e:Nat}(hs:PsOk ls s)(h:stP ls most s=.error e)(he:e≠55):stP (ls++mo) most s=.error e:=by
 have hb2:∀b∈ls++mo,b<2:=fun b hbb=>by rcases List.mem_append.1 hbb with h | h;exact hb b h;exact hm b h
 refine stP_same h (fun hbk=>?_) (fun b hbk=>?_) (fun _ _ _ _ _ _=>rfl)
 ·cases hg:begP ls s.c with
  | error e2=>
   rw[stP_none_err hbk hg]at h
   simp only[Except.error.injEq]at h
   subst h
   exact(begP_loc ls hb s.c).err _ mo hm hg he
  | ok x=>rw[stP_none_ok (b:=x.1) (c:=x.2) hbk hg]at h;cases h
 ·have hk:BkOk (some b):=by rw[←hbk];exact hs.bk
  cases hst:stepP ls b s.c with
  | error e2=>
   rw[stP_some_err hbk hst]at h
   simp only[Except.error.injEq]at h
   subst h
   exact(stepP_loc ls hb b s.c hk hs.le).err _ mo hm hst he
  | ok x=>exact(stepP_loc ls hb b s.c hk hs.le).agr _ _ _ hb2 hst ((Agr.ext ls mo).less ((stepP_loc ls hb b s.c hk hs.le).ge _ _ hst).2)

theorem stP_ne{ls:List Nat}(hb:∀b∈ls,b<2){most:Nat}{s:Ps}{e:Nat}(hs:PsOk ls s)(h:stP ls most s=.error e):e≠0:=by
 cases hbk:s.bk with
 | none=>
  cases hg:begP ls s.c with
  | error e2=>
   rw[stP_none_err hbk hg]at h
   simp only[Except.error.injEq]at h
   subst h
   exact(begP_loc ls hb s.c).ne _ hg
  | ok x=>rw[stP_none_ok (b:=x.1) (c:=x.2) hbk hg]at h;cases h
 | some b=>
  have hk:BkOk (some b):=by rw[←hbk];exact hs.bk
  cases hst:stepP ls b s.c with
  | error e2=>
   rw[stP_some_err hbk hst]at h
   simp only[Except.error.injEq]at h
   subst h
   exact(stepP_loc ls hb b s.c hk hs.le).ne _ hst
  | ok x=>
   obtain⟨⟨tk,b'⟩,c⟩:=x
   rw[stP_some_ok hbk hst]at h
   rcases goP_cases h with⟨_,_,h⟩ | ⟨_,_,h⟩ | ⟨_,⟨e2,hl,h⟩ | ⟨o,hl,h⟩⟩
   ·cases h
   ·cases h
   ·simp only[Except.error.injEq]at h
    subst h
    have:=layP_ne hl;omega
   ·cases h

theorem Ends.det{ls:List Nat}{most:Nat}{s t t':Ps}{e e':Nat}(h:Ends ls most s t e)(h':Ends ls most s t' e'):t=t'∧e=e':=by
 induction h with
 | stop h=>
  cases h' with
  | stop h2=>rw[h]at h2;simp only[Except.error.injEq]at h2;exact⟨rfl,h2⟩
  | done h2=>rw[h]at h2;cases h2
  | step h2 _=>rw[h]at h2;cases h2
 | done h=>
  cases h' with
  | stop h2=>rw[h]at h2;cases h2
  | done h2=>rw[h]at h2;simp only[Except.ok.injEq,Prod.mk.injEq]at h2;exact⟨h2.1,rfl⟩
  | step h2 _=>rw[h]at h2;simp at h2
 | step h _ ih=>
  cases h' with
  | stop h2=>rw[h]at h2;cases h2
  | done h2=>rw[h]at h2;simp at h2
  | step h2 r2=>
   rw[h]at h2
   simp only[Except.ok.injEq,Prod.mk.injEq,and_true]at h2
   subst h2
   exact ih r2

theorem Ends.inv{ls:List Nat}(hb:∀b∈ls,b<2){most:Nat}{s t:Ps}{e:Nat}(h:Ends ls most s t e)(hs:PsOk ls s):
  PsOk ls t∧s.c≤t.c∧s.out.length≤t.out.length∧(s.out.length≤most→t.out.length≤most):=by
 induction h with
 | stop h=>exact⟨hs,Nat.le_refl _,Nat.le_refl _,fun h=>h⟩
 | done h=>exact stP_inv hb hs h
 | step h _ ih=>
  have h1:=stP_inv hb hs h
  have h2:=ih h1.1
  exact⟨h2.1,by omega,by omega,fun h=>h2.2.2.2 (h1.2.2.2 h)⟩

theorem Ends.err{ls:List Nat}(hb:∀b∈ls,b<2)(mo:List Nat)(hmo:∀b∈mo,b<2){most:Nat}{s t:Ps}{e:Nat}(h:Ends ls most s t e)(hs:PsOk ls s)(ho:s.out.length≤most)(he:e≠55):Ends (ls++mo) most s t e:=by
 have hb2:∀b∈ls++mo,b<2:=fun b hbb=>by rcases List.mem_append.1 hbb with h | h;exact hb b h;exact hmo b h
 induction h with
 | stop h=>exact .stop (stP_err hb mo hmo hs h he)
 | done h=>
  have h1:=stP_inv hb hs h
  exact .done (stP_agr hb hb2 hs h ((Agr.ext ls mo).less h1.1.le) (h1.2.2.2 ho))
 | step h r ih=>
  have h1:=stP_inv hb hs h
  exact .step (stP_agr hb hb2 hs h ((Agr.ext ls mo).less h1.1.le) (h1.2.2.2 ho)) (ih h1.1 (h1.2.2.2 ho) he)

theorem Ends.more{ls:List Nat}(hb:∀b∈ls,b<2)(mo:List Nat)(hmo:∀b∈mo,b<2){most:Nat}{s t u:Ps}{e e':Nat}(h:Ends ls most s t e)(hs:PsOk ls s)(ho:s.out.length≤most)(he:e=55)(h':Ends (ls++mo) most t u e'):Ends (ls++mo) most s u e':=by
 have hb2:∀b∈ls++mo,b<2:=fun b hbb=>by rcases List.mem_append.1 hbb with h | h;exact hb b h;exact hmo b h
 induction h with
 | stop h=>exact h'
 | done h=>omega
 | step h r ih=>
  have h1:=stP_inv hb hs h
  exact .step (stP_agr hb hb2 hs h ((Agr.ext ls mo).less h1.1.le) (h1.2.2.2 ho)) (ih h1.1 (h1.2.2.2 ho) he h')

def ps0:Ps:=⟨0,[],none⟩
theorem ps0_ok(ls:List Nat):PsOk ls ps0:=⟨Nat.zero_le _,trivial⟩

end Go.Proofs.YtggcbnhckcenmaaGreatDoor

namespace Go.Proofs.YtggcbnhckcenmaaGreatDoor

def splW(n p:Nat):Nat:=blen n-p
def splS(n p:Nat):Nat:=splW n p*2 ^ (p-1)+n / 2 ^ splW n p
def splX(n p:Nat):Nat:=n % 2 ^ splW n p

theorem blen_ge(n k:Nat)(h:k<blen n):2 ^ k≤n:=by
 refine Classical.byContradiction (fun hc=>?_)
 have:=(blen_le n k).2 (by omega)
 omega

theorem splX_lt(n p:Nat):splX n p<2 ^ splW n p:=Nat.mod_lt _ (Nat.two_pow_pos _)

theorem numP_laid(A B:List Nat)(n p:Nat)(hp:1≤p):numP (A++(bitsOf (splX n p) (splW n p)++B)) A.length (splS n p) (2 ^ (p-1))=.ok (n,A.length+splW n p):=by
 have hk:0<2 ^ (p-1):=Nat.two_pow_pos _
 have h2k:2 ^ p=2*2 ^ (p-1):=by rw[←Nat.pow_succ'];congr 1;omega
 by_cases hw:splW n p=0
 ·have hn:n<2 ^ p:=(blen_le n p).1 (by unfold splW at hw;omega)
  have hs:splS n p=n:=by unfold splS;rw[hw];simp
  rw[hs,hw]
  unfold numP
  by_cases h:n<2 ^ (p-1)
  ·rw[if_pos h];rfl
  ·rw[if_neg h]
   have hq:n / 2 ^ (p-1)=1:=Nat.div_eq_of_lt_le (by omega) (by omega)
   have hm:2 ^ (p-1)+n % 2 ^ (p-1)=n:=by
    have:=Nat.div_add_mod n (2 ^ (p-1))
    rw[hq]at this
    omega
   rw[hq,hm,tkP_is (by rw[List.length_append];omega)]
   show Except.ok _=_
   simp[numAt,n2]
 ·obtain⟨w,hw2⟩:∃w,splW n p=w:=⟨_,rfl⟩
  have hb:blen n=w+p:=by unfold splW at hw2 hw;omega
  have hlo:2 ^ (w+p-1)≤n:=blen_ge n _ (by omega)
  have hhi:n<2 ^ (w+p):=(blen_le n _).1 (by omega)
  obtain⟨q,hq⟩:∃q,n / 2 ^ w=q:=⟨_,rfl⟩
  have hpw:0<2 ^ w:=Nat.two_pow_pos _
  have hq1:2 ^ (p-1)≤q:=by
   rw[←hq,Nat.le_div_iff_mul_le hpw,←Nat.pow_add]
   rwa [show p-1+w=w+p-1 by omega]
  have hq2:q<2*2 ^ (p-1):=by
   rw[←hq,←h2k,Nat.div_lt_iff_lt_mul hpw,←Nat.pow_add]
   rwa [Nat.add_comm p w]
  have hs:splS n p=w*2 ^ (p-1)+q:=by unfold splS;rw[hw2,hq]
  have hx:splX n p=n % 2 ^ w:=by unfold splX;rw[hw2]
  have hxl:n % 2 ^ w<2 ^ w:=Nat.mod_lt _ hpw
  obtain⟨k,hkk⟩:∃k,2 ^ (p-1)=k:=⟨_,rfl⟩
  rw[hkk]at hk hq1 hq2 hs ⊢
  have hqk:q / k=1:=Nat.div_eq_of_lt_le (by omega) (by omega)
  have hd:(w*k+q) / k=w+1:=by rw[Nat.mul_comm,Nat.mul_add_div hk,hqk]
  have hm:k+(w*k+q) % k=q:=by
   rw[Nat.mul_comm,Nat.mul_add_mod]
   have h9:=Nat.div_add_mod q k
   rw[hqk]at h9
   omega
  unfold numP
  rw[hs,hw2,hx,if_neg (by have:=Nat.le_mul_of_pos_left k (show 0<w by omega);omega),hd,hm,Nat.add_sub_cancel]
  rw[tkP_is (by rw[List.length_append,List.length_append,bitsOf_length];omega),numAt_laid A B _ w hxl]
  show Except.ok _=_
  have:=Nat.div_add_mod n (2 ^ w)
  rw[hq,Nat.mul_comm]at this
  rw[this]

structure MK where
 sym:Nat
 extra:Nat
 width:Nat

def litMk(t:TK):MK:=if t.len=0 then⟨t.lit,0,0⟩else if t.len=258 then⟨285,0,0⟩ else⟨257+splS (t.len.toNat-3) 3,splX (t.len.toNat-3) 3,splW (t.len.toNat-3) 3⟩
def distMk(t:TK):MK:=⟨splS (t.dist.toNat-1) 2,splX (t.dist.toNat-1) 2,splW (t.dist.toNat-1) 2⟩

def mkBits(cs:List Nat)(m:MK):List Nat:=rowOf cs m.sym++bitsOf m.extra m.width
def tokBits(lit dist:List Nat)(t:TK):List Nat:=mkBits lit (litMk t)++(if t.len=0 then []else mkBits dist (distMk t))

theorem mkBits_bit(cs:List Nat)(m:MK):∀b∈mkBits cs m,b<2:=by
 intro b hb
 rcases List.mem_append.1 hb with h | h
 ·exact rowOf_bit _ _ b h
 ·exact bitsOf_lt _ _ b h

theorem tokBits_bit(lit dist:List Nat)(t:TK):∀b∈tokBits lit dist t,b<2:=by
 intro b hb
 rcases List.mem_append.1 hb with h | h
 ·exact mkBits_bit _ _ b h
 ·split at h
  ·simp at h
  ·exact mkBits_bit _ _ b h

theorem toksBits_bit(lit dist:List Nat)(ts:List TK):∀b∈ts.flatMap (tokBits lit dist),b<2:=by
 intro b hb
 obtain⟨t,_,ht⟩:=List.mem_flatMap.1 hb
 exact tokBits_bit _ _ t b ht

def HasT(lit dist:List Nat)(t:TK):Prop:=(litMk t).sym<lit.length∧key lit (litMk t).sym≠0∧(t.len≠0→(distMk t).sym<dist.length∧key dist (distMk t).sym≠0)

theorem used_of_key{l:List Nat}{s:Nat}(h:s<l.length)(h0:key l s≠0):usedB l=true:=by
 unfold usedB
 rw[List.any_eq_true]
 refine⟨l[s],List.getElem_mem h,?_⟩
 rw[key_get h]at h0
 simpa using h0

theorem syP_laid{ns:List Nat}(hp:Pf ns)(A rest:List Nat)(hb:∀b∈rest,b<2){y last:Nat}(hy:y<ns.length)(h0:key ns y≠0)(hl:y≤last):syP ns (A++(rowOf ns y++rest)) A.length last=.ok (y,A.length+key ns y):=
 syP_is (by rw[List.drop_left];exact nextF_row hp.ms hp.le hy h0 rest hb) hl

theorem cpT_cpL(far n:Nat)(out:List Nat):cpT far n out=cpL far n out:=by
 induction n generalizing out with
 | zero=>rfl
 | succ n ih=>rw[cpT,cpL,ih]

theorem splS_small(n p m:Nat)(h:n<2 ^ (m+p))(hp:1≤p):splS n p<(m+2)*2 ^ (p-1):=by
 have hk:0<2 ^ (p-1):=Nat.two_pow_pos _
 have hb:blen n≤m+p:=(blen_le n _).2 h
 have hw:splW n p≤m:=by unfold splW;omega
 have hq:n / 2 ^ splW n p<2*2 ^ (p-1):=by
  rw[Nat.div_lt_iff_lt_mul (Nat.two_pow_pos _)]
  have h2:n<2 ^ (splW n p+p):=(blen_le n _).1 (by unfold splW;omega)
  have e:2*2 ^ (p-1)*2 ^ splW n p=2 ^ (splW n p+p):=by
   rw[←Nat.pow_succ',←Nat.pow_add];congr 1;omega
  omega
 have h3:splW n p*2 ^ (p-1)≤m*2 ^ (p-1):=Nat.mul_le_mul_right _ hw
 unfold splS
 rw[Nat.add_mul]
 omega

theorem tok_step{lit dist:List Nat}(ho:OkL lit dist)(A B out:List Nat)(hB:∀b∈B,b<2)(most:Nat)(t:TK)(hm:mayT t out.length=true)(hh:HasT lit dist t)(hlit:t.lit<256)(hd:t.dist≤16384)(hl:out.length+tlen t≤most):
  stP (A++(tokBits lit dist t++B)) most ⟨A.length,out,some (.sym true lit dist)⟩=.ok (⟨A.length+(tokBits lit dist t).length,sayT out t,some (.sym true lit dist)⟩,false):=by
 rcases mayT_cases hm with⟨h0,_,h1⟩ | ⟨n,d,h0,hd0,_,h3,h4,h5,h6,h1⟩
 ·have hmk:litMk t=⟨t.lit,0,0⟩:=by unfold litMk;rw[if_pos h0]
  have hb:tokBits lit dist t=rowOf lit t.lit:=by
   unfold tokBits mkBits
   rw[hmk,if_pos h0]
   simp[bitsOf]
  obtain⟨hs,hk,_⟩:=hh
  rw[hmk]at hs hk
  simp only at hs hk
  have h9:=syP_laid ho.lit.pf A B hB (y:=t.lit) (last:=285) hs hk (by omega)
  have hst:stepP (A++(rowOf lit t.lit++B)) (.sym true lit dist) A.length=.ok ((.byte t.lit,.sym true lit dist),A.length+key lit t.lit):=by
   rw[stepP_sym,bindP_is h9]
   unfold symP
   rw[if_pos hlit]
  rw[hb,rowOf_length,stP_some_ok (s:=⟨A.length,out,some (.sym true lit dist)⟩) rfl hst]
  have hsay:sayT out t=out++[t.lit]:=by unfold sayT;rw[if_pos h0]
  rw[hsay]
  exact goP_ok (by intro h;cases h) (by simp only[layP];rw[if_neg (by omega)])
 ·have hn0:t.len≠0:=by omega
  obtain⟨hs,hk,hdd⟩:=hh
  obtain⟨hds,hdk⟩:=hdd hn0
  have hu:=used_of_key hds hdk
  obtain⟨y,hy⟩:∃y,(litMk t).sym=y:=⟨_,rfl⟩
  obtain⟨z,hz⟩:∃z,(distMk t).sym=z:=⟨_,rfl⟩
  have hzv:z=splS (d-1) 2:=by rw[←hz];unfold distMk;rw[hd0];simp
  have hz29:z≤29:=by
   have:=splS_small (d-1) 2 12 (by omega) (by decide)
   rw[←hzv]at this
   omega
  have hdm:distMk t=⟨z,splX (d-1) 2,splW (d-1) 2⟩:=by rw[hzv];unfold distMk;rw[hd0];simp
  rw[hy]at hs hk
  rw[hz]at hds hdk
  obtain⟨D,hD⟩:∃D,mkBits dist (distMk t)=D:=⟨_,rfl⟩
  have hDb:D=rowOf dist z++bitsOf (splX (d-1) 2) (splW (d-1) 2):=by rw[←hD,hdm];rfl
  have hDB:∀b∈D++B,b<2:=fun b hb=>by
   rcases List.mem_append.1 hb with h | h
   ·rw[←hD]at h;exact mkBits_bit _ _ b h
   ·exact hB b h
  have hlen:∀(C:List Nat),∃X,mkBits lit (litMk t)=rowOf lit y++X∧257≤y∧y≤285∧(∀b∈X,b<2)∧lenP (C++(X++(D++B))) C.length y=.ok (n,C.length+X.length):=by
   intro C
   by_cases h258:n=258
   ·have hmk:litMk t=⟨285,0,0⟩:=by unfold litMk;rw[if_neg hn0,if_pos (by omega)]
    have hy5:y=285:=by rw[←hy,hmk]
    refine⟨[],by rw[hmk,hy5];unfold mkBits;simp[bitsOf],by omega,by omega,by simp,?_⟩
    rw[hy5,h258]
    rfl
   ·have hmk:litMk t=⟨257+splS (n-3) 3,splX (n-3) 3,splW (n-3) 3⟩:=by unfold litMk;rw[if_neg hn0,if_neg (by omega),h0];simp
    have hyv:y=257+splS (n-3) 3:=by rw[←hy,hmk]
    have hsm:=splS_small (n-3) 3 5 (by omega) (by decide)
    refine⟨bitsOf (splX (n-3) 3) (splW (n-3) 3),by rw[hmk,hyv];rfl,by omega,by omega,bitsOf_lt _ _,?_⟩
    have h285:y<285:=by
     have h9:(5+2)*2 ^ (3-1)=28:=by decide
     omega
    have e1:lenP (C++(bitsOf (splX (n-3) 3) (splW (n-3) 3)++(D++B))) C.length y=bindP (numP (C++(bitsOf (splX (n-3) 3) (splW (n-3) 3)++(D++B))) C.length (y-257) 4) (fun n c'=>.ok (3+n,c')):=by unfold lenP;exact if_pos h285
    have e2:=numP_laid C (D++B) (n-3) 3 (by decide)
    rw[e1,show y-257=splS (n-3) 3 by omega,bindP_is (show numP _ _ _ 4=_ from e2),bitsOf_length,show 3+(n-3)=n by omega]
  obtain⟨X,hX,hy1,hy2,hXb,_⟩:=hlen []
  have hlen2:∀(C:List Nat),lenP (C++(X++(D++B))) C.length y=.ok (n,C.length+X.length):=fun C=>by
   obtain⟨X',hX',_,_,_,h9⟩:=hlen C
   have e:X'=X:=List.append_cancel_left (hX'.symm.trans hX)
   rw[e]at h9
   exact h9
  have hb:tokBits lit dist t=rowOf lit y++(X++D):=by
   unfold tokBits
   rw[if_neg hn0,hD,hX,List.append_assoc]
  have hall:A++(tokBits lit dist t++B)=A++(rowOf lit y++(X++(D++B))):=by rw[hb];simp[List.append_assoc]
  have h9:=syP_laid ho.lit.pf A (X++(D++B)) (fun b hb=>by
   rcases List.mem_append.1 hb with h | h
   ·exact hXb b h
   ·exact hDB b h) (y:=y) (last:=285) hs hk hy2
  have e1:A++(rowOf lit y++(X++(D++B)))=(A++rowOf lit y)++(X++(D++B)):=by simp[List.append_assoc]
  have l1:(A++rowOf lit y).length=A.length+key lit y:=by rw[List.length_append,rowOf_length]
  have h10:=hlen2 (A++rowOf lit y)
  rw[←e1,l1]at h10
  have e2:A++(rowOf lit y++(X++(D++B)))=(A++rowOf lit y++X)++(rowOf dist z++(bitsOf (splX (d-1) 2) (splW (d-1) 2)++B)):=by rw[hDb];simp[List.append_assoc]
  have l2:(A++rowOf lit y++X).length=A.length+key lit y+X.length:=by rw[List.length_append,l1]
  have h11:=syP_laid ho.pf (A++rowOf lit y++X) (bitsOf (splX (d-1) 2) (splW (d-1) 2)++B) (fun b hb=>by
   rcases List.mem_append.1 hb with h | h
   ·exact bitsOf_lt _ _ b h
   ·exact hB b h) (y:=z) (last:=29) hds hdk hz29
  rw[←e2,l2]at h11
  have h11':dsyP dist (A++(rowOf lit y++(X++(D++B)))) (A.length+key lit y+X.length)=.ok (z,A.length+key lit y+X.length+key dist z):=by
   unfold dsyP
   rw[if_neg (by rw[hu];decide)]
   exact h11
  have e3:A++(rowOf lit y++(X++(D++B)))=(A++rowOf lit y++X++rowOf dist z)++(bitsOf (splX (d-1) 2) (splW (d-1) 2)++B):=by rw[hDb];simp[List.append_assoc]
  have l3:(A++rowOf lit y++X++rowOf dist z).length=A.length+key lit y+X.length+key dist z:=by rw[List.length_append,l2,rowOf_length]
  have h12:=numP_laid (A++rowOf lit y++X++rowOf dist z) B (d-1) 2 (by decide)
  rw[←e3,l3,←hzv]at h12
  have hcop:copP (A++(rowOf lit y++(X++(D++B)))) dist (A.length+key lit y) y=.ok ((n,d),A.length+key lit y+X.length+key dist z+splW (d-1) 2):=by
   unfold copP
   rw[bindP_is h10,bindP_is h11',bindP_is (show numP _ _ _ 2=_ from h12),show 1+(d-1)=d by omega]
  have hst:stepP (A++(rowOf lit y++(X++(D++B)))) (.sym true lit dist) A.length=.ok ((.copy n d,.sym true lit dist),A.length+key lit y+X.length+key dist z+splW (d-1) 2):=by
   rw[stepP_sym,bindP_is h9]
   unfold symP
   rw[if_neg (by omega),if_neg (by omega),bindP_is hcop]
  have hlb:(tokBits lit dist t).length=key lit y+X.length+key dist z+splW (d-1) 2:=by
   rw[hb,hDb]
   simp only[List.length_append,rowOf_length,bitsOf_length]
   omega
  rw[hall,hlb,stP_some_ok (s:=⟨A.length,out,some (.sym true lit dist)⟩) rfl hst]
  have hsay:sayT out t=cpL d n out:=by unfold sayT;rw[if_neg hn0,h0,hd0,cpT_cpL];simp
  rw[hsay,←Nat.add_assoc,←Nat.add_assoc,←Nat.add_assoc]
  exact goP_ok (by intro h;cases h) (by simp only[layP];rw[if_neg (by omega),if_neg (by omega)])

structure ToksOk(lit dist:List Nat)(ts:List TK):Prop where
 has:∀t∈ts,HasT lit dist t
 end':256<lit.length∧key lit 256≠0
 byte:∀t∈ts,t.lit<256

theorem may_dist{t:TK}{said:Nat}(h:mayT t said=true)(hs:said≤16384):t.dist≤16384:=by
 rcases mayT_cases h with⟨_,h2,_⟩ | ⟨n,d,_,h2,_,_,_,_,h6,_⟩
 ·omega
 ·omega

theorem toks_end{lit dist:List Nat}(ho:OkL lit dist)(B:List Nat)(hB:∀b∈B,b<2)(most:Nat)(hm16:most≤16384)(ts:List TK)(hk:ToksOk lit dist ts)(A out:List Nat)(n:Nat)(hm:measT most ts out.length=.ok n)(hout:out.length≤most):
  Ends (A++(ts.flatMap (tokBits lit dist)++(rowOf lit 256++B))) most ⟨A.length,out,some (.sym true lit dist)⟩ ⟨A.length+(ts.flatMap (tokBits lit dist)).length+key lit 256,expT ts out,some (.sym true lit dist)⟩ 0:=by
 induction ts generalizing A out with
 | nil=>
  refine .done ?_
  have h9:=syP_laid ho.lit.pf A B hB (y:=256) (last:=285) hk.end'.1 hk.end'.2 (by omega)
  have hst:stepP (A++(rowOf lit 256++B)) (.sym true lit dist) A.length=.ok ((.fin,.sym true lit dist),A.length+key lit 256):=by
   rw[stepP_sym,bindP_is h9]
   rfl
  show stP (A++(rowOf lit 256++B)) most _=_
  rw[stP_some_ok (s:=⟨A.length,out,some (.sym true lit dist)⟩) rfl hst,goP_fin]
  rfl
 | cons t r ih=>
  unfold measT at hm
  split at hm
  ·cases hm
  ·rename_i hmay
   split at hm
   ·cases hm
   ·rename_i hle
    have hmay:mayT t out.length=true:=by simpa using hmay
    have hB2:∀b∈r.flatMap (tokBits lit dist)++(rowOf lit 256++B),b<2:=fun b hb=>by
     rcases List.mem_append.1 hb with h | h
     ·exact toksBits_bit _ _ _ b h
     ·rcases List.mem_append.1 h with h | h
      ·exact rowOf_bit _ _ b h
      ·exact hB b h
    have hs:=tok_step ho A (r.flatMap (tokBits lit dist)++(rowOf lit 256++B)) out hB2 most t hmay (hk.has t (by simp)) (hk.byte t (by simp)) (may_dist hmay (by omega)) (by omega)
    have hl:=sayT_length hmay out
    have h9:=ih ⟨fun x hx=>hk.has x (by simp[hx]),hk.end',fun x hx=>hk.byte x (by simp[hx])⟩ (A++tokBits lit dist t) (sayT out t) (by rw[hl];exact hm) (by rw[hl];omega)
    have e1:(A++tokBits lit dist t)++(r.flatMap (tokBits lit dist)++(rowOf lit 256++B))=A++(tokBits lit dist t++(r.flatMap (tokBits lit dist)++(rowOf lit 256++B))):=by simp[List.append_assoc]
    rw[e1,List.length_append]at h9
    rw[List.flatMap_cons,List.append_assoc,List.length_append]
    refine .step hs ?_
    rw[←Nat.add_assoc A.length]
    exact h9

end Go.Proofs.YtggcbnhckcenmaaGreatDoor

namespace Go.Proofs.YtggcbnhckcenmaaGreatDoor

theorem measT_lim7{M most:Nat}{ts:List TK}{s n:Nat}(h:measT M ts s=.ok n)(hs:s≤M)(hn:n≤most):measT most ts s=.ok n:=by
 induction ts generalizing s with
 | nil=>exact h
 | cons t r ih=>
  unfold measT at h ⊢
  split at h
  ·cases h
  ·rename_i h1
   rw[if_neg h1]
   split at h
   ·cases h
   ·rename_i h2
    have:=measT_le h (by omega)
    rw[if_neg (by omega)]
    exact ih h (by omega)

theorem measT_may7{M:Nat}{ts:List TK}{s n:Nat}(h:measT M ts s=.ok n)(hs:s≤M):∀t∈ts,∃said,said≤M∧mayT t said=true:=by
 induction ts generalizing s with
 | nil=>intro t ht;simp at ht
 | cons x r ih=>
  unfold measT at h
  split at h
  ·cases h
  ·rename_i h1
   split at h
   ·cases h
   ·rename_i h2
    intro t ht
    rcases List.mem_cons.1 ht with rfl | ht
    ·exact⟨s,hs,by simpa using h1⟩
    ·exact ih h (by omega) t ht

theorem syms_of{t:TK}{said:Nat}(h:mayT t said=true)(hs:said≤16384)(hl:t.lit<256):
  (litMk t).sym≤285∧(litMk t).extra<2 ^ (litMk t).width∧(litMk t).width≤5∧(t.len=0→(litMk t).sym=t.lit∧(litMk t).extra=0∧(litMk t).width=0)∧(t.len≠0→257≤(litMk t).sym∧(distMk t).sym≤29∧(distMk t).extra<2 ^ (distMk t).width∧(distMk t).width≤13):=by
 rcases mayT_cases h with⟨h0,_,h1⟩ | ⟨n,d,h0,hd0,_,h3,h4,h5,h6,h1⟩
 ·have hmk:litMk t=⟨t.lit,0,0⟩:=by unfold litMk;rw[if_pos h0]
  rw[hmk]
  exact⟨by simp only;omega,by simp,by simp,fun _=>⟨rfl,rfl,rfl⟩,fun h9=>absurd h0 h9⟩
 ·have hn0:t.len≠0:=by omega
  have hd:(distMk t).sym≤29∧(distMk t).extra<2 ^ (distMk t).width∧(distMk t).width≤13:=by
   have hdm:distMk t=⟨splS (d-1) 2,splX (d-1) 2,splW (d-1) 2⟩:=by unfold distMk;rw[hd0];simp
   rw[hdm]
   have:=splS_small (d-1) 2 12 (by omega) (by decide)
   have hb:=(blen_le (d-1) 14).2 (by omega)
   exact⟨by simp only;omega,splX_lt _ _,by simp only[splW];omega⟩
  refine⟨?_,?_,?_,fun h9=>absurd h9 hn0,fun _=>⟨?_,hd⟩⟩
  all_goals
   by_cases h258:n=258
   ·have hmk:litMk t=⟨285,0,0⟩:=by unfold litMk;rw[if_neg hn0,if_pos (by omega)]
    rw[hmk]
    simp
   ·have hmk:litMk t=⟨257+splS (n-3) 3,splX (n-3) 3,splW (n-3) 3⟩:=by unfold litMk;rw[if_neg hn0,if_neg (by omega),h0];simp
    rw[hmk]
    have:=splS_small (n-3) 3 5 (by omega) (by decide)
    have hb:=(blen_le (n-3) 8).2 (by omega)
    have hx:=splX_lt (n-3) 3
    simp only[splW]at hx ⊢
    first
     | exact hx
     | omega

theorem fix_keys:(List.range 288).all (fun s=>decide (key fixL s≠0))=true:=by decide +kernel
theorem fix_keysD:(List.range 32).all (fun s=>decide (key fixD s≠0))=true:=by decide +kernel
theorem fix_lens:fixL.length=288∧fixD.length=32:=by decide +kernel

theorem fix_toks{ts:List TK}{n:Nat}(h:measT 16384 ts 0=.ok n)(hb:∀t∈ts,t.lit<256):ToksOk fixL fixD ts:=by
 have hk:∀s,s<288→key fixL s≠0:=fun s hs=>by simpa using List.all_eq_true.1 fix_keys s (List.mem_range.2 hs)
 have hkD:∀s,s<32→key fixD s≠0:=fun s hs=>by simpa using List.all_eq_true.1 fix_keysD s (List.mem_range.2 hs)
 refine⟨fun t ht=>?_,⟨by rw[fix_lens.1];decide,hk 256 (by decide)⟩,hb⟩
 obtain⟨said,h1,h2⟩:=measT_may7 h (by decide) t ht
 have h3:=syms_of h2 h1 (hb t ht)
 refine⟨by rw[fix_lens.1];omega,hk _ (by omega),fun h9=>?_⟩
 have h4:=h3.2.2.2.2 h9
 exact⟨by rw[fix_lens.2];omega,hkD _ (by omega)⟩

structure Packs(bs X:List Nat):Prop where
 pad:∃k,ofBytes bs=X++List.replicate k 0
 len:bs.length=(X.length+7) / 8

theorem zeros_bit(k:Nat):∀b∈List.replicate k 0,b<2:=fun b hb=>by have:=List.eq_of_mem_replicate hb;omega

def fixBits(ts:List TK):List Nat:=[1,1,0]++(ts.flatMap (tokBits fixL fixD)++rowOf fixL 256)

theorem fixed_reads{ts:List TK}{n most:Nat}(h:measT 16384 ts 0=.ok n)(hb:∀t∈ts,t.lit<256)(hn:n≤most)(hm:most≤16384){bs:List Nat}(hp:Packs bs (fixBits ts)):∃t,Ends (ofBytes bs) most ps0 t 0∧t.out=expT ts []∧(t.c+7) / 8=bs.length:=by
 obtain⟨k,hk⟩:=hp.pad
 have h9:=toks_end fix_ok (List.replicate k 0) (zeros_bit k) most hm ts (fix_toks h hb) [1,1,0] [] n (measT_lim7 h (by decide) hn) (Nat.zero_le _)
 have e:ofBytes bs=[1,1,0]++(ts.flatMap (tokBits fixL fixD)++(rowOf fixL 256++List.replicate k 0)):=by rw[hk];unfold fixBits;simp[List.append_assoc]
 rw[←e]at h9
 refine⟨_,.step (stP_none_ok (s:=ps0) (b:=.sym true fixL fixD) (c:=3) rfl ?_) h9,rfl,?_⟩
 ·rw[e]
  have h1:∀r:List Nat,tkP (1::1::0::r) 0 1=.ok (1,1):=fun r=>by rw[tkP_is (by simp)];rfl
  have h2:∀r:List Nat,tkP (1::1::0::r) 1 2=.ok (1,3):=fun r=>by rw[tkP_is (by simp)];rfl
  show begP (1::1::0::_) 0=_
  unfold begP
  rw[bindP_is (h1 _),bindP_is (h2 _)]
  rfl
 ·rw[hp.len]
  unfold fixBits
  simp only[List.length_append,rowOf_length,List.length_cons,List.length_nil]
  congr 1

def dynBits(lit dist:List Nat)(many:Nat)(cs:List Nat)(sn:List (Nat×Nat))(ts:List TK):List Nat:=[1,0,1]++(headBits lit.length dist.length many cs sn++(ts.flatMap (tokBits lit dist)++rowOf lit 256))

theorem dyn_reads{lit dist:List Nat}{many:Nat}{cs:List Nat}{sn:List (Nat×Nat)}(ho:OkL lit dist)(hh:HeadOk lit dist many cs sn){ts:List TK}{n most:Nat}(hk:ToksOk lit dist ts)(h:measT 16384 ts 0=.ok n)(hn:n≤most)(hm:most≤16384){bs:List Nat}(hp:Packs bs (dynBits lit dist many cs sn ts)):
  ∃t,Ends (ofBytes bs) most ps0 t 0∧t.out=expT ts []∧(t.c+7) / 8=bs.length:=by
 obtain⟨k,hkk⟩:=hp.pad
 obtain⟨H,hH⟩:∃H,headBits lit.length dist.length many cs sn=H:=⟨_,rfl⟩
 have h9:=toks_end ho (List.replicate k 0) (zeros_bit k) most hm ts hk ([1,0,1]++H) [] n (measT_lim7 h (by decide) hn) (Nat.zero_le _)
 have e:ofBytes bs=[1,0,1]++(H++(ts.flatMap (tokBits lit dist)++(rowOf lit 256++List.replicate k 0))):=by rw[hkk];unfold dynBits;rw[hH];simp[List.append_assoc]
 have e2:ofBytes bs=([1,0,1]++H)++(ts.flatMap (tokBits lit dist)++(rowOf lit 256++List.replicate k 0)):=by rw[e];simp
 rw[←e2]at h9
 have hrd:=readF_laid hh [1,0,1] (ts.flatMap (tokBits lit dist)++(rowOf lit 256++List.replicate k 0)) (fun b hb=>by
  rcases List.mem_append.1 hb with h | h
  ·exact toksBits_bit _ _ _ b h
  ·rcases List.mem_append.1 h with h | h
   ·exact rowOf_bit _ _ b h
   ·exact zeros_bit k b h)
 rw[hH,←e]at hrd
 have hhd:head5 (ofBytes bs) 3=.ok ((lit,dist),H.length):=by
  unfold head5
  rw[show(3:Nat)=([1,0,1]:List Nat).length from rfl,hrd]
  simp only
  rw[if_neg]
  intro hc
  rcases hc with hc | hc | hc
  ·exact hk.end'.2 hc
  ·exact hc ho.lit.ok
  ·exact hc.2 (ho.dist hc.1).ok
 have hl3:([1,0,1]++H:List Nat).length=3+H.length:=by simp;omega
 rw[hl3]at h9
 refine⟨_,.step (stP_none_ok (s:=ps0) (b:=.sym true lit dist) (c:=3+H.length) rfl ?_) h9,rfl,?_⟩
 ·have h1:tkP (ofBytes bs) 0 1=.ok (1,1):=by rw[e,tkP_is (by simp)];rfl
  have h2:tkP (ofBytes bs) 1 2=.ok (2,3):=by rw[e,tkP_is (by simp)];rfl
  show begP (ofBytes bs) 0=_
  unfold begP
  rw[bindP_is h1,bindP_is h2]
  unfold kndP
  rw[if_neg (by decide),if_neg (by decide),if_pos rfl]
  unfold hdP
  rw[hhd]
  rfl
 ·rw[hp.len]
  unfold dynBits
  rw[hH]
  simp only[List.length_append,rowOf_length,List.length_cons,List.length_nil]
  congr 1
  omega

def storeB(data:List Nat):List Nat:=[1,data.length % 256,data.length / 256,255-data.length % 256,255-data.length / 256]++data

theorem raw_reads(most:Nat)(data:List Nat)(hb:∀b∈data,b<256)(A out:List Nat)(h:out.length+data.length≤most):
  Ends (A++ofBytes data) most ⟨A.length,out,some (.raw true data.length)⟩ ⟨A.length+8*data.length,out++data,some (.raw true 0)⟩ 0:=by
 induction data generalizing A out with
 | nil=>
  refine .done ?_
  show stP (A++ofBytes []) most ⟨A.length,out,some (.raw true 0)⟩=_
  rw[stP_some_ok (s:=⟨A.length,out,some (.raw true 0)⟩) (x:=((.fin,.raw true 0),A.length)) rfl rfl,goP_fin]
  simp[Bk.last]
 | cons x r ih=>
  have hx:=hb x (by simp)
  have e0:ofBytes (x::r)=bitsOf x 8++ofBytes r:=by
   simp[ofBytes]
  have hnum:numAt (A++(bitsOf x 8++ofBytes r)) A.length 8=x:=numAt_laid A (ofBytes r) x 8 (by omega)
  have hst:stepP (A++(bitsOf x 8++ofBytes r)) (.raw true (r.length+1)) A.length=.ok ((.byte x,.raw true r.length),A.length+8):=by
   rw[stepP_raw,tkP_is (by rw[List.length_append,List.length_append,bitsOf_length];omega),hnum]
   rfl
  have h9:=ih (fun b hb'=>hb b (by simp[hb'])) (A++bitsOf x 8) (out++[x]) (by simp at h ⊢;omega)
  rw[List.append_assoc,List.length_append,bitsOf_length]at h9
  rw[e0,List.length_cons]
  refine .step (s':=⟨A.length+8,out++[x],some (.raw true r.length)⟩) ?_ ?_
  ·rw[stP_some_ok (s:=⟨A.length,out,some (.raw true (r.length+1))⟩) rfl hst]
   exact goP_ok (by intro h;cases h) (by simp only[layP];rw[if_neg (by simp at h;omega)])
  ·rw[show A.length+8*(r.length+1)=A.length+8+8*r.length by omega]
   rw[List.append_assoc]at h9
   exact h9

theorem stored_reads{data:List Nat}(hb:∀b∈data,b<256){most:Nat}(hl:data.length≤most)(hm:most≤16384):∃t,Ends (ofBytes (storeB data)) most ps0 t 0∧t.out=data∧(t.c+7) / 8=(storeB data).length:=by
 obtain⟨n,hn⟩:∃n,data.length=n:=⟨_,rfl⟩
 obtain⟨P,hP⟩:∃P,P=bitsOf 1 8++(bitsOf (n % 256) 8++(bitsOf (n / 256) 8++(bitsOf (255-n % 256) 8++bitsOf (255-n / 256) 8))):=⟨_,rfl⟩
 have e:ofBytes (storeB data)=P++ofBytes data:=by
  unfold storeB
  rw[ofBytes_append,hn,hP]
  simp[ofBytes,List.append_assoc]
 have hPl:P.length=40:=by rw[hP];simp[bitsOf_length]
 have h9:=raw_reads most data hb P [] (by simpa using hl)
 rw[←e,hPl,hn]at h9
 have hls:40≤(ofBytes (storeB data)).length:=by rw[e,List.length_append,hPl];omega
 have num2:∀(A B:List Nat) (x y:Nat),x<256→y<256→numAt (A++(bitsOf x 8++(bitsOf y 8++B))) A.length 16=x+256*y:=fun A B x y hx hy=>by
  unfold numAt
  rw[List.drop_left,←List.append_assoc (bitsOf x 8),List.take_append_of_le_length (by simp[bitsOf_length]),List.take_of_length_le (by simp[bitsOf_length]),n2_append,bitsOf_n2,bitsOf_n2,bitsOf_length,Nat.mod_eq_of_lt (by omega),Nat.mod_eq_of_lt (by omega)]
 have hn16:n≤16384:=by omega
 have t1:tkP (ofBytes (storeB data)) 0 1=.ok (1,1):=by rw[tkP_is (by omega),e,hP];rfl
 have t2:tkP (ofBytes (storeB data)) 1 2=.ok (0,3):=by rw[tkP_is (by omega),e,hP];rfl
 have t3:tkP (ofBytes (storeB data)) 8 16=.ok (n,24):=by
  rw[tkP_is (by omega),e,hP]
  have:=num2 (bitsOf 1 8) (bitsOf (255-n % 256) 8++bitsOf (255-n / 256) 8++ofBytes data) (n % 256) (n / 256) (by omega) (by omega)
  rw[bitsOf_length]at this
  rw[show n % 256+256*(n / 256)=n by omega]at this
  simp only[List.append_assoc]at this ⊢
  rw[this]
 have t4:tkP (ofBytes (storeB data)) 24 16=.ok (65535-n,40):=by
  rw[tkP_is (by omega),e,hP]
  have:=num2 (bitsOf 1 8++(bitsOf (n % 256) 8++bitsOf (n / 256) 8)) (ofBytes data) (255-n % 256) (255-n / 256) (by omega) (by omega)
  simp only[List.length_append,bitsOf_length]at this
  rw[show 255-n % 256+256*(255-n / 256)=65535-n by omega]at this
  simp only[List.append_assoc]at this ⊢
  rw[this]
 refine⟨_,.step (stP_none_ok (s:=ps0) (b:=.raw true n) (c:=40) rfl ?_) h9,rfl,?_⟩
 ·show begP (ofBytes (storeB data)) 0=_
  unfold begP
  rw[bindP_is t1,bindP_is t2]
  unfold kndP
  rw[if_pos rfl]
  unfold cntP
  rw[show(3+7) / 8*8=8 from rfl,bindP_is t3,bindP_is t4,if_pos (by omega)]
  rfl
 ·simp only[storeB,List.length_append,List.length_cons,List.length_nil]
  omega

end Go.Proofs.YtggcbnhckcenmaaGreatDoor

namespace Go.Proofs.YtggcbnhckcenmaaGreatDoor
theorem xbits_le(s:Nat):xbits s≤7:=by
 unfold xbits
 split
 ·omega
 ·split
  ·omega
  ·split<;>omega

def packN(l:List Nat):List (Nat×Nat):=(packM l).map (fun s=>(s.1.toNat,s.2.toNat))

def StepIs(s:Int×Int):Prop:=0≤s.1∧s.1≤18∧0≤s.2∧s.2.toNat<2 ^ xbits s.1.toNat

theorem zerosM_is(n:Nat):∀s∈zerosM n,StepIs s:=by
 induction n using Nat.strongRecOn with
 | ind n ih=>
  intro s hs
  by_cases h:11≤n
  ·rw[zerosM_big n h]at hs
   rcases List.mem_cons.1 hs with rfl | hs
   ·refine⟨by simp,by simp,by simp only;omega,?_⟩
    show(((min n 138-11:Nat):Int)).toNat<2 ^ 7
    omega
   ·exact ih _ (by omega) s hs
  ·by_cases h3:3≤n
   ·rw[zerosM_mid n (by omega) h3]at hs
    have:s=(17,((n-3:Nat):Int)):=by simpa using hs
    subst this
    refine⟨by simp,by simp,by simp only;omega,?_⟩
    show(((n-3:Nat):Int)).toNat<2 ^ 3
    omega
   ·rw[zerosM_few n (by omega)]at hs
    have:=List.eq_of_mem_replicate hs
    subst this
    exact⟨by simp,by simp,by simp,by decide⟩

theorem againM_is(v n:Nat)(hv:v≤15):∀s∈againM v n,StepIs s:=by
 induction n using Nat.strongRecOn with
 | ind n ih=>
  intro s hs
  by_cases h:3≤n
  ·rw[againM_big v n h]at hs
   rcases List.mem_cons.1 hs with rfl | hs
   ·refine⟨by simp,by simp,by simp only;omega,?_⟩
    show(((min n 6-3:Nat):Int)).toNat<2 ^ 2
    omega
   ·exact ih _ (by omega) s hs
  ·rw[againM_few v n (by omega)]at hs
   have:=List.eq_of_mem_replicate hs
   subst this
   refine⟨by simp,by simp only;omega,by simp,?_⟩
   show(0:Int).toNat<2 ^ xbits _
   exact Nat.two_pow_pos _

theorem sayM_is(v n:Nat)(hv:v≤15):∀s∈sayM v n,StepIs s:=by
 intro s hs
 unfold sayM at hs
 split at hs
 ·exact zerosM_is n s hs
 ·rcases List.mem_cons.1 hs with rfl | hs
  ·refine⟨by simp,by simp only;omega,by simp,?_⟩
   show(0:Int).toNat<2 ^ xbits _
   exact Nat.two_pow_pos _
  ·exact againM_is v _ hv s hs

theorem packM_is(l:List Nat)(h15:∀x∈l,x≤15):∀s∈packM l,StepIs s:=by
 induction hn:l.length using Nat.strongRecOn generalizing l with
 | ind n ih=>
  cases l with
  | nil=>intro s hs;simp[packM]at hs
  | cons v r=>
   intro s hs
   rw[packM_cons]at hs
   rcases List.mem_append.1 hs with hs | hs
   ·exact sayM_is v _ (h15 v (by simp)) s hs
   ·exact ih (r.drop (frontN v r)).length (by simp at hn ⊢;omega) _ (fun x hx=>h15 x (List.mem_cons_of_mem _ (List.mem_of_mem_drop hx))) rfl s hs

theorem packN_cast(l:List Nat)(h15:∀x∈l,x≤15):(packN l).map (fun s=>((s.1:Int),(s.2:Int)))=packM l:=by
 unfold packN
 rw[List.map_map]
 conv=>rhs;rw[←List.map_id (packM l)]
 refine List.map_congr_left (fun s hs=>?_)
 have h:=packM_is l h15 s hs
 simp only[Function.comp,id]
 rw[Int.toNat_of_nonneg h.1,Int.toNat_of_nonneg h.2.2.1]

theorem packN_length(l:List Nat):(packN l).length≤l.length:=by
 unfold packN
 rw[List.length_map]
 exact packM_len l

end Go.Proofs.YtggcbnhckcenmaaGreatDoor

namespace Go.Proofs.YtggcbnhckcenmaaGreatDoor

def leastM(s:Int):Nat:=if s=16 then 3 else if s=17 then 3 else if s=18 then 11 else 1
def widthM(s:Int):Nat:=if s=16 then 2 else if s=17 then 3 else if s=18 then 7 else 0

theorem widthM_nat(s:Nat):widthM (s:Int)=xbits s:=by
 unfold widthM xbits
 by_cases h1:s=16
 ·subst h1;rfl
 ·by_cases h2:s=17
  ·subst h2;rfl
  ·by_cases h3:s=18
   ·subst h3;rfl
   ·rw[if_neg (by omega),if_neg (by omega),if_neg (by omega),if_neg h1,if_neg h2,if_neg h3]

theorem widthM_le(s:Int):widthM s≤7:=by
 unfold widthM
 split
 ·omega
 ·split
  ·omega
  ·split<;>omega

theorem leastM_le(s:Int):1≤leastM s∧leastM s≤11:=by
 unfold leastM
 split
 ·omega
 ·split
  ·omega
  ·split<;>omega

def sayV(s:Int)(l:List Nat):Nat:=if s=16 then lastN l else if s=17∨s=18 then 0 else s.toNat

def mayB(s:Int×Int)(said n:Nat):Prop:=0≤s.1∧s.1≤18∧0≤s.2∧s.2<2 ^ widthM s.1∧¬(s.1=16∧said=0)∧(said+leastM s.1:Nat)+s.2≤n

theorem withM_may{l:List Nat}{s:Int×Int}{n:Nat}(h:mayB s l.length n):withM l s n=some (l++List.replicate (leastM s.1+s.2.toNat) (sayV s.1 l)):=by
 obtain⟨a,b⟩:=s
 obtain⟨h1,h2,h3,h4,h5,h6⟩:=h
 simp only at h1 h2 h3 h4 h5 h6 ⊢
 refine withM_ok ?_ (by omega)
 unfold saysM
 simp only
 by_cases e16:a=16
 ·subst e16
  have hw:widthM 16=2:=rfl
  have hl:leastM 16=3:=rfl
  rw[hw]at h4
  rw[if_neg (by omega),if_pos ⟨rfl,h3,by omega,by omega⟩,hl]
  simp only[sayV,if_true]
  congr 2;omega
 ·by_cases e17:a=17
  ·subst e17
   have hw:widthM 17=3:=rfl
   have hl:leastM 17=3:=rfl
   rw[hw]at h4
   rw[if_neg (by omega),if_neg (by omega),if_pos ⟨rfl,h3,by omega⟩,hl]
   simp[sayV];omega
  ·by_cases e18:a=18
   ·subst e18
    have hw:widthM 18=7:=rfl
    have hl:leastM 18=11:=rfl
    rw[hw]at h4
    rw[if_neg (by omega),if_neg (by omega),if_neg (by omega),if_pos ⟨rfl,h3,by omega⟩,hl]
    simp[sayV];omega
   ·have hw:widthM a=0:=by unfold widthM;rw[if_neg e16,if_neg e17,if_neg e18]
    have hl:leastM a=1:=by unfold leastM;rw[if_neg e16,if_neg e17,if_neg e18]
    rw[hw]at h4
    have hb:b=0:=by omega
    subst hb
    rw[if_pos ⟨h1,by omega,rfl⟩,hl]
    unfold sayV
    rw[if_neg e16,if_neg (by omega)]
    rfl

theorem withM_no{l:List Nat}{s:Int×Int}{n:Nat}(h:¬mayB s l.length n):withM l s n=none:=by
 cases hw:withM l s n with
 | none=>rfl
 | some m=>
  exfalso
  apply h
  obtain⟨a,b⟩:=s
  unfold withM at hw
  split at hw
  ·cases hw
  ·rename_i v k hs
   split at hw
   ·cases hw
   ·rename_i hle
    unfold saysM at hs
    simp only at hs
    unfold mayB
    simp only
    split at hs
    ·rename_i h1
     simp at hs
     have hw0:widthM a=0:=by unfold widthM;rw[if_neg (by omega),if_neg (by omega),if_neg (by omega)]
     have hl:leastM a=1:=by unfold leastM;rw[if_neg (by omega),if_neg (by omega),if_neg (by omega)]
     rw[hw0,hl]
     omega
    ·split at hs
     ·rename_i h1
      simp at hs
      obtain⟨rfl,h1⟩:=h1
      have hw0:widthM 16=2:=rfl
      have hl:leastM 16=3:=rfl
      rw[hw0,hl]
      omega
     ·split at hs
      ·rename_i h1
       simp at hs
       obtain⟨rfl,h1⟩:=h1
       have hw0:widthM 17=3:=rfl
       have hl:leastM 17=3:=rfl
       rw[hw0,hl]
       omega
      ·split at hs
       ·rename_i h1
        simp at hs
        obtain⟨rfl,h1⟩:=h1
        have hw0:widthM 18=7:=rfl
        have hl:leastM 18=11:=rfl
        rw[hw0,hl]
        omega
       ·cases hs

def manyL(s:Int)(lo hi n:Nat):List (Int×Int):=
 if 1≤lo∧lo≤hi∧lo≤n then(s,((min n hi-lo:Nat):Int))::manyL s lo hi (n-min n hi)else []
termination_by n
decreasing_by omega

def manyR(lo hi n:Nat):Nat:=
 if 1≤lo∧lo≤hi∧lo≤n then manyR lo hi (n-min n hi)else n
termination_by n
decreasing_by omega

theorem manyL_more{s:Int}{lo hi n:Nat}(h1:1≤lo)(h2:lo≤hi)(h3:lo≤n):manyL s lo hi n=(s,((min n hi-lo:Nat):Int))::manyL s lo hi (n-min n hi):=by
 rw[manyL,if_pos ⟨h1,h2,h3⟩]
theorem manyL_end{s:Int}{lo hi n:Nat}(h3:n<lo):manyL s lo hi n=[]:=by rw[manyL,if_neg (by omega)]
theorem manyR_more{lo hi n:Nat}(h1:1≤lo)(h2:lo≤hi)(h3:lo≤n):manyR lo hi n=manyR lo hi (n-min n hi):=by
 rw[manyR,if_pos ⟨h1,h2,h3⟩]
theorem manyR_end{lo hi n:Nat}(h3:n<lo):manyR lo hi n=n:=by rw[manyR,if_neg (by omega)]

theorem many_le(s:Int)(lo hi n:Nat)(h1:1≤lo)(h2:lo≤hi):(manyL s lo hi n).length+manyR lo hi n≤n∧manyR lo hi n<lo:=by
 induction n using Nat.strongRecOn with
 | ind n ih=>
  by_cases h:lo≤n
  ·have:=ih (n-min n hi) (by omega)
   rw[manyL_more h1 h2 h,manyR_more h1 h2 h,List.length_cons]
   omega
  ·rw[manyL_end (by omega),manyR_end (by omega)]
   simp;omega

theorem zerosM_many(n:Nat):zerosM n=manyL 18 11 138 n++(manyL 17 3 10 (manyR 11 138 n)++List.replicate (manyR 3 10 (manyR 11 138 n)) (0,0)):=by
 induction n using Nat.strongRecOn with
 | ind n ih=>
  by_cases h:11≤n
  ·rw[zerosM_big n h,manyL_more (by omega) (by omega) h,manyR_more (by omega) (by omega) h,ih (n-min n 138) (by omega)]
   rfl
  ·rw[manyL_end (n:=n) (by omega),manyR_end (n:=n) (by omega)]
   by_cases h3:3≤n
   ·rw[zerosM_mid n (by omega) h3,manyL_more (by omega) (by omega) h3,manyR_more (by omega) (by omega) h3,show min n 10=n by omega,Nat.sub_self,manyL_end (by omega),manyR_end (by omega)]
    rfl
   ·rw[zerosM_few n (by omega),manyL_end (by omega),manyR_end (by omega)]
    rfl

theorem againM_many(v n:Nat):againM v n=manyL 16 3 6 n++List.replicate (manyR 3 6 n) ((v:Int),0):=by
 induction n using Nat.strongRecOn with
 | ind n ih=>
  by_cases h:3≤n
  ·rw[againM_big v n h,manyL_more (by omega) (by omega) h,manyR_more (by omega) (by omega) h,ih (n-min n 6) (by omega)]
   rfl
  ·rw[againM_few v n (by omega),manyL_end (by omega),manyR_end (by omega)]
   rfl

def comeN(cs:List Nat):Nat→Nat
 | 0=>0
 | k+1=>if 4<k+1∧cs.getD (ord.getD k 0) 0=0 then comeN cs k else k+1

theorem comeN_ge(cs:List Nat)(k:Nat)(h:4≤k):4≤comeN cs k∧comeN cs k≤k:=by
 induction k with
 | zero=>omega
 | succ k ih=>
  rw[comeN]
  split
  ·have:=ih (by omega);omega
  ·omega

theorem comeN_rest(cs:List Nat)(k:Nat):∀j,comeN cs k≤j→j<k→cs.getD (ord.getD j 0) 0=0:=by
 induction k with
 | zero=>intro j _ h;omega
 | succ k ih=>
  intro j h1 h2
  rw[comeN]at h1
  split at h1
  ·rename_i h
   by_cases e:j=k
   ·subst e;exact h.2
   ·exact ih j h1 (by omega)
  ·omega

end Go.Proofs.YtggcbnhckcenmaaGreatDoor

namespace Go.Proofs.YtggcbnhckcenmaaGreatDoor
open Go.RowKit

def inB(n lo hi:Int):Bool:=decide (lo≤n) && decide (n≤hi)

set_option maxHeartbeats 1000000 in
theorem within_any(w:World)(n lo hi:Int):
  Calls Tryz.prog 93 #[.int .i64 n,.int .i64 lo,.int .i64 hi] w fun e w'=>e=.returned (.bool (inB n lo hi))∧w'=w:=by
 go_enter Tryz.func93,Tryz.ntmps93
 by_cases h:lo≤n
 ·go_wp2_with fail
  go_ret
  exact⟨by simp only[inB,h,decide_true,Bool.true_and];rfl,rfl⟩
 ·go_wp2_with fail
  go_ret
  have hd:decide (lo≤n)=false:=by simp;omega
  exact⟨by simp only[inB,hd,Bool.false_and];rfl,rfl⟩

set_option maxHeartbeats 1000000 in
theorem shape_any(w:World)(s:Int):
  Calls Tryz.prog 132 #[.int .i64 s] w fun e w'=>e=.returned (.tuple #[.int .i64 (leastM s:Nat),.int .i64 (widthM s:Nat)])∧w'=w:=by
 by_cases h16:s=16
 ·subst h16
  go_enter Tryz.func132,Tryz.ntmps132
  go_wp2_with fail
  go_ret2
  exact⟨rfl,rfl⟩
 ·by_cases h17:s=17
  ·subst h17
   go_enter Tryz.func132,Tryz.ntmps132
   go_wp2_with fail
   go_ret2
   exact⟨rfl,rfl⟩
  ·by_cases h18:s=18
   ·subst h18
    go_enter Tryz.func132,Tryz.ntmps132
    go_wp2_with fail
    go_ret2
    exact⟨rfl,rfl⟩
   ·have e16:(s==16)=false:=by simp;omega
    have e17:(s==17)=false:=by simp;omega
    have e18:(s==18)=false:=by simp;omega
    have HE:Hid (leastM s=1∧widthM s=0):=hid ⟨by unfold leastM;rw[if_neg h16,if_neg h17,if_neg h18],by unfold widthM;rw[if_neg h16,if_neg h17,if_neg h18]⟩
    clear h16 h17 h18
    go_enter Tryz.func132,Tryz.ntmps132
    go_wp2_with fail
    go_ret2
    exact⟨by rw[HE.out.1,HE.out.2];rfl,rfl⟩

theorem pow_le7(n:Nat)(h:n≤7):(2:Nat) ^ n≤128:=by
 have:=Nat.pow_le_pow_right (show 0<2 by decide) h
 simpa using this

def MayR(e:Ending)(s:Int×Int)(said n:Nat):Prop:=∃r:Bool,e=.returned (.bool r)∧(r=true↔mayB s said n)

theorem MayR.no{e:Ending}{s:Int×Int}{said n:Nat}(h:MayR e s said n)(hm:¬mayB s said n):e=.returned (.bool false):=by
 obtain⟨r,rfl,hr⟩:=h
 cases r with
 | false=>rfl
 | true=>exact absurd (hr.1 rfl) hm

theorem MayR.yes{e:Ending}{s:Int×Int}{said n:Nat}(h:MayR e s said n)(hm:mayB s said n):e=.returned (.bool true):=by
 obtain⟨r,rfl,hr⟩:=h
 rw[hr.2 hm]

set_option maxRecDepth 100000 in
set_option maxHeartbeats 2000000 in
theorem mayStand_any(w:World)(a b:Int)(said n:Nat)(hs:said≤1000000):
  Calls Tryz.prog 183 #[.agg #[.int .i64 a,.int .i64 b],.int .i64 (said:Nat),.int .i64 (n:Nat)] w fun e w'=>MayR e (a,b) said n∧Same w w':=by
 have hw7:=widthM_le a
 have hl1:=leastM_le a
 have HSH:=shape_any (w.alloc (.cells #[.int .i64 a,.int .i64 b] 171)) a
 obtain⟨wd,hwd⟩:∃x,x=widthM a:=⟨_,rfl⟩
 obtain⟨ls,hls⟩:∃x,x=leastM a:=⟨_,rfl⟩
 rw[←hwd]at HSH hw7
 rw[←hls]at HSH hl1
 have HM:Hid (mayB (a,b) said n↔(0≤a∧a≤18∧0≤b∧b<2 ^ wd∧¬(a=16∧said=0)∧(said+ls:Nat)+b≤n)):=hid (by rw[hwd,hls];exact Iff.rfl)
 clear hwd hls
 have hp7:=pow_le7 wd hw7
 have hp0:0<2 ^ wd:=Nat.two_pow_pos wd
 obtain⟨pw,hpw⟩:∃x,x=2 ^ wd:=⟨_,rfl⟩
 obtain⟨pm,hpm⟩:∃x:Nat,x=pw-1:=⟨_,rfl⟩
 rw[←hpw]at hp7 hp0
 have HM2:Hid (mayB (a,b) said n↔(inB a 0 18=true∧inB b 0 (pm:Int)=true∧¬(a=16∧said=0)∧(said+ls:Nat)+b≤n)):=hid (by
  rw[HM.out]
  have:(2:Int) ^ wd=(pw:Int):=by rw[hpw];simp
  rw[this]
  simp only[inB,Bool.and_eq_true,decide_eq_true_eq]
  omega)
 have hshl:wrap64 ((2:Int) ^ wd)=(pw:Int):=by
  have:(2:Int) ^ wd=(pw:Int):=by rw[hpw];simp
  rw[this];unfold wrap64;omega
 have hsub:(pw:Int)-1=(pm:Int):=by omega
 have HW1:=fun q=>within_any ((w.alloc (.cells #[.int .i64 a,.int .i64 b] 171)).drewN q) a 0 18
 have HW2:=fun q=>within_any ((w.alloc (.cells #[.int .i64 a,.int .i64 b] 171)).drewN q) b 0 (pm:Int)
 clear HM hpw
 have hpm':pm≤127:=by omega
 clear hpm
 go_enter Tryz.func183,Tryz.ntmps183
 go_wp2_with fail
 refine HSH.mono ?_
 rintro e w1 ⟨rfl,rfl⟩
 clear HSH
 have HK0:Hid (Same w (w.alloc (.cells #[.int .i64 a,.int .i64 b] 171))):=hid ((Kept.refl _ w).alloc _)
 have cB:(w.alloc (.cells #[.int .i64 a,.int .i64 b] 171)).cell? ⟨w.heap.size,1,none⟩=some (.int .i64 b):=by simp
 have cA:(w.alloc (.cells #[.int .i64 a,.int .i64 b] 171)).cell? ⟨w.heap.size,0,none⟩=some (.int .i64 a):=by simp
 generalize w.alloc (.cells #[.int .i64 a,.int .i64 b] 171)=W at *
 cases h1:inB a 0 18 with
 | false=>
  have HE:Hid (¬mayB (a,b) said n):=hid (fun h=>by have:=(HM2.out.1 h).1;rw[h1]at this;cases this)
  rw[h1]at HW1
  clear h1
  go_wp2_with fail
  go_quiet ((go_at_call 93;exact Calls.quiet_of_same (HW1 _)))
  go_wp2_with fail
  go_ret
  exact⟨⟨false,rfl,by simp[HE.out]⟩,HK0.out.drewN _⟩
 | true=>
  rw[h1]at HW1
  cases h2:inB b 0 (pm:Int) with
  | false=>
   have HE:Hid (¬mayB (a,b) said n):=hid (fun h=>by have:=(HM2.out.1 h).2.1;rw[h2]at this;cases this)
   rw[h2]at HW2
   clear h1 h2
   go_wp2_with fail
   go_quiet ((go_at_call 93;first | (with_reducible exact Calls.quiet_of_same (HW1 _)) | (with_reducible exact Calls.quiet_of_same (HW2 _))))
   go_wp2_with fail
   go_ret
   exact⟨⟨false,rfl,by simp[HE.out]⟩,HK0.out.drewN _⟩
  | true=>
   rw[h2]at HW2
   have hb:0≤b∧b≤(pm:Int):=by simpa[inB]using h2
   have HM3:Hid (mayB (a,b) said n↔(¬(a=16∧said=0)∧(said+ls:Nat)+b≤n)):=hid (by rw[HM2.out,h1,h2];simp)
   obtain⟨bn,rfl⟩:∃x:Nat,b=(x:Int):=⟨b.toNat,by omega⟩
   have hbn:bn≤127:=by omega
   obtain⟨t,ht⟩:∃t,t=said+ls:=⟨_,rfl⟩
   have htI:(said:Int)+(ls:Int)=(t:Int):=by omega
   have htw:IntKind.i64.wrap (t:Int)=(t:Int):=by rw[IntKind.wrap_i64];omega
   obtain⟨u,hu⟩:∃u,u=t+bn:=⟨_,rfl⟩
   have huI:(t:Int)+(bn:Int)=(u:Int):=by omega
   have huw:IntKind.i64.wrap (u:Int)=(u:Int):=by rw[IntKind.wrap_i64];omega
   have HM4:Hid (mayB (a,(bn:Int)) said n↔(¬(a=16∧said=0)∧u≤n)):=hid (by
    rw[HM3.out]
    have:((said+ls:Nat):Int)+(bn:Int)≤(n:Int)↔u≤n:=by omega
    rw[this])
   clear h1 h2 hb HM3 HM2 ht hu
   go_wp2_with fail
   go_quiet ((go_at_call 93;first | (with_reducible exact Calls.quiet_of_same (HW1 _)) | (with_reducible exact Calls.quiet_of_same (HW2 _))))
   by_cases h16:a=16
   ·subst h16
    by_cases h0:said=0
    ·have HE:Hid (¬mayB (16,(bn:Int)) 0 n):=hid (fun h=>(HM4.out.1 (by rw[h0];exact h)).1 ⟨rfl,h0⟩)
     have hsd:((said:Int)==0)=true:=by simp[h0]
     go_wp2_with fail
     go_ret
     exact⟨⟨false,rfl,by simp[HE.out]⟩,HK0.out.drewN _⟩
    ·have hsd:((said:Int)==0)=false:=by simp[h0]
     have HE:Hid (mayB (16,(bn:Int)) said n↔u≤n):=hid (by rw[HM4.out];simp[h0])
     clear h0
     go_wp2_with fail
     go_ret
     exact⟨⟨_,rfl,by rw[HE.out];simp⟩,HK0.out.drewN _⟩
   ·have h16':(a==16)=false:=by simp[h16]
    have HE:Hid (mayB (a,(bn:Int)) said n↔u≤n):=hid (by rw[HM4.out];simp[h16])
    clear h16
    go_wp2_with fail
    go_ret
    exact⟨⟨_,rfl,by rw[HE.out];simp⟩,HK0.out.drewN _⟩

set_option maxRecDepth 100000 in
set_option maxHeartbeats 2000000 in
theorem say_any(w:World)(B:Nat)(v:Value)(l:List Nat)(a b:Int)(n:Nat)(hr:NRow B w v l)(hB:B≤w.heap.size)(hl:l.length≤1000000)(hm:mayB (a,b) l.length n):
  Calls Tryz.prog 184 #[v,.agg #[.int .i64 a,.int .i64 b]] w fun e w'=>∃v',e=.returned v'∧NRow B w' v' (l++List.replicate (leastM a+b.toNat) (sayV a l))∧Kept (Over B) w w':=by
 obtain⟨ao,cap,rfl,hao,_⟩:=hr.shape
 obtain⟨h1,h2,h3,h4,h5,h6⟩:=hm
 simp only at h1 h2 h3 h4 h5 h6
 have hw7:=widthM_le a
 have hl1:=leastM_le a
 have hp7:=pow_le7 _ hw7
 have hb7:b<128:=by
  have:((2 ^ widthM a:Nat):Int)=2 ^ widthM a:=by simp
  omega
 obtain⟨bn,rfl⟩:∃x:Nat,b=(x:Int):=⟨b.toNat,by omega⟩
 obtain⟨an,rfl⟩:∃x:Nat,a=(x:Int):=⟨a.toNat,by omega⟩
 obtain⟨ls,hls⟩:∃x,x=leastM (an:Int):=⟨_,rfl⟩
 have HSH:=shape_any (w.alloc (.cells #[.int .i64 (an:Int),.int .i64 (bn:Int)] 171)) (an:Int)
 rw[←hls]at HSH hl1 ⊢
 rw[Int.toNat_natCast]
 obtain⟨k,hk⟩:∃k,k=ls+bn:=⟨_,rfl⟩
 have hkI:(ls:Int)+(bn:Int)=(k:Int):=by omega
 have hkw:IntKind.i64.wrap (k:Int)=(k:Int):=by rw[IntKind.wrap_i64];omega
 rw[←hk]
 have hk138:k≤138:=by omega
 obtain⟨x,hx⟩:∃x,x=sayV (an:Int) l:=⟨_,rfl⟩
 rw[←hx]
 have HR:Hid (NRow B (w.alloc (.cells #[.int .i64 (an:Int),.int .i64 (bn:Int)] 171)) (.slice ao l.length cap) l):=hid (World.ownsRow.alloc hr _)
 have HK0:Hid (Kept (Over B) w (w.alloc (.cells #[.int .i64 (an:Int),.int .i64 (bn:Int)] 171))):=hid ((Kept.refl _ w).alloc _)
 have cB:(w.alloc (.cells #[.int .i64 (an:Int),.int .i64 (bn:Int)] 171)).cell? ⟨w.heap.size,1,none⟩=some (.int .i64 (bn:Int)):=by simp
 have cA:(w.alloc (.cells #[.int .i64 (an:Int),.int .i64 (bn:Int)] 171)).cell? ⟨w.heap.size,0,none⟩=some (.int .i64 (an:Int)):=by simp
 have hsz:B≤(w.alloc (.cells #[.int .i64 (an:Int),.int .i64 (bn:Int)] 171)).heap.size:=by simp;omega
 have HLOOP:∀W:World,W=w.alloc (.cells #[.int .i64 (an:Int),.int .i64 (bn:Int)] 171)→True:=fun _ _=>trivial
 clear HLOOP
 obtain⟨L,hL⟩:∃L,L=l.length:=⟨_,rfl⟩
 have HL:Hid (L=l.length):=hL
 have HAO:Hid (l≠[]→∃g,ao=some ⟨g,0,none⟩):=hao
 have H5:Hid (¬((an:Int)=16∧l.length=0)):=h5
 have HX:Hid (x=sayV (an:Int) l):=hx
 rw[←hL]at HR hl ⊢
 clear hr hls hk hx hL h3 h4 h5 h6 hw7 hp7 hb7 hao h1
 go_enter Tryz.func184,Tryz.ntmps184
 go_wp2_with fail
 refine HSH.mono ?_
 rintro e w1 ⟨rfl,hw1⟩
 subst hw1
 clear HSH
 generalize w.alloc (.cells #[.int .i64 (an:Int),.int .i64 (bn:Int)] 171)=W at *
 by_cases h16:an=16
 ·subst h16
  have hL0:0<L:=by have:=HL.out;have:=H5.out;omega
  have hl0:0<l.length:=by have:=HL.out;omega
  obtain⟨b2,o2,cap2,e2,_,_,c2⟩:=(SrcE.ofRow HR.out).get (l.length-1) (by omega)
  simp only[Value.slice.injEq]at e2
  obtain⟨rfl,hxe,rfl⟩:=e2
  clear hxe
  have hle:l[l.length-1]=x:=by rw[HX.out];simp[sayV,lastN,List.getD,show l.length-1<l.length by omega]
  rw[hle,←HL.out]at c2
  unfold natV at c2
  obtain⟨m,hm⟩:∃m,m=L-1:=⟨_,rfl⟩
  rw[←hm]at c2
  have hmI:(L:Int)-1=(m:Int):=by omega
  have hmL:m<L:=by omega
  have hwm:IntKind.i64.wrap (m:Int)=(m:Int):=by rw[IntKind.wrap_i64];omega
  clear hm hle hl0 hL0
  go_wp2_with fail
  go_loopg [0,32] k (fun q zv zi wr=>∃(i:Nat),k-i≤q∧i≤k∧zi=.int .i64 (i:Nat)∧Hid (NRow B wr zv (l++List.replicate i x))∧Hid (Kept (Over B) w wr))
  case atStart=>exact⟨0,by omega,by omega,rfl,hid (by simpa using HR.out),HK0⟩
  case round=>
   clear HR HK0 cA cB
   obtain⟨i,hq,hi,rfl,HV,HK⟩:=hrel
   by_cases hlt:i<k
   ·have hsz2:=HK.out.size
    have HLN:Hid ((l++List.replicate i x).length+[x].length≤1000000000):=hid (by have:=HL.out;simp;omega)
    go_wp2_with (at_builtin;refine wpList_append_e _ natV natV_one B 45 3 (natV 0) 8 Tryz.underlying45 Tryz.infoN rfl (by decide) rfl (.tmp 34) (.tmp 36) rfl u0 (l++List.replicate i x) rfl (World.ownsRow.alloc HV.out _) ⟨wr.heap.size,0,none⟩ 1 1 [x] rfl rfl (cellsAt_new _ _ _) HLN.out (by simp;omega) ?_;intro v5 w5 hr5 hg5)
    have HV5:Hid (NRow B w5 v5 (l++List.replicate (i+1) x)):=hid (by rw[List.replicate_succ',←List.append_assoc];exact hr5)
    have HK5:Hid (Kept (Over B) w w5):=hid ((HK.out.alloc _).grown hg5 (fun j e=>.inl (HV.out.ge e)))
    clear hr5 hg5
    go_wp2_with fail
    go_roundg (gk-1)
    case measure=>omega
    case rel=>exact⟨i+1,by omega,by omega,by go_num,HV5,HK5⟩
   ·have hik:i=k:=by omega
    subst hik
    go_wp2_with fail
    go_ret
    exact⟨_,rfl,HV.out,HK.out⟩
 ·have e16:((an:Int)==16)=false:=by simp;omega
  by_cases h17:an=17
  ·subst h17
   have hx0:x=0:=by rw[HX.out];simp[sayV]
   subst hx0
   go_wp2_with fail
   go_loopg [0,32] k (fun q zv zi wr=>∃(i:Nat),k-i≤q∧i≤k∧zi=.int .i64 (i:Nat)∧Hid (NRow B wr zv (l++List.replicate i 0))∧Hid (Kept (Over B) w wr))
   case atStart=>exact⟨0,by omega,by omega,rfl,hid (by simpa using HR.out),HK0⟩
   case round=>
    clear HR HK0 cA cB
    obtain⟨i,hq,hi,rfl,HV,HK⟩:=hrel
    by_cases hlt:i<k
    ·have hsz2:=HK.out.size
     have HLN:Hid ((l++List.replicate i 0).length+[0].length≤1000000000):=hid (by have:=HL.out;simp;omega)
     go_wp2_with (at_builtin;refine wpList_append_e _ natV natV_one B 45 3 (natV 0) 8 Tryz.underlying45 Tryz.infoN rfl (by decide) rfl (.tmp 34) (.tmp 36) rfl u0 (l++List.replicate i 0) rfl (World.ownsRow.alloc HV.out _) ⟨wr.heap.size,0,none⟩ 1 1 [0] rfl rfl (cellsAt_new _ _ _) HLN.out (by simp;omega) ?_;intro v5 w5 hr5 hg5)
     have HV5:Hid (NRow B w5 v5 (l++List.replicate (i+1) 0)):=hid (by rw[List.replicate_succ',←List.append_assoc];exact hr5)
     have HK5:Hid (Kept (Over B) w w5):=hid ((HK.out.alloc _).grown hg5 (fun j e=>.inl (HV.out.ge e)))
     clear hr5 hg5
     go_wp2_with fail
     go_roundg (gk-1)
     case measure=>omega
     case rel=>exact⟨i+1,by omega,by omega,by go_num,HV5,HK5⟩
    ·have hik:i=k:=by omega
     subst hik
     go_wp2_with fail
     go_ret
     exact⟨_,rfl,HV.out,HK.out⟩
  ·have e17:((an:Int)==17)=false:=by simp;omega
   by_cases h18:an=18
   ·subst h18
    have hx0:x=0:=by rw[HX.out];simp[sayV]
    subst hx0
    go_wp2_with fail
    go_loopg [0,32] k (fun q zv zi wr=>∃(i:Nat),k-i≤q∧i≤k∧zi=.int .i64 (i:Nat)∧Hid (NRow B wr zv (l++List.replicate i 0))∧Hid (Kept (Over B) w wr))
    case atStart=>exact⟨0,by omega,by omega,rfl,hid (by simpa using HR.out),HK0⟩
    case round=>
     clear HR HK0 cA cB
     obtain⟨i,hq,hi,rfl,HV,HK⟩:=hrel
     by_cases hlt:i<k
     ·have hsz2:=HK.out.size
      have HLN:Hid ((l++List.replicate i 0).length+[0].length≤1000000000):=hid (by have:=HL.out;simp;omega)
      go_wp2_with (at_builtin;refine wpList_append_e _ natV natV_one B 45 3 (natV 0) 8 Tryz.underlying45 Tryz.infoN rfl (by decide) rfl (.tmp 34) (.tmp 36) rfl u0 (l++List.replicate i 0) rfl (World.ownsRow.alloc HV.out _) ⟨wr.heap.size,0,none⟩ 1 1 [0] rfl rfl (cellsAt_new _ _ _) HLN.out (by simp;omega) ?_;intro v5 w5 hr5 hg5)
      have HV5:Hid (NRow B w5 v5 (l++List.replicate (i+1) 0)):=hid (by rw[List.replicate_succ',←List.append_assoc];exact hr5)
      have HK5:Hid (Kept (Over B) w w5):=hid ((HK.out.alloc _).grown hg5 (fun j e=>.inl (HV.out.ge e)))
      clear hr5 hg5
      go_wp2_with fail
      go_roundg (gk-1)
      case measure=>omega
      case rel=>exact⟨i+1,by omega,by omega,by go_num,HV5,HK5⟩
     ·have hik:i=k:=by omega
      subst hik
      go_wp2_with fail
      go_ret
      exact⟨_,rfl,HV.out,HK.out⟩
   ·have e18:((an:Int)==18)=false:=by simp;omega
    have hx0:x=an:=by rw[HX.out];unfold sayV;rw[if_neg (by omega),if_neg (by omega)];simp
    clear h16 h17 h18
    subst hx0
    go_wp2_with fail
    go_loopg [0,32] k (fun q zv zi wr=>∃(i:Nat),k-i≤q∧i≤k∧zi=.int .i64 (i:Nat)∧Hid (NRow B wr zv (l++List.replicate i x))∧Hid (Kept (Over B) w wr))
    case atStart=>exact⟨0,by omega,by omega,rfl,hid (by simpa using HR.out),HK0⟩
    case round=>
     clear HR HK0 cA cB
     obtain⟨i,hq,hi,rfl,HV,HK⟩:=hrel
     by_cases hlt:i<k
     ·have hsz2:=HK.out.size
      have HLN:Hid ((l++List.replicate i x).length+[x].length≤1000000000):=hid (by have:=HL.out;simp;omega)
      go_wp2_with (at_builtin;refine wpList_append_e _ natV natV_one B 45 3 (natV 0) 8 Tryz.underlying45 Tryz.infoN rfl (by decide) rfl (.tmp 34) (.tmp 36) rfl u0 (l++List.replicate i x) rfl (World.ownsRow.alloc HV.out _) ⟨wr.heap.size,0,none⟩ 1 1 [x] rfl rfl (cellsAt_new _ _ _) HLN.out (by simp;omega) ?_;intro v5 w5 hr5 hg5)
      have HV5:Hid (NRow B w5 v5 (l++List.replicate (i+1) x)):=hid (by rw[List.replicate_succ',←List.append_assoc];exact hr5)
      have HK5:Hid (Kept (Over B) w w5):=hid ((HK.out.alloc _).grown hg5 (fun j e=>.inl (HV.out.ge e)))
      clear hr5 hg5
      go_wp2_with fail
      go_roundg (gk-1)
      case measure=>omega
      case rel=>exact⟨i+1,by omega,by omega,by go_num,HV5,HK5⟩
     ·have hik:i=k:=by omega
      subst hik
      go_wp2_with fail
      go_ret
      exact⟨_,rfl,HV.out,HK.out⟩

end Go.Proofs.YtggcbnhckcenmaaGreatDoor

namespace Go.Proofs.YtggcbnhckcenmaaGreatDoor
open Go.RowKit

theorem inB_bad(z:Int):(!inB z 0 15)=badI 0 15 z:=by
 unfold inB badI
 by_cases h1:0≤z
 ·by_cases h2:z≤15
  ·have h3:¬z<0:=by omega
   have h4:¬15<z:=by omega
   simp[h1,h2,h3,h4]
  ·have h3:¬z<0:=by omega
   have h4:15<z:=by omega
   simp[h1,h2,h3,h4]
 ·have h3:z<0:=by omega
  simp[h1,h3]

set_option maxHeartbeats 1000000 in
theorem lwrong_any(w:World)(z:Int):
  Calls Tryz.prog 128 #[.int .i64 z] w fun e w'=>e=.returned (.bool (badI 0 15 z))∧w'=w:=by
 have HW:=within_any w z 0 15
 go_enter Tryz.func128,Tryz.ntmps128
 go_wp2_with fail
 refine HW.mono ?_
 rintro e w1 ⟨rfl,hw1⟩
 subst hw1
 clear HW
 go_wp2_with fail
 go_ret
 exact⟨by rw[←inB_bad];rfl,rfl⟩

abbrev lwrongV:Value:=.func (.func 128) #[] #[]

set_option maxHeartbeats 1000000 in
theorem lindex_any(w:World)(v:Value)(I:Nat→Prop)(zs:List Int)(hs:SrcE intV w I v zs)(hn:zs.length≤10000000):
  Calls Tryz.prog 157 #[v,lwrongV] w fun e w'=>(∃z:Int,e=.returned (.int .i64 z)∧decide (0≤z)=zs.any (badI 0 15))∧w'=w:=by
 obtain⟨ao,cap,rfl,hx1,hx2⟩:=id hs
 clear hx1 hx2
 have HS:Hid (SrcE intV w I (.slice ao zs.length cap) zs):=hs
 clear hs
 go_enter Tryz.func157,Tryz.ntmps157
 go_wp2_with fail
 go_loopg [8] zs.length (fun k z wr=>∃i:Nat,zs.length-i≤k∧i≤zs.length∧z=.int .i64 (i:Nat)∧Hid ((zs.take i).any (badI 0 15)=false)∧wr=w)
 case atStart=>exact⟨0,by omega,by omega,rfl,hid (by simp),rfl⟩
 case round=>
  obtain⟨i,hk,hil,rfl,HF,hw⟩:=hrel
  subst hw
  by_cases hlt:i<zs.length
  ·obtain⟨b,o,cap2,e,_,_,hc⟩:=HS.out.get i hlt
   simp only[Value.slice.injEq]at e
   obtain⟨rfl,hxe,rfl⟩:=e
   clear hxe
   obtain⟨x,hx⟩:∃x,x=zs[i]:=⟨_,rfl⟩
   rw[←hx]at hc
   unfold intV at hc
   have HX:Hid (x=zs[i]):=hx
   have HC:=lwrong_any wr x
   clear hx
   cases hb:badI 0 15 x with
   | true=>
    rw[hb]at HC
    have HB:Hid (badI 0 15 x=true):=hb
    clear hb
    go_wp2_with fail
    refine HC.mono ?_
    rintro e w2 ⟨rfl,hw2⟩
    subst hw2
    clear HC
    go_wp2_with fail
    go_ret
    refine⟨⟨_,rfl,?_⟩,rfl⟩
    have h1:zs.any (badI 0 15)=true:=List.any_eq_true.2 ⟨x,by rw[HX.out];exact List.getElem_mem _,HB.out⟩
    rw[h1];simp
   | false=>
    rw[hb]at HC
    have HB:Hid (badI 0 15 x=false):=hb
    clear hb
    go_wp2_with fail
    refine HC.mono ?_
    rintro e w2 ⟨rfl,hw2⟩
    subst hw2
    clear HC
    go_wp2_with fail
    go_roundg (gk-1)
    case measure=>omega
    case rel=>
     refine⟨i+1,by omega,by omega,by go_num,hid ?_,rfl⟩
     rw[List.take_succ_eq_append_getElem hlt,List.any_append,HF.out,←HX.out]
     simp[HB.out]
  ·have:i=zs.length:=by omega
   subst this
   go_wp2_with fail
   go_ret
   refine⟨⟨_,rfl,?_⟩,rfl⟩
   have h:=HF.out
   rw[List.take_of_length_le (Nat.le_refl _)]at h
   rw[h];simp

set_option maxHeartbeats 1000000 in
theorem lcontains_any(w:World)(v:Value)(I:Nat→Prop)(zs:List Int)(hs:SrcE intV w I v zs)(hn:zs.length≤10000000):
  Calls Tryz.prog 129 #[v,lwrongV] w fun e w'=>e=.returned (.bool (!lensOk zs))∧w'=w:=by
 have H:=lindex_any w v I zs hs hn
 clear hs
 go_enter Tryz.func129,Tryz.ntmps129
 go_wp2_with fail
 refine H.mono ?_
 rintro e w2 ⟨⟨z,rfl,hz⟩,hw⟩
 subst hw
 have HZ:Hid (decide (0≤z)=zs.any (badI 0 15)):=hz
 clear hz H
 go_wp2_with fail
 go_ret
 refine⟨?_,rfl⟩
 unfold lensOk
 rw[Bool.not_not,←HZ.out];rfl

set_option maxHeartbeats 1000000 in
theorem lother_any(w:World)(q b o n cap x y:Nat)(hq:w.cell? ⟨q,0,none⟩=some (.slice (some ⟨b,o,none⟩) n cap))(hn:0<n)(hb:w.cell? ⟨b,o,none⟩=some (.int .i64 (y:Nat))):
  Calls Tryz.prog 158 #[.int .i64 (x:Nat),.pointer (some ⟨q,0,none⟩)] w fun e w'=>e=.returned (.bool (!decide (x=y)))∧w'=w:=by
 go_enter Tryz.func158,Tryz.ntmps158
 by_cases h:x=y
 ·subst h
  go_wp2_with fail
  go_ret
  exact⟨by simp,rfl⟩
 ·have hne:((x:Int)==(y:Int))=false:=by simp;omega
  have HH:Hid ((!decide (x=y))=true∧¬(x:Int)=(y:Int)):=hid ⟨by simp[h],by omega⟩
  clear h
  go_wp2_with fail
  go_ret
  exact⟨by rw[HH.out.1];simp[HH.out.2],rfl⟩

abbrev lotherV(q:Nat):Value:=.func (.func 158) #[] #[.pointer (some ⟨q,0,none⟩)]

set_option maxHeartbeats 1000000 in
theorem lfirst_any(w:World)(b o cap q y:Nat)(I:Nat→Prop)(ns:List Nat)(hs:SrcE natV w I (.slice (some ⟨b,o,none⟩) ns.length cap) ns)(hn:ns.length≤1000000)(h0:0<ns.length)(hy:ns[0]=y)
  (hq:w.cell? ⟨q,0,none⟩=some (.slice (some ⟨b,o,none⟩) ns.length cap)):
  Calls Tryz.prog 157 #[.slice (some ⟨b,o,none⟩) ns.length cap,lotherV q] w fun e w'=>((e=.returned (.int .i64 (-1))∧∀j (_:j<ns.length),ns[j]=y)∨∃i,e=.returned (.int .i64 (i:Nat))∧∃h:i<ns.length,ns[i]≠y∧∀j (_:j<ns.length),j<i→ns[j]=y)∧w'=w:=by
 have c0:w.cell? ⟨b,o,none⟩=some (.int .i64 (y:Nat)):=by
  obtain⟨b',o',cap',e,_,_,c⟩:=hs.get 0 h0
  simp only[Value.slice.injEq,Option.some.injEq,Addr.mk.injEq,and_true]at e
  obtain⟨⟨rfl,rfl⟩,_,_⟩:=e
  rw[hy]at c
  exact c
 have HS:Hid (SrcE natV w I (.slice (some ⟨b,o,none⟩) ns.length cap) ns):=hs
 clear hs hy
 go_enter Tryz.func157,Tryz.ntmps157
 go_wp2_with fail
 go_loopg [8] ns.length (fun k z wr=>∃i:Nat,ns.length-i≤k∧i≤ns.length∧z=.int .i64 (i:Nat)∧Hid (∀j (_:j<ns.length),j<i→ns[j]=y)∧wr=w)
 case atStart=>exact⟨0,by omega,by omega,rfl,hid (fun j _ h=>by omega),rfl⟩
 case round=>
  obtain⟨i,hk,hil,rfl,HF,hw⟩:=hrel
  subst hw
  by_cases hlt:i<ns.length
  ·obtain⟨b',o',cap2,e,_,_,hc⟩:=HS.out.get i hlt
   simp only[Value.slice.injEq,Option.some.injEq,Addr.mk.injEq,and_true]at e
   obtain⟨⟨rfl,rfl⟩,hxe,rfl⟩:=e
   clear hxe
   obtain⟨x,hx⟩:∃x,x=ns[i]:=⟨_,rfl⟩
   rw[←hx]at hc
   unfold natV at hc
   have HX:Hid (x=ns[i]):=hx
   have HC:=lother_any wr q b o ns.length cap x y hq h0 c0
   clear hx
   by_cases hb:x=y
   ·have HB:Hid (x=y):=hb
    have hd:(!decide (x=y))=false:=by simp[hb]
    rw[hd]at HC
    clear hb hd
    go_wp2_with fail
    refine HC.mono ?_
    rintro e w2 ⟨rfl,hw2⟩
    subst hw2
    clear HC
    go_wp2_with fail
    go_roundg (gk-1)
    case measure=>omega
    case rel=>
     refine⟨i+1,by omega,by omega,by go_num,hid (fun j hj hji=>?_),rfl⟩
     by_cases e:j=i
     ·subst e;rw[←HX.out,HB.out]
     ·exact HF.out j hj (by omega)
   ·have HB:Hid (x≠y):=hb
    have hd:(!decide (x=y))=true:=by simp[hb]
    rw[hd]at HC
    clear hb hd
    go_wp2_with fail
    refine HC.mono ?_
    rintro e w2 ⟨rfl,hw2⟩
    subst hw2
    clear HC
    go_wp2_with fail
    go_ret
    exact⟨.inr ⟨i,rfl,hlt,by rw[←HX.out];exact HB.out,HF.out⟩,rfl⟩
  ·have:i=ns.length:=by omega
   subst this
   go_wp2_with fail
   go_ret
   exact⟨.inl ⟨rfl,fun j hj=>HF.out j hj hj⟩,rfl⟩

theorem front_of{y:Nat}{r:List Nat}{n:Nat}(h:(n=(y::r).length∧∀j (_:j<(y::r).length),(y::r)[j]=y)∨∃h:n<(y::r).length,(y::r)[n]≠y∧∀j (_:j<(y::r).length),j<n→(y::r)[j]=y):n=1+frontN y r:=by
 rcases h with⟨h1,h2⟩ | ⟨h1,h2,h3⟩
 ·have:=frontN_is y r r.length (fun j hj _=>by have:=h2 (j+1) (by simpa using hj);rw[List.getElem_cons_succ]at this;exact this) (Nat.le_refl _) (fun h=>by omega)
  rw[this,h1]
  simp;omega
 ·cases n with
  | zero=>simp at h2
  | succ n=>
   have:=frontN_is y r n (fun j hj hjn=>by have:=h3 (j+1) (by simpa using hj) (by omega);rw[List.getElem_cons_succ]at this;exact this) (by simp at h1;omega) (fun _=>by simpa using h2)
   rw[this]
   omega

set_option maxHeartbeats 1000000 in
theorem alike_any(w:World)(b o cap:Nat)(I:Nat→Prop)(y:Nat)(r:List Nat)(hs:SrcE natV w I (.slice (some ⟨b,o,none⟩) (y::r).length cap) (y::r))(hn:(y::r).length≤1000000):
  Calls Tryz.prog 130 #[.slice (some ⟨b,o,none⟩) (y::r).length cap] w fun e w'=>e=.returned (.int .i64 ((1+frontN y r:Nat):Int))∧Same w w':=by
 obtain⟨W,hW⟩:∃W,W=w.alloc (.cells #[.slice (some ⟨b,o,none⟩) (y::r).length cap] 45):=⟨_,rfl⟩
 have HK:Hid (Same w W):=hid (by rw[hW];exact(Kept.refl _ w).alloc _)
 have hq:W.cell? ⟨w.heap.size,0,none⟩=some (.slice (some ⟨b,o,none⟩) (y::r).length cap):=by rw[hW];simp
 have HC:=lfirst_any W b o cap w.heap.size y I (y::r) (hs.same HK.out) hn (by simp) rfl hq
 have HC2:Calls Tryz.prog 157 #[.slice (some ⟨b,o,none⟩) (y::r).length cap,lotherV w.heap.size] W fun e w'=>((e=.returned (.int .i64 (-1))∧(y::r).length=1+frontN y r)∨∃i:Nat,e=.returned (.int .i64 (i:Nat))∧i=1+frontN y r)∧w'=W:=HC.mono (by
  rintro e w' ⟨h,hw⟩
  refine⟨?_,hw⟩
  rcases h with⟨h1,h2⟩ | ⟨i,h1,h2,h3,h4⟩
  ·exact .inl ⟨h1,front_of (.inl ⟨rfl,h2⟩)⟩
  ·exact .inr ⟨i,h1,front_of (.inr ⟨h2,h3,h4⟩)⟩)
 clear HC
 obtain⟨L,hL⟩:∃L,L=(y::r).length:=⟨_,rfl⟩
 rw[←hL]at HC2 hq hW ⊢
 obtain⟨f,hf⟩:∃f,f=1+frontN y r:=⟨_,rfl⟩
 rw[←hf]at HC2 ⊢
 clear hs hL hn hf
 go_enter Tryz.func130,Tryz.ntmps130
 go_wp2_with fail
 rw[←hW]
 clear hW
 go_wp2_with fail
 refine HC2.mono ?_
 rintro e w2 ⟨h,hw2⟩
 subst hw2
 clear HC2
 rcases h with⟨rfl,hLf⟩ | ⟨i,rfl,hif⟩
 ·subst hLf
  go_wp2_with fail
  go_ret
  exact⟨rfl,HK.out⟩
 ·subst hif
  go_wp2_with fail
  go_ret
  exact⟨rfl,HK.out⟩

end Go.Proofs.YtggcbnhckcenmaaGreatDoor

namespace Go.Proofs.YtggcbnhckcenmaaGreatDoor
open Go.RowKit

def syE(g wrong:Nat):Nat:=if g=10 then 55 else if g=32 then wrong else 0

theorem RNext.small{ns t:List Nat}{is k g:Nat}(h:RNext ns t is k g):g=0∨g=10∨g=32:=by
 rcases h with⟨h,_⟩ | ⟨h,_⟩ | ⟨h,_⟩<;>omega
theorem RNext.fits{ns t:List Nat}{is k g:Nat}(h:RNext ns t is k g):k≤t.length:=by
 rcases h with⟨_,_,hf,hk,_⟩ | ⟨_,_,hk,_⟩ | ⟨_,_,hk,_⟩
 ·have h1:=hf.2.length_le
  rw[rowOf_length]at h1
  omega
 ·omega
 ·omega
def SymA(h:Nat)(v:Value)(vo:Value)(most:Nat)(ns ls:List Nat)(c e wrong:Nat)(r:Ending)(w':World):Prop:=
 if e≠0 then r=.returned (.int .i64 0)∧RdB w' h v c vo most e
 else r=.returned (.int .i64 ((nextF ns (ls.drop c)).1:Nat))∧RdB w' h v (c+(nextF ns (ls.drop c)).2.1) vo most (syE (nextF ns (ls.drop c)).2.2 wrong)

set_option maxRecDepth 100000 in
set_option maxHeartbeats 4000000 in
theorem isym_any(w w0:World)(h:Nat)(v:Value)(I:Nat→Prop)(ls:List Nat)(c:Nat)(vo:Value)(most e wrong go L:Nat)(ns:List Nat)(rs:List (Option Addr×Nat×Nat))(hH:RdB w h v c vo most e)(hs:Src w I v ls)(hc:c≤ls.length)(hlen:ls.length≤100000000)
  (hR:RW w0 w go L ns (fun s=>key ns s≠0) rs) (hL:L=ns.length) (hl288:L≤288) (h15:∀s,key ns s≤15):
  Calls Tryz.prog 136 #[.pointer (some ⟨h,0,none⟩),.slice (some ⟨go,0,none⟩) L L,.int .i64 (wrong:Nat)] w fun r w'=>SymA h v vo most ns ls c e wrong r w'∧Kept (·=h) w w':=by
 by_cases he:e=0
 ·subst he
  obtain⟨ao,cap,rfl,hsa⟩:=id hs
  clear hsa
  have HH:Hid (RdB w h (.slice ao ls.length cap) c vo most 0):=hH
  have HS:Hid (Src w I (.slice ao ls.length cap) ls):=hs
  have HR:Hid (RW w0 w go L ns (fun s=>key ns s≠0) rs):=hR
  have HA:Hid (L=ns.length∧∀s,key ns s≤15):=⟨hL,h15⟩
  obtain⟨M,hM⟩:∃M,M=ls.length:=⟨_,rfl⟩
  rw[←hM]at HH HS hc hlen ⊢
  have HM:Hid (M=ls.length):=hM
  obtain⟨is,k,g,hnf⟩:∃is k g,nextF ns (ls.drop c)=(is,k,g):=⟨_,_,_,rfl⟩
  have HNF:Hid (nextF ns (ls.drop c)=(is,k,g)):=hnf
  have hrn:=nextF_is ns (ls.drop c)
  rw[hnf]at hrn
  simp only at hrn
  have HRN:Hid (RNext ns (ls.drop c) is k g):=hrn
  have hkle:c+k≤M:=by
   have:=hrn.fits
   rw[List.length_drop]at this
   omega
  have hg3:=hrn.small
  clear hH hs hR hL h15 hM hnf hrn
  have c0:=HH.out.cell 0
  have c1:=HH.out.cell 1
  have c4:=HH.out.cell 4
  simp at c0 c1 c4
  have HNX:=rnext_any w.drew w0 go L ns rs (.slice ao M cap) I ls c (HR.out.kept (F:=fun _=>False) ((Kept.refl _ w).drew) (fun _ _ f=>f) (fun f=>f) (fun _ _ _ _ _ f=>f)) HA.out.1 hl288 HA.out.2 (HS.out.kept ((Kept.refl (fun _=>False) w).drew) (fun _ _ _ f=>f)) (by have:=HM.out;omega) (by have:=HM.out;omega)
  have HHX:Hid (Calls Tryz.prog 161 #[.slice (some ⟨go,0,none⟩) L L,.slice ao M cap,.int .i64 (c:Nat)] w.drew fun e w'=>e=.returned (.tuple #[.int .i64 (is:Nat),.int .i64 (k:Nat),.int .i64 (g:Nat)])∧Same w w'):=hid (HNX.mono (by
   rintro e w' ⟨⟨is2,k2,g2,rfl,hr2⟩,hk⟩
   obtain⟨rfl,rfl,rfl⟩:=hr2.one HRN.out
   exact⟨rfl,⟨hk.os,hk.tape,hk.output,hk.size,hk.block⟩⟩))
  clear HNX
  obtain⟨ck,hck⟩:∃ck,ck=c+k:=⟨_,rfl⟩
  have hckI:(c:Int)+(k:Int)=(ck:Int):=by omega
  have HCK:Hid (ck=c+k):=hck
  clear hck
  go_enter Tryz.func136,Tryz.ntmps136
  go_wp2_with fail
  go_region_with (go_at_call 161;refine HHX.out.mono ?_;rintro e w4 ⟨rfl,hk4⟩)
  all_goals
   have HK4:Hid (Same w w4):=hk4
   have HH4:Hid (RdB w4 h (.slice ao M cap) c vo most 0):=hid (HH.out.kept hk4 (fun f=>f))
   have d1:=HH4.out.cell 1
   have d4:=HH4.out.cell 4
   have g1:=HH4.out.frozen 1
   have g4:=HH4.out.frozen 4
   simp at d1 d4
   have HKW:Hid (Kept (·=h) w w4):=hid (Kept.mono hk4 (fun _ _ f=>f.elim))
   clear hk4 c0 c1 c4
   have hA:∀e5,e5=syE g wrong→∀wF,RdB wF h (.slice ao M cap) ck vo most e5→Kept (·=h) w wF→SymA h (.slice ao M cap) vo most ns ls c 0 wrong (.returned (.int .i64 (is:Nat))) wF∧Kept (·=h) w wF:=by
    intro e5 h5 wF hb hk
    refine⟨?_,hk⟩
    unfold SymA
    rw[if_neg (by simp),HNF.out]
    simp only
    rw[←HCK.out,←h5]
    exact⟨trivial,hb⟩
   have HAA:Hid (∀e5,e5=syE g wrong→∀wF,RdB wF h (.slice ao M cap) ck vo most e5→Kept (·=h) w wF→SymA h (.slice ao M cap) vo most ns ls c 0 wrong (.returned (.int .i64 (is:Nat))) wF∧Kept (·=h) w wF):=hA
   clear hA
   by_cases hg0:g=0
   ·subst hg0
    go_wp2_with fail
    go_ret
    refine HAA.out 0 rfl _ ?_ (HKW.out.setCell ⟨h,1,none⟩ _ (.inl rfl))
    have hb:=HH4.out.set 1 (.int .i64 (ck:Nat))
    simp at hb
    exact hb
   ·by_cases hg1:g=10
    ·subst hg1
     go_wp2_with fail
     go_ret
     refine HAA.out 55 rfl _ ?_ ((HKW.out.setCell ⟨h,4,none⟩ _ (.inl rfl)).setCell ⟨h,1,none⟩ _ (.inl rfl))
     have hb:=(HH4.out.set 4 (.int .i64 55)).set 1 (.int .i64 (ck:Nat))
     simp at hb
     exact hb
    ·have hg2:g=32:=by omega
     subst hg2
     go_wp2_with fail
     go_ret
     refine HAA.out wrong rfl _ ?_ ((HKW.out.setCell ⟨h,4,none⟩ _ (.inl rfl)).setCell ⟨h,1,none⟩ _ (.inl rfl))
     have hb:=(HH4.out.set 4 (.int .i64 (wrong:Nat))).set 1 (.int .i64 (ck:Nat))
     simp at hb
     exact hb
 ·have hed:((e:Int) != 0)=true:=by simp;omega
  have HE:Hid (e≠0):=he
  have HH:Hid (RdB w h v c vo most e):=hH
  have c4:=hH.cell 4
  simp at c4
  clear he hR hs hH
  go_enter Tryz.func136,Tryz.ntmps136
  go_wp2_with fail
  go_ret
  refine⟨?_,Kept.refl _ _⟩
  unfold SymA
  rw[if_pos HE.out]
  exact⟨rfl,HH.out⟩

structure RowsIn(w0:World)(G:Nat→Prop)(go:Nat)(ns:List Nat)(rs:List (Option Addr×Nat×Nat)):Prop where
 low:∀k,k<w0.heap.size→G k
 at':G go
 own:∀s (hs:s<rs.length),key ns s≠0→∀k,(slV rs[s]).ownBlock=some k→G k

theorem RW.inn{w0 w' w2:World}{G:Nat→Prop}{go n:Nat}{ns:List Nat}{rs:List (Option Addr×Nat×Nat)}(hr:RW w0 w' go n ns (fun s=>key ns s≠0) rs)(hi:RowsIn w0 G go ns rs)(hk:KG G w' w2):RW w0 w2 go n ns (fun s=>key ns s≠0) rs:=
 hr.kept hk (fun k hlt f=>f (hi.low k hlt)) (fun f=>f hi.at') (fun s hs hp k e f=>f (hi.own s hs hp k e))

theorem sy_stuck{ns ls:List Nat}{s:S5}{wrong:Nat}(h:s.e≠0):sy ns ls s wrong=(0,s):=by unfold sy;rw[if_pos h]

theorem sym5(w w0:World)(I G:Nat→Prop)(h:Nat)(v:Value)(ls:List Nat)(most:Nat)(s:S5)(wrong go L:Nat)(ns:List Nat)(rs:List (Option Addr×Nat×Nat))(hz:Sz ls most)(hr:RX w I G h v ls most s)
  (hR:RW w0 w go L ns (fun s=>key ns s≠0) rs) (hL:L=ns.length) (hl288:L≤288) (h15:∀s,key ns s≤15):
  Calls Tryz.prog 136 #[.pointer (some ⟨h,0,none⟩),.slice (some ⟨go,0,none⟩) L L,.int .i64 (wrong:Nat)] w fun r w'=>r=.returned (.int .i64 ((sy ns ls s wrong).1:Nat))∧RX w' I G h v ls most (sy ns ls s wrong).2∧KG G w w':=by
 obtain⟨c,vo,r⟩:=hr
 refine(isym_any w w0 h v I ls c vo most s.e wrong go L ns rs r.blk r.src r.le (by have:=hz.len;omega) hR hL hl288 h15).mono ?_
 rintro x w' ⟨hA,hk⟩
 unfold SymA at hA
 obtain⟨sc,so,se⟩:=s
 by_cases he:se=0
 ·subst he
  have hc:c=sc:=r.pl rfl
  subst hc
  rw[if_neg (by simp)]at hA
  obtain⟨rfl,hb⟩:=hA
  have hrn:=(nextF_is ns (ls.drop c)).fits
  rw[List.length_drop]at hrn
  have hle:=r.le
  have e1:sy ns ls ⟨c,so,0⟩ wrong=((nextF ns (ls.drop c)).1,⟨c+(nextF ns (ls.drop c)).2.1,so,syE (nextF ns (ls.drop c)).2.2 wrong⟩):=by
   unfold sy;rw[if_neg (by simp)];rfl
  rw[e1]
  exact⟨rfl,⟨_,_,r.turn hk hb (fun _=>rfl) (by omega)⟩,r.kg hk⟩
 ·rw[if_pos he]at hA
  obtain⟨rfl,hb⟩:=hA
  rw[sy_stuck he]
  exact⟨rfl,⟨_,_,r.turn hk hb (fun e=>absurd e he) r.le⟩,r.kg hk⟩

end Go.Proofs.YtggcbnhckcenmaaGreatDoor

namespace Go.Proofs.YtggcbnhckcenmaaGreatDoor
open Go.RowKit

theorem RX.err{w:World}{I G:Nat→Prop}{h:Nat}{v:Value}{ls:List Nat}{most:Nat}{s:S5}(r:RX w I G h v ls most s):w.cell? ⟨h,4,none⟩=some (.int .i64 (s.e:Nat))∧w.frozen? ⟨h,4,none⟩=false:=by
 obtain⟨c,vo,r⟩:=r
 have c4:=r.blk.cell 4
 simp at c4
 exact⟨c4,r.blk.frozen 4⟩

theorem RX.wrong{w:World}{I G:Nat→Prop}{h:Nat}{v:Value}{ls:List Nat}{most:Nat}{s:S5}(r:RX w I G h v ls most s)(x:Nat)(hx:x≠0):RX (w.setCell ⟨h,4,none⟩ (.int .i64 (x:Nat))) I G h v ls most {s with e:=x}∧KG G w (w.setCell ⟨h,4,none⟩ (.int .i64 (x:Nat))):=by
 obtain⟨c,vo,r⟩:=r
 have hk:Kept (·=h) w (w.setCell ⟨h,4,none⟩ (.int .i64 (x:Nat))):=(Kept.refl (·=h) w).setCell ⟨h,4,none⟩ _ (.inl rfl)
 have hb:=r.blk.set 4 (.int .i64 (x:Nat))
 simp at hb
 exact⟨⟨c,vo,r.turn hk hb (fun e=>absurd e hx) r.le⟩,r.kg hk⟩

theorem ly_e(most:Nat)(s:S5)(b:Nat):(ly most s b).c=s.c:=by
 unfold ly;split
 ·rfl
 ·split<;>rfl

end Go.Proofs.YtggcbnhckcenmaaGreatDoor

namespace Go.Proofs.YtggcbnhckcenmaaGreatDoor
open Go.RowKit

theorem RX.drew{w:World}{I G:Nat→Prop}{h:Nat}{v:Value}{ls:List Nat}{most:Nat}{s:S5}(r:RX w I G h v ls most s):RX w.drew I G h v ls most s:=by
 obtain⟨c,vo,r⟩:=r
 exact⟨c,vo,r.blk,r.row,r.ne,r.gh,r.go,r.lt,r.src,r.ig,r.pl,r.le,r.ol,r.by'⟩

theorem cp5_zero(most far:Nat)(s:S5):cp5 most far 0 s=s:=rfl
theorem cp5_stuck(most far k:Nat)(s:S5)(h:s.e≠0):cp5 most far k s=s:=by
 cases k with
 | zero=>rfl
 | succ k=>simp only[cp5];rw[if_pos h]
theorem cp5_go(most far k:Nat)(s:S5)(h:s.e=0):cp5 most far (k+1) s=cp5 most far k (ly most s (s.out.getD (s.out.length-far) 0)):=by
 simp only[cp5];rw[if_neg (by simp[h])]

theorem ly_out(most:Nat)(s:S5)(b:Nat):s.out.length≤(ly most s b).out.length:=by
 unfold ly
 split
 ·exact Nat.le_refl _
 ·split
  ·exact Nat.le_refl _
  ·simp

theorem lbase_le(y:Nat)(hy:257≤y)(hy2:y≤285):lbase y≤3+32*(y-257):=by
 induction y with
 | zero=>omega
 | succ y ih=>
  by_cases h:257≤y
  ·rw[lbase_succ y h]
   have h1:=ih h (by omega)
   have h2:2 ^ xlen y≤32:=Nat.le_trans (Nat.pow_le_pow_right (by omega) (xlen_le y (by omega))) (by decide)
   omega
  ·have e:y=256:=by omega
   subst e
   decide
theorem dbase_le(y:Nat)(hy2:y≤29):1≤dbase y∧dbase y≤1+8192*y:=by
 induction y with
 | zero=>decide
 | succ y ih=>
  rw[dbase_succ y]
  have h0:=Nat.two_pow_pos (xdist y)
  have h1:=ih (by omega)
  have h2:2 ^ xdist y≤8192:=Nat.le_trans (Nat.pow_le_pow_right (by omega) (xdist_le y (by omega))) (by decide)
  omega

theorem len5_le(ls:List Nat)(hb:∀b∈ls,b<2)(s:S5)(y:Nat)(hy:257≤y)(hy2:y≤285):(len5 ls s y).1≤2000:=by
 unfold len5
 split
 ·simp only;omega
 ·have h1:=tk_lt ls hb s (xlen y)
  have h2:2 ^ xlen y≤32:=Nat.le_trans (Nat.pow_le_pow_right (by omega) (xlen_le y (by omega))) (by decide)
  have h3:=lbase_le y hy hy2
  simp only
  omega
theorem dist5_le(ls:List Nat)(hb:∀b∈ls,b<2)(s:S5)(y:Nat)(hy2:y≤29):1≤(dist5 ls s y).1∧(dist5 ls s y).1≤1000000:=by
 unfold dist5
 have h1:=tk_lt ls hb s (xdist y)
 have h2:2 ^ xdist y≤8192:=Nat.le_trans (Nat.pow_le_pow_right (by omega) (xdist_le y (by omega))) (by decide)
 have h3:=dbase_le y hy2
 simp only
 omega

theorem RX.outs{w:World}{I G:Nat→Prop}{h:Nat}{v:Value}{ls:List Nat}{most:Nat}{s:S5}(r:RX w I G h v ls most s):s.out.length≤most∧∃ao cap,w.cell? ⟨h,2,none⟩=some (.slice ao s.out.length cap)∧s.out.length≤cap∧(s.out≠[]→∃g,ao=some ⟨g,0,none⟩∧∀j (hj:j<s.out.length),w.cell? ⟨g,j,none⟩=some (.int .u8 (s.out[j]:Nat))∧s.out[j]<256):=by
 obtain⟨c,vo,r⟩:=r
 obtain⟨ao,cap,hv,hn,_,hcap,_⟩:=RowE.shape (enc:=byteV) (xs:=s.out) r.row
 subst hv
 have c2:=r.blk.cell 2
 simp at c2
 refine⟨r.ol,ao,cap,c2,hcap,fun hne=>?_⟩
 obtain⟨g,rfl⟩:=hn hne
 exact⟨g,rfl,fun j hj=>⟨Row.cell r.row j hj,r.by' _ (List.getElem_mem hj)⟩⟩

theorem copies5_far(ls:List Nat)(most:Nat)(dist:List Nat)(s:S5)(y:Nat)(h:y≤285)(n:Nat)(s1 s2 s3 s4:S5)(d:Nat)(e1:len5 ls s y=(n,s1))(e2:s2=if s1.e=0∧usedB dist=false then {s1 with e:=53} else s1)(e3:sy dist ls s2 53=(d,s3))(e4:s4=if s3.e=0∧29<d then {s3 with e:=53} else s3):
  copies5 ls most dist s y=if s4.e≠0 then s4 else cp5 most (dist5 ls s4 d).1 n (if (dist5 ls s4 d).2.e=0∧(dist5 ls s4 d).2.out.length<(dist5 ls s4 d).1 then {(dist5 ls s4 d).2 with e:=54} else(dist5 ls s4 d).2):=by
 unfold copies5
 rw[if_neg (by omega)]
 simp only
 rw[e1]
 simp only
 rw[←e2,e3]
 simp only
 rw[←e4]

end Go.Proofs.YtggcbnhckcenmaaGreatDoor

namespace Go.Proofs.YtggcbnhckcenmaaGreatDoor
open Go.RowKit

set_option maxRecDepth 100000 in
set_option maxHeartbeats 8000000 in
theorem copies5_any(w w0:World)(I G J:Nat→Prop)(h:Nat)(v:Value)(ls:List Nat)(most:Nat)(s:S5)(y:Nat)(vd:Value)(dist:List Nat)(go:Nat)(rs:List (Option Addr×Nat×Nat))(hz:Sz ls most)(hy:257≤y)(hy3:y≤1000)(hr:RX w I G h v ls most s)
  (hd:SrcE natV w J vd dist) (hJ:∀k,J k→G k) (hR:RW w0 w go dist.length dist (fun s=>key dist s≠0) rs) (hI:RowsIn w0 G go dist rs) (hl288:dist.length≤288) (h15:∀s,key dist s≤15):
  Calls Tryz.prog 137 #[.pointer (some ⟨h,0,none⟩),.int .i64 (y:Nat),vd,.slice (some ⟨go,0,none⟩) dist.length dist.length] w fun r w'=>(∃u,r=.returned u)∧RX w' I G h v ls most (copies5 ls most dist s y)∧KG G w w':=by
 have HR:Hid (RX w I G h v ls most s):=hr
 have HZ:Hid (Sz ls most):=hz
 have HD:Hid (SrcE natV w J vd dist∧∀k,J k→G k):=⟨hd,hJ⟩
 have HW:Hid (RW w0 w go dist.length dist (fun s=>key dist s≠0) rs):=hR
 have HI:Hid (RowsIn w0 G go dist rs):=hI
 have HA:Hid (dist.length≤288∧∀s,key dist s≤15):=⟨hl288,h15⟩
 obtain⟨k4,f4⟩:=hr.err
 have hmo:=hz.mo
 clear hr hz hd hJ hR hI h15
 by_cases hy2:285<y
 ·have HE:Hid (copies5 ls most dist s y={s with e:=53}):=hid (by unfold copies5;rw[if_pos hy2])
  go_enter Tryz.func137,Tryz.ntmps137
  go_wp2_with fail
  refine bodyPost_ret (results_none rfl _ _ _) rfl ?_
  rw[HE.out]
  have hW:=HR.out.wrong 53 (by decide)
  exact⟨⟨_,rfl⟩,hW.1,hW.2⟩
 ·have hyd:decide (285<y)=false:=by simp;omega
  have hy285:y≤285:=by omega
  have HY:Hid (y≤285):=hy285
  have T1:=length5 w I G h v ls most s y HZ.out hy hy285 HR.out
  have hn2:=len5_le ls HZ.out.bit s y hy hy285
  obtain⟨n,s1,e1⟩:∃n s1,len5 ls s y=(n,s1):=⟨_,_,rfl⟩
  rw[e1]at T1 hn2
  simp only at hn2
  have E1:Hid (len5 ls s y=(n,s1)):=e1
  clear e1 k4 f4
  go_enter Tryz.func137,Tryz.ntmps137
  go_wp2_with fail
  refine T1.mono ?_
  rintro r1 w1 ⟨rfl,hr1,hk1⟩
  have HR1:Hid (RX w1 I G h v ls most s1):=hr1
  have HK1:Hid (KG G w w1):=hk1
  have HD1:Hid (SrcE natV w1 J vd dist):=hid (HD.out.1.kept hk1 (fun k hj _ f=>f (HD.out.2 k hj)))
  have HW1:Hid (RW w0 w1 go dist.length dist (fun s=>key dist s≠0) rs):=hid (HW.out.inn HI.out hk1)
  obtain⟨k4,f4⟩:=hr1.err
  clear hr1 hk1 T1 HR
  by_cases hs1:s1.e=0
  ·obtain⟨U,hU⟩:∃U,U=usedB dist:=⟨_,rfl⟩
   have U1:=used5 w1 vd J dist HD1.out (by have:=HA.out.1;omega)
   rw[←hU]at U1
   have HU:Hid (U=usedB dist):=hU
   have HS1:Hid (s1.e=0):=hs1
   rw[hs1]at k4
   clear hU hs1
   cases U with
   | false=>
    have hW:=HR1.out.wrong 53 (by decide)
    have HX1:Hid (RX (w1.setCell ⟨h,4,none⟩ (.int .i64 53)) I G h v ls most {s1 with e:=53}):=hid hW.1
    have HX2:Hid (KG G w (w1.setCell ⟨h,4,none⟩ (.int .i64 53))):=hid (HK1.out.trans hW.2)
    have HX3:Hid (RW w0 (w1.setCell ⟨h,4,none⟩ (.int .i64 53)) go dist.length dist (fun s=>key dist s≠0) rs):=hid (HW1.out.inn HI.out hW.2)
    have Y1:=sym5 (w1.setCell ⟨h,4,none⟩ (.int .i64 53)) w0 I G h v ls most {s1 with e:=53} 53 go dist.length dist rs HZ.out HX1.out HX3.out rfl HA.out.1 HA.out.2
    rw[sy_stuck (by simp)]at Y1
    have HE:Hid (copies5 ls most dist s y={s1 with e:=53}):=hid (by
     rw[copies5_far ls most dist s y HY.out n s1 {s1 with e:=53} {s1 with e:=53} {s1 with e:=53} 0 E1.out (by rw[if_pos ⟨HS1.out,HU.out.symm⟩]) (sy_stuck (by simp)) (by rw[if_neg (fun h=>by have:=h.1;simp at this)])]
     rw[if_pos (by simp)])
    clear hW
    go_wp2_with fail
    refine U1.mono ?_
    rintro r2 wx ⟨rfl,hwx⟩
    subst hwx
    go_wp2_with fail
    refine Y1.mono ?_
    rintro r3 w3 ⟨rfl,hr3,hk3⟩
    obtain⟨k4',f4'⟩:=hr3.err
    have HR3:Hid (RX w3 I G h v ls most {s1 with e:=53}):=hr3
    have HK3:Hid (KG G w w3):=hid (HX2.out.trans hk3)
    simp only at k4'
    clear hr3 hk3 Y1
    go_wp2_with fail
    refine bodyPost_ret (results_none rfl _ _ _) rfl ?_
    rw[HE.out]
    exact⟨⟨_,rfl⟩,HR3.out,HK3.out⟩
   | true=>
    have Y1:=sym5 w1 w0 I G h v ls most s1 53 go dist.length dist rs HZ.out HR1.out HW1.out rfl HA.out.1 HA.out.2
    obtain⟨d,s3,e3⟩:∃d s3,sy dist ls s1 53=(d,s3):=⟨_,_,rfl⟩
    rw[e3]at Y1
    have E3:Hid (sy dist ls s1 53=(d,s3)):=e3
    have hd288:d≤288:=by
     have h1:=HA.out.1
     unfold sy at e3
     split at e3
     ·simp at e3;omega
     ·simp only[Prod.mk.injEq]at e3
      obtain⟨rfl,_⟩:=e3
      rcases nextF_is dist (ls.drop s1.c) with⟨_,hi,_⟩ | ⟨_,hi,_⟩ | ⟨_,hi,_⟩<;>omega
    have HF:Hid (∀s4:S5,s4=(if s3.e=0∧29<d then {s3 with e:=53} else s3)→copies5 ls most dist s y=if s4.e≠0 then s4 else cp5 most (dist5 ls s4 d).1 n (if (dist5 ls s4 d).2.e=0∧(dist5 ls s4 d).2.out.length<(dist5 ls s4 d).1 then {(dist5 ls s4 d).2 with e:=54} else(dist5 ls s4 d).2)):=hid (fun s4 h4=>copies5_far ls most dist s y HY.out n s1 s1 s3 s4 d E1.out (by rw[if_neg (fun h=>by have:=h.2;rw[←HU.out]at this;cases this)]) E3.out h4)
    clear e3
    go_wp2_with fail
    refine U1.mono ?_
    rintro r2 wx ⟨rfl,hwx⟩
    subst hwx
    go_wp2_with fail
    refine Y1.mono ?_
    rintro r3 w3 ⟨rfl,hr3,hk3⟩
    obtain⟨k4',f4'⟩:=hr3.err
    have HR3:Hid (RX w3 I G h v ls most s3):=hr3
    have HK3:Hid (KG G w w3):=hid (HK1.out.trans hk3)
    clear hr3 hk3 Y1 U1 k4 f4
    by_cases hs3:s3.e=0
    ·have HS3:Hid (s3.e=0):=hs3
     rw[hs3]at k4'
     clear hs3
     by_cases hd29:29<d
     ·have HE:Hid (copies5 ls most dist s y={s3 with e:=53}):=hid (by rw[HF.out {s3 with e:=53} (by rw[if_pos ⟨HS3.out,hd29⟩]),if_pos (by simp)])
      have hW:=HR3.out.wrong 53 (by decide)
      obtain⟨k5,f5⟩:=hW.1.err
      have HX1:Hid (RX (w3.setCell ⟨h,4,none⟩ (.int .i64 53)) I G h v ls most {s3 with e:=53}):=hid hW.1
      have HX2:Hid (KG G w (w3.setCell ⟨h,4,none⟩ (.int .i64 53))):=hid (HK3.out.trans hW.2)
      simp only at k5
      clear hW
      go_wp2_with fail
      refine bodyPost_ret (results_none rfl _ _ _) rfl ?_
      rw[HE.out]
      exact⟨⟨_,rfl⟩,HX1.out,HX2.out⟩
     ·have hdd:decide (29<d)=false:=by simp;omega
      have hd29':d≤29:=by omega
      have T5:=distance5 w3 I G h v ls most s3 d HZ.out (by omega) HR3.out
      obtain⟨far,s5,e5⟩:∃far s5,dist5 ls s3 d=(far,s5):=⟨_,_,rfl⟩
      have hfar:=dist5_le ls HZ.out.bit s3 d (by omega)
      rw[e5]at T5 hfar
      simp only at hfar
      have HF2:Hid (copies5 ls most dist s y=cp5 most far n (if s5.e=0∧s5.out.length<far then {s5 with e:=54} else s5)):=hid (by rw[HF.out s3 (by rw[if_neg (fun h=>hd29 h.2)]),if_neg (by have:=HS3.out;simp[this]),e5])
      obtain⟨hf1,hf2⟩:=hfar
      clear e5 hd29 HF
      go_wp2_with fail
      refine T5.mono ?_
      rintro r5 w5 ⟨rfl,hr5,hk5⟩
      obtain⟨k4,f4⟩:=hr5.err
      obtain⟨hol,ao,cap,k2,hcap,hcells⟩:=hr5.outs
      have HR5:Hid (RX w5 I G h v ls most s5):=hr5
      have HK5:Hid (KG G w w5):=hid (HK3.out.trans hk5)
      clear hr5 hk5 T5 k4' f4' hcells HR3 HK3
      obtain⟨L,hL⟩:∃L,L=s5.out.length:=⟨_,rfl⟩
      rw[←hL]at k2 hol hcap
      by_cases hs5:s5.e=0
      ·rw[hs5]at k4
       by_cases hlf:L<far
       ·have HE:Hid (copies5 ls most dist s y={s5 with e:=54}):=hid (by rw[HF2.out,if_pos ⟨hs5,by omega⟩,cp5_stuck _ _ _ _ (by simp)])
        have hW:=HR5.out.wrong 54 (by decide)
        obtain⟨k5,f5⟩:=hW.1.err
        have HX1:Hid (RX (w5.setCell ⟨h,4,none⟩ (.int .i64 54)) I G h v ls most {s5 with e:=54}):=hid hW.1
        have HX2:Hid (KG G w (w5.setCell ⟨h,4,none⟩ (.int .i64 54))):=hid (HK5.out.trans hW.2)
        simp only at k5
        clear hW hL hs5
        go_wp2_with fail
        go_loopg [11] 1 (fun q zi wr=>zi=.int .i64 0∧wr=w5.setCell ⟨h,4,none⟩ (.int .i64 54))
        case atStart=>exact⟨rfl,rfl⟩
        case round=>
         obtain⟨rfl,rfl⟩:=hrel
         go_wp2_with fail
         all_goals
          go_end0
          rw[HE.out]
          exact⟨⟨_,rfl⟩,HX1.out,HX2.out⟩
       ·have HE:Hid (copies5 ls most dist s y=cp5 most far n s5):=hid (by rw[HF2.out,if_neg (fun h=>by omega)])
        have HLL:Hid (far≤s5.out.length):=hid (by omega)
        have hlfd:decide (L<far)=false:=by simp;omega
        clear hL hs5 HF2
        go_wp2_with fail
        go_loopg [11] (n+1) (fun q zi wr=>∃(j:Nat) (sj:S5),n-j<q∧j≤n∧zi=.int .i64 (j:Nat)∧Hid (RX wr I G h v ls most sj)∧Hid (KG G w wr)∧Hid (cp5 most far n s5=cp5 most far (n-j) sj∧far≤sj.out.length))
        case atStart=>exact⟨0,s5,by omega,by omega,rfl,HR5,HK5,hid ⟨rfl,HLL.out⟩⟩
        case round=>
         obtain⟨j,sj,hq,hj,rfl,HRj,HKj,HEj⟩:=hrel
         obtain⟨k4,f4⟩:=HRj.out.err
         by_cases hlt2:j<n
         ·by_cases hsj:sj.e=0
          ·have hfl:=HEj.out.2
           have HS:Hid (cp5 most far (n-j) sj=cp5 most far (n-(j+1)) (ly most sj (sj.out.getD (sj.out.length-far) 0))∧far≤(ly most sj (sj.out.getD (sj.out.length-far) 0)).out.length):=hid ⟨by rw[show n-j=(n-(j+1))+1 by omega,cp5_go _ _ _ _ hsj],Nat.le_trans hfl (ly_out _ _ _)⟩
           obtain⟨hol,ao,cap,k2,hcap,hcells⟩:=HRj.out.outs
           have hne:sj.out≠[]:=by intro e;rw[e]at hfl;simp at hfl;omega
           obtain⟨g,rfl,hg⟩:=hcells hne
           obtain⟨p,hp⟩:∃p,p=sj.out.length-far:=⟨_,rfl⟩
           have hpl:p<sj.out.length:=by omega
           obtain⟨cx,hb256⟩:=hg p hpl
           have hgd:sj.out.getD (sj.out.length-far) 0=sj.out[p]:=by rw[←hp];simp[List.getD,hpl]
           rw[hgd]at HS
           obtain⟨b,hb⟩:∃b,b=sj.out[p]:=⟨_,rfl⟩
           rw[←hb]at HS cx hb256
           obtain⟨Lj,hLj⟩:∃Lj,Lj=sj.out.length:=⟨_,rfl⟩
           rw[←hLj]at k2 hcap hpl hol hp hfl
           have hpI:(Lj:Int)-(far:Int)=(p:Int):=by omega
           have hwp:IntKind.i64.wrap (p:Int)=(p:Int):=by rw[IntKind.wrap_i64];omega
           have L1:=lay5 wr.drew I G h v ls most sj b HZ.out hb256 HRj.out.drew
           have HL1:Hid (Calls Tryz.prog 134 #[.pointer (some ⟨h,0,none⟩),.int .u8 (b:Nat)] wr.drew fun r w'=>(∃u,r=.returned u)∧RX w' I G h v ls most (ly most sj b)∧KG G wr.drew w'):=L1
           rw[hsj]at k4
           clear hb hg hcells hLj hp hne hgd L1 hfl
           go_wp2_with fail
           go_region_with (go_at_call 134;refine HL1.out.mono ?_;rintro r6 w6 ⟨⟨u,rfl⟩,hr6,hk6⟩)
           all_goals
            have HR6:Hid (RX w6 I G h v ls most (ly most sj b)):=hr6
            have HK6:Hid (KG G w w6):=hid (KG.trans HKj.out.drew hk6)
            clear hr6 hk6
            go_wp2_with fail
            go_roundg (gk-1)
            case measure=>omega
            case rel=>exact⟨j+1,_,by omega,by omega,by go_num,HR6,HK6,hid ⟨by rw[HEj.out.1,HS.out.1],HS.out.2⟩⟩
          ·obtain⟨e7,he7⟩:∃e7,e7=sj.e:=⟨_,rfl⟩
           have HFF:Hid (cp5 most far n s5=sj):=hid (by rw[HEj.out.1,cp5_stuck _ _ _ _ hsj])
           rw[←he7]at hsj k4
           have hed:((e7:Int)==0)=false:=by simp;omega
           clear he7
           go_wp2_with fail
           go_end0
           rw[HE.out,HFF.out]
           exact⟨⟨_,rfl⟩,HRj.out,HKj.out⟩
         ·have hjn:n-j=0:=by omega
          have HFF:Hid (cp5 most far n s5=sj):=hid (by rw[HEj.out.1,hjn,cp5_zero])
          have hdj:decide (j<n)=false:=by simp;omega
          clear hjn
          go_wp2_with fail
          go_end0
          rw[HE.out,HFF.out]
          exact⟨⟨_,rfl⟩,HRj.out,HKj.out⟩
      ·have HE:Hid (copies5 ls most dist s y=s5):=hid (by rw[HF2.out,if_neg (fun h=>hs5 h.1),cp5_stuck _ _ _ _ hs5])
       obtain⟨e7,he7⟩:∃e7,e7=s5.e:=⟨_,rfl⟩
       rw[←he7]at hs5 k4
       have hed:((e7:Int)==0)=false:=by simp;omega
       clear he7 hL
       go_wp2_with fail
       go_loopg [11] 1 (fun q zi wr=>zi=.int .i64 0∧wr=w5)
       case atStart=>exact⟨rfl,rfl⟩
       case round=>
        obtain⟨rfl,rfl⟩:=hrel
        go_wp2_with fail
        all_goals
         go_end0
         rw[HE.out]
         exact⟨⟨_,rfl⟩,HR5.out,HK5.out⟩
    ·have HE:Hid (copies5 ls most dist s y=s3):=hid (by rw[HF.out s3 (by rw[if_neg (fun h=>hs3 h.1)]),if_pos hs3])
     obtain⟨e7,he7⟩:∃e7,e7=s3.e:=⟨_,rfl⟩
     rw[←he7]at hs3 k4'
     have hed:((e7:Int)==0)=false:=by simp;omega
     have hed2:((e7:Int) != 0)=true:=by simp;omega
     clear he7
     go_wp2_with fail
     refine bodyPost_ret (results_none rfl _ _ _) rfl ?_
     rw[HE.out]
     exact⟨⟨_,rfl⟩,HR3.out,HK3.out⟩
  ·have Y1:=sym5 w1 w0 I G h v ls most s1 53 go dist.length dist rs HZ.out HR1.out HW1.out rfl HA.out.1 HA.out.2
   rw[sy_stuck hs1]at Y1
   have HE:Hid (copies5 ls most dist s y=s1):=hid (by
    rw[copies5_far ls most dist s y HY.out n s1 s1 s1 s1 0 E1.out (by rw[if_neg (fun h=>hs1 h.1)]) (sy_stuck hs1) (by rw[if_neg (fun h=>hs1 h.1)])]
    rw[if_pos hs1])
   obtain⟨e7,he7⟩:∃e7,e7=s1.e:=⟨_,rfl⟩
   have HE7:Hid (e7=s1.e):=he7
   rw[←he7]at hs1 k4
   have hed:((e7:Int)==0)=false:=by simp;omega
   have hed2:((e7:Int) != 0)=true:=by simp;omega
   clear he7
   go_wp2_with fail
   refine Y1.mono ?_
   rintro r3 w3 ⟨rfl,hr3,hk3⟩
   obtain⟨k4',f4'⟩:=hr3.err
   have HR3:Hid (RX w3 I G h v ls most s1):=hr3
   have HK3:Hid (KG G w w3):=hid (HK1.out.trans hk3)
   rw[←HE7.out]at k4'
   clear hr3 hk3 Y1
   go_wp2_with fail
   refine bodyPost_ret (results_none rfl _ _ _) rfl ?_
   rw[HE.out]
   exact⟨⟨_,rfl⟩,HR3.out,HK3.out⟩

end Go.Proofs.YtggcbnhckcenmaaGreatDoor

namespace Go.Proofs.YtggcbnhckcenmaaGreatDoor
open Go.RowKit

theorem tk_c(ls:List Nat)(s:S5)(n:Nat):s.c≤(tk ls s n).2.c:=by
 unfold tk
 split
 ·exact Nat.le_refl _
 ·split
  ·exact Nat.le_refl _
  ·simp only;omega
theorem sy_c(ns ls:List Nat)(s:S5)(wrong:Nat):s.c≤(sy ns ls s wrong).2.c:=by
 unfold sy
 split
 ·exact Nat.le_refl _
 ·simp only;omega
theorem ly_c(most:Nat)(s:S5)(b:Nat):(ly most s b).c=s.c:=ly_e most s b
theorem cp5_c(most far n:Nat)(s:S5):(cp5 most far n s).c=s.c:=by
 induction n generalizing s with
 | zero=>rfl
 | succ n ih=>
  simp only[cp5]
  split
  ·rfl
  ·rw[ih,ly_c]
theorem len5_c(ls:List Nat)(s:S5)(y:Nat):s.c≤(len5 ls s y).2.c:=by
 unfold len5
 split
 ·exact Nat.le_refl _
 ·exact tk_c ls s _
theorem dist5_c(ls:List Nat)(s:S5)(y:Nat):s.c≤(dist5 ls s y).2.c:=tk_c ls s _
theorem if_c{p:Prop}[Decidable p](s:S5)(x:Nat):(if p then {s with e:=x} else s:S5).c=s.c:=by split<;>rfl

theorem copies5_c(ls:List Nat)(most:Nat)(dist:List Nat)(s:S5)(y:Nat):s.c≤(copies5 ls most dist s y).c:=by
 by_cases h:285<y
 ·unfold copies5;rw[if_pos h];exact Nat.le_refl _
 ·obtain⟨n,s1,e1⟩:∃n s1,len5 ls s y=(n,s1):=⟨_,_,rfl⟩
  obtain⟨s2,e2⟩:∃s2:S5,s2=if s1.e=0∧usedB dist=false then {s1 with e:=53} else s1:=⟨_,rfl⟩
  obtain⟨d,s3,e3⟩:∃d s3,sy dist ls s2 53=(d,s3):=⟨_,_,rfl⟩
  obtain⟨s4,e4⟩:∃s4:S5,s4=if s3.e=0∧29<d then {s3 with e:=53} else s3:=⟨_,rfl⟩
  rw[copies5_far ls most dist s y (by omega) n s1 s2 s3 s4 d e1 e2 e3 e4]
  have h1:=len5_c ls s y
  have h2:s2.c=s1.c:=by rw[e2,if_c]
  have h3:=sy_c dist ls s2 53
  have h4:s4.c=s3.c:=by rw[e4,if_c]
  have h5:=dist5_c ls s4 d
  rw[e1]at h1
  rw[e3]at h3
  simp only at h1 h3
  split
  ·omega
  ·rw[cp5_c,if_c]
   omega

theorem syms5_stuck(ls:List Nat)(most:Nat)(lit dist:List Nat)(f:Nat)(s:S5)(h:s.e≠0):syms5 ls most lit dist f s=s:=by
 cases f with
 | zero=>rfl
 | succ f=>simp only[syms5];rw[if_pos h]

theorem syms5_go(ls:List Nat)(most:Nat)(lit dist:List Nat)(f:Nat)(s:S5)(h:s.e=0)(y:Nat)(s1:S5)(hs:sy lit ls s 53=(y,s1)):
  syms5 ls most lit dist (f+1) s=if s1.e≠0 then s1 else if y<256 then syms5 ls most lit dist f (ly most s1 y)else if y=256 then s1 else syms5 ls most lit dist f (copies5 ls most dist s1 y):=by
 simp only[syms5]
 rw[if_neg (by simp[h]),hs]

theorem sy_more{ns ls:List Nat}{s:S5}{wrong y:Nat}{s1:S5}(hs:sy ns ls s wrong=(y,s1))(he:s.e=0)(hw:wrong≠0)(h1:s1.e=0):s.c<s1.c∧s1.c≤max s.c ls.length∧y<ns.length:=by
 unfold sy at hs
 rw[if_neg (by simp[he])]at hs
 simp only[Prod.mk.injEq]at hs
 obtain⟨rfl,rfl⟩:=hs
 simp only at h1 ⊢
 have hn:=nextF_is ns (ls.drop s.c)
 rcases hn with⟨hg,hi,hf,hk,_⟩ | ⟨hg,_⟩ | ⟨hg,_⟩
 ·have h2:=hf.2.length_le
  rw[rowOf_length,List.length_drop]at h2
  have h3:=hf.1
  omega
 ·rw[hg]at h1;simp at h1
 ·rw[hg]at h1;simp at h1;exact absurd h1 hw

structure Lst(w:World)(G:Nat→Prop)(v:Value)(ns:List Nat):Prop where
 src:∃J:Nat→Prop,SrcE natV w J v ns∧∀k,J k→G k
 len:ns.length≤288
 le:∀n∈ns,n≤15
 me:measure ns≤32768

theorem Lst.key{w:World}{G:Nat→Prop}{v:Value}{ns:List Nat}(h:Lst w G v ns):∀s,key ns s≤15:=by
 intro s
 by_cases e:s<ns.length
 ·rw[key_get e];exact h.le _ (List.getElem_mem e)
 ·simp[Go.Proofs.YtggcbnhckcenmaaGreatDoor.key,e]

theorem RX.le{w:World}{I G:Nat→Prop}{h:Nat}{v:Value}{ls:List Nat}{most:Nat}{s:S5}(r:RX w I G h v ls most s)(he:s.e=0):s.c≤ls.length:=by
 obtain⟨c,vo,r⟩:=r
 have:=r.pl he
 have:=r.le
 omega

set_option maxRecDepth 100000 in
set_option maxHeartbeats 8000000 in
theorem symbols5(w00 w:World)(I G:Nat→Prop)(h:Nat)(v:Value)(ls:List Nat)(most:Nat)(s:S5)(vl vd:Value)(lit dist:List Nat)(hz:Sz ls most)(hr:RX w I G h v ls most s)(hS:Same w00 w)(hlow:∀k,k<w00.heap.size→G k)
  (hsafe:s.e=0→Lst w G vl lit∧Lst w G vd dist):
  Calls Tryz.prog 102 #[.pointer (some ⟨h,0,none⟩),vl,vd] w fun r w'=>(∃u,r=.returned u)∧RX w' I G h v ls most (syms5 ls most lit dist (ls.length+1) s)∧KG G w w':=by
 obtain⟨k4,f4⟩:=hr.err
 have HR:Hid (RX w I G h v ls most s):=hr
 have HZ:Hid (Sz ls most):=hz
 by_cases he:s.e=0
 ·obtain⟨HLl,HLd⟩:=hsafe he
  have HLL:Hid (Lst w G vl lit):=HLl
  have HLD:Hid (Lst w G vd dist):=HLd
  obtain⟨Jl,hJl1,hJl2⟩:=HLl.src
  obtain⟨Jd,hJd1,hJd2⟩:=HLd.src
  have R1:=rows_any w vl Jl lit hJl1 HLl.len HLl.le HLl.me
  have HE0:Hid (s.e=0):=he
  have HJD:Hid (SrcE natV w Jd vd dist∧∀k,Jd k→G k):=⟨hJd1,hJd2⟩
  have HSW:Hid (Same w00 w∧∀k,k<w00.heap.size→G k):=⟨hS,hlow⟩
  rw[he]at k4
  obtain⟨M,hM⟩:∃M,M=ls.length:=⟨_,rfl⟩
  have HM:Hid (M=ls.length):=hM
  rw[←hM]
  clear hr hz hsafe HLl HLd hJl1 hJl2 hJd1 hJd2 he hS hlow hM
  go_enter Tryz.func102,Tryz.ntmps102
  go_wp2_with fail
  refine R1.mono ?_
  rintro r1 w1 ⟨go1,rs1,rfl,hrw1⟩
  have HRW1:Hid (RW w w1 go1 lit.length lit (fun s=>key lit s≠0) rs1):=hrw1
  have R2:=rows_any w1 vd Jd dist (HJD.out.1.same hrw1.same) HLD.out.len HLD.out.le HLD.out.me
  clear hrw1 R1
  go_wp2_with fail
  refine R2.mono ?_
  rintro r2 w2 ⟨go2,rs2,rfl,hrw2⟩
  have HRW2:Hid (RW w1 w2 go2 dist.length dist (fun s=>key dist s≠0) rs2):=hrw2
  clear hrw2 R2
  have HS2:Hid (Same w w2):=hid (Same.trans HRW1.out.same HRW2.out.same)
  obtain⟨c,vo,hrs⟩:=HR.out
  have HRS:Hid (RS w I G h v ls most s c vo):=hrs
  clear hrs
  obtain⟨A,hA⟩:∃A,A=RS.all w2 h vo:=⟨_,rfl⟩
  have HA:Hid (∀k,k<w2.heap.size→k≠h→vo.ownBlock≠some k→A k):=hid (fun k h1 h2 h3=>by rw[hA];exact⟨h1,h2,h3⟩)
  have HRA:Hid (RX w2 I A h v ls most s):=hid (by rw[hA];exact⟨c,vo,(HRS.out.same HS2.out).more⟩)
  have HGA:Hid (∀k,G k→A k):=hid (fun k g=>by rw[hA];exact(HRS.out.same HS2.out).all_of k g)
  have hhw:h<w.heap.size:=HRS.out.blk.lt
  have hvw:∀k,vo.ownBlock=some k→k<w.heap.size:=fun k e=>HRS.out.row.lt e
  have HI1:Hid (RowsIn w00 A go1 lit rs1):=hid ⟨fun k hk=>HGA.out k (HSW.out.2 k hk),HA.out _ (Nat.lt_of_lt_of_le (HRW1.out.row.lt rfl) HRW2.out.same.size) (by have:=HRW1.out.row.ge (k:=go1) rfl;omega) (fun e=>by have:=hvw _ e;have:=HRW1.out.row.ge (k:=go1) rfl;omega),
   fun t ht hp k e=>by
    have h1:=(HRW1.out.have' t ht hp).2 k e
    have h2:=(HRW1.out.have' t ht hp).1.lt e
    have h3:=HRW2.out.same.size
    exact HA.out k (by omega) (by omega) (fun e2=>by have:=hvw _ e2;omega)⟩
  have HI2:Hid (RowsIn w00 A go2 dist rs2):=hid ⟨fun k hk=>HGA.out k (HSW.out.2 k hk),HA.out _ (HRW2.out.row.lt rfl) (by have:=HRW2.out.row.ge (k:=go2) rfl;have:=HRW1.out.same.size;omega) (fun e=>by have:=hvw _ e;have:=HRW2.out.row.ge (k:=go2) rfl;have:=HRW1.out.same.size;omega),
   fun t ht hp k e=>by
    have h1:=(HRW2.out.have' t ht hp).2 k e
    have h2:=(HRW2.out.have' t ht hp).1.lt e
    have h3:=HRW1.out.same.size
    exact HA.out k (by omega) (by omega) (fun e2=>by have:=hvw _ e2;omega)⟩
  have HQ1:Hid (RW w00 w2 go1 lit.length lit (fun s=>key lit s≠0) rs1):=hid ((HRW1.out.later HRW2.out.same).down HSW.out.1)
  have HQ2:Hid (RW w00 w2 go2 dist.length dist (fun s=>key dist s≠0) rs2):=hid (HRW2.out.down (Same.trans HSW.out.1 HRW1.out.same))
  have HJ2:Hid (SrcE natV w2 Jd vd dist∧∀k,Jd k→A k):=hid ⟨HJD.out.1.same HS2.out,fun k j=>HGA.out k (HJD.out.2 k j)⟩
  have HFIN:Hid (∀(wF:World) (sF:S5),RX wF I A h v ls most sF→KG A w2 wF→RX wF I G h v ls most sF∧KG G w wF):=hid (fun wF sF hX hK=>by
   obtain⟨c2,vo2,r2⟩:=hX
   exact⟨⟨c2,vo2,r2.weak HGA.out HRS.out.ig⟩,KG.trans (KG.same HS2.out) (KG.less hK HGA.out)⟩)
  clear hA hhw hvw HRW1 HRW2 HRS HA
  obtain⟨k4,f4⟩:=HRA.out.err
  go_wp2_with fail
  go_loopg [8] (M+1) (fun q zi wr=>∃(f:Nat) (sj:S5),f≤q∧Hid (sj.e=0→M-sj.c<f)∧Hid (RX wr I A h v ls most sj)∧Hid (KG A w2 wr)∧Hid (syms5 ls most lit dist (M+1) s=syms5 ls most lit dist f sj))
  case atStart=>exact⟨M+1,s,by omega,hid (fun _=>by omega),HRA,Kept.refl _ _,hid rfl⟩
  case round=>
   obtain⟨f,sj,hfq,HCj,HRj,HKj,HEj⟩:=hrel
   obtain⟨k4,f4⟩:=HRj.out.err
   by_cases hsj:sj.e=0
   ·have hcl:=HCj.out hsj
    have hle:=HRj.out.le hsj
    obtain⟨f',rfl⟩:∃f',f=f'+1:=⟨f-1,by omega⟩
    have Y1:=sym5 wr w00 I A h v ls most sj 53 go1 lit.length lit rs1 HZ.out HRj.out (HQ1.out.inn HI1.out HKj.out) rfl HLL.out.len HLL.out.key
    obtain⟨y,s1,hy⟩:∃y s1,sy lit ls sj 53=(y,s1):=⟨_,_,rfl⟩
    rw[hy]at Y1
    have HST:=syms5_go ls most lit dist f' sj hsj y s1 hy
    have HMO:Hid (s1.e=0→sj.c<s1.c∧s1.c≤max sj.c ls.length∧y<lit.length):=hid (fun h1=>sy_more hy hsj (by decide) h1)
    have HSTEP:Hid (syms5 ls most lit dist (f'+1) sj=if s1.e≠0 then s1 else if y<256 then syms5 ls most lit dist f' (ly most s1 y)else if y=256 then s1 else syms5 ls most lit dist f' (copies5 ls most dist s1 y)):=HST
    have HCL:Hid (M-sj.c<f'+1∧sj.c≤M):=hid ⟨hcl,by have:=HM.out;omega⟩
    rw[hsj]at k4
    clear hy HST hcl hle hsj
    go_wp2_with fail
    refine Y1.mono ?_
    rintro r3 w3 ⟨rfl,hr3,hk3⟩
    obtain⟨k4',f4'⟩:=hr3.err
    have HR3:Hid (RX w3 I A h v ls most s1):=hr3
    have HK3:Hid (KG A w2 w3):=hid (HKj.out.trans hk3)
    clear hr3 hk3 Y1 k4 f4
    by_cases hs1:s1.e=0
    ·have hmo:=HMO.out hs1
     have HCN:Hid (M-s1.c<f'∧s1.c≤M):=hid (by have:=HM.out;have:=HCL.out;omega)
     have hyl:y<288:=by have:=HLL.out.len;omega
     have HS10:Hid (s1.e=0):=hs1
     rw[hs1]at k4'
     clear hmo hs1
     by_cases hy256:y<256
     ·have L3:=lay5 w3 I A h v ls most s1 y HZ.out hy256 HR3.out
      have HSG:Hid (syms5 ls most lit dist (f'+1) sj=syms5 ls most lit dist f' (ly most s1 y)):=hid (by rw[HSTEP.out,if_neg (by have:=HS10.out;simp[this]),if_pos hy256])
      go_wp2_with fail
      refine L3.mono ?_
      rintro r4 w4 ⟨⟨u,rfl⟩,hr4,hk4⟩
      have HR4:Hid (RX w4 I A h v ls most (ly most s1 y)):=hr4
      have HK4:Hid (KG A w2 w4):=hid (HK3.out.trans hk4)
      clear hr4 hk4 L3
      go_wp2_with fail
      go_roundg (gk-1)
      case measure=>omega
      case rel=>exact⟨f',_,by omega,hid (fun _=>by rw[ly_c];exact HCN.out.1),HR4,HK4,hid (by rw[HEj.out,HSG.out])⟩
     ·by_cases hyE:y=256
      ·subst hyE
       have HSG:Hid (syms5 ls most lit dist (f'+1) sj=s1):=hid (by rw[HSTEP.out,if_neg (by have:=HS10.out;simp[this]),if_neg (by omega),if_pos rfl])
       go_wp2_with fail
       refine bodyPost_ret (results_none rfl _ _ _) rfl ?_
       rw[HEj.out,HSG.out]
       have hF:=HFIN.out w3 s1 HR3.out HK3.out
       exact⟨⟨_,rfl⟩,hF.1,hF.2⟩
      ·have C1:=copies5_any w3 w00 I A Jd h v ls most s1 y vd dist go2 rs2 HZ.out (by omega) (by omega) HR3.out (HJ2.out.1.kept HK3.out (fun k hj _ f=>f (HJ2.out.2 k hj))) HJ2.out.2 (HQ2.out.inn HI2.out HK3.out) HI2.out HLD.out.len HLD.out.key
       have HSG:Hid (syms5 ls most lit dist (f'+1) sj=syms5 ls most lit dist f' (copies5 ls most dist s1 y)):=hid (by rw[HSTEP.out,if_neg (by have:=HS10.out;simp[this]),if_neg hy256,if_neg hyE])
       have hyd1:decide (y<256)=false:=by simp;omega
       have hyd2:((y:Int)==256)=false:=by simp;omega
       go_wp2_with fail
       refine C1.mono ?_
       rintro r4 w4 ⟨⟨u,rfl⟩,hr4,hk4⟩
       have HR4:Hid (RX w4 I A h v ls most (copies5 ls most dist s1 y)):=hr4
       have HK4:Hid (KG A w2 w4):=hid (HK3.out.trans hk4)
       clear hr4 hk4 C1
       go_wp2_with fail
       go_roundg (gk-1)
       case measure=>omega
       case rel=>exact⟨f',_,by omega,hid (fun _=>by have h1:=copies5_c ls most dist s1 y;have h2:=HCN.out;omega),HR4,HK4,hid (by rw[HEj.out,HSG.out])⟩
    ·have HSG:Hid (syms5 ls most lit dist (f'+1) sj=syms5 ls most lit dist f' s1):=hid (by rw[HSTEP.out,if_pos hs1,syms5_stuck _ _ _ _ _ _ hs1])
     have HS10:Hid (s1.e≠0):=hs1
     obtain⟨e7,he7⟩:∃e7,e7=s1.e:=⟨_,rfl⟩
     rw[←he7]at hs1 k4'
     have hed:((e7:Int) != 0)=true:=by simp;omega
     clear he7
     go_wp2_with fail
     go_roundg (gk-1)
     case measure=>omega
     case rel=>exact⟨f',s1,by omega,hid (fun h1=>absurd h1 HS10.out),HR3,HK3,hid (by rw[HEj.out,HSG.out])⟩
   ·have HSG:Hid (syms5 ls most lit dist f sj=sj):=hid (syms5_stuck _ _ _ _ _ _ hsj)
    obtain⟨e7,he7⟩:∃e7,e7=sj.e:=⟨_,rfl⟩
    rw[←he7]at hsj k4
    have hed:((e7:Int)==0)=false:=by simp;omega
    clear he7
    go_wp2_with fail
    go_end0
    rw[HEj.out,HSG.out]
    have hF:=HFIN.out wr sj HRj.out HKj.out
    exact⟨⟨_,rfl⟩,hF.1,hF.2⟩
 ·have HE:Hid (syms5 ls most lit dist (ls.length+1) s=s):=hid (syms5_stuck _ _ _ _ _ _ he)
  obtain⟨e7,he7⟩:∃e7,e7=s.e:=⟨_,rfl⟩
  rw[←he7]at he k4
  have hed:((e7:Int) != 0)=true:=by simp;omega
  clear he7 hr hsafe
  go_enter Tryz.func102,Tryz.ntmps102
  go_wp2_with fail
  refine bodyPost_ret (results_none rfl _ _ _) rfl ?_
  rw[HE.out]
  exact⟨⟨_,rfl⟩,HR.out,Kept.refl _ _⟩

end Go.Proofs.YtggcbnhckcenmaaGreatDoor

namespace Go.Proofs.YtggcbnhckcenmaaGreatDoor
open Go.RowKit
theorem chk_nats(l:List Nat)(h0:0<l.length)(hl:l.length≤288)(h15:∀x∈l,x≤15):chk (l.map (fun(n:Nat)=>(n:Int)))=chkN l:=by
 have hok:okAll (l.map (fun(n:Nat)=>(n:Int))) 0 15=true:=by
  simp only[okAll,List.length_map,Bool.and_eq_true,decide_eq_true_eq,Bool.not_eq_true',List.any_eq_false]
  refine⟨⟨by omega,by omega⟩,fun z hz=>?_⟩
  obtain⟨n,hn,rfl⟩:=List.mem_map.1 hz
  have:=h15 n hn
  simp[badI];omega
 unfold chk
 rw[if_pos hok,List.map_map]
 have e:l.map (Int.toNat ∘ fun(n:Nat)=>(n:Int))=l:=by
  conv=>rhs;rw[←List.map_id l]
  exact List.map_congr_left (fun n _=>by simp)
 rw[e]

theorem unused_measure{l:List Nat}(h:usedB l=false):measure l=0:=by
 induction l with
 | nil=>rfl
 | cons a l ih=>
  unfold usedB at h ih
  simp only[List.any_cons,Bool.or_eq_false_iff]at h
  have ha:a=0:=by have:=h.1;simpa using this
  subst ha
  show(unit 0+(l.map unit).sum)=0
  have:=ih h.2
  unfold measure at this
  rw[this]
  rfl

end Go.Proofs.YtggcbnhckcenmaaGreatDoor

namespace Go.Proofs.YtggcbnhckcenmaaGreatDoor

def shC{α:Type}(k:Nat):Except Nat (α×Nat)→Except Nat (α×Nat)
 | .error e=>.error e
 | .ok x=>.ok (x.1,k+x.2)

theorem shC_bind{α β:Type}{k:Nat}{r:Except Nat (α×Nat)}{g g':α→Nat→Except Nat (β×Nat)}(h:∀x c,g' x (k+c)=shC k (g x c)):bindP (shC k r) g'=shC k (bindP r g):=by
 cases r with
 | error e=>rfl
 | ok x=>exact h x.1 x.2

theorem drop_sh(A ls:List Nat)(c:Nat):(A++ls).drop (A.length+c)=ls.drop c:=by
 rw[←List.drop_drop,List.drop_left]

theorem numAt_sh(A ls:List Nat)(c n:Nat):numAt (A++ls) (A.length+c) n=numAt ls c n:=by unfold numAt;rw[drop_sh]

theorem tkP_sh(A ls:List Nat)(c n:Nat):tkP (A++ls) (A.length+c) n=shC A.length (tkP ls c n):=by
 unfold tkP
 by_cases h:ls.length<c+n
 ·rw[if_pos h,if_pos (by rw[List.length_append];omega)];rfl
 ·rw[if_neg h,if_neg (by rw[List.length_append];omega),numAt_sh,Nat.add_assoc];rfl

theorem syP_sh(ns A ls:List Nat)(c last:Nat):syP ns (A++ls) (A.length+c) last=shC A.length (syP ns ls c last):=by
 unfold syP
 rw[drop_sh]
 split
 ·rfl
 ·split
  ·rfl
  ·rw[Nat.add_assoc];rfl

theorem numP_sh(A ls:List Nat)(c y k:Nat):numP (A++ls) (A.length+c) y k=shC A.length (numP ls c y k):=by
 unfold numP
 split
 ·rfl
 ·rw[tkP_sh];exact shC_bind (fun _ _=>rfl)

theorem lenP_sh(A ls:List Nat)(c y:Nat):lenP (A++ls) (A.length+c) y=shC A.length (lenP ls c y):=by
 unfold lenP
 split
 ·rw[numP_sh];exact shC_bind (fun _ _=>rfl)
 ·rfl

theorem dsyP_sh(dist A ls:List Nat)(c:Nat):dsyP dist (A++ls) (A.length+c)=shC A.length (dsyP dist ls c):=by
 unfold dsyP
 split
 ·rfl
 ·exact syP_sh dist A ls c 29

theorem copP_sh(A ls dist:List Nat)(c y:Nat):copP (A++ls) dist (A.length+c) y=shC A.length (copP ls dist c y):=by
 unfold copP
 rw[lenP_sh]
 refine shC_bind (fun n c1=>?_)
 rw[dsyP_sh]
 refine shC_bind (fun z c2=>?_)
 rw[numP_sh]
 exact shC_bind (fun _ _=>rfl)

theorem symP_sh(A ls:List Nat)(last:Bool)(lit dist:List Nat)(y c:Nat):symP (A++ls) last lit dist y (A.length+c)=shC A.length (symP ls last lit dist y c):=by
 unfold symP
 split
 ·rfl
 ·split
  ·rfl
  ·rw[copP_sh];exact shC_bind (fun _ _=>rfl)

theorem stepP_sh(A ls:List Nat)(b:Bk)(c:Nat):stepP (A++ls) b (A.length+c)=shC A.length (stepP ls b c):=by
 cases b with
 | raw last left=>
  cases left with
  | zero=>rfl
  | succ n=>rw[stepP_raw,stepP_raw,tkP_sh];exact shC_bind (fun _ _=>rfl)
 | sym last lit dist=>
  rw[stepP_sym,stepP_sym,syP_sh]
  exact shC_bind (fun y c1=>symP_sh A ls last lit dist y c1)

theorem cntP_sh(A ls:List Nat)(h8:A.length % 8=0)(c:Nat):cntP (A++ls) (A.length+c)=shC A.length (cntP ls c):=by
 unfold cntP
 rw[show(A.length+c+7) / 8*8=A.length+(c+7) / 8*8 by omega,tkP_sh]
 refine shC_bind (fun n c1=>?_)
 rw[tkP_sh]
 refine shC_bind (fun t c2=>?_)
 split
 ·rfl
 ·rfl

theorem stepF_sh(ns A ls:List Nat)(c:Nat):stepF ns (A++ls) (A.length+c)=shC A.length (stepF ns ls c):=by
 unfold stepF
 rw[drop_sh]
 split
 ·rfl
 ·rw[Nat.add_assoc A.length c,numAt_sh,List.length_append]
  by_cases h:ls.length<c+(nextF ns (ls.drop c)).2.1+xbits (nextF ns (ls.drop c)).1
  ·rw[if_pos h,if_pos (by omega)];rfl
  ·rw[if_neg h,if_neg (by omega),Nat.add_assoc A.length];rfl

theorem bodyF_sh(ns A ls:List Nat)(N f:Nat)(l:List Nat)(c:Nat):bodyF ns (A++ls) N f l (A.length+c)=shC A.length (bodyF ns ls N f l c):=by
 induction f generalizing l c with
 | zero=>rfl
 | succ f ih=>
  unfold bodyF
  split
  ·rfl
  ·rw[stepF_sh]
   cases hs:stepF ns ls c with
   | error e=>rfl
   | ok x=>
    obtain⟨s,c'⟩:=x
    simp only[shC]
    cases hw:withM l ((s.1:Int),(s.2:Int)) N with
    | none=>rfl
    | some m=>exact ih m c'

theorem codesF_sh(A ls:List Nat)(c i:Nat):codesF (A++ls) (A.length+c) i=codesF ls c i:=by
 induction i with
 | zero=>rfl
 | succ i ih=>rw[codesF,codesF,ih,Nat.add_assoc,numAt_sh]

theorem readF_sh(A ls:List Nat)(a:Nat):readF (A++ls) (A.length+a)=readF ls a:=by
 unfold readF
 rw[Nat.add_assoc A.length a 14,Nat.add_assoc A.length a 5,Nat.add_assoc A.length a 10,numAt_sh,numAt_sh,numAt_sh,codesF_sh,Nat.add_assoc A.length (a+14),bodyF_sh,List.length_append]
 by_cases h1:ls.length<a+14
 ·rw[if_pos h1,if_pos (by omega)]
 ·rw[if_neg h1,if_neg (by omega)]
  split
  ·rfl
  ·by_cases h3:ls.length<a+14+3*(numAt ls (a+10) 4+4)
   ·rw[if_pos h3,if_pos (by omega)]
   ·rw[if_neg h3,if_neg (by omega)]
    split
    ·rfl
    ·generalize bodyF _ ls _ _ [] (a+14+3*(numAt ls (a+10) 4+4))=r
     cases r with
     | error e=>rfl
     | ok x=>
      obtain⟨l,c⟩:=x
      simp only[shC]
      rw[show A.length+c-(A.length+a)=c-a by omega]

theorem hdP_sh(A ls:List Nat)(c:Nat):hdP (A++ls) (A.length+c)=shC A.length (hdP ls c):=by
 unfold hdP head5
 rw[readF_sh]
 cases readF ls c with
 | error e=>rfl
 | ok x=>
  obtain⟨⟨l,d⟩,n⟩:=x
  simp only
  split
  ·rename_i h
   split at h
   ·simp only[Except.error.injEq]at h;subst h;rfl
   ·cases h
  ·rename_i h
   split at h
   ·cases h
   ·simp only[Except.ok.injEq,Prod.mk.injEq]at h
    obtain⟨rfl,rfl⟩:=h
    rw[Nat.add_assoc];rfl

theorem kndP_sh(A ls:List Nat)(h8:A.length % 8=0)(last:Bool)(c k:Nat):kndP (A++ls) last (A.length+c) k=shC A.length (kndP ls last c k):=by
 unfold kndP
 split
 ·rw[cntP_sh A ls h8];exact shC_bind (fun _ _=>rfl)
 ·split
  ·rfl
  ·split
   ·rw[hdP_sh];exact shC_bind (fun _ _=>rfl)
   ·rfl

theorem begP_sh(A ls:List Nat)(h8:A.length % 8=0)(c:Nat):begP (A++ls) (A.length+c)=shC A.length (begP ls c):=by
 unfold begP
 rw[tkP_sh]
 refine shC_bind (fun l c1=>?_)
 rw[tkP_sh]
 exact shC_bind (fun k c2=>kndP_sh A ls h8 _ c2 k)

def shS(k:Nat)(s:Ps):Ps:=⟨k+s.c,s.out,s.bk⟩
def shR(k:Nat):Except Nat (Ps×Bool)→Except Nat (Ps×Bool)
 | .error e=>.error e
 | .ok x=>.ok (shS k x.1,x.2)

theorem stP_sh(A ls:List Nat)(h8:A.length % 8=0)(most:Nat)(s:Ps):stP (A++ls) most (shS A.length s)=shR A.length (stP ls most s):=by
 cases hbk:s.bk with
 | none=>
  have hb:=begP_sh A ls h8 s.c
  cases hg:begP ls s.c with
  | error e=>
   rw[stP_none_err hbk hg,stP_none_err (s:=shS A.length s) (e:=e) hbk (by rw[hg]at hb;exact hb)];rfl
  | ok x=>
   rw[stP_none_ok (b:=x.1) (c:=x.2) hbk hg,stP_none_ok (s:=shS A.length s) (b:=x.1) (c:=A.length+x.2) hbk (by rw[hg]at hb;exact hb)];rfl
 | some b=>
  have hb:=stepP_sh A ls b s.c
  cases hg:stepP ls b s.c with
  | error e=>
   rw[stP_some_err hbk hg,stP_some_err (s:=shS A.length s) (e:=e) hbk (by rw[hg]at hb;exact hb)];rfl
  | ok x=>
   obtain⟨⟨t,b'⟩,c⟩:=x
   rw[stP_some_ok hbk hg,stP_some_ok (s:=shS A.length s) (x:=((t,b'),A.length+c)) hbk (by rw[hg]at hb;exact hb)]
   by_cases ht:t=.fin
   ·subst ht
    rw[goP_fin,goP_fin]
    split
    ·rfl
    ·rfl
   ·cases hl:layP most s.out t with
    | error e=>rw[goP_err ht hl,goP_err (s:=shS A.length s) ht hl];rfl
    | ok o=>rw[goP_ok ht hl,goP_ok (s:=shS A.length s) ht hl];rfl

theorem Ends.sh{ls:List Nat}{most:Nat}{s t:Ps}{e:Nat}(h:Ends ls most s t e)(A:List Nat)(h8:A.length % 8=0):Ends (A++ls) most (shS A.length s) (shS A.length t) e:=by
 induction h with
 | stop h=>exact .stop (by rw[stP_sh A ls h8,h];rfl)
 | done h=>exact .done (by rw[stP_sh A ls h8,h];rfl)
 | step h _ ih=>exact .step (by rw[stP_sh A ls h8,h];rfl) ih

theorem Ends.goes{B cs:List Nat}{most:Nat}{t u:Ps}{e:Nat}(h:Ends (ofBytes B) most ps0 t 55)(h':Ends (ofBytes (B.drop (t.c / 8)++cs)) most ⟨t.c % 8,t.out,t.bk⟩ u e):Ends (ofBytes (B++cs)) most ps0 (shS (t.c / 8*8) u) e:=by
 have hle:=(h.inv (ofBytes_lt B) (ps0_ok _)).1.le
 rw[ofBytes_length]at hle
 have hq:t.c / 8≤B.length:=by omega
 have hA:(ofBytes (B.take (t.c / 8))).length=t.c / 8*8:=by rw[ofBytes_length,List.length_take];omega
 have h2:=h'.sh (ofBytes (B.take (t.c / 8))) (by omega)
 rw[←ofBytes_append,←List.append_assoc,List.take_append_drop,hA]at h2
 have e1:shS (t.c / 8*8) ⟨t.c % 8,t.out,t.bk⟩=t:=by
  unfold shS
  simp only
  rw[show t.c / 8*8+t.c % 8=t.c by omega]
 rw[e1]at h2
 rw[ofBytes_append]at h2 ⊢
 exact h.more (ofBytes_lt B) (ofBytes cs) (ofBytes_lt cs) (ps0_ok _) (Nat.zero_le _) rfl h2

end Go.Proofs.YtggcbnhckcenmaaGreatDoor

namespace Go.Proofs.YtggcbnhckcenmaaGreatDoor
open Go.RowKit
theorem SrcE.inn{α:Type}{enc:α→Value}{w:World}{I:Nat→Prop}{v:Value}{xs:List α}(h:SrcE enc w I v xs):SrcE enc w (fun k=>I k∧k<w.heap.size) v xs:=by
 obtain⟨ao,cap,h1,h2,h3⟩:=h
 refine⟨ao,cap,h1,h2,fun hne=>?_⟩
 obtain⟨b,o,h4,h5,h6⟩:=h3 hne
 have hpos:0<xs.length:=by cases xs with | nil=>exact absurd rfl hne | cons _ _=>simp
 exact⟨b,o,h4,⟨h5,World.block_lt_of_cell? w _ (h6 0 hpos)⟩,h6⟩

theorem fix_lst:fixL.length≤288∧(∀n∈fixL,n≤15)∧measure fixL≤32768∧fixD.length≤288∧(∀n∈fixD,n≤15)∧measure fixD≤32768:=by
 refine⟨by decide +kernel,by decide +kernel,by decide +kernel,by decide +kernel,by decide +kernel,by decide +kernel⟩

theorem RS.out_lt{w:World}{I G:Nat→Prop}{h:Nat}{v:Value}{ls:List Nat}{most:Nat}{s:S5}{c:Nat}{vo:Value}(r:RS w I G h v ls most s c vo):∀k,vo.ownBlock=some k→k<w.heap.size:=fun _ e=>r.row.lt e

structure ReadR(w w':World)(h:Nat)(vb:Value)(c:Nat)(vo:Value)(most:Nat)(ls:List Nat)(s:S5):Prop where
 blk:RdB w' h vb c vo most s.e
 row:Row w' vo s.out
 pl:s.e=0→c=s.c
 le:c≤ls.length
 ol:s.out.length≤most
 by':∀b∈s.out,b<256
 same:Same w w'
 hnew:w.heap.size≤h
 onew:∀k,vo.ownBlock=some k→w.heap.size≤k
 ne:vo.ownBlock≠some h

end Go.Proofs.YtggcbnhckcenmaaGreatDoor
