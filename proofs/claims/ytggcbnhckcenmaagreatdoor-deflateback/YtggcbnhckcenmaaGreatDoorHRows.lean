import Derived.Test.YtggcbnhckcenmaaGreatDoorHRef
import Derived.Test.YtggcbnhckcenmaaGreatDoorHDecM
namespace Go.Proofs.YtggcbnhckcenmaaGreatDoor
open Go.RowKit

def rowB:Nat→Nat→List Nat
 | 0,_=>[]
 | n+1,c=>rowB n (c / 2)++[c % 2]

theorem rowB_length(n c:Nat):(rowB n c).length=n:=by
 induction n generalizing c with
 | zero=>rfl
 | succ n ih=>simp[rowB,ih]

theorem rowB_n2(n c:Nat):n2 (rowB n c)=rv n c:=by
 induction n generalizing c with
 | zero=>rfl
 | succ n ih=>
  simp only[rowB,rv]
  rw[n2_append,ih,rowB_length]
  simp[n2,Nat.mul_comm]
  omega

theorem rowB_bit(n c:Nat):∀b∈rowB n c,b<2:=by
 induction n generalizing c with
 | zero=>simp[rowB]
 | succ n ih=>
  intro b hb
  rcases List.mem_append.1 hb with hb | hb
  ·exact ih _ b hb
  ·have:b=c % 2:=by simpa using hb
   omega

def pre(ns:List Nat)(n i t:Nat):Prop:=key ns t<n∨key ns t=n∧t<i
instance (ns:List Nat) (n i t:Nat):Decidable (pre ns n i t):=inferInstanceAs (Decidable (_∨_))

def sumP(ns:List Nat)(n i:Nat):Nat:=(((ris ns).filter (fun t=>decide (pre ns n i t))).map (uk ns)).sum

theorem sumP_start(ns:List Nat):sumP ns 1 0=0:=by
 unfold sumP
 rw[List.filter_eq_nil_iff.2]
 ·rfl
 ·intro t ht h
  have:=(mem_ris.1 ht).2
  simp[pre]at h
  omega

theorem sumP_miss(ns:List Nat)(n i:Nat)(h:key ns i≠n):sumP ns n (i+1)=sumP ns n i:=by
 unfold sumP
 congr 2
 refine List.filter_congr (fun t _=>decide_eq_decide.2 ?_)
 unfold pre
 constructor
 ·rintro(h1 | ⟨h1,h2⟩)
  ·exact .inl h1
  ·refine .inr ⟨h1,?_⟩
   by_cases e:t=i
   ·subst e;exact absurd h1 h
   ·omega
 ·rintro(h1 | ⟨h1,h2⟩)
  ·exact .inl h1
  ·exact .inr ⟨h1,by omega⟩

theorem sumP_round(ns:List Nat)(n:Nat):sumP ns n ns.length=sumP ns (n+1) 0:=by
 unfold sumP
 congr 2
 refine List.filter_congr (fun t ht=>decide_eq_decide.2 ?_)
 have:=(mem_ris.1 ht).1
 unfold pre
 omega

theorem sumP_hit(ns:List Nat)(i:Nat):sumP ns (key ns i) i=startOf ns i:=by
 unfold sumP startOf
 congr 2

theorem sumP_next(ns:List Nat)(i:Nat)(hi:i∈ris ns):sumP ns (key ns i) (i+1)=startOf ns i+2 ^ (15-key ns i):=by
 obtain⟨k,hk,rfl,a1,a2⟩:=place_of hi
 rw[←a2]
 unfold sumP sumTo
 congr 2
 have hs:=ris_sorted ns
 have hsplit:(ris ns)=(ris ns).take k++(ris ns)[k]::(ris ns).drop (k+1):=by
  rw[←List.drop_eq_getElem_cons hk,List.take_append_drop]
 rw[List.take_succ_eq_append_getElem hk]
 generalize hx:(ris ns)[k]=x at *
 generalize hA:(ris ns).take k=A at *
 generalize (ris ns).drop (k+1)=B at *
 rw[hsplit]at hs ⊢
 rw[List.filter_append,List.filter_cons_of_pos (by simp[pre])]
 have h1:A.filter (fun t=>decide (pre ns (key ns x) (x+1) t))=A:=List.filter_eq_self.2 (fun a ha=>by
  have:=Sorted.cross hs a ha x (by simp)
  refine decide_eq_true ?_
  unfold pre
  unfold Lt at this
  omega)
 have h2:B.filter (fun t=>decide (pre ns (key ns x) (x+1) t))=[]:=List.filter_eq_nil_iff.2 (fun b hb=>by
  have:=(List.pairwise_cons.1 (Sorted.right hs)).1 b hb
  intro hc
  have hc:=of_decide_eq_true hc
  unfold pre at hc
  unfold Lt at this
  omega)
 rw[h1,h2]

abbrev BRow(B:Nat):=RowE B 22 slV

theorem BRow.apart{B:Nat}{w:World}{v v':Value}{bs:List Nat}{vs:List (Option Addr×Nat×Nat)}(h:Row w v bs)(h':BRow B w v' vs){j g:Nat}(hj:v.ownBlock=some j)(hg:v'.ownBlock=some g):j≠g:=by
 rintro rfl
 rcases h.2 with⟨rfl,_⟩ | ⟨g1,c1,cur1,rfl,_,e1,_⟩
 ·simp[Value.ownBlock]at hj
 ·rcases h'.2 with⟨rfl,_⟩ | ⟨g2,c2,cur2,rfl,_,e2,_⟩
  ·simp[Value.ownBlock]at hg
  ·simp[Value.ownBlock]at hj hg
   subst hj hg
   rw[e1]at e2
   simp at e2

theorem Tryz.infoB:(Tryz.prog.info? 22).map (fun i=>(i.zero,i.size,i.bytes))=some (some (slV (none,0,0)),1,24):=by kernel_rfl

structure RW(w0 w':World)(go n:Nat)(ns:List Nat)(p:Nat→Prop)(rs:List (Option Addr×Nat×Nat)):Prop where
 row:BRow w0.heap.size w' (.slice (some ⟨go,0,none⟩) n n) rs
 have':∀s (h:s<rs.length),p s→Row w' (slV rs[s]) (rowB (key ns s) (codeOf ns s))∧∀k,(slV rs[s]).ownBlock=some k→w0.heap.size≤k
 none':∀s (h:s<rs.length),¬p s→rs[s]=(none,0,0)
 same:Same w0 w'

theorem RW.mono{w0 w':World}{go n:Nat}{ns:List Nat}{p q:Nat→Prop}{rs:List (Option Addr×Nat×Nat)}(h:RW w0 w' go n ns p rs)(hpq:∀s,s<rs.length→(p s↔q s)):RW w0 w' go n ns q rs:=
 ⟨h.row,fun s hs hq=>h.have' s hs ((hpq s hs).2 hq),fun s hs hq=>h.none' s hs (fun hp=>hq ((hpq s hs).1 hp)),h.same⟩

theorem RW.later{w0 w' w2:World}{go n:Nat}{ns:List Nat}{p:Nat→Prop}{rs:List (Option Addr×Nat×Nat)}(h:RW w0 w' go n ns p rs)(hk:Same w' w2):RW w0 w2 go n ns p rs:=
 ⟨h.row.same hk,fun s hs hp=>⟨(h.have' s hs hp).1.kept hk (fun _ _ f=>f),(h.have' s hs hp).2⟩,h.none',Same.trans h.same hk⟩

theorem RW.put{w0 w':World}{go n:Nat}{ns:List Nat}{p:Nat→Prop}{rs:List (Option Addr×Nat×Nat)}(h:RW w0 w' go n ns p rs)(i:Nat)(a:Option Addr)(l c:Nat)(_hi:i<rs.length)(hrow:Row w' (.slice a l c) (rowB (key ns i) (codeOf ns i)))(hb:∀k,(Value.slice a l c).ownBlock=some k→w0.heap.size≤k):
  RW w0 (w'.setCell ⟨go,i,none⟩ (.slice a l c)) go n ns (fun s=>s=i∨p s) (rs.set i (a,l,c)):=by
 have hk:Kept (·=go) w' (w'.setCell ⟨go,i,none⟩ (.slice a l c)):=(Kept.refl (·=go) w').setCell ⟨go,i,none⟩ _ (.inl rfl)
 have hgo:w0.heap.size≤go:=h.row.ge rfl
 refine⟨h.row.lay i (a,l,c),fun s hs hp=>?_,fun s hs hp=>?_,Same.then h.same hk (fun x hx e=>by omega)⟩
 ·rw[List.length_set]at hs
  by_cases e:i=s
  ·subst e
   simp only[List.getElem_set_self]
   exact⟨hrow.kept hk (fun k hk' e=>BRow.apart hrow h.row hk' rfl e),hb⟩
  ·simp only[List.getElem_set_ne e]
   have hp2:p s:=by rcases hp with h1 | h1;exact absurd h1.symm e;exact h1
   have h2:=h.have' s hs hp2
   exact⟨h2.1.kept hk (fun k hk' e=>BRow.apart h2.1 h.row hk' rfl e),h2.2⟩
 ·rw[List.length_set]at hs
  have e:i≠s:=fun e=>hp (.inl e.symm)
  simp only[List.getElem_set_ne e]
  exact h.none' s hs (fun h1=>hp (.inr h1))

end Go.Proofs.YtggcbnhckcenmaaGreatDoor
