/-
  Of the proof: parts InParLaw.
-/
import Derived.Test.YtggcbnhckcenmaaGreatDoorJ35

namespace Go.Proofs.YtggcbnhckcenmaaGreatDoor
open Go.RowKit

theorem Src.part{w:World}{I:Nat→Prop}{a a':Option Addr}{n cap k m c':Nat}{bs:List Nat}(h:Src w I (.slice a n cap) bs)(hk:k≤m)(hm:m≤bs.length)(ha:k<m→∃b o,a=some ⟨b,o,none⟩∧a'=some ⟨b,o+k,none⟩):Src w I (.slice a' (m-k) c') ((bs.drop k).take (m-k)):=by
 obtain⟨ao,c,e,hs⟩:=h
 simp only[Value.slice.injEq]at e
 obtain⟨rfl,hn,rfl⟩:=e
 have hlen:((bs.drop k).take (m-k)).length=m-k:=by rw[List.length_take,List.length_drop];omega
 refine⟨a',c',by rw[hlen],fun hne=>?_⟩
 have hkm:k<m:=by
  refine Classical.byContradiction (fun hc=>hne ?_)
  exact List.eq_nil_of_length_eq_zero (by rw[hlen];omega)
 obtain⟨b,o,h1,h2,h3⟩:=hs (fun e=>by rw[e]at hm;simp at hm;omega)
 obtain⟨b',o',h4,h5⟩:=ha hkm
 rw[h1]at h4
 simp only[Option.some.injEq,Addr.mk.injEq,and_true]at h4
 obtain⟨rfl,rfl⟩:=h4
 refine⟨b,o+k,h5,h2,fun j hj=>?_⟩
 rw[hlen]at hj
 have:=h3 (k+j) (by omega)
 rw[←Nat.add_assoc]at this
 rw[this,List.getElem_take,List.getElem_drop]

theorem take_part(bs:List Nat)(k m:Nat)(hk:k≤m):bs.take k++(bs.drop k).take (m-k)=bs.take m:=by
 obtain⟨d,rfl⟩:∃d,m=k+d:=⟨m-k,by omega⟩
 rw[Nat.add_sub_cancel_left,List.take_add]

structure Told(N:Nat)(w:World)(h most:Nat)(P all:List Nat)(va:Value)(t:Ps)(er:Nat)(F:Nat→Prop):Prop where
 st:StI N w h most P t er F
 row:Row w va all
 tell:er=0∨er=55→all=t.out
 ol:all.length≤most
 own:∀k,va.ownBlock=some k→N≤k∧¬F k

theorem Told.fed{N:Nat}{w w1 w2:World}{h most:Nat}{P cs all:List Nat}{va u v':Value}{t t':Ps}{er er':Nat}{F F':Nat→Prop}{x:Ending}(s:Told N w h most P all va t er F)(f:FedA N w w1 h most (P++cs) t F x u t' er' F')(hrow:Row w2 v' (all++(if er'=0∨er'=55 then t'.out.drop t.out.length else [])))(hg:w1.grownBy w2 va.ownBlock)(ho:v'.ownBlock=va.ownBlock∨v'.ownBlock=some w1.heap.size)(hback:er'=0∨er'=55→er=0∨er=55)(hO:0<N):
  Told N w2 h most (P++cs) (all++(if er'=0∨er'=55 then t'.out.drop t.out.length else [])) v' t' er' F':=by
 have hk:Kept (fun k=>va.ownBlock=some k) w1 w2:=(Kept.refl _ w1).grown hg (fun k e=>.inl e)
 have hva:∀k,va.ownBlock=some k→¬F' k:=fun k e f9=>(s.own k e).2 (f.old k (s.row.lt e) f9)
 refine⟨f.st.kept hk (fun j hj e=>hva j e hj) (fun e=>by have:=(s.own _ e).1;omega),hrow,fun h9=>?_,?_,fun k e=>?_⟩
 ·rw[if_pos h9,s.tell (hback h9)]
  exact f.all h9
 ·by_cases h9:er'=0∨er'=55
  ·rw[if_pos h9,s.tell (hback h9),f.all h9]
   exact(ends_in f.st.ends).2
  ·rw[if_neg h9,List.append_nil]
   exact s.ol
 ·rcases ho with h9 | h9
  ·rw[h9]at e
   exact⟨(s.own k e).1,hva k e⟩
  ·rw[h9]at e
   injection e with e
   have hs:=f.st.size
   exact⟨by omega,fun f9=>by have:=f.st.lt k f9;omega⟩

theorem FedA.back{N:Nat}{w w1:World}{h most:Nat}{P cs:List Nat}{u:Value}{t t':Ps}{er er':Nat}{F F':Nat→Prop}{x:Ending}(s:StI N w h most P t er F)(f:FedA N w w1 h most (P++cs) t F x u t' er' F'):er'=0∨er'=55→er=0∨er=55:=by
 intro h9
 refine Classical.byContradiction (fun hc=>?_)
 have h1:=ends_behind cs s.ends (fun e=>hc (.inr e))
 have h2:=(h1.det f.st.ends).2
 omega

end Go.Proofs.YtggcbnhckcenmaaGreatDoor
