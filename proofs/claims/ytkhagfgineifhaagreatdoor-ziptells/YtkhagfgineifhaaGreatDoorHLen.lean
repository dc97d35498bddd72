import Derived.Test.YtkhagfgineifhaaGreatDoorHRange
namespace Go.Proofs.YtkhagfgineifhaaGreatDoor
open Go.RowKit Go.Shelf
attribute [local go_sem] Oper.semAt_some
def dP(ns:List Nat)(p:Nat->Nat):List Nat:=(List.range ns.length).map (λs=>if key ns s=0 then 0 else p ((aD ns).idxOf s))
theorem oO(ns:List Nat)(p:Nat->Nat):(dP ns p).length=ns.length:=by simp[dP]
theorem uA(ns:List Nat)(j:Nat)(h:j<(aD ns).length):(aD ns).idxOf (aD ns)[j]=j:=(Dn ns).idxOf_getElem j h
theorem GW(ns:List Nat)(p:Nat->Nat)(j:Nat)(h:j<(aD ns).length)(hl:(aD ns)[j]<(dP ns p).length):(dP ns p)[(aD ns)[j]]=p j:=by have h0:=(aW.1 (List.getElem_mem h)).2;simp only[dP,List.getElem_map,List.getElem_range];rw[if_neg h0,uA ns j h]
theorem wo(ns:List Nat)(p:Nat->Nat)(j v:Nat)(h:j<(aD ns).length):(dP ns p).set (aD ns)[j] v=dP ns (λi=>if i=j then v else p i):=by
 unfold dP;refine List.ext_getElem (by simp) (λs h1 h2=>?_);simp only[List.getElem_set,List.getElem_map,List.getElem_range];have h0:=(aW.1 (List.getElem_mem h)).2;by_cases e:(aD ns)[j]=s
 ·subst e;rw[if_pos rfl,if_neg h0,uA ns j h,if_pos rfl]
 ·rw[if_neg e];by_cases hk:key ns s=0
  ·rw[if_pos hk,if_pos hk]
  ·rw[if_neg hk,if_neg hk];have hm:s∈aD ns:=aW.2 ⟨by simpa using h2,hk⟩;rw[if_neg];intro hi;apply e;have hlt:(aD ns).idxOf s<(aD ns).length:=List.idxOf_lt_length_of_mem hm;have:=List.getElem_idxOf hlt;simp only[hi]at this;exact this
theorem jt(ns:List Nat)(p q:Nat->Nat)(h:∀i,i<(aD ns).length->p i=q i):dP ns p=dP ns q:=by
 unfold dP;refine List.map_congr_left (λs hs=>?_);by_cases hk:key ns s=0
 ·rw[if_pos hk,if_pos hk]
 ·rw[if_neg hk,if_neg hk];have hm:s∈aD ns:=aW.2 ⟨by simpa using hs,hk⟩;exact h _ (List.idxOf_lt_length_of_mem hm)
theorem on(ns:List Nat):dP ns (λ_=>0)=List.replicate ns.length 0:=by unfold dP;simp[List.map_const']
theorem NRow.apartT{B B':Nat}{w:World}{v v':Value}{its:List (Nat×Bool)}{xs:List Nat}(h:TRow B w v its)(h':NRow B' w v' xs){j g:Nat}(hj:v.ownBlock=some j)(hg:v'.ownBlock=some g):j≠g:=by
 rintro rfl;rcases h.2 with⟨rfl,_⟩ | ⟨g1,c1,PW,rfl,_,e1,_⟩
 ·simp[Value.ownBlock]at hj
 ·rcases h'.2 with⟨rfl,_⟩ | ⟨g2,c2,M7,rfl,_,e2,_⟩
  ·simp[Value.ownBlock]at hg
  ·simp[Value.ownBlock]at hj hg;subst hj hg;rw[e1]at e2;simp at e2
theorem NRow.apartL{B B':Nat}{w:World}{v v':Value}{vs:List (Option Addr×Nat×Nat)}{xs:List Nat}(h:rZ B w v vs)(h':NRow B' w v' xs){j g:Nat}(hj:v.ownBlock=some j)(hg:v'.ownBlock=some g):j≠g:=by
 rintro rfl;rcases h.2 with⟨rfl,_⟩ | ⟨g1,c1,PW,rfl,_,e1,_⟩
 ·simp[Value.ownBlock]at hj
 ·rcases h'.2 with⟨rfl,_⟩ | ⟨g2,c2,M7,rfl,_,e2,_⟩
  ·simp[Value.ownBlock]at hg
  ·simp[Value.ownBlock]at hj hg;subst hj hg;rw[e1]at e2;simp at e2
structure LI(ns:List Nat)(most:Nat)(w3:World)(go bt n cn:Nat)(k:Nat)(W:World)(T:Nat)(p:Nat->Nat):Prop where
 ct:W.cell? ⟨bt,0,none⟩=some (.int .i64 (T:Nat))
 ft:W.frozen? ⟨bt,0,none⟩=false
 row:NRow 0 W (.slice (some ⟨go,0,none⟩) n cn) (dP ns p)
 kept:Kept (λj=>j=go\/j=bt) w3 W
 hT:T<=600
 hp:∀i,p i<=k
 more:k<most->T<=(cM (aQ ns) (most-1-k)).length/\∀i,p i+ev (aQ ns) (most-1-k) T i=ev (aQ ns) (most-1) (2*(aQ ns).length-2) i
 done:k=most->∀i,p i=ev (aQ ns) (most-1) (2*(aQ ns).length-2) i
theorem LI.own(ns:List Nat)(most:Nat)(w3:World)(go bt n cn:Nat):OwnFrom w3.heap.size (λk W=>∃T p,LI ns most w3 go bt n cn k W T p):=by
 rintro k W W' row ⟨T,p,h⟩ hg hr;have uS:∀b v,W.cell? ⟨b,0,none⟩=some v->some b≠row:=by intro b v hc e;obtain⟨_,o,ho,UM⟩:=hr b e.symm;simp only[World.cell?,ho]at hc;cases o<;>simp_all[Obj.isCells]
 have Mx:some go≠row:=by
  intro e;obtain⟨_,o,ho,UM⟩:=hr go e.symm;rcases h.row.2 with⟨e1,_⟩ | ⟨g2,c2,M7,e1,_,e2,_⟩
  ·simp at e1
  ·simp only[Value.slice.injEq,Option.some.injEq,Addr.mk.injEq,and_true]at e1;obtain⟨rfl,_⟩:=e1;rw[ho]at e2;simp at e2;subst e2;simp[Obj.isCells]at UM
 have N5:=uS bt _ h.ct;have hbl:bt<W.heap.size:=World.block_lt_of_cell? W _ h.ct;refine⟨T,p,?_,?_,World.ownsRow.kept h.row hg (.inr Mx),h.kept.grown hg (λj e=>.inr (hr j e).1),h.hT,h.hp,h.more,h.done⟩
 ·exact hg.cell h.ct N5
 ·exact(World.frozen?_of_block (hg.block bt hbl N5)).trans h.ft
end Go.Proofs.YtkhagfgineifhaaGreatDoor
