import Derived.Test.YtljlmfnbeofmmaaGreatDoorJ36
import Derived.Test.YtljlmfnbeofmmaaGreatDoorJ10
namespace Go.Proofs.YtljlmfnbeofmmaaGreatDoor
theorem yj(l:List Nat)(f:Nat->Nat):(l.map f).sum=ev l.length (λi=>f (l.getD i 0)):=by unfold ev;congr 1;refine List.ext_getElem (by simp) (λi h1 h2=>?_);simp at h1;simp[List.getD,h1]
theorem Gk(ns:List Nat)(f:Nat->Nat)(i:Nat):((List.range i).map (λs=>if key ns s=0 then 0 else f s)).sum=((df ns i).map f).sum:=by
 induction i with
 | zero=>simp[df]
 | succ i ih=>
  rw[List.range_succ,List.map_append,List.sum_append,ih,fR,List.map_append,List.sum_append];congr 1;by_cases h:key ns i=0<;>simp[h]
theorem JL(ns:List Nat)(f:Nat->Nat):((List.range ns.length).map (λs=>if key ns s=0 then 0 else f s)).sum=ev (aE ns).length (λi=>f ((aE ns).getD i 0)):=by rw[Gk ns f ns.length,<-yj (aE ns) f];exact(xz f (fK ns)).symm
theorem xT(ns:List Nat)(p:Nat->Nat)(g:Nat->Nat)(hg:g 0=0):((d6 ns p).map g).sum=ev (aE ns).length (λi=>g (p i)):=by
 have e:(d6 ns p).map g=(List.range ns.length).map (λs=>if key ns s=0 then 0 else g (p ((aE ns).idxOf s))):=by
  unfold d6;rw[List.map_map];refine List.map_congr_left (λs _=>?_);simp only[Function.comp];by_cases h:key ns s=0
  ·rw[if_pos h,if_pos h,hg]
  ·rw[if_neg h,if_neg h]
 rw[e,JL];refine ij _ _ _ (λi hi=>?_);have:(aE ns).getD i 0=(aE ns)[i]:=by simp[List.getD,hi]
 rw[this,tY ns i hi]
theorem xM(l:List Nat):measure l=(l.map eG).sum:=rfl
theorem C9(l:List Nat):dK l=(l.map (λn=>if n=0 then 0 else 1)).sum:=by
 induction l with
 | nil=>rfl
 | cons a r ih=>
  unfold dK at *
  rw[List.countP_cons,ih,List.map_cons,List.sum_cons];by_cases h:a=0<;>simp[h]<;>omega
theorem mV(ns:List Nat)(p:Nat->Nat):measure (d6 ns p)=ev (aE ns).length (λi=>eG (p i)):=by rw[xM,xT ns p eG rfl]
theorem CZ(ns:List Nat)(p:Nat->Nat)(hp:∀i,i<(aE ns).length->p i≠0):dK (d6 ns p)=(aE ns).length:=by rw[C9,xT ns p _ rfl,ij _ _ (λ_=>1) (λi hi=>if_neg (hp i hi)),mn,Nat.mul_one]
structure Many(ns:List Nat)(most:Nat):Prop where
 two:2<=(aE ns).length
 fit:(aE ns).length<=2 ^ most
 m1:1<=most
 m15:most<=15
def gn(ns:List Nat)(most:Nat):Nat->Nat:=ew (aU ns) (most-1) (2*(aU ns).length-2)
theorem C3{ns:List Nat}{most:Nat}(h:Many ns most):dX ns most=d6 ns (gn ns most):=by have:=h.two;unfold dX gn;rw[if_neg (by omega)]
theorem Many.pos{ns:List Nat}{most:Nat}(h:Many ns most)(i:Nat)(hi:i<(aE ns).length):1<=gn ns most i:=by have h2:=h.two;have h3:=h.m1;refine F6 (aU ns) (BH ns) (most-1) (by rw[bj];exact h2) (by rw[bj,show most-1+1=most by omega];exact h.fit) i (by rw[bj];exact hi)
theorem Many.le{ns:List Nat}{most:Nat}(h:Many ns most)(i:Nat):gn ns most i<=most:=by have h1:=Be (aU ns) (most-1) (2*(aU ns).length-2) i;have h3:=h.m1;unfold gn;omega
theorem Many.kraft{ns:List Nat}{most:Nat}(h:Many ns most):measure (dX ns most)=32768:=by
 have h2:=h.two;have h3:=h.m1;have h4:=h.m15;rw[C3 h,mV];have hk:=qN (aU ns) (BH ns) (most-1) (by rw[bj];exact h2) (by rw[bj,show most-1+1=most by omega];exact h.fit);rw[bj,show most-1+1=most by omega]at hk;have e:ev (aE ns).length (λi=>eG (gn ns most i))=ev (aE ns).length (λi=>2 ^ (15-most)*2 ^ (most-gn ns most i)):=by refine ij _ _ _ (λi hi=>?_);have p1:=h.pos i hi;have p2:=h.le i;rw[eG,if_neg (by omega),<-Nat.pow_add];congr 1;omega
 have ED:∀(m c:Nat) (f:Nat->Nat),ev m (λi=>c*f i)=c*ev m f:=by
  intro m c f
  induction m with
  | zero=>simp[ev]
  | succ m ih=>rw[dS,dS,ih,Nat.mul_add]
 have hk2:ev (aE ns).length (λi=>2 ^ (most-gn ns most i))=2 ^ most:=by unfold gn;rw[bj];exact hk
 rw[e,ED,hk2,<-Nat.pow_add,show 15-most+most=15 by omega]
theorem pQ(ns:List Nat)(most s:Nat)(h:s<(dX ns most).length):(dX ns most)[s]=if key ns s=0 then 0 else if (aE ns).length<=1 then 1 else gn ns most ((aE ns).idxOf s):=by
 unfold dX at *
 by_cases h1:(aE ns).length<=1
 ·simp only[if_pos h1,d6,List.getElem_map,List.getElem_range]
 ·simp only[if_neg h1,d6,List.getElem_map,List.getElem_range,gn]
theorem sY(ns:List Nat)(most:Nat)(hp:0<(aE ns).length)(cQ:(aE ns).length<=2 ^ most)(h1:1<=most)(h15:most<=15):bA (dX ns most)=0:=by
 by_cases h:(aE ns).length<=1
 ·have e:(aE ns).length=1:=(by omega);have el:dX ns most=d6 ns (λ_=>1):=(by unfold dX;rw[if_pos h]);have em:measure (dX ns most)=16384:=by
   rw[el,mV,e];decide
  have eu:dK (dX ns most)=1:=(by rw[el,CZ ns _ (λ_ _=>by omega),e]);unfold bA;rw[em,eu];decide
 ·have hm:Many ns most:=⟨by omega,cQ,h1,h15⟩
  have em:=hm.kraft;unfold bA;rw[em,if_neg (by omega),if_pos rfl]
theorem Hw(ns:List Nat)(most:Nat)(cQ:(aE ns).length<=2 ^ most)(h1:1<=most)(h15:most<=15):∀n∈dX ns most,n<=most:=by
 intro n hn;obtain⟨s,hs,rfl⟩:=List.getElem_of_mem hn;rw[pQ];split
 ·omega
 ·split
  ·omega
  ·rename_i h2 h3;exact Many.le ⟨by omega,cQ,h1,h15⟩ _
end Go.Proofs.YtljlmfnbeofmmaaGreatDoor
