import Derived.Test.YtllcnlnbpikhdaaGreatDoorJ36
import Derived.Test.YtllcnlnbpikhdaaGreatDoorJ10
namespace Go.Proofs.YtllcnlnbpikhdaaGreatDoor
theorem vj(l:List Nat)(f:Nat->Nat):(l.map f).sum=eh l.length (λi=>f (l.getD i 0)):=by unfold eh;congr 1;refine List.ext_getElem (by simp) (λi h1 h2=>?_);simp at h1;simp[List.getD,h1]
theorem FG(ns:List Nat)(f:Nat->Nat)(i:Nat):((List.range i).map (λs=>if key ns s=0 then 0 else f s)).sum=((cV ns i).map f).sum:=by
 induction i with
 | zero=>simp[cV]
 | succ i ih=>
  rw[List.range_succ,List.map_append,List.sum_append,ih,fG,List.map_append,List.sum_append];congr 1;by_cases h:key ns i=0<;>simp[h]
theorem JH(ns:List Nat)(f:Nat->Nat):((List.range ns.length).map (λs=>if key ns s=0 then 0 else f s)).sum=eh (aD ns).length (λi=>f ((aD ns).getD i 0)):=by rw[FG ns f ns.length,<-vj (aD ns) f];exact(xH f (fA ns)).symm
theorem xk(ns:List Nat)(p:Nat->Nat)(g:Nat->Nat)(hg:g 0=0):((dP ns p).map g).sum=eh (aD ns).length (λi=>g (p i)):=by
 have e:(dP ns p).map g=(List.range ns.length).map (λs=>if key ns s=0 then 0 else g (p ((aD ns).idxOf s))):=by
  unfold dP;rw[List.map_map];refine List.map_congr_left (λs _=>?_);simp only[Function.comp];by_cases h:key ns s=0
  ·rw[if_pos h,if_pos h,hg]
  ·rw[if_neg h,if_neg h]
 rw[e,JH];refine gP _ _ _ (λi hi=>?_);have:(aD ns).getD i 0=(aD ns)[i]:=by simp[List.getD,hi]
 rw[this,tC ns i hi]
theorem wo(l:List Nat):measure l=(l.map ep).sum:=rfl
theorem CW(l:List Nat):dB l=(l.map (λn=>if n=0 then 0 else 1)).sum:=by
 induction l with
 | nil=>rfl
 | cons a r ih=>
  unfold dB at *
  rw[List.countP_cons,ih,List.map_cons,List.sum_cons];by_cases h:a=0<;>simp[h]<;>omega
theorem mA(ns:List Nat)(p:Nat->Nat):measure (dP ns p)=eh (aD ns).length (λi=>ep (p i)):=by rw[wo,xk ns p ep rfl]
theorem CS(ns:List Nat)(p:Nat->Nat)(hp:∀i,i<(aD ns).length->p i≠0):dB (dP ns p)=(aD ns).length:=by rw[CW,xk ns p _ rfl,gP _ _ (λ_=>1) (λi hi=>if_neg (hp i hi)),lG,Nat.mul_one]
structure Many(ns:List Nat)(most:Nat):Prop where
 two:2<=(aD ns).length
 fit:(aD ns).length<=2 ^ most
 m1:1<=most
 m15:most<=15
def gn(ns:List Nat)(most:Nat):Nat->Nat:=ee (aP ns) (most-1) (2*(aP ns).length-2)
theorem DD{ns:List Nat}{most:Nat}(h:Many ns most):dO ns most=dP ns (gn ns most):=by have:=h.two;unfold dO gn;rw[if_neg (by omega)]
theorem Many.pos{ns:List Nat}{most:Nat}(h:Many ns most)(i:Nat)(hi:i<(aD ns).length):1<=gn ns most i:=by have h2:=h.two;have h3:=h.m1;refine EP (aP ns) (AP ns) (most-1) (by rw[ba];exact h2) (by rw[ba,show most-1+1=most by omega];exact h.fit) i (by rw[ba];exact hi)
theorem Many.le{ns:List Nat}{most:Nat}(h:Many ns most)(i:Nat):gn ns most i<=most:=by have h1:=BM (aP ns) (most-1) (2*(aP ns).length-2) i;have h3:=h.m1;unfold gn;omega
theorem Many.kraft{ns:List Nat}{most:Nat}(h:Many ns most):measure (dO ns most)=32768:=by
 have h2:=h.two;have h3:=h.m1;have h4:=h.m15;rw[DD h,mA];have hk:=qk (aP ns) (AP ns) (most-1) (by rw[ba];exact h2) (by rw[ba,show most-1+1=most by omega];exact h.fit);rw[ba,show most-1+1=most by omega]at hk;have e:eh (aD ns).length (λi=>ep (gn ns most i))=eh (aD ns).length (λi=>2 ^ (15-most)*2 ^ (most-gn ns most i)):=by refine gP _ _ _ (λi hi=>?_);have p1:=h.pos i hi;have p2:=h.le i;rw[ep,if_neg (by omega),<-Nat.pow_add];congr 1;omega
 have Ee:∀(m c:Nat) (f:Nat->Nat),eh m (λi=>c*f i)=c*eh m f:=by
  intro m c f
  induction m with
  | zero=>simp[eh]
  | succ m ih=>rw[dK,dK,ih,Nat.mul_add]
 have hk2:eh (aD ns).length (λi=>2 ^ (most-gn ns most i))=2 ^ most:=by unfold gn;rw[ba];exact hk
 rw[e,Ee,hk2,<-Nat.pow_add,show 15-most+most=15 by omega]
theorem qD(ns:List Nat)(most s:Nat)(h:s<(dO ns most).length):(dO ns most)[s]=if key ns s=0 then 0 else if (aD ns).length<=1 then 1 else gn ns most ((aD ns).idxOf s):=by
 unfold dO at *
 by_cases h1:(aD ns).length<=1
 ·simp only[if_pos h1,dP,List.getElem_map,List.getElem_range]
 ·simp only[if_neg h1,dP,List.getElem_map,List.getElem_range,gn]
theorem sM(ns:List Nat)(most:Nat)(hp:0<(aD ns).length)(cJ:(aD ns).length<=2 ^ most)(h1:1<=most)(h15:most<=15):bm (dO ns most)=0:=by
 by_cases h:(aD ns).length<=1
 ·have e:(aD ns).length=1:=(by omega);have el:dO ns most=dP ns (λ_=>1):=(by unfold dO;rw[if_pos h]);have em:measure (dO ns most)=16384:=by
   rw[el,mA,e];decide
  have eu:dB (dO ns most)=1:=(by rw[el,CS ns _ (λ_ _=>by omega),e]);unfold bm;rw[em,eu];decide
 ·have hm:Many ns most:=⟨by omega,cJ,h1,h15⟩
  have em:=hm.kraft;unfold bm;rw[em,if_neg (by omega),if_pos rfl]
theorem EA(ns:List Nat)(most:Nat)(cJ:(aD ns).length<=2 ^ most)(h1:1<=most)(h15:most<=15):∀n∈dO ns most,n<=most:=by
 intro n hn;obtain⟨s,hs,rfl⟩:=List.getElem_of_mem hn;rw[qD];split
 ·omega
 ·split
  ·omega
  ·rename_i h2 h3;exact Many.le ⟨by omega,cJ,h1,h15⟩ _
end Go.Proofs.YtllcnlnbpikhdaaGreatDoor
