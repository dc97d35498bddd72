import Derived.Test.YtkhagfgineifhaaGreatDoorJ36
import Derived.Test.YtkhagfgineifhaaGreatDoorJ10
namespace Go.Proofs.YtkhagfgineifhaaGreatDoor
theorem wm(l:List Nat)(f:Nat->Nat):(l.map f).sum=et l.length (λi=>f (l.getD i 0)):=by unfold et;congr 1;refine List.ext_getElem (by simp) (λi h1 h2=>?_);simp at h1;simp[List.getD,h1]
theorem Gd(ns:List Nat)(f:Nat->Nat)(i:Nat):((List.range i).map (λs=>if key ns s=0 then 0 else f s)).sum=((cW ns i).map f).sum:=by
 induction i with
 | zero=>simp[cW]
 | succ i ih=>
  rw[List.range_succ,List.map_append,List.sum_append,ih,fO,List.map_append,List.sum_append];congr 1;by_cases h:key ns i=0<;>simp[h]
theorem JT(ns:List Nat)(f:Nat->Nat):((List.range ns.length).map (λs=>if key ns s=0 then 0 else f s)).sum=et (aD ns).length (λi=>f ((aD ns).getD i 0)):=by rw[Gd ns f ns.length,<-wm (aD ns) f];exact(wC f (fP ns)).symm
theorem vN(ns:List Nat)(p:Nat->Nat)(g:Nat->Nat)(hg:g 0=0):((dP ns p).map g).sum=et (aD ns).length (λi=>g (p i)):=by
 have e:(dP ns p).map g=(List.range ns.length).map (λs=>if key ns s=0 then 0 else g (p ((aD ns).idxOf s))):=by
  unfold dP;rw[List.map_map];refine List.map_congr_left (λs _=>?_);simp only[Function.comp];by_cases h:key ns s=0
  ·rw[if_pos h,if_pos h,hg]
  ·rw[if_neg h,if_neg h]
 rw[e,JT];refine gK _ _ _ (λi hi=>?_);have:(aD ns).getD i 0=(aD ns)[i]:=by simp[List.getD,hi]
 rw[this,uA ns i hi]
theorem vC(l:List Nat):measure l=(l.map eM).sum:=rfl
theorem Dm(l:List Nat):dE l=(l.map (λn=>if n=0 then 0 else 1)).sum:=by
 induction l with
 | nil=>rfl
 | cons a r ih=>
  unfold dE at *
  rw[List.countP_cons,ih,List.map_cons,List.sum_cons];by_cases h:a=0<;>simp[h]<;>omega
theorem mG(ns:List Nat)(p:Nat->Nat):measure (dP ns p)=et (aD ns).length (λi=>eM (p i)):=by rw[vC,vN ns p eM rfl]
theorem CG(ns:List Nat)(p:Nat->Nat)(hp:∀i,i<(aD ns).length->p i≠0):dE (dP ns p)=(aD ns).length:=by rw[Dm,vN ns p _ rfl,gK _ _ (λ_=>1) (λi hi=>if_neg (hp i hi)),lR,Nat.mul_one]
structure Many(ns:List Nat)(most:Nat):Prop where
 two:2<=(aD ns).length
 fit:(aD ns).length<=2 ^ most
 m1:1<=most
 m15:most<=15
def gn(ns:List Nat)(most:Nat):Nat->Nat:=ev (aQ ns) (most-1) (2*(aQ ns).length-2)
theorem C8{ns:List Nat}{most:Nat}(h:Many ns most):dS ns most=dP ns (gn ns most):=by have:=h.two;unfold dS gn;rw[if_neg (by omega)]
theorem Many.pos{ns:List Nat}{most:Nat}(h:Many ns most)(i:Nat)(hi:i<(aD ns).length):1<=gn ns most i:=by have h2:=h.two;have h3:=h.m1;refine G2 (aQ ns) (Bj ns) (most-1) (by rw[bj];exact h2) (by rw[bj,show most-1+1=most by omega];exact h.fit) i (by rw[bj];exact hi)
theorem Many.le{ns:List Nat}{most:Nat}(h:Many ns most)(i:Nat):gn ns most i<=most:=by have h1:=BO (aQ ns) (most-1) (2*(aQ ns).length-2) i;have h3:=h.m1;unfold gn;omega
theorem Many.kraft{ns:List Nat}{most:Nat}(h:Many ns most):measure (dS ns most)=32768:=by
 have h2:=h.two;have h3:=h.m1;have h4:=h.m15;rw[C8 h,mG];have hk:=qD (aQ ns) (Bj ns) (most-1) (by rw[bj];exact h2) (by rw[bj,show most-1+1=most by omega];exact h.fit);rw[bj,show most-1+1=most by omega]at hk;have e:et (aD ns).length (λi=>eM (gn ns most i))=et (aD ns).length (λi=>2 ^ (15-most)*2 ^ (most-gn ns most i)):=by refine gK _ _ _ (λi hi=>?_);have p1:=h.pos i hi;have p2:=h.le i;rw[eM,if_neg (by omega),<-Nat.pow_add];congr 1;omega
 have EE:∀(m c:Nat) (f:Nat->Nat),et m (λi=>c*f i)=c*et m f:=by
  intro m c f
  induction m with
  | zero=>simp[et]
  | succ m ih=>rw[dO,dO,ih,Nat.mul_add]
 have hk2:et (aD ns).length (λi=>2 ^ (most-gn ns most i))=2 ^ most:=by unfold gn;rw[bj];exact hk
 rw[e,EE,hk2,<-Nat.pow_add,show 15-most+most=15 by omega]
theorem qt(ns:List Nat)(most s:Nat)(h:s<(dS ns most).length):(dS ns most)[s]=if key ns s=0 then 0 else if (aD ns).length<=1 then 1 else gn ns most ((aD ns).idxOf s):=by
 unfold dS at *
 by_cases h1:(aD ns).length<=1
 ·simp only[if_pos h1,dP,List.getElem_map,List.getElem_range]
 ·simp only[if_neg h1,dP,List.getElem_map,List.getElem_range,gn]
theorem tn(ns:List Nat)(most:Nat)(hp:0<(aD ns).length)(cL:(aD ns).length<=2 ^ most)(h1:1<=most)(h15:most<=15):bw (dS ns most)=0:=by
 by_cases h:(aD ns).length<=1
 ·have e:(aD ns).length=1:=(by omega);have el:dS ns most=dP ns (λ_=>1):=(by unfold dS;rw[if_pos h]);have em:measure (dS ns most)=16384:=by
   rw[el,mG,e];decide
  have eu:dE (dS ns most)=1:=(by rw[el,CG ns _ (λ_ _=>by omega),e]);unfold bw;rw[em,eu];decide
 ·have hm:Many ns most:=⟨by omega,cL,h1,h15⟩
  have em:=hm.kraft;unfold bw;rw[em,if_neg (by omega),if_pos rfl]
theorem Hl(ns:List Nat)(most:Nat)(cL:(aD ns).length<=2 ^ most)(h1:1<=most)(h15:most<=15):∀n∈dS ns most,n<=most:=by
 intro n hn;obtain⟨s,hs,rfl⟩:=List.getElem_of_mem hn;rw[qt];split
 ·omega
 ·split
  ·omega
  ·rename_i h2 h3;exact Many.le ⟨by omega,cL,h1,h15⟩ _
end Go.Proofs.YtkhagfgineifhaaGreatDoor
