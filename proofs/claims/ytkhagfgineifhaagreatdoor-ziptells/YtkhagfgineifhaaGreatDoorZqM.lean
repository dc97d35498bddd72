import Derived.Test.YtkhagfgineifhaaGreatDoorZpXd
import Derived.Test.YtkhagfgineifhaaGreatDoorZpU
import Derived.Test.YtkhagfgineifhaaGreatDoorDfT
namespace Go.Proofs.YtkhagfgineifhaaGreatDoor
theorem Jy{E:Nat->En}{s:ByteArray}{n:Nat}(h:oo E s n=false):∀i,i<n->(E i).n≠s:=by intro i hi e;rw[B9 hi e]at h;cases h
theorem rA{E:Nat->En}{n:Nat}(h:fT E n=0):∀i j,i<j->j<n->(E i).n≠(E j).n:=by
 intro i j Hy hj;unfold fT at h;split at h
 ·cases h
 ·have h2:=ww h j (Nat.zero_le _) (by omega);unfold yM at h2;split at h2
  ·cases h2
  ·rename_i h3;cases h5:oo E (E j).n j with
   | true=>exact absurd (.inr h5) h3
   | false=>exact Jy h5 i Hy
theorem JD{y:En}{bs:List Nat}(hn:eZ (sb y.n)=true)(hd:y.d.size<=8192):ItOk ⟨dZ y bs,d8 y bs⟩:=by
 obtain⟨h1,_,_,h4⟩:=uH y bs hn hd;refine⟨h1,rfl,BF hn (by simp) ?_ hd ?_ ?_⟩
 ·show(if bs.length<y.d.size then 8 else 0)=0\/(if bs.length<y.d.size then 8 else 0)=8;split
  ·exact .inr rfl
  ·exact .inl rfl
 ·show(d8 y bs).length<=16384;omega
 ·show(if bs.length<y.d.size then 8 else 0)=8\/(d8 y bs).length=y.d.size;by_cases h:bs.length<y.d.size
  ·rw[if_pos h];exact .inl rfl
  ·right
   unfold d8;rw[if_neg h,dX]
theorem uI{E:Nat->En}{len:Nat}{L:List It}(h:lD E len L)(hc:fT E len=0):(∀x∈L,ItOk x)/\(bM L).Nodup/\L.length<=64:=by
 obtain⟨ET,hok⟩:=kD hc;refine⟨λx hx=>?_,?_,by rw[h.1];exact ET⟩
 ·obtain⟨j,hj,rfl⟩:=List.getElem_of_mem hx;obtain⟨bs,_,e⟩:=h.2 j L[j] (List.getElem?_eq_getElem hj);rw[e];have:=hok j (by rw[<-h.1];exact hj);exact JD this.1 this.2
 ·unfold List.Nodup bM;rw[List.pairwise_map,List.pairwise_iff_getElem];intro i j hi hj Hy e;obtain⟨b1,_,e1⟩:=h.2 i L[i] (List.getElem?_eq_getElem hi);obtain⟨b2,_,e2⟩:=h.2 j L[j] (List.getElem?_eq_getElem hj);rw[e1,e2]at e;exact rA hc i j Hy (by rw[<-h.1];exact hj) (GA e)
theorem FD{L:List It}(h:∀x∈L,ItOk x):(aN L).length<=L.length*16600/\(bz 0 L).length<=L.length*120:=by
 rw[ue]
 induction L with
 | nil=>simp[aN]
 | cons x r ih=>
  obtain⟨i1,i2⟩:=ih (λy hy=>h y (by simp[hy]));have hx:=h x (by simp);obtain⟨hn,_,_,_,hp,_⟩:=iX hx.ok;have hn2:x.lab.name.length<=64:=by unfold eZ at hn;simp only[Bool.and_eq_true,decide_eq_true_eq]at hn;exact hn.1
  have:=hx.len;rw[da,List.length_append,fM,List.length_cons];simp only[List.map_cons,List.sum_cons];constructor
  ·omega
  ·omega
theorem kw{E:Nat->En}{len:Nat}{L:List It}(h:lD E len L)(hc:fT E len=0):(bT L).length<=1048576:=by
 obtain⟨ET,hok⟩:=kD hc;obtain⟨ho,U3,hl⟩:=uI h hc;have h2:=(FD ho).2;have h3:(aN L).length<=L.length*8400:=by
  have:∀x∈L,(lk x).length<=8400:=λx hx=>by obtain⟨j,hj,rfl⟩:=List.getElem_of_mem hx;obtain⟨bs,_,e⟩:=h.2 j L[j] (List.getElem?_eq_getElem hj);rw[fM,e];have h9:=hok j (by rw[<-h.1];exact hj);obtain⟨_,_,h3,h4⟩:=uH (E j) bs h9.1 h9.2;show 30+(dZ (E j) bs).name.length+(d8 (E j) bs).length<=8400;omega
  clear h2 ho hl h U3
  induction L with
  | nil=>simp[aN]
  | cons x r ih=>
   have i1:=ih (λy hy=>this y (by simp[hy]));have:=this x (by simp);rw[da,List.length_append,List.length_cons];omega
 rw[oV];omega
theorem xe{E:Nat->En}{len:Nat}{L:List It}(h:lD E len L)(hc:fT E len=0):fV (bT L)=.ok L:=by obtain⟨h1,h2,h3⟩:=uI h hc;exact sF L h1 h2 h3 (kw h hc)
theorem JM{y:En}{bs:List Nat}(hp:PDef (sb y.d) bs)(hd:y.d.size<=8192):df ⟨dZ y bs,d8 y bs⟩=.ok (sb y.d):=by
 unfold df;by_cases h:bs.length<y.d.size
 ·have e1:(dZ y bs).way=8:=(by simp[dZ,h]);have e2:d8 y bs=bs:=(by simp[d8,h]);obtain⟨t,ht,ho,hq⟩:=hp.reads (pT _) (most:=y.d.size) (by rw[dX];exact Nat.le_refl _) (by omega);obtain⟨r1,r2,r3⟩:=F4 ht;simp only[e1,e2];rw[if_pos trivial,show(dZ y bs).size=y.d.size from rfl,show(dZ y bs).sum=more 0 (sb y.d)from rfl,r2 (.inl rfl),r3 rfl,ho,if_pos ⟨r1,hq,dX _⟩,if_pos rfl]
 ·have e1:(dZ y bs).way=0:=(by simp[dZ,h]);have e2:d8 y bs=sb y.d:=(by simp[d8,h]);simp only[e1,e2];rw[if_neg (by decide),show(dZ y bs).sum=more 0 (sb y.d)from rfl,if_pos rfl]
end Go.Proofs.YtkhagfgineifhaaGreatDoor
