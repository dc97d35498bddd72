import Derived.Test.YtkhagfgineifhaaGreatDoorMath
namespace Go.Proofs.YtkhagfgineifhaaGreatDoor
structure TK where
 lit:Nat
 len:Int
 dist:Int
deriving DecidableEq
def pe(t:TK)(said:Nat):Bool:=
 if t.len=0 then decide (t.dist=0)else decide (t.lit=0/\3<=t.len/\t.len<=258/\1<=t.dist/\t.dist<=(said:Int))
def pc(t:TK):Nat:=(max t.len 1).toNat
def ce(most:Nat):List TK->Nat->Except Nat Nat
 | [],said=>.ok said
 | t::r,said=>if pe t said=false then .error 60 else if most<said+pc t then .error 2 else ce most r (said+pc t)
def Ew(far:Nat):Nat->List Nat->List Nat
 | 0,out=>out
 | n+1,out=>Ew far n (out++[out.getD (out.length-far) 0])
def mM(out:List Nat)(t:TK):List Nat:=if t.len=0 then out++[t.lit]else Ew t.dist.toNat t.len.toNat out
def xT(ts:List TK)(out:List Nat):List Nat:=ts.foldl mM out
theorem zy(far n:Nat)(out:List Nat):(Ew far n out).length=out.length+n:=by
 induction n generalizing out with
 | zero=>rfl
 | succ n ih=>rw[Ew,ih,List.length_append];simp;omega
theorem Fi(far n:Nat)(out:List Nat):Ew far (n+1) out=Ew far n out++[(Ew far n out).getD ((Ew far n out).length-far) 0]:=by
 induction n generalizing out with
 | zero=>rfl
 | succ n ih=>rw[Ew,ih,Ew]
theorem fa{t:TK}{said:Nat}(h:pe t said=true):(t.len=0/\t.dist=0/\pc t=1)\/(∃n d:Nat,t.len=n/\t.dist=d/\t.lit=0/\3<=n/\n<=258/\1<=d/\d<=said/\pc t=n):=by
 unfold pe at h;split at h
 ·rename_i h0;refine .inl ⟨h0,by simpa using h,?_⟩;unfold pc;rw[h0];rfl
 ·have h:=of_decide_eq_true h;refine .inr ⟨t.len.toNat,t.dist.toNat,by omega,by omega,h.1,by omega,by omega,by omega,by omega,?_⟩;unfold pc;omega
theorem FS(t:TK):1<=pc t:=by unfold pc;omega
theorem xM{t:TK}{said:Nat}(h:pe t said=true)(out:List Nat):(mM out t).length=out.length+pc t:=by
 unfold mM;rcases fa h with⟨h0,_,h1⟩ | ⟨n,d,h0,_,_,h3,_,_,_,h1⟩
 ·rw[if_pos h0,h1];simp
 ·rw[if_neg (by omega),zy,h1,h0];simp
theorem Fq{most:Nat}{ts:List TK}{said n:Nat}(h:ce most ts said=.ok n)(hs:said<=most):said<=n/\n<=most:=by
 induction ts generalizing said with
 | nil=>simp only[ce,Except.ok.injEq]at h;omega
 | cons t r ih=>
  unfold ce at h;split at h
  ·cases h
  ·split at h
   ·cases h
   ·have:=ih h (by omega);omega
def pt(n:Nat):Nat:=if n=0 then 0 else Nat.log2 n+1
theorem fZ(n k:Nat):pt n<=k↔n<2 ^ k:=by
 unfold pt;split
 ·rename_i h;subst h;simp;exact Nat.two_pow_pos k
 ·rename_i h;rw[<-Nat.log2_lt h];omega
def jO(data:List Nat)(i d:Nat):Nat->Nat->Nat
 | 0,n=>n
 | f+1,n=>if i+n<data.length/\data.getD (i+n) 0=data.getD (i+n-d) 0 then jO data i d f (n+1)else n
def jJ(data:List Nat)(i d:Nat):Nat:=jO data i d 258 0
theorem J7(data:List Nat)(i d f n:Nat):n<=jO data i d f n/\jO data i d f n<=n+f:=by
 induction f generalizing n with
 | zero=>exact⟨Nat.le_refl _,Nat.le_refl _⟩
 | succ f ih=>
  unfold jO;split
  ·have:=ih (n+1);omega
  ·omega
theorem Ay(data:List Nat)(i d f n:Nat):∀j,n<=j->j<jO data i d f n->i+j<data.length/\data.getD (i+j) 0=data.getD (i+j-d) 0:=by
 induction f generalizing n with
 | zero=>intro j h1 h2;unfold jO at h2;omega
 | succ f ih=>
  intro j h1 h2;unfold jO at h2;split at h2
  ·rename_i hc;by_cases he:j=n
   ·subst he;exact hc
   ·exact ih (n+1) j (by omega) h2
  ·omega
theorem gw(data:List Nat)(i d j:Nat)(h:j<jJ data i d):i+j<data.length/\data.getD (i+j) 0=data.getD (i+j-d) 0:=
 Ay data i d 258 0 j (Nat.zero_le _) h
theorem Hs(data:List Nat)(i d:Nat):jJ data i d<=258:=by have:=J7 data i d 258 0;unfold jJ;omega
theorem FG(data:List Nat)(i d:Nat):jJ data i d=0\/i+jJ data i d<=data.length:=by
 rcases Nat.eq_zero_or_pos (jJ data i d)with h | h
 ·exact .inl h
 ·have:=(gw data i d (jJ data i d-1) (by omega)).1;exact .inr (by omega)
theorem Mn{data:List Nat}{i d n:Nat}(h:data.getD (i+n) 0≠data.getD (i+n-d) 0):jJ data i d<=n:=by refine Nat.le_of_not_lt (λhc=>h (gw data i d n hc).2)
theorem tH{data:List Nat}{i d f n:Nat}(h1:i+n<data.length)(h2:data.getD (i+n) 0=data.getD (i+n-d) 0):jO data i d (f+1) n=jO data i d f (n+1):=by rw[jO,if_pos ⟨h1,h2⟩]
theorem ta{data:List Nat}{i d f n:Nat}(h:¬(i+n<data.length/\data.getD (i+n) 0=data.getD (i+n-d) 0)):jO data i d f n=n:=by
 cases f with
 | zero=>rfl
 | succ f=>rw[jO,if_neg h]
theorem Gv{data:List Nat}{i d:Nat}(n:Nat)(hn:n<=258)(h:∀j,j<n->i+j<data.length/\data.getD (i+j) 0=data.getD (i+j-d) 0):jJ data i d=jO data i d (258-n) n:=by
 induction n with
 | zero=>rfl
 | succ n ih=>
  rw[ih (by omega) (λj hj=>h j (by omega))];have:=h n (by omega);rw[show 258-n=(258-(n+1))+1 by omega,tH this.1 this.2]
def dM(data:List Nat)(i:Nat):Nat->Nat×Nat
 | 0=>(0,0)
 | k+1=>if 3<=jJ data i (k+1)/\(dM data i k).1<jJ data i (k+1) then(jJ data i (k+1),k+1)else dM data i k
def bD(data:List Nat)(i:Nat):Nat×Nat:=dM data i i
theorem mc{data:List Nat}{i k:Nat}(h:jJ data i (k+1)<3\/jJ data i (k+1)<=(dM data i k).1):dM data i (k+1)=dM data i k:=by rw[dM,if_neg (by omega)]
theorem AD{data:List Nat}{i k:Nat}(h:3<=jJ data i (k+1))(h2:(dM data i k).1<jJ data i (k+1)):dM data i (k+1)=(jJ data i (k+1),k+1):=by rw[dM,if_pos ⟨h,h2⟩]
theorem FX(data:List Nat)(i k:Nat):dM data i k=(0,0)\/∃d,1<=d/\d<=k/\dM data i k=(jJ data i d,d)/\3<=jJ data i d:=by
 induction k with
 | zero=>exact .inl rfl
 | succ k ih=>
  rw[dM];split
  ·rename_i h;exact .inr ⟨k+1,by omega,by omega,rfl,h.1⟩
  ·rcases ih with h | ⟨d,h1,h2,h3⟩
   ·exact .inl h
   ·exact .inr ⟨d,h1,by omega,h3⟩
theorem yU{data:List Nat}{i k:Nat}(m:Nat)(hm:∀d,jJ data i d<=m)(h:m<=(dM data i k).1)(j:Nat):dM data i (k+j)=dM data i k:=by
 induction j with
 | zero=>rfl
 | succ j ih=>rw[<-Nat.add_assoc,mc (by rw[ih];have:=hm (k+j+1);omega),ih]
theorem jn{data:List Nat}{i k j:Nat}(h:∀d,k<d->d<=k+j->jJ data i d<3):dM data i (k+j)=dM data i k:=by
 induction j with
 | zero=>rfl
 | succ j ih=>rw[<-Nat.add_assoc,mc (.inl (h (k+j+1) (by omega) (by omega))),ih (λd h1 h2=>h d h1 (by omega))]
theorem lV(data:List Nat)(i:Nat):(bD data i=(0,0))\/∃n d,bD data i=(n,d)/\3<=n/\n<=258/\1<=d/\d<=i/\i+n<=data.length/\∀j,j<n->data.getD (i+j) 0=data.getD (i+j-d) 0:=by
 rcases FX data i i with h | ⟨d,h1,h2,h3,h4⟩
 ·exact .inl h
 ·refine .inr ⟨jJ data i d,d,h3,h4,Hs data i d,h1,h2,?_,λj hj=>(gw data i d j hj).2⟩;rcases FG data i d with h | h
  ·omega
  ·exact h
def bK(data:List Nat):Nat->Nat->List TK
 | 0,_=>[]
 | f+1,i=>
  if i<data.length then
   (if (bD data i).1=0\/(bD data i).1<(bD data (i+1)).1 then⟨data.getD i 0,0,0⟩::bK data f (i+1)
   else⟨0,((bD data i).1:Int),((bD data i).2:Int)⟩::bK data f (i+(bD data i).1))
  else []
def cT(data:List Nat):List TK:=if 16384<data.length then []else bK data data.length 0
theorem eK{data:List Nat}{f i:Nat}(h:data.length<=i):bK data f i=[]:=by
 cases f with
 | zero=>rfl
 | succ f=>rw[bK,if_neg (by omega)]
theorem jc{data:List Nat}{f i:Nat}(h:i<data.length)(hm:(bD data i).1=0\/(bD data i).1<(bD data (i+1)).1):bK data (f+1) i=⟨data.getD i 0,0,0⟩::bK data f (i+1):=by rw[bK,if_pos h,if_pos hm]
theorem je{data:List Nat}{f i:Nat}(h:i<data.length)(hm:¬((bD data i).1=0\/(bD data i).1<(bD data (i+1)).1)):bK data (f+1) i=⟨0,((bD data i).1:Int),((bD data i).2:Int)⟩::bK data f (i+(bD data i).1):=by rw[bK,if_pos h,if_neg hm]
theorem C6{data:List Nat}{f g i:Nat}(hf:data.length-i<=f)(hg:data.length-i<=g):bK data f i=bK data g i:=by
 induction f generalizing g i with
 | zero=>rw[eK (by omega),eK (by omega)]
 | succ f ih=>
  by_cases h:i<data.length
  ·obtain⟨g,rfl⟩:∃g',g=g'+1:=⟨g-1,by omega⟩
   by_cases hm:(bD data i).1=0\/(bD data i).1<(bD data (i+1)).1
   ·rw[jc h hm,jc h hm,ih (g:=g) (by omega) (by omega)]
   ·rw[je h hm,je h hm,ih (g:=g) (by omega) (by omega)]
  ·rw[eK (by omega),eK (by omega)]
end Go.Proofs.YtkhagfgineifhaaGreatDoor
