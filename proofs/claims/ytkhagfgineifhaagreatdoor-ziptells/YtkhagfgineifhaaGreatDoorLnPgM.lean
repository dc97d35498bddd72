import Derived.Test.YtkhagfgineifhaaGreatDoorLnStepsM
namespace Go.Proofs.YtkhagfgineifhaaGreatDoor
def b7(s:Int):Nat:=if s=16 then 3 else if s=17 then 3 else if s=18 then 11 else 1
def cI(s:Int):Nat:=if s=16 then 2 else if s=17 then 3 else if s=18 then 7 else 0
theorem qO(s:Nat):cI (s:Int)=dF s:=by
 unfold cI dF;by_cases h1:s=16
 ·subst h1;rfl
 ·by_cases h2:s=17
  ·subst h2;rfl
  ·by_cases h3:s=18
   ·subst h3;rfl
   ·rw[if_neg (by omega),if_neg (by omega),if_neg (by omega),if_neg h1,if_neg h2,if_neg h3]
theorem oj(s:Int):cI s<=7:=by
 unfold cI;split
 ·omega
 ·split
  ·omega
  ·split<;>omega
theorem nP(s:Int):1<=b7 s/\b7 s<=11:=by
 unfold b7;split
 ·omega
 ·split
  ·omega
  ·split<;>omega
def nh(s:Int)(l:List Nat):Nat:=if s=16 then j8 l else if s=17\/s=18 then 0 else s.toNat
def i9(s:Int×Int)(said n:Nat):Prop:=0<=s.1/\s.1<=18/\0<=s.2/\s.2<2 ^ cI s.1/\¬(s.1=16/\said=0)/\(said+b7 s.1:Nat)+s.2<=n
theorem Db{l:List Nat}{s:Int×Int}{n:Nat}(h:i9 s l.length n):ez l s n=some (l++List.replicate (b7 s.1+s.2.toNat) (nh s.1 l)):=by
 obtain⟨a,b⟩:=s;obtain⟨h1,h2,h3,h4,h5,h6⟩:=h;simp only at h1 h2 h3 h4 h5 h6 ⊢;refine i7 ?_ (by omega);unfold iC;simp only;by_cases NT:a=16
 ·subst NT;have hw:cI 16=2:=rfl;have hl:b7 16=3:=rfl;rw[hw]at h4;rw[if_neg (by omega),if_pos ⟨rfl,h3,by omega,by omega⟩,hl];simp only[nh,if_true];congr 2;omega
 ·by_cases Px:a=17
  ·subst Px;have hw:cI 17=3:=rfl;have hl:b7 17=3:=rfl;rw[hw]at h4;rw[if_neg (by omega),if_neg (by omega),if_pos ⟨rfl,h3,by omega⟩,hl];simp[nh];omega
  ·by_cases OP:a=18
   ·subst OP;have hw:cI 18=7:=rfl;have hl:b7 18=11:=rfl;rw[hw]at h4;rw[if_neg (by omega),if_neg (by omega),if_neg (by omega),if_pos ⟨rfl,h3,by omega⟩,hl];simp[nh];omega
   ·have hw:cI a=0:=(by unfold cI;rw[if_neg NT,if_neg Px,if_neg OP]);have hl:b7 a=1:=(by unfold b7;rw[if_neg NT,if_neg Px,if_neg OP]);rw[hw]at h4;have hb:b=0:=(by omega);subst hb;rw[if_pos ⟨h1,by omega,rfl⟩,hl];unfold nh;rw[if_neg NT,if_neg (by omega)];rfl
theorem Ho{l:List Nat}{s:Int×Int}{n:Nat}(h:¬i9 s l.length n):ez l s n=none:=by
 cases hw:ez l s n with
 | none=>rfl
 | some m=>
  exfalso;apply h;obtain⟨a,b⟩:=s;unfold ez at hw;split at hw
  ·cases hw
  ·rename_i v k hs;split at hw
   ·cases hw
   ·rename_i mr;unfold iC at hs;simp only at hs;unfold i9;simp only;split at hs
    ·rename_i h1;simp at hs;have lQ:cI a=0:=(by unfold cI;rw[if_neg (by omega),if_neg (by omega),if_neg (by omega)]);have hl:b7 a=1:=(by unfold b7;rw[if_neg (by omega),if_neg (by omega),if_neg (by omega)]);rw[lQ,hl];omega
    ·split at hs
     ·rename_i h1;simp at hs;obtain⟨rfl,h1⟩:=h1;have lQ:cI 16=2:=rfl;have hl:b7 16=3:=rfl;rw[lQ,hl];omega
     ·split at hs
      ·rename_i h1;simp at hs;obtain⟨rfl,h1⟩:=h1;have lQ:cI 17=3:=rfl;have hl:b7 17=3:=rfl;rw[lQ,hl];omega
      ·split at hs
       ·rename_i h1;simp at hs;obtain⟨rfl,h1⟩:=h1;have lQ:cI 18=7:=rfl;have hl:b7 18=11:=rfl;rw[lQ,hl];omega
       ·cases hs
def cV(s:Int)(lo hi n:Nat):List (Int×Int):=
 if 1<=lo/\lo<=hi/\lo<=n then(s,((min n hi-lo:Nat):Int))::cV s lo hi (n-min n hi)else []
termination_by n
decreasing_by omega
def bQ(lo hi n:Nat):Nat:=
 if 1<=lo/\lo<=hi/\lo<=n then bQ lo hi (n-min n hi)else n
termination_by n
decreasing_by omega
theorem fv{s:Int}{lo hi n:Nat}(h1:1<=lo)(h2:lo<=hi)(h3:lo<=n):cV s lo hi n=(s,((min n hi-lo:Nat):Int))::cV s lo hi (n-min n hi):=by rw[cV,if_pos ⟨h1,h2,h3⟩]
theorem gu{s:Int}{lo hi n:Nat}(h3:n<lo):cV s lo hi n=[]:=by rw[cV,if_neg (by omega)]
theorem fq{lo hi n:Nat}(h1:1<=lo)(h2:lo<=hi)(h3:lo<=n):bQ lo hi n=bQ lo hi (n-min n hi):=by rw[bQ,if_pos ⟨h1,h2,h3⟩]
theorem gE{lo hi n:Nat}(h3:n<lo):bQ lo hi n=n:=by rw[bQ,if_neg (by omega)]
theorem pH(s:Int)(lo hi n:Nat)(h1:1<=lo)(h2:lo<=hi):(cV s lo hi n).length+bQ lo hi n<=n/\bQ lo hi n<lo:=by
 induction n using Nat.strongRecOn with
 | ind n ih=>
  by_cases h:lo<=n
  ·have:=ih (n-min n hi) (by omega);rw[fv h1 h2 h,fq h1 h2 h,List.length_cons];omega
  ·rw[gu (by omega),gE (by omega)];simp;omega
theorem vy(n:Nat):fd n=cV 18 11 138 n++(cV 17 3 10 (bQ 11 138 n)++List.replicate (bQ 3 10 (bQ 11 138 n)) (0,0)):=by
 induction n using Nat.strongRecOn with
 | ind n ih=>
  by_cases h:11<=n
  ·rw[gT n h,fv (by omega) (by omega) h,fq (by omega) (by omega) h,ih (n-min n 138) (by omega)];rfl
  ·rw[gu (n:=n) (by omega),gE (n:=n) (by omega)];by_cases h3:3<=n
   ·rw[g6 n (by omega) h3,fv (by omega) (by omega) h3,fq (by omega) (by omega) h3,show min n 10=n by omega,Nat.sub_self,gu (by omega),gE (by omega)];rfl
   ·rw[gZ n (by omega),gu (by omega),gE (by omega)];rfl
theorem xS(v n:Nat):gP v n=cV 16 3 6 n++List.replicate (bQ 3 6 n) ((v:Int),0):=by
 induction n using Nat.strongRecOn with
 | ind n ih=>
  by_cases h:3<=n
  ·rw[jo v n h,fv (by omega) (by omega) h,fq (by omega) (by omega) h,ih (n-min n 6) (by omega)];rfl
  ·rw[jx v n (by omega),gu (by omega),gE (by omega)];rfl
def dL(cs:List Nat):Nat->Nat
 | 0=>0
 | k+1=>if 4<k+1/\cs.getD (ord.getD k 0) 0=0 then dL cs k else k+1
theorem Fr(cs:List Nat)(k:Nat)(h:4<=k):4<=dL cs k/\dL cs k<=k:=by
 induction k with
 | zero=>omega
 | succ k ih=>
  rw[dL];split
  ·have:=ih (by omega);omega
  ·omega
theorem zN(cs:List Nat)(k:Nat):∀j,dL cs k<=j->j<k->cs.getD (ord.getD j 0) 0=0:=by
 induction k with
 | zero=>intro j _ h;omega
 | succ k ih=>
  intro j h1 h2;rw[dL]at h1;split at h1
  ·rename_i h;by_cases e:j=k
   ·subst e;exact h.2
   ·exact ih j h1 (by omega)
  ·omega
end Go.Proofs.YtkhagfgineifhaaGreatDoor
