import Derived.Test.YtkhagfgineifhaaGreatDoorMtM
namespace Go.Proofs.YtkhagfgineifhaaGreatDoor
def xr(data:List Nat)(q a b c:Nat):Bool:=data.getD q 0==a && data.getD (q+1) 0==b && data.getD (q+2) 0==c
theorem xh(data:List Nat)(q a b c:Nat):xr data q a b c=true↔(data.getD q 0=a/\data.getD (q+1) 0=b/\data.getD (q+2) 0=c):=by simp[xr,and_assoc]
def iU(data:List Nat)(a b c:Nat):Nat->Option Nat
 | 0=>none
 | i+1=>if xr data i a b c=true then some i else iU data a b c i
theorem zP{data:List Nat}{a b c i q:Nat}(h:iU data a b c i=some q):q<i/\xr data q a b c=true/\∀p,q<p->p<i->xr data p a b c=false:=by
 induction i with
 | zero=>cases h
 | succ i ih=>
  unfold iU at h;split at h
  ·rename_i h1;simp only[Option.some.injEq]at h;subst h;exact⟨by omega,h1,λp h2 h3=>by omega⟩
  ·rename_i h1;obtain⟨g1,g2,g3⟩:=ih h;refine⟨by omega,g2,λp h2 h3=>?_⟩;by_cases hp:p=i
   ·subst hp;simpa using h1
   ·exact g3 p h2 (by omega)
theorem AO{data:List Nat}{a b c i:Nat}(h:iU data a b c i=none):∀p,p<i->xr data p a b c=false:=by
 induction i with
 | zero=>intro p hp;omega
 | succ i ih=>
  unfold iU at h;split at h
  ·cases h
  ·rename_i h1;intro p hp;by_cases he:p=i
   ·subst he;simpa using h1
   ·exact ih h p (by omega)
def oH(data:List Nat)(i:Nat):Int:=
 match iU data (data.getD i 0) (data.getD (i+1) 0) (data.getD (i+2) 0) i with
 | some q=>(q:Int)
 | none=>-1
def nW(data:List Nat):List Int:=(List.range (data.length-2)).map (oH data)
theorem gO(data:List Nat):(nW data).length=data.length-2:=by simp[nW]
theorem Bq(data:List Nat)(i:Nat)(_h:i<data.length-2)(h':i<(nW data).length):(nW data)[i]=oH data i:=by simp[nW]
def eV(data:List Nat)(p i:Nat):Bool:=xr data p (data.getD i 0) (data.getD (i+1) 0) (data.getD (i+2) 0)
theorem jf(data:List Nat)(p i:Nat):eV data p i=true↔(data.getD p 0=data.getD i 0/\data.getD (p+1) 0=data.getD (i+1) 0/\data.getD (p+2) 0=data.getD (i+2) 0):=xh _ _ _ _ _
theorem ki{data:List Nat}{p q i:Nat}(h:eV data q i=true):eV data p i=eV data p q:=by have h1:=(jf data q i).1 h;rw[Bool.eq_iff_iff,jf,jf,h1.1,h1.2.1,h1.2.2]
theorem kF(data:List Nat)(i:Nat):(∃q:Nat,oH data i=q/\q<i/\eV data q i=true/\∀p,q<p->p<i->eV data p i=false)\/(oH data i=-1/\∀p,p<i->eV data p i=false):=by
 unfold oH;split
 ·rename_i q h;exact .inl ⟨q,rfl,zP h⟩
 ·rename_i h;exact .inr ⟨rfl,AO h⟩
theorem kK{data:List Nat}{i d:Nat}(hd:d<=i)(h:eV data (i-d) i=false):jJ data i d<3:=by
 refine Nat.lt_of_not_le (λhc=>?_);have h0:=(gw data i d 0 (by omega)).2;have h1:=(gw data i d 1 (by omega)).2;have h2:=(gw data i d 2 (by omega)).2;have:eV data (i-d) i=true:=by
  rw[jf];refine⟨?_,?_,?_⟩
  ·rw[show i-d=i+0-d by omega];exact h0.symm
  ·rw[show i-d+1=i+1-d by omega];exact h1.symm
  ·rw[show i-d+2=i+2-d by omega];exact h2.symm
 rw[h]at this;cases this
def Found(data:List Nat)(i:Nat)(fr:Int)(n d:Nat):Prop:=(n,d)=dM data i ((i:Int)-1-fr).toNat
theorem Found.start{data:List Nat}{i:Nat}:Found data i (oH data i) 0 0:=by
 unfold Found;rcases kF data i with⟨q,h1,h2,h3,h4⟩ | ⟨h1,h2⟩
 ·rw[h1,show((i:Int)-1-(q:Int)).toNat=0+(i-1-q)by omega,jn]
  ·rfl
  ·intro d Cq pz;exact kK (by omega) (h4 (i-d) (by omega) (by omega))
 ·rw[h1,show((i:Int)-1-(-1)).toNat=0+i by omega,jn]
  ·rfl
  ·intro d Cq pz;exact kK (by omega) (h2 (i-d) (by omega))
theorem Found.next{data:List Nat}{i q n d:Nat}(hq:q<i)(hs:eV data q i=true)(h:(n,d)=dM data i (i-q)):Found data i (oH data q) n d:=by
 unfold Found;rcases kF data q with⟨p,h1,h2,h3,h4⟩ | ⟨h1,h2⟩
 ·rw[h1,show((i:Int)-1-(p:Int)).toNat=(i-q)+(q-1-p)by omega,jn]
  ·exact h
  ·intro e Yn MX;refine kK (by omega) ?_;rw[ki hs];exact h4 (i-e) (by omega) (by omega)
 ·rw[h1,show((i:Int)-1-(-1)).toNat=(i-q)+q by omega,jn]
  ·exact h
  ·intro e Yn MX;refine kK (by omega) ?_;rw[ki hs];exact h2 (i-e) (by omega)
theorem Found.done{data:List Nat}{i n d:Nat}(h:Found data i (-1) n d):(n,d)=bD data i:=by unfold Found at h;rw[show((i:Int)-1-(-1)).toNat=i by omega]at h;exact h
theorem Found.at{data:List Nat}{i q n d:Nat}(hq:q<i)(h:Found data i (q:Int) n d):(n,d)=dM data i (i-q-1):=by unfold Found at h;rw[show((i:Int)-1-(q:Int)).toNat=i-q-1 by omega]at h;exact h
theorem Found.not{data:List Nat}{i q n d:Nat}(hq:q<i)(hs:eV data q i=true)(h:Found data i (q:Int) n d)(hm:jJ data i (i-q)<=n):Found data i (oH data q) n d:=by
 refine Found.next hq hs ?_
 have h1:=h.at hq;have e:i-q=(i-q-1)+1:=by omega
 rw[e,mc (.inr (by rw[<-h1,<-e];exact hm))];exact h1
theorem Found.more{data:List Nat}{i q n d:Nat}(hq:q<i)(hs:eV data q i=true)(h:Found data i (q:Int) n d)(h3:3<=jJ data i (i-q))(hm:n<jJ data i (i-q)):Found data i (oH data q) (jJ data i (i-q)) (i-q)/\dM data i (i-q)=(jJ data i (i-q),i-q):=by
 have h1:=h.at hq;have e:i-q=(i-q-1)+1:=by omega
 have hb:dM data i (i-q)=(jJ data i (i-q),i-q):=by have:=AD (data:=data) (i:=i) (k:=i-q-1) (by rw[<-e];exact h3) (by rw[<-h1,<-e];exact hm);rw[<-e]at this;exact this
 exact⟨Found.next hq hs hb.symm,hb⟩
theorem Found.full{data:List Nat}{i q n d m:Nat}(hq:q<i)(hs:eV data q i=true)(h:Found data i (q:Int) n d)(hm:jJ data i (i-q)=m)(h3:3<=m)(hn:n<m)(Ni:∀e,jJ data i e<=m):(m,i-q)=bD data i:=by have h1:=(h.more hq hs (by omega) (by omega)).2;unfold bD;have:=yU (data:=data) (i:=i) (k:=i-q) m Ni (by rw[h1];simp only;omega) q;rw[show i-q+q=i by omega]at this;rw[this,h1,hm]
theorem J5(data:List Nat)(i d:Nat)(h:i<=data.length):jJ data i d<=min 258 (data.length-i):=by have h1:=Hs data i d;rcases FG data i d with h2 | h2<;>omega
theorem Aq{data:List Nat}{i:Nat}(h:data.length<i+3):bD data i=(0,0):=by
 rcases lV data i with h1 | ⟨n,d,_,h3,_,_,_,h4,_⟩
 ·exact h1
 ·omega
end Go.Proofs.YtkhagfgineifhaaGreatDoor
