import Derived.Test.YtkhagfgineifhaaGreatDoorInLo
namespace Go.Proofs.YtkhagfgineifhaaGreatDoor
inductive Bk where
 | raw (last:Bool) (left:Nat)
 | sym (last:Bool) (lit dist:List Nat)
def Bk.last:Bk->Bool
 | .raw l _=>l
 | .sym l _ _=>l
inductive Tok where
 | fin
 | byte (b:Nat)
 | copy (n far:Nat)
def iF(ls:List Nat)(c n:Nat):Except Nat (Nat×Nat):=if ls.length<c+n then .error 55 else .ok (aX ls c n,c+n)
def nZ(ns ls:List Nat)(c last:Nat):Except Nat (Nat×Nat):=
 if (aT ns (ls.drop c)).2.2=10 then .error 55
 else if (aT ns (ls.drop c)).2.2≠0\/last<(aT ns (ls.drop c)).1 then .error 53
 else .ok ((aT ns (ls.drop c)).1,c+(aT ns (ls.drop c)).2.1)
def aU{α β:Type}(r:Except Nat (α×Nat))(g:α->Nat->Except Nat (β×Nat)):Except Nat (β×Nat):=
 match r with
 | .error e=>.error e
 | .ok x=>g x.1 x.2
theorem aI{α β:Type}{r:Except Nat (α×Nat)}{g:α->Nat->Except Nat (β×Nat)}{y:β×Nat}:aU r g=.ok y↔∃x c,r=.ok (x,c)/\g x c=.ok y:=by
 cases r with
 | error e=>simp[aU]
 | ok x=>
  refine⟨λh=>⟨x.1,x.2,rfl,h⟩,fun⟨a,c,h1,h2⟩=>?_⟩;simp only[Except.ok.injEq]at h1;subst h1;exact h2
theorem kC{α β:Type}{r:Except Nat (α×Nat)}{g:α->Nat->Except Nat (β×Nat)}{e:Nat}:aU r g=.error e↔r=.error e\/∃x c,r=.ok (x,c)/\g x c=.error e:=by
 cases r with
 | error e2=>simp[aU]
 | ok x=>
  refine⟨λh=>.inr ⟨x.1,x.2,rfl,h⟩,λh=>?_⟩;rcases h with h | ⟨a,c,h1,h2⟩
  ·cases h
  ·simp only[Except.ok.injEq]at h1;subst h1;exact h2
theorem aF{α β:Type}{r:Except Nat (α×Nat)}{g:α->Nat->Except Nat (β×Nat)}{x:α}{c:Nat}(h:r=.ok (x,c)):aU r g=g x c:=by rw[h];rfl
theorem bO{α β:Type}{r:Except Nat (α×Nat)}{g:α->Nat->Except Nat (β×Nat)}{e:Nat}(h:r=.error e):aU r g=.error e:=by rw[h];rfl
def cY(ls:List Nat)(c y k:Nat):Except Nat (Nat×Nat):=
 if y<k then .ok (y,c)else aU (iF ls c (y / k-1)) (λx c'=>.ok ((k+y % k)*2 ^ (y / k-1)+x,c'))
def kh(ls:List Nat)(c y:Nat):Except Nat (Nat×Nat):=
 if y<285 then aU (cY ls c (y-257) 4) (λn c'=>.ok (3+n,c'))else .ok (258,c)
def mB(dist ls:List Nat)(c:Nat):Except Nat (Nat×Nat):=if bR dist=false then .error 53 else nZ dist ls c 29
def f9(ls dist:List Nat)(c y:Nat):Except Nat ((Nat×Nat)×Nat):=
 aU (kh ls c y) (λn c1=>aU (mB dist ls c1) (λz c2=>aU (cY ls c2 z 2) (λd c3=>.ok ((n,1+d),c3))))
def jl(ls:List Nat)(last:Bool)(lit dist:List Nat)(y c1:Nat):Except Nat ((Tok×Bk)×Nat):=
 if y<256 then .ok ((.byte y,.sym last lit dist),c1)
 else if y=256 then .ok ((.fin,.sym last lit dist),c1)
 else aU (f9 ls dist c1 y) (λx c2=>.ok ((.copy x.1 x.2,.sym last lit dist),c2))
def bF(ls:List Nat)(b:Bk)(c:Nat):Except Nat ((Tok×Bk)×Nat):=
 match b with
 | .raw last 0=>.ok ((.fin,.raw last 0),c)
 | .raw last (n+1)=>aU (iF ls c 8) (λv c'=>.ok ((.byte v,.raw last n),c'))
 | .sym last lit dist=>aU (nZ lit ls c 285) (jl ls last lit dist)
def mZ(ls:List Nat)(c:Nat):Except Nat (Nat×Nat):=
 aU (iF ls ((c+7) / 8*8) 16) (λn c1=>aU (iF ls c1 16) (λt c2=>if n+t=65535 then .ok (n,c2)else .error 51))
def o7(ls:List Nat)(c:Nat):Except Nat ((List Nat×List Nat)×Nat):=
 match ep ls c with
 | .error e=>.error e
 | .ok (x,n)=>.ok (x,c+n)
def iW(ls:List Nat)(last:Bool)(c k:Nat):Except Nat (Bk×Nat):=
 if k=0 then aU (mZ ls c) (λn c'=>.ok (.raw last n,c'))
 else if k=1 then .ok (.sym last fixL fixD,c)
 else if k=2 then aU (o7 ls c) (λx c'=>.ok (.sym last x.1 x.2,c'))
 else .error 50
def eJ(ls:List Nat)(c:Nat):Except Nat (Bk×Nat):=
 aU (iF ls c 1) (λl c1=>aU (iF ls c1 2) (λk c2=>iW ls (l==1) c2 k))
def nj(far:Nat):Nat->List Nat->List Nat
 | 0,out=>out
 | n+1,out=>nj far n (out++[out.getD (out.length-far) 0])
def dB(most:Nat)(out:List Nat):Tok->Except Nat (List Nat)
 | .fin=>.ok out
 | .byte b=>if most<out.length+1 then .error 56 else .ok (out++[b])
 | .copy n far=>if out.length<far then .error 54 else if most<out.length+n then .error 56 else .ok (nj far n out)
structure Ps where
 c:Nat
 out:List Nat
 bk:Option Bk
def EW(most:Nat)(s:Ps)(b:Bk)(x:(Tok×Bk)×Nat):Except Nat (Ps×Bool):=
 match x.1.1 with
 | .fin=>if b.last=true then .ok (⟨x.2,s.out,some x.1.2⟩,true)else .ok (⟨x.2,s.out,none⟩,false)
 | t=>match dB most s.out t with
  | .error e=>.error e
  | .ok out=>.ok (⟨x.2,out,some x.1.2⟩,false)
def jQ(ls:List Nat)(most:Nat)(s:Ps):Except Nat (Ps×Bool):=
 match s.bk with
 | none=>match eJ ls s.c with
  | .error e=>.error e
  | .ok x=>.ok (⟨x.2,s.out,some x.1⟩,false)
 | some b=>match bF ls b s.c with
  | .error e=>.error e
  | .ok x=>EW most s b x
inductive Ends(ls:List Nat)(most:Nat):Ps->Ps->Nat->Prop
 | stop {s:Ps} {e:Nat} (h:jQ ls most s=.error e):Ends ls most s s e
 | done {s t:Ps} (h:jQ ls most s=.ok (t,true)):Ends ls most s t 0
 | step {s s' t:Ps} {e:Nat} (h:jQ ls most s=.ok (s',false)) (r:Ends ls most s' t e):Ends ls most s t e
theorem Bw{ls:List Nat}{c n e:Nat}(h:iF ls c n=.error e):e=55/\ls.length<c+n:=by
 unfold iF at h;split at h
 ·rename_i h1;simp only[Except.error.injEq]at h;exact⟨h.symm,h1⟩
 ·cases h
theorem d7{ls:List Nat}{c n x c':Nat}(h:iF ls c n=.ok (x,c')):x=aX ls c n/\c'=c+n/\c+n<=ls.length:=by
 unfold iF at h;split at h
 ·cases h
 ·simp only[Except.ok.injEq,Prod.mk.injEq]at h;exact⟨h.1.symm,h.2.symm,by omega⟩
theorem fo{ls:List Nat}{c n:Nat}(h:c+n<=ls.length):iF ls c n=.ok (aX ls c n,c+n):=by unfold iF;rw[if_neg (by omega)]
theorem Ki{ls:List Nat}{c n:Nat}(h:ls.length<c+n):iF ls c n=.error 55:=by unfold iF;rw[if_pos h]
theorem Jq{ls ls':List Nat}{c n x c':Nat}(h:iF ls c n=.ok (x,c'))(ha:Agr c' ls ls'):iF ls' c n=.ok (x,c'):=by obtain⟨rfl,rfl,_⟩:=d7 h;rw[fo ha.le',dN ha c n (Nat.le_refl _)]
structure Loc{α:Type}(f:List Nat->Except Nat (α×Nat))(ls:List Nat)(c:Nat):Prop where
 ge:∀x c',f ls=.ok (x,c')->c<=c'/\c'<=ls.length
 agr:∀x c' ls',(∀b∈ls',b<2)->f ls=.ok (x,c')->Agr c' ls ls'->f ls'=.ok (x,c')
 err:∀e mo,(∀b∈mo,b<2)->f ls=.error e->e≠55->f (ls++mo)=.error e
 ne:∀e,f ls=.error e->e≠0
theorem Loc.pure{α:Type}(x:α){ls:List Nat}{c:Nat}(hc:c<=ls.length):Loc (λ_=>.ok (x,c)) ls c:=
 ⟨λy c' h=>by simp only[Except.ok.injEq,Prod.mk.injEq]at h;omega,λ_ _ _ _ h _=>h,λ_ _ _ h _=>(by cases h),λ_ h=>(by cases h)⟩
theorem Loc.fail{α:Type}{e:Nat}(he:e≠0){ls:List Nat}{c:Nat}:Loc (α:=α) (λ_=>.error e) ls c:=
 ⟨λ_ _ h=>(by cases h),λ_ _ _ _ h _=>h,λ_ _ _ h _=>h,λ_ h=>by simp only[Except.error.injEq]at h;omega⟩
theorem Loc.of_eq{α:Type}{f g:List Nat->Except Nat (α×Nat)}{ls:List Nat}{c:Nat}(h:Loc f ls c)(e:∀l,g l=f l):Loc g ls c:=by have:g=f:=funext e;rw[this];exact h
theorem Loc.weak{α:Type}{f:List Nat->Except Nat (α×Nat)}{ls:List Nat}{c d:Nat}(h:Loc f ls c)(hd:d<=c):Loc f ls d:=
 ⟨λx c' h1=>by have:=h.ge x c' h1;omega,h.agr,h.err,h.ne⟩
theorem fE(ls:List Nat)(c n:Nat):Loc (λl=>iF l c n) ls c:=
 ⟨λx c' h=>by have:=d7 h;omega,λ_ _ _ _ h ha=>Jq h ha,λe _ _ h he=>absurd (Bw h).1 he,λe h=>by have:=(Bw h).1;omega⟩
theorem dy{ns ls:List Nat}{c last:Nat}{r:Except Nat (Nat×Nat)}(h:nZ ns ls c last=r):
  (r=.error 55/\(aT ns (ls.drop c)).2.2=10)\/(r=.error 53/\(aT ns (ls.drop c)).2.2=32) \/
  (∃y k,aT ns (ls.drop c)=(y,k,0)/\((last<y/\r=.error 53)\/(y<=last/\r=.ok (y,c+k)))):=by
 obtain⟨y,k,g,hn⟩:∃y k g,aT ns (ls.drop c)=(y,k,g):=⟨_,_,_,rfl⟩
 have h3:=lT ns (ls.drop c);unfold nZ at h;rw[hn]at h h3 ⊢;simp only at h h3 ⊢;rcases h3 with rfl | rfl | rfl
 ·refine .inr (.inr ⟨y,k,rfl,?_⟩);rw[if_neg (by omega)]at h;by_cases hy:last<y
  ·rw[if_pos (.inr hy)]at h;exact .inl ⟨hy,h.symm⟩
  ·rw[if_neg (by omega)]at h;exact .inr ⟨by omega,h.symm⟩
 ·rw[if_pos rfl]at h;exact .inl ⟨h.symm,rfl⟩
 ·rw[if_neg (by omega),if_pos (.inl (by omega))]at h;exact .inr (.inl ⟨h.symm,rfl⟩)
theorem vW{ns ls:List Nat}{c last:Nat}(h:(aT ns (ls.drop c)).2.2=32):nZ ns ls c last=.error 53:=by unfold nZ;rw[if_neg (by omega),if_pos (.inl (by omega))]
theorem DR{ns ls:List Nat}{c last:Nat}(h:(aT ns (ls.drop c)).2.2=10):nZ ns ls c last=.error 55:=by unfold nZ;rw[if_pos h]
theorem zL{ns ls:List Nat}{c last y k:Nat}(h:aT ns (ls.drop c)=(y,k,0))(hy:y<=last):nZ ns ls c last=.ok (y,c+k):=by unfold nZ;rw[h];simp only;rw[if_neg (by omega),if_neg (by omega)]
theorem BP{ns ls:List Nat}{c last y k:Nat}(h:aT ns (ls.drop c)=(y,k,0))(hy:last<y):nZ ns ls c last=.error 53:=by unfold nZ;rw[h];simp only;rw[if_neg (by omega),if_pos (.inr hy)]
theorem tu{ns t:List Nat}{y k:Nat}(h:aT ns t=(y,k,0)):k<=t.length/\0<k/\y<ns.length:=by
 have h1:=jg ns t;rw[h]at h1;rcases h1 with⟨_,hs,hf,hk,_⟩ | ⟨h0,_⟩ | ⟨h0,_⟩
 ·simp only at hs hf hk;have:=hf.2.length_le;rw[aq]at this;have:=hf.1;omega
 ·simp at h0
 ·simp at h0
theorem vX{ns ls:List Nat}{c y k:Nat}(hc:c<=ls.length)(h:aT ns (ls.drop c)=(y,k,0)):c+k<=ls.length:=by have:=(tu h).1;rw[List.length_drop]at this;omega
theorem uu{ns:List Nat}(hp:Pf ns)(ls:List Nat)(hb:∀b∈ls,b<2)(c last:Nat)(hc:c<=ls.length):Loc (λl=>nZ ns l c last) ls c:=by
 refine⟨λx c' h=>?_,λx c' ls' jD h ha=>?_,λe mo jD h he=>?_,λe h=>?_⟩
 ·rcases dy h with⟨h1,_⟩ | ⟨h1,_⟩ | ⟨y,k,hn,⟨_,h1⟩ | ⟨_,h1⟩⟩
  ·cases h1
  ·cases h1
  ·cases h1
  ·simp only[Except.ok.injEq,Prod.mk.injEq]at h1;have:=vX hc hn;omega
 ·rcases dy h with⟨h1,_⟩ | ⟨h1,_⟩ | ⟨y,k,hn,⟨_,h1⟩ | ⟨hy,h1⟩⟩
  ·cases h1
  ·cases h1
  ·cases h1
  ·simp only[Except.ok.injEq,Prod.mk.injEq]at h1;obtain⟨rfl,rfl⟩:=h1;exact zL (nU hp jD hn ha) hy
 ·have hb2:∀b∈ls++mo,b<2:=λb nL=>by rcases List.mem_append.1 nL with h | h;exact hb b h;exact jD b h
  rcases dy h with⟨h1,_⟩ | ⟨h1,h2⟩ | ⟨y,k,hn,⟨hy,h1⟩ | ⟨hy,h1⟩⟩
  ·simp only[Except.error.injEq]at h1;omega
  ·rw[h1];have h3:=sI ns (ls.drop c) mo h2;rw[<-List.drop_append_of_le_length hc]at h3;exact vW h3
  ·rw[h1];exact BP (nU hp hb2 hn ((Agr.ext ls mo).less (vX hc hn))) hy
  ·cases h1
 ·rcases dy h with⟨h1,_⟩ | ⟨h1,_⟩ | ⟨y,k,hn,⟨_,h1⟩ | ⟨_,h1⟩⟩
  ·simp only[Except.error.injEq]at h1;omega
  ·simp only[Except.error.injEq]at h1;omega
  ·simp only[Except.error.injEq]at h1;omega
  ·cases h1
theorem Loc.bind{α β:Type}{f:List Nat→Except Nat (α×Nat)}{ls:List Nat}{c:Nat}(hb:∀b∈ls,b<2)(h:Loc f ls c){g:List Nat→α→Nat→Except Nat (β×Nat)}
  (hg:∀x c',f ls=.ok (x,c')->Loc (λl=>g l x c') ls c'):Loc (λl=>aU (f l) (g l)) ls c:=by
 refine⟨λx c' h1=>?_,λx c' ls' jD h1 ha=>?_,λe mo jD h1 he=>?_,λe h1=>?_⟩
 ·obtain⟨y,c2,hf,h2⟩:=aI.1 h1;have a:=h.ge _ _ hf;have b:=(hg y c2 hf).ge _ _ h2;omega
 ·obtain⟨y,c2,hf,h2⟩:=aI.1 h1;have b:=(hg y c2 hf).ge _ _ h2;exact aI.2 ⟨y,c2,h.agr _ _ ls' jD hf (ha.less b.1),(hg y c2 hf).agr _ _ ls' jD h2 ha⟩
 ·have hb2:∀b∈ls++mo,b<2:=λb nL=>by rcases List.mem_append.1 nL with h | h;exact hb b h;exact jD b h
  rcases kC.1 h1 with hf | ⟨y,c2,hf,h2⟩
  ·exact kC.2 (.inl (h.err _ mo jD hf he))
  ·exact kC.2 (.inr ⟨y,c2,h.agr _ _ _ hb2 hf ((Agr.ext ls mo).less (h.ge _ _ hf).2),(hg y c2 hf).err _ mo jD h2 he⟩)
 ·rcases kC.1 h1 with hf | ⟨y,c2,hf,h2⟩
  ·exact h.ne _ hf
  ·exact(hg y c2 hf).ne _ h2
theorem nD(ls:List Nat)(hb:∀b∈ls,b<2)(c y k:Nat)(hc:c<=ls.length):Loc (λl=>cY l c y k) ls c:=by
 by_cases h:y<k
 ·exact(Loc.pure y hc).of_eq (λl=>by unfold cY;rw[if_pos h])
 ·exact(Loc.bind hb (fE ls c (y / k-1)) (g:=λ_ x c'=>.ok ((k+y % k)*2 ^ (y / k-1)+x,c')) (λx c' h1=>Loc.pure _ ((fE ls c _).ge x c' h1).2)).of_eq (λl=>by unfold cY;rw[if_neg h])
theorem He(ls:List Nat)(hb:∀b∈ls,b<2)(c y:Nat)(hc:c<=ls.length):Loc (λl=>kh l c y) ls c:=by
 by_cases h:y<285
 ·exact(Loc.bind hb (nD ls hb c (y-257) 4 hc) (g:=λ_ x c'=>.ok (3+x,c')) (λx c' h1=>Loc.pure _ ((nD ls hb c _ _ hc).ge x c' h1).2)).of_eq (λl=>by unfold kh;rw[if_pos h])
 ·exact(Loc.pure 258 hc).of_eq (λl=>by unfold kh;rw[if_neg h])
theorem wh{dist:List Nat}(hp:Pf dist)(ls:List Nat)(hb:∀b∈ls,b<2)(c:Nat)(hc:c<=ls.length):Loc (λl=>mB dist l c) ls c:=by
 by_cases h:bR dist=false
 ·exact(Loc.fail (e:=53) (by decide)).of_eq (λl=>by unfold mB;rw[if_pos h])
 ·exact(uu hp ls hb c 29 hc).of_eq (λl=>by unfold mB;rw[if_neg h])
theorem rD{dist:List Nat}(hp:Pf dist)(ls:List Nat)(hb:∀b∈ls,b<2)(c y:Nat)(hc:c<=ls.length):Loc (λl=>f9 l dist c y) ls c:=by have h1:=He ls hb c y hc;refine Loc.bind hb h1 (λn c1 e1=>?_);have fF:=(h1.ge _ _ e1).2;refine Loc.bind hb (wh hp ls hb c1 fF) (λz c2 e2=>?_);have cS:=((wh hp ls hb c1 fF).ge _ _ e2).2;exact Loc.bind hb (nD ls hb c2 z 2 cS) (λd c3 e3=>Loc.pure _ ((nD ls hb c2 z 2 cS).ge _ _ e3).2)
structure Lok(l:List Nat):Prop where
 pos:0<l.length
 max:l.length<=288
 le:∀n∈l,n<=15
 ok:bw l=0
structure OkL(lit dist:List Nat):Prop where
 lit:Lok lit
 pos:0<dist.length
 max:dist.length<=288
 le:∀n∈dist,n<=15
 dist:bR dist=true->Lok dist
def oC:Option Bk->Prop
 | some (.sym _ lit dist)=>OkL lit dist
 | _=>True
theorem Lok.pf{l:List Nat}(h:Lok l):Pf l:=by
 refine⟨?_,key_le h.le⟩;have:=h.ok;unfold bw at this;split at this
 ·cases this
 ·omega
theorem OkL.pf{lit dist:List Nat}(h:OkL lit dist):Pf dist:=by
 by_cases hu:bR dist=true
 ·exact(h.dist hu).pf
 ·refine⟨?_,key_le h.le⟩;have:measure dist=0:=by
   have yB:bR dist=false:=(by simpa using hu);unfold bR at yB;rw[List.any_eq_false]at yB;unfold measure;have:dist.map eM=dist.map (λ_=>0):=List.map_congr_left (λn hn=>by
    have:=yB n hn;have h0:n=0:=(by simpa using this);rw[h0];rfl)
   rw[this,List.map_const',List.sum_replicate_nat,Nat.mul_zero]
  omega
theorem kz(ls:List Nat)(hb:∀b∈ls,b<2)(b:Bk)(c:Nat)(hk:oC (some b))(hc:c<=ls.length):Loc (λl=>bF l b c) ls c:=by
 cases b with
 | raw last left=>
  cases left with
  | zero=>exact Loc.pure _ hc
  | succ n=>exact Loc.bind hb (fE ls c 8) (g:=λ_ v c'=>.ok ((Tok.byte v,Bk.raw last n),c')) (λx c' e=>Loc.pure _ ((fE ls c 8).ge _ _ e).2)
 | sym last lit dist=>
  have hk:OkL lit dist:=hk;have h1:=uu hk.lit.pf ls hb c 285 hc;refine Loc.bind hb h1 (λy c1 e1=>?_);have fF:=(h1.ge _ _ e1).2;by_cases h256:y<256
  ·exact(Loc.pure _ fF).of_eq (λl=>by unfold jl;rw[if_pos h256])
  ·by_cases he:y=256
   ·exact(Loc.pure _ fF).of_eq (λl=>by unfold jl;rw[if_neg h256,if_pos he])
   ·exact(Loc.bind hb (rD hk.pf ls hb c1 y fF) (g:=λ_ x c2=>.ok ((.copy x.1 x.2,.sym last lit dist),c2)) (λx c2 e2=>Loc.pure _ ((rD hk.pf ls hb c1 y fF).ge _ _ e2).2)).of_eq (λl=>by unfold jl;rw[if_neg h256,if_neg he])
theorem xi(ls:List Nat)(hb:∀b∈ls,b<2)(c:Nat):Loc (λl=>mZ l c) ls c:=by
 have h1:=fE ls ((c+7) / 8*8) 16;refine(Loc.bind hb h1 (g:=λl n c1=>aU (iF l c1 16) (λt c2=>if n+t=65535 then .ok (n,c2)else .error 51)) (λn c1 e1=>?_)).weak (by omega);refine Loc.bind hb (fE ls c1 16) (λt c2 e2=>?_);have cS:=((fE ls c1 16).ge _ _ e2).2;by_cases h:n+t=65535
 ·exact(Loc.pure n cS).of_eq (λl=>by rw[if_pos h])
 ·exact(Loc.fail (e:=51) (by decide)).of_eq (λl=>by rw[if_neg h])
theorem G5{ls:List Nat}{a e:Nat}(h:ep ls a=.error e):e≠0:=by
 unfold ep at h;split at h
 ·simp only[Except.error.injEq]at h;split at h<;>omega
 ·split at h
  ·simp only[Except.error.injEq]at h;omega
  ·cases h
theorem Bm(ls:List Nat)(hb:∀b∈ls,b<2)(c:Nat):Loc (λl=>o7 l c) ls c:=by
 refine⟨λx c' h=>?_,λx c' ls' jD h ha=>?_,λe mo jD h he=>?_,λe h=>?_⟩
 ·simp only[o7]at h;split at h
  ·cases h
  ·rename_i y n h1;simp only[Except.ok.injEq,Prod.mk.injEq]at h;have:=Gz h1;omega
 ·simp only[o7]at h ⊢;split at h
  ·cases h
  ·rename_i y n h1;simp only[Except.ok.injEq,Prod.mk.injEq]at h;obtain⟨rfl,rfl⟩:=h;rw[Di hb jD h1 ha]
 ·have hb2:∀b∈ls++mo,b<2:=λb nL=>by rcases List.mem_append.1 nL with h | h;exact hb b h;exact jD b h
  simp only[o7]at h ⊢;split at h
  ·rename_i e2 h1;simp only[Except.error.injEq]at h;subst h;rw[ze mo hb2 h1 he]
  ·cases h
 ·simp only[o7]at h;split at h
  ·rename_i e2 h1;simp only[Except.error.injEq]at h;subst h;exact G5 h1
  ·cases h
theorem xu(ls:List Nat)(hb:∀b∈ls,b<2)(last:Bool)(c k:Nat)(hc:c<=ls.length):Loc (λl=>iW l last c k) ls c:=by
 by_cases h0:k=0
 ·exact(Loc.bind hb (xi ls hb c) (g:=λ_ n c'=>.ok (Bk.raw last n,c')) (λn c' e=>Loc.pure _ ((xi ls hb c).ge _ _ e).2)).of_eq (λl=>by unfold iW;rw[if_pos h0])
 ·by_cases h1:k=1
  ·exact(Loc.pure _ hc).of_eq (λl=>by unfold iW;rw[if_neg h0,if_pos h1])
  ·by_cases h2:k=2
   ·exact(Loc.bind hb (Bm ls hb c) (g:=λ_ x c'=>.ok (Bk.sym last x.1 x.2,c')) (λn c' e=>Loc.pure _ ((Bm ls hb c).ge _ _ e).2)).of_eq (λl=>by unfold iW;rw[if_neg h0,if_neg h1,if_pos h2])
   ·exact(Loc.fail (e:=50) (by decide)).of_eq (λl=>by unfold iW;rw[if_neg h0,if_neg h1,if_neg h2])
theorem xp(ls:List Nat)(hb:∀b∈ls,b<2)(c:Nat):Loc (λl=>eJ l c) ls c:=by refine Loc.bind hb (fE ls c 1) (λx c1 e1=>?_);exact Loc.bind hb (fE ls c1 2) (λk c2 e2=>xu ls hb _ c2 k ((fE ls c1 2).ge _ _ e2).2)
theorem gJ(ls:List Nat)(last:Bool)(c:Nat):bF ls (.raw last 0) c=.ok ((.fin,.raw last 0),c):=rfl
theorem ej(ls:List Nat)(last:Bool)(n c:Nat):bF ls (.raw last (n+1)) c=aU (iF ls c 8) (λv c'=>.ok ((.byte v,.raw last n),c')):=rfl
theorem eo(ls:List Nat)(last:Bool)(lit dist:List Nat)(c:Nat):bF ls (.sym last lit dist) c=aU (nZ lit ls c 285) (jl ls last lit dist):=rfl
theorem dI{ls:List Nat}{most:Nat}{s:Ps}{b:Bk}{c:Nat}(h:s.bk=none)(hg:eJ ls s.c=.ok (b,c)):jQ ls most s=.ok (⟨c,s.out,some b⟩,false):=by unfold jQ;rw[h];simp only[hg]
theorem fY{ls:List Nat}{most:Nat}{s:Ps}{e:Nat}(h:s.bk=none)(hg:eJ ls s.c=.error e):jQ ls most s=.error e:=by unfold jQ;rw[h];simp only[hg]
theorem cj{ls:List Nat}{most:Nat}{s:Ps}{b:Bk}{x:(Tok×Bk)×Nat}(h:s.bk=some b)(hg:bF ls b s.c=.ok x):jQ ls most s=EW most s b x:=by unfold jQ;rw[h];simp only[hg]
theorem eA{ls:List Nat}{most:Nat}{s:Ps}{b:Bk}{e:Nat}(h:s.bk=some b)(hg:bF ls b s.c=.error e):jQ ls most s=.error e:=by unfold jQ;rw[h];simp only[hg]
theorem jy(most:Nat)(s:Ps)(b b':Bk)(c:Nat):EW most s b ((.fin,b'),c)=if b.last=true then .ok (⟨c,s.out,some b'⟩,true)else .ok (⟨c,s.out,none⟩,false):=rfl
theorem mV{most:Nat}{s:Ps}{b b':Bk}{c e:Nat}{t:Tok}(ht:t≠.fin)(h:dB most s.out t=.error e):EW most s b ((t,b'),c)=.error e:=by
 cases t with
 | fin=>exact absurd rfl ht
 | byte v=>unfold EW;simp only[h]
 | copy n far=>unfold EW;simp only[h]
theorem kj{most:Nat}{s:Ps}{b b':Bk}{c:Nat}{t:Tok}{out:List Nat}(ht:t≠.fin)(h:dB most s.out t=.ok out):EW most s b ((t,b'),c)=.ok (⟨c,out,some b'⟩,false):=by
 cases t with
 | fin=>exact absurd rfl ht
 | byte v=>unfold EW;simp only[h]
 | copy n far=>unfold EW;simp only[h]
theorem nQ{most:Nat}{s:Ps}{b b':Bk}{c:Nat}{t:Tok}{r:Except Nat (Ps×Bool)}(h:EW most s b ((t,b'),c)=r):
  (t=.fin/\b.last=true/\r=.ok (⟨c,s.out,some b'⟩,true))\/(t=.fin/\b.last=false/\r=.ok (⟨c,s.out,none⟩,false)) \/
  (t≠.fin/\((∃e,dB most s.out t=.error e/\r=.error e)\/∃out,dB most s.out t=.ok out/\r=.ok (⟨c,out,some b'⟩,false))):=by
 by_cases ht:t=.fin
 ·subst ht;rw[jy]at h;cases hl:b.last with
  | true=>rw[hl,if_pos rfl]at h;exact .inl ⟨rfl,rfl,h.symm⟩
  | false=>rw[hl,if_neg (by decide)]at h;exact .inr (.inl ⟨rfl,rfl,h.symm⟩)
 ·cases hl:dB most s.out t with
  | error e=>rw[mV ht hl]at h;exact .inr (.inr ⟨ht,.inl ⟨e,rfl,h.symm⟩⟩)
  | ok out=>rw[kj ht hl]at h;exact .inr (.inr ⟨ht,.inr ⟨out,rfl,h.symm⟩⟩)
end Go.Proofs.YtkhagfgineifhaaGreatDoor
