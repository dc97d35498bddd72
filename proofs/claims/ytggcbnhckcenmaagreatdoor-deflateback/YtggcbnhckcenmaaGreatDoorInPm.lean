import Derived.Test.YtggcbnhckcenmaaGreatDoorInLo
namespace Go.Proofs.YtggcbnhckcenmaaGreatDoor

inductive Bk where
 | raw (last:Bool) (left:Nat)
 | sym (last:Bool) (lit dist:List Nat)

def Bk.last:Bk→Bool
 | .raw l _=>l
 | .sym l _ _=>l

inductive Tok where
 | fin
 | byte (b:Nat)
 | copy (n far:Nat)

def tkP(ls:List Nat)(c n:Nat):Except Nat (Nat×Nat):=if ls.length<c+n then .error 55 else .ok (numAt ls c n,c+n)

def syP(ns ls:List Nat)(c last:Nat):Except Nat (Nat×Nat):=
 if (nextF ns (ls.drop c)).2.2=10 then .error 55
 else if (nextF ns (ls.drop c)).2.2≠0∨last<(nextF ns (ls.drop c)).1 then .error 53
 else .ok ((nextF ns (ls.drop c)).1,c+(nextF ns (ls.drop c)).2.1)

def bindP{α β:Type}(r:Except Nat (α×Nat))(g:α→Nat→Except Nat (β×Nat)):Except Nat (β×Nat):=
 match r with
 | .error e=>.error e
 | .ok x=>g x.1 x.2

theorem bindP_ok{α β:Type}{r:Except Nat (α×Nat)}{g:α→Nat→Except Nat (β×Nat)}{y:β×Nat}:bindP r g=.ok y↔∃x c,r=.ok (x,c)∧g x c=.ok y:=by
 cases r with
 | error e=>simp[bindP]
 | ok x=>
  refine⟨fun h=>⟨x.1,x.2,rfl,h⟩,fun⟨a,c,h1,h2⟩=>?_⟩
  simp only[Except.ok.injEq]at h1
  subst h1
  exact h2

theorem bindP_err{α β:Type}{r:Except Nat (α×Nat)}{g:α→Nat→Except Nat (β×Nat)}{e:Nat}:bindP r g=.error e↔r=.error e∨∃x c,r=.ok (x,c)∧g x c=.error e:=by
 cases r with
 | error e2=>simp[bindP]
 | ok x=>
  refine⟨fun h=>.inr ⟨x.1,x.2,rfl,h⟩,fun h=>?_⟩
  rcases h with h | ⟨a,c,h1,h2⟩
  ·cases h
  ·simp only[Except.ok.injEq]at h1
   subst h1
   exact h2

theorem bindP_is{α β:Type}{r:Except Nat (α×Nat)}{g:α→Nat→Except Nat (β×Nat)}{x:α}{c:Nat}(h:r=.ok (x,c)):bindP r g=g x c:=by rw[h];rfl
theorem bindP_no{α β:Type}{r:Except Nat (α×Nat)}{g:α→Nat→Except Nat (β×Nat)}{e:Nat}(h:r=.error e):bindP r g=.error e:=by rw[h];rfl

def numP(ls:List Nat)(c y k:Nat):Except Nat (Nat×Nat):=
 if y<k then .ok (y,c)else bindP (tkP ls c (y / k-1)) (fun x c'=>.ok ((k+y % k)*2 ^ (y / k-1)+x,c'))

def lenP(ls:List Nat)(c y:Nat):Except Nat (Nat×Nat):=
 if y<285 then bindP (numP ls c (y-257) 4) (fun n c'=>.ok (3+n,c'))else .ok (258,c)

def dsyP(dist ls:List Nat)(c:Nat):Except Nat (Nat×Nat):=if usedB dist=false then .error 53 else syP dist ls c 29

def copP(ls dist:List Nat)(c y:Nat):Except Nat ((Nat×Nat)×Nat):=
 bindP (lenP ls c y) (fun n c1=>bindP (dsyP dist ls c1) (fun z c2=>bindP (numP ls c2 z 2) (fun d c3=>.ok ((n,1+d),c3))))

def symP(ls:List Nat)(last:Bool)(lit dist:List Nat)(y c1:Nat):Except Nat ((Tok×Bk)×Nat):=
 if y<256 then .ok ((.byte y,.sym last lit dist),c1)
 else if y=256 then .ok ((.fin,.sym last lit dist),c1)
 else bindP (copP ls dist c1 y) (fun x c2=>.ok ((.copy x.1 x.2,.sym last lit dist),c2))

def stepP(ls:List Nat)(b:Bk)(c:Nat):Except Nat ((Tok×Bk)×Nat):=
 match b with
 | .raw last 0=>.ok ((.fin,.raw last 0),c)
 | .raw last (n+1)=>bindP (tkP ls c 8) (fun v c'=>.ok ((.byte v,.raw last n),c'))
 | .sym last lit dist=>bindP (syP lit ls c 285) (symP ls last lit dist)

def cntP(ls:List Nat)(c:Nat):Except Nat (Nat×Nat):=
 bindP (tkP ls ((c+7) / 8*8) 16) (fun n c1=>bindP (tkP ls c1 16) (fun t c2=>if n+t=65535 then .ok (n,c2)else .error 51))

def hdP(ls:List Nat)(c:Nat):Except Nat ((List Nat×List Nat)×Nat):=
 match head5 ls c with
 | .error e=>.error e
 | .ok (x,n)=>.ok (x,c+n)

def kndP(ls:List Nat)(last:Bool)(c k:Nat):Except Nat (Bk×Nat):=
 if k=0 then bindP (cntP ls c) (fun n c'=>.ok (.raw last n,c'))
 else if k=1 then .ok (.sym last fixL fixD,c)
 else if k=2 then bindP (hdP ls c) (fun x c'=>.ok (.sym last x.1 x.2,c'))
 else .error 50

def begP(ls:List Nat)(c:Nat):Except Nat (Bk×Nat):=
 bindP (tkP ls c 1) (fun l c1=>bindP (tkP ls c1 2) (fun k c2=>kndP ls (l==1) c2 k))

def cpL(far:Nat):Nat→List Nat→List Nat
 | 0,out=>out
 | n+1,out=>cpL far n (out++[out.getD (out.length-far) 0])

def layP(most:Nat)(out:List Nat):Tok→Except Nat (List Nat)
 | .fin=>.ok out
 | .byte b=>if most<out.length+1 then .error 56 else .ok (out++[b])
 | .copy n far=>if out.length<far then .error 54 else if most<out.length+n then .error 56 else .ok (cpL far n out)

structure Ps where
 c:Nat
 out:List Nat
 bk:Option Bk

def goP(most:Nat)(s:Ps)(b:Bk)(x:(Tok×Bk)×Nat):Except Nat (Ps×Bool):=
 match x.1.1 with
 | .fin=>if b.last=true then .ok (⟨x.2,s.out,some x.1.2⟩,true)else .ok (⟨x.2,s.out,none⟩,false)
 | t=>match layP most s.out t with
  | .error e=>.error e
  | .ok out=>.ok (⟨x.2,out,some x.1.2⟩,false)

def stP(ls:List Nat)(most:Nat)(s:Ps):Except Nat (Ps×Bool):=
 match s.bk with
 | none=>match begP ls s.c with
  | .error e=>.error e
  | .ok x=>.ok (⟨x.2,s.out,some x.1⟩,false)
 | some b=>match stepP ls b s.c with
  | .error e=>.error e
  | .ok x=>goP most s b x

inductive Ends(ls:List Nat)(most:Nat):Ps→Ps→Nat→Prop
 | stop {s:Ps} {e:Nat} (h:stP ls most s=.error e):Ends ls most s s e
 | done {s t:Ps} (h:stP ls most s=.ok (t,true)):Ends ls most s t 0
 | step {s s' t:Ps} {e:Nat} (h:stP ls most s=.ok (s',false)) (r:Ends ls most s' t e):Ends ls most s t e

theorem tkP_err{ls:List Nat}{c n e:Nat}(h:tkP ls c n=.error e):e=55∧ls.length<c+n:=by
 unfold tkP at h
 split at h
 ·rename_i h1;simp only[Except.error.injEq]at h;exact⟨h.symm,h1⟩
 ·cases h
theorem tkP_ok{ls:List Nat}{c n x c':Nat}(h:tkP ls c n=.ok (x,c')):x=numAt ls c n∧c'=c+n∧c+n≤ls.length:=by
 unfold tkP at h
 split at h
 ·cases h
 ·simp only[Except.ok.injEq,Prod.mk.injEq]at h;exact⟨h.1.symm,h.2.symm,by omega⟩
theorem tkP_is{ls:List Nat}{c n:Nat}(h:c+n≤ls.length):tkP ls c n=.ok (numAt ls c n,c+n):=by unfold tkP;rw[if_neg (by omega)]
theorem tkP_end{ls:List Nat}{c n:Nat}(h:ls.length<c+n):tkP ls c n=.error 55:=by unfold tkP;rw[if_pos h]

theorem tkP_agr{ls ls':List Nat}{c n x c':Nat}(h:tkP ls c n=.ok (x,c'))(ha:Agr c' ls ls'):tkP ls' c n=.ok (x,c'):=by
 obtain⟨rfl,rfl,_⟩:=tkP_ok h
 rw[tkP_is ha.le',numAt_agr ha c n (Nat.le_refl _)]

structure Loc{α:Type}(f:List Nat→Except Nat (α×Nat))(ls:List Nat)(c:Nat):Prop where
 ge:∀x c',f ls=.ok (x,c')→c≤c'∧c'≤ls.length
 agr:∀x c' ls',(∀b∈ls',b<2)→f ls=.ok (x,c')→Agr c' ls ls'→f ls'=.ok (x,c')
 err:∀e mo,(∀b∈mo,b<2)→f ls=.error e→e≠55→f (ls++mo)=.error e
 ne:∀e,f ls=.error e→e≠0

theorem Loc.pure{α:Type}(x:α){ls:List Nat}{c:Nat}(hc:c≤ls.length):Loc (fun _=>.ok (x,c)) ls c:=
 ⟨fun y c' h=>by simp only[Except.ok.injEq,Prod.mk.injEq]at h;omega,fun _ _ _ _ h _=>h,fun _ _ _ h _=>(by cases h),fun _ h=>(by cases h)⟩
theorem Loc.fail{α:Type}{e:Nat}(he:e≠0){ls:List Nat}{c:Nat}:Loc (α:=α) (fun _=>.error e) ls c:=
 ⟨fun _ _ h=>(by cases h),fun _ _ _ _ h _=>h,fun _ _ _ h _=>h,fun _ h=>by simp only[Except.error.injEq]at h;omega⟩
theorem Loc.of_eq{α:Type}{f g:List Nat→Except Nat (α×Nat)}{ls:List Nat}{c:Nat}(h:Loc f ls c)(e:∀l,g l=f l):Loc g ls c:=by
 have:g=f:=funext e
 rw[this];exact h
theorem Loc.weak{α:Type}{f:List Nat→Except Nat (α×Nat)}{ls:List Nat}{c d:Nat}(h:Loc f ls c)(hd:d≤c):Loc f ls d:=
 ⟨fun x c' h1=>by have:=h.ge x c' h1;omega,h.agr,h.err,h.ne⟩

theorem tkP_loc(ls:List Nat)(c n:Nat):Loc (fun l=>tkP l c n) ls c:=
 ⟨fun x c' h=>by have:=tkP_ok h;omega,fun _ _ _ _ h ha=>tkP_agr h ha,fun e _ _ h he=>absurd (tkP_err h).1 he,fun e h=>by have:=(tkP_err h).1;omega⟩

theorem syP_cases{ns ls:List Nat}{c last:Nat}{r:Except Nat (Nat×Nat)}(h:syP ns ls c last=r):
  (r=.error 55∧(nextF ns (ls.drop c)).2.2=10)∨(r=.error 53∧(nextF ns (ls.drop c)).2.2=32) ∨
  (∃y k,nextF ns (ls.drop c)=(y,k,0)∧((last<y∧r=.error 53)∨(y≤last∧r=.ok (y,c+k)))):=by
 obtain⟨y,k,g,hn⟩:∃y k g,nextF ns (ls.drop c)=(y,k,g):=⟨_,_,_,rfl⟩
 have h3:=nextF_ends ns (ls.drop c)
 unfold syP at h
 rw[hn]at h h3 ⊢
 simp only at h h3 ⊢
 rcases h3 with rfl | rfl | rfl
 ·refine .inr (.inr ⟨y,k,rfl,?_⟩)
  rw[if_neg (by omega)]at h
  by_cases hy:last<y
  ·rw[if_pos (.inr hy)]at h;exact .inl ⟨hy,h.symm⟩
  ·rw[if_neg (by omega)]at h;exact .inr ⟨by omega,h.symm⟩
 ·rw[if_pos rfl]at h;exact .inl ⟨h.symm,rfl⟩
 ·rw[if_neg (by omega),if_pos (.inl (by omega))]at h;exact .inr (.inl ⟨h.symm,rfl⟩)

theorem syP_none{ns ls:List Nat}{c last:Nat}(h:(nextF ns (ls.drop c)).2.2=32):syP ns ls c last=.error 53:=by
 unfold syP;rw[if_neg (by omega),if_pos (.inl (by omega))]
theorem syP_short{ns ls:List Nat}{c last:Nat}(h:(nextF ns (ls.drop c)).2.2=10):syP ns ls c last=.error 55:=by
 unfold syP;rw[if_pos h]
theorem syP_is{ns ls:List Nat}{c last y k:Nat}(h:nextF ns (ls.drop c)=(y,k,0))(hy:y≤last):syP ns ls c last=.ok (y,c+k):=by
 unfold syP;rw[h];simp only;rw[if_neg (by omega),if_neg (by omega)]
theorem syP_far{ns ls:List Nat}{c last y k:Nat}(h:nextF ns (ls.drop c)=(y,k,0))(hy:last<y):syP ns ls c last=.error 53:=by
 unfold syP;rw[h];simp only;rw[if_neg (by omega),if_pos (.inr hy)]

theorem nextF_len{ns t:List Nat}{y k:Nat}(h:nextF ns t=(y,k,0)):k≤t.length∧0<k∧y<ns.length:=by
 have h1:=nextF_is ns t
 rw[h]at h1
 rcases h1 with⟨_,hs,hf,hk,_⟩ | ⟨h0,_⟩ | ⟨h0,_⟩
 ·simp only at hs hf hk
  have:=hf.2.length_le
  rw[rowOf_length]at this
  have:=hf.1
  omega
 ·simp at h0
 ·simp at h0

theorem nextF_in{ns ls:List Nat}{c y k:Nat}(hc:c≤ls.length)(h:nextF ns (ls.drop c)=(y,k,0)):c+k≤ls.length:=by
 have:=(nextF_len h).1
 rw[List.length_drop]at this
 omega

theorem syP_loc{ns:List Nat}(hp:Pf ns)(ls:List Nat)(hb:∀b∈ls,b<2)(c last:Nat)(hc:c≤ls.length):Loc (fun l=>syP ns l c last) ls c:=by
 refine⟨fun x c' h=>?_,fun x c' ls' hb' h ha=>?_,fun e mo hb' h he=>?_,fun e h=>?_⟩
 ·rcases syP_cases h with⟨h1,_⟩ | ⟨h1,_⟩ | ⟨y,k,hn,⟨_,h1⟩ | ⟨_,h1⟩⟩
  ·cases h1
  ·cases h1
  ·cases h1
  ·simp only[Except.ok.injEq,Prod.mk.injEq]at h1
   have:=nextF_in hc hn
   omega
 ·rcases syP_cases h with⟨h1,_⟩ | ⟨h1,_⟩ | ⟨y,k,hn,⟨_,h1⟩ | ⟨hy,h1⟩⟩
  ·cases h1
  ·cases h1
  ·cases h1
  ·simp only[Except.ok.injEq,Prod.mk.injEq]at h1
   obtain⟨rfl,rfl⟩:=h1
   exact syP_is (nextF_agr hp hb' hn ha) hy
 ·have hb2:∀b∈ls++mo,b<2:=fun b hbb=>by rcases List.mem_append.1 hbb with h | h;exact hb b h;exact hb' b h
  rcases syP_cases h with⟨h1,_⟩ | ⟨h1,h2⟩ | ⟨y,k,hn,⟨hy,h1⟩ | ⟨hy,h1⟩⟩
  ·simp only[Except.error.injEq]at h1;omega
  ·rw[h1]
   have h3:=nextF_err ns (ls.drop c) mo h2
   rw[←List.drop_append_of_le_length hc]at h3
   exact syP_none h3
  ·rw[h1]
   exact syP_far (nextF_agr hp hb2 hn ((Agr.ext ls mo).less (nextF_in hc hn))) hy
  ·cases h1
 ·rcases syP_cases h with⟨h1,_⟩ | ⟨h1,_⟩ | ⟨y,k,hn,⟨_,h1⟩ | ⟨_,h1⟩⟩
  ·simp only[Except.error.injEq]at h1;omega
  ·simp only[Except.error.injEq]at h1;omega
  ·simp only[Except.error.injEq]at h1;omega
  ·cases h1

theorem Loc.bind{α β:Type}{f:List Nat→Except Nat (α×Nat)}{ls:List Nat}{c:Nat}(hb:∀b∈ls,b<2)(h:Loc f ls c){g:List Nat→α→Nat→Except Nat (β×Nat)}
  (hg:∀x c',f ls=.ok (x,c')→Loc (fun l=>g l x c') ls c'):Loc (fun l=>bindP (f l) (g l)) ls c:=by
 refine⟨fun x c' h1=>?_,fun x c' ls' hb' h1 ha=>?_,fun e mo hb' h1 he=>?_,fun e h1=>?_⟩
 ·obtain⟨y,c2,hf,h2⟩:=bindP_ok.1 h1
  have a:=h.ge _ _ hf
  have b:=(hg y c2 hf).ge _ _ h2
  omega
 ·obtain⟨y,c2,hf,h2⟩:=bindP_ok.1 h1
  have b:=(hg y c2 hf).ge _ _ h2
  exact bindP_ok.2 ⟨y,c2,h.agr _ _ ls' hb' hf (ha.less b.1),(hg y c2 hf).agr _ _ ls' hb' h2 ha⟩
 ·have hb2:∀b∈ls++mo,b<2:=fun b hbb=>by rcases List.mem_append.1 hbb with h | h;exact hb b h;exact hb' b h
  rcases bindP_err.1 h1 with hf | ⟨y,c2,hf,h2⟩
  ·exact bindP_err.2 (.inl (h.err _ mo hb' hf he))
  ·exact bindP_err.2 (.inr ⟨y,c2,h.agr _ _ _ hb2 hf ((Agr.ext ls mo).less (h.ge _ _ hf).2),(hg y c2 hf).err _ mo hb' h2 he⟩)
 ·rcases bindP_err.1 h1 with hf | ⟨y,c2,hf,h2⟩
  ·exact h.ne _ hf
  ·exact(hg y c2 hf).ne _ h2

theorem numP_loc(ls:List Nat)(hb:∀b∈ls,b<2)(c y k:Nat)(hc:c≤ls.length):Loc (fun l=>numP l c y k) ls c:=by
 by_cases h:y<k
 ·exact(Loc.pure y hc).of_eq (fun l=>by unfold numP;rw[if_pos h])
 ·exact(Loc.bind hb (tkP_loc ls c (y / k-1)) (g:=fun _ x c'=>.ok ((k+y % k)*2 ^ (y / k-1)+x,c')) (fun x c' h1=>Loc.pure _ ((tkP_loc ls c _).ge x c' h1).2)).of_eq (fun l=>by unfold numP;rw[if_neg h])

theorem lenP_loc(ls:List Nat)(hb:∀b∈ls,b<2)(c y:Nat)(hc:c≤ls.length):Loc (fun l=>lenP l c y) ls c:=by
 by_cases h:y<285
 ·exact(Loc.bind hb (numP_loc ls hb c (y-257) 4 hc) (g:=fun _ x c'=>.ok (3+x,c')) (fun x c' h1=>Loc.pure _ ((numP_loc ls hb c _ _ hc).ge x c' h1).2)).of_eq (fun l=>by unfold lenP;rw[if_pos h])
 ·exact(Loc.pure 258 hc).of_eq (fun l=>by unfold lenP;rw[if_neg h])

theorem dsyP_loc{dist:List Nat}(hp:Pf dist)(ls:List Nat)(hb:∀b∈ls,b<2)(c:Nat)(hc:c≤ls.length):Loc (fun l=>dsyP dist l c) ls c:=by
 by_cases h:usedB dist=false
 ·exact(Loc.fail (e:=53) (by decide)).of_eq (fun l=>by unfold dsyP;rw[if_pos h])
 ·exact(syP_loc hp ls hb c 29 hc).of_eq (fun l=>by unfold dsyP;rw[if_neg h])

theorem copP_loc{dist:List Nat}(hp:Pf dist)(ls:List Nat)(hb:∀b∈ls,b<2)(c y:Nat)(hc:c≤ls.length):Loc (fun l=>copP l dist c y) ls c:=by
 have h1:=lenP_loc ls hb c y hc
 refine Loc.bind hb h1 (fun n c1 e1=>?_)
 have hc1:=(h1.ge _ _ e1).2
 refine Loc.bind hb (dsyP_loc hp ls hb c1 hc1) (fun z c2 e2=>?_)
 have hc2:=((dsyP_loc hp ls hb c1 hc1).ge _ _ e2).2
 exact Loc.bind hb (numP_loc ls hb c2 z 2 hc2) (fun d c3 e3=>Loc.pure _ ((numP_loc ls hb c2 z 2 hc2).ge _ _ e3).2)

structure Lok(l:List Nat):Prop where
 pos:0<l.length
 max:l.length≤288
 le:∀n∈l,n≤15
 ok:chkN l=0

structure OkL(lit dist:List Nat):Prop where
 lit:Lok lit
 pos:0<dist.length
 max:dist.length≤288
 le:∀n∈dist,n≤15
 dist:usedB dist=true→Lok dist

def BkOk:Option Bk→Prop
 | some (.sym _ lit dist)=>OkL lit dist
 | _=>True

theorem Lok.pf{l:List Nat}(h:Lok l):Pf l:=by
 refine⟨?_,key_le h.le⟩
 have:=h.ok
 unfold chkN at this
 split at this
 ·cases this
 ·omega

theorem OkL.pf{lit dist:List Nat}(h:OkL lit dist):Pf dist:=by
 by_cases hu:usedB dist=true
 ·exact(h.dist hu).pf
 ·refine⟨?_,key_le h.le⟩
  have:measure dist=0:=by
   have hu2:usedB dist=false:=by simpa using hu
   unfold usedB at hu2
   rw[List.any_eq_false]at hu2
   unfold measure
   have:dist.map unit=dist.map (fun _=>0):=List.map_congr_left (fun n hn=>by
    have:=hu2 n hn
    have h0:n=0:=by simpa using this
    rw[h0];rfl)
   rw[this,List.map_const',List.sum_replicate_nat,Nat.mul_zero]
  omega

theorem stepP_loc(ls:List Nat)(hb:∀b∈ls,b<2)(b:Bk)(c:Nat)(hk:BkOk (some b))(hc:c≤ls.length):Loc (fun l=>stepP l b c) ls c:=by
 cases b with
 | raw last left=>
  cases left with
  | zero=>exact Loc.pure _ hc
  | succ n=>exact Loc.bind hb (tkP_loc ls c 8) (g:=fun _ v c'=>.ok ((Tok.byte v,Bk.raw last n),c')) (fun x c' e=>Loc.pure _ ((tkP_loc ls c 8).ge _ _ e).2)
 | sym last lit dist=>
  have hk:OkL lit dist:=hk
  have h1:=syP_loc hk.lit.pf ls hb c 285 hc
  refine Loc.bind hb h1 (fun y c1 e1=>?_)
  have hc1:=(h1.ge _ _ e1).2
  by_cases h256:y<256
  ·exact(Loc.pure _ hc1).of_eq (fun l=>by unfold symP;rw[if_pos h256])
  ·by_cases he:y=256
   ·exact(Loc.pure _ hc1).of_eq (fun l=>by unfold symP;rw[if_neg h256,if_pos he])
   ·exact(Loc.bind hb (copP_loc hk.pf ls hb c1 y hc1) (g:=fun _ x c2=>.ok ((.copy x.1 x.2,.sym last lit dist),c2)) (fun x c2 e2=>Loc.pure _ ((copP_loc hk.pf ls hb c1 y hc1).ge _ _ e2).2)).of_eq (fun l=>by unfold symP;rw[if_neg h256,if_neg he])

theorem cntP_loc(ls:List Nat)(hb:∀b∈ls,b<2)(c:Nat):Loc (fun l=>cntP l c) ls c:=by
 have h1:=tkP_loc ls ((c+7) / 8*8) 16
 refine(Loc.bind hb h1 (g:=fun l n c1=>bindP (tkP l c1 16) (fun t c2=>if n+t=65535 then .ok (n,c2)else .error 51)) (fun n c1 e1=>?_)).weak (by omega)
 refine Loc.bind hb (tkP_loc ls c1 16) (fun t c2 e2=>?_)
 have hc2:=((tkP_loc ls c1 16).ge _ _ e2).2
 by_cases h:n+t=65535
 ·exact(Loc.pure n hc2).of_eq (fun l=>by rw[if_pos h])
 ·exact(Loc.fail (e:=51) (by decide)).of_eq (fun l=>by rw[if_neg h])

theorem head5_ne{ls:List Nat}{a e:Nat}(h:head5 ls a=.error e):e≠0:=by
 unfold head5 at h
 split at h
 ·simp only[Except.error.injEq]at h
  split at h<;>omega
 ·split at h
  ·simp only[Except.error.injEq]at h;omega
  ·cases h

theorem hdP_loc(ls:List Nat)(hb:∀b∈ls,b<2)(c:Nat):Loc (fun l=>hdP l c) ls c:=by
 refine⟨fun x c' h=>?_,fun x c' ls' hb' h ha=>?_,fun e mo hb' h he=>?_,fun e h=>?_⟩
 ·simp only[hdP]at h
  split at h
  ·cases h
  ·rename_i y n h1
   simp only[Except.ok.injEq,Prod.mk.injEq]at h
   have:=head5_ge h1
   omega
 ·simp only[hdP]at h ⊢
  split at h
  ·cases h
  ·rename_i y n h1
   simp only[Except.ok.injEq,Prod.mk.injEq]at h
   obtain⟨rfl,rfl⟩:=h
   rw[head5_agr hb hb' h1 ha]
 ·have hb2:∀b∈ls++mo,b<2:=fun b hbb=>by rcases List.mem_append.1 hbb with h | h;exact hb b h;exact hb' b h
  simp only[hdP]at h ⊢
  split at h
  ·rename_i e2 h1
   simp only[Except.error.injEq]at h
   subst h
   rw[head5_fail mo hb2 h1 he]
  ·cases h
 ·simp only[hdP]at h
  split at h
  ·rename_i e2 h1
   simp only[Except.error.injEq]at h
   subst h
   exact head5_ne h1
  ·cases h

theorem kndP_loc(ls:List Nat)(hb:∀b∈ls,b<2)(last:Bool)(c k:Nat)(hc:c≤ls.length):Loc (fun l=>kndP l last c k) ls c:=by
 by_cases h0:k=0
 ·exact(Loc.bind hb (cntP_loc ls hb c) (g:=fun _ n c'=>.ok (Bk.raw last n,c')) (fun n c' e=>Loc.pure _ ((cntP_loc ls hb c).ge _ _ e).2)).of_eq (fun l=>by unfold kndP;rw[if_pos h0])
 ·by_cases h1:k=1
  ·exact(Loc.pure _ hc).of_eq (fun l=>by unfold kndP;rw[if_neg h0,if_pos h1])
  ·by_cases h2:k=2
   ·exact(Loc.bind hb (hdP_loc ls hb c) (g:=fun _ x c'=>.ok (Bk.sym last x.1 x.2,c')) (fun n c' e=>Loc.pure _ ((hdP_loc ls hb c).ge _ _ e).2)).of_eq (fun l=>by unfold kndP;rw[if_neg h0,if_neg h1,if_pos h2])
   ·exact(Loc.fail (e:=50) (by decide)).of_eq (fun l=>by unfold kndP;rw[if_neg h0,if_neg h1,if_neg h2])

theorem begP_loc(ls:List Nat)(hb:∀b∈ls,b<2)(c:Nat):Loc (fun l=>begP l c) ls c:=by
 refine Loc.bind hb (tkP_loc ls c 1) (fun x c1 e1=>?_)
 exact Loc.bind hb (tkP_loc ls c1 2) (fun k c2 e2=>kndP_loc ls hb _ c2 k ((tkP_loc ls c1 2).ge _ _ e2).2)

theorem stepP_zero(ls:List Nat)(last:Bool)(c:Nat):stepP ls (.raw last 0) c=.ok ((.fin,.raw last 0),c):=rfl
theorem stepP_raw(ls:List Nat)(last:Bool)(n c:Nat):stepP ls (.raw last (n+1)) c=bindP (tkP ls c 8) (fun v c'=>.ok ((.byte v,.raw last n),c')):=rfl
theorem stepP_sym(ls:List Nat)(last:Bool)(lit dist:List Nat)(c:Nat):stepP ls (.sym last lit dist) c=bindP (syP lit ls c 285) (symP ls last lit dist):=rfl

theorem stP_none_ok{ls:List Nat}{most:Nat}{s:Ps}{b:Bk}{c:Nat}(h:s.bk=none)(hg:begP ls s.c=.ok (b,c)):stP ls most s=.ok (⟨c,s.out,some b⟩,false):=by
 unfold stP;rw[h];simp only[hg]
theorem stP_none_err{ls:List Nat}{most:Nat}{s:Ps}{e:Nat}(h:s.bk=none)(hg:begP ls s.c=.error e):stP ls most s=.error e:=by
 unfold stP;rw[h];simp only[hg]
theorem stP_some_ok{ls:List Nat}{most:Nat}{s:Ps}{b:Bk}{x:(Tok×Bk)×Nat}(h:s.bk=some b)(hg:stepP ls b s.c=.ok x):stP ls most s=goP most s b x:=by
 unfold stP;rw[h];simp only[hg]
theorem stP_some_err{ls:List Nat}{most:Nat}{s:Ps}{b:Bk}{e:Nat}(h:s.bk=some b)(hg:stepP ls b s.c=.error e):stP ls most s=.error e:=by
 unfold stP;rw[h];simp only[hg]

theorem goP_fin(most:Nat)(s:Ps)(b b':Bk)(c:Nat):goP most s b ((.fin,b'),c)=if b.last=true then .ok (⟨c,s.out,some b'⟩,true)else .ok (⟨c,s.out,none⟩,false):=rfl
theorem goP_err{most:Nat}{s:Ps}{b b':Bk}{c e:Nat}{t:Tok}(ht:t≠.fin)(h:layP most s.out t=.error e):goP most s b ((t,b'),c)=.error e:=by
 cases t with
 | fin=>exact absurd rfl ht
 | byte v=>unfold goP;simp only[h]
 | copy n far=>unfold goP;simp only[h]
theorem goP_ok{most:Nat}{s:Ps}{b b':Bk}{c:Nat}{t:Tok}{out:List Nat}(ht:t≠.fin)(h:layP most s.out t=.ok out):goP most s b ((t,b'),c)=.ok (⟨c,out,some b'⟩,false):=by
 cases t with
 | fin=>exact absurd rfl ht
 | byte v=>unfold goP;simp only[h]
 | copy n far=>unfold goP;simp only[h]

theorem goP_cases{most:Nat}{s:Ps}{b b':Bk}{c:Nat}{t:Tok}{r:Except Nat (Ps×Bool)}(h:goP most s b ((t,b'),c)=r):
  (t=.fin∧b.last=true∧r=.ok (⟨c,s.out,some b'⟩,true))∨(t=.fin∧b.last=false∧r=.ok (⟨c,s.out,none⟩,false)) ∨
  (t≠.fin∧((∃e,layP most s.out t=.error e∧r=.error e)∨∃out,layP most s.out t=.ok out∧r=.ok (⟨c,out,some b'⟩,false))):=by
 by_cases ht:t=.fin
 ·subst ht
  rw[goP_fin]at h
  cases hl:b.last with
  | true=>rw[hl,if_pos rfl]at h;exact .inl ⟨rfl,rfl,h.symm⟩
  | false=>rw[hl,if_neg (by decide)]at h;exact .inr (.inl ⟨rfl,rfl,h.symm⟩)
 ·cases hl:layP most s.out t with
  | error e=>rw[goP_err ht hl]at h;exact .inr (.inr ⟨ht,.inl ⟨e,rfl,h.symm⟩⟩)
  | ok out=>rw[goP_ok ht hl]at h;exact .inr (.inr ⟨ht,.inr ⟨out,rfl,h.symm⟩⟩)

end Go.Proofs.YtggcbnhckcenmaaGreatDoor
