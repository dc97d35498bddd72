import Derived.Test.YtggcbnhckcenmaaGreatDoorInPe
namespace Go.Proofs.YtggcbnhckcenmaaGreatDoor

inductive Runs(ls:List Nat)(most:Nat):Ps→Ps→Prop
 | refl(s:Ps):Runs ls most s s
 | step {s s' t:Ps}(h:stP ls most s=.ok(s',false))(r:Runs ls most s' t):Runs ls most s t

theorem Runs.ends {ls:List Nat}{most:Nat}{s t u:Ps}{e:Nat}(h:Runs ls most s t)(r:Ends ls most t u e):Ends ls most s u e:=by
 induction h with
 | refl s=>exact r
 | step h _ ih=>exact .step h(ih r)

theorem Runs.trans {ls:List Nat}{most:Nat}{s t u:Ps}(h:Runs ls most s t)(r:Runs ls most t u):Runs ls most s u:=by
 induction h with
 | refl s=>exact r
 | step h _ ih=>exact .step h(ih r)

def Says(s:S5)(r:Except Nat(Nat×Nat))(p:Nat×S5):Prop:=
 match r with
 | .ok(x,c)=>p=(x,⟨c,s.out,0⟩)
 | .error e=>e≠0∧p.2.e=e∧p.2.out=s.out

theorem tk_says(ls:List Nat)(s:S5)(n:Nat)(he:s.e=0):Says s(tkP ls s.c n)(tk ls s n):=by
 unfold tk tkP
 have h0:¬s.e≠0:=by omega
 by_cases h:ls.length<s.c+n
 ·rw[if_pos h,if_neg h0,if_pos h];exact⟨by decide,rfl,rfl⟩
 ·rw[if_neg h,if_neg h0,if_neg h]
  show _=_
  rw[he]

theorem tkP_zero(ls:List Nat)(c:Nat)(h:c≤ls.length):tkP ls c 0=.ok(0,c):=by
 rw[tkP_is(by omega)]
 rfl

theorem lbase_is:∀k,k<28→lbase(257+k)=3+(if k<4 then k else(4+k % 4)*2 ^ (k / 4-1))∧xlen(257+k)=if k<4 then 0 else k / 4-1:=by decide +kernel
theorem dbase_is:∀k,k<30→dbase k=1+(if k<2 then k else(2+k % 2)*2 ^ (k / 2-1))∧xdist k=if k<2 then 0 else k / 2-1:=by decide +kernel

theorem len_says(ls:List Nat)(s:S5)(y:Nat)(he:s.e=0)(hc:s.c≤ls.length)(h1:257≤y)(h2:y≤285):Says s(lenP ls s.c y)(len5 ls s y):=by
 by_cases h:y=285
 ·have e1:lenP ls s.c y=.ok(258,s.c):=by subst h;rfl
  have e2:len5 ls s y=(258,s):=by subst h;rfl
  rw[e1,e2]
  show _=_
  rw[←he]
 ·have h285:y<285:=by omega
  have e1:lenP ls s.c y=bindP(numP ls s.c(y-257)4)(fun n c'=>.ok(3+n,c')):=by unfold lenP;exact if_pos h285
  have e2:len5 ls s y=(lbase y+(tk ls s(xlen y)).1,(tk ls s(xlen y)).2):=by unfold len5;exact if_neg h
  obtain⟨k,hk⟩:∃k,y-257=k:=⟨_,rfl⟩
  have hy:y=257+k:=by omega
  obtain⟨hb,hx⟩:=lbase_is k(by omega)
  rw[e1,e2,hk,hy,hb,hx]
  clear hy hk h1 h2 h h285 e1 e2
  unfold numP
  by_cases hk:k<4
  ·rw[if_pos hk,if_pos hk,if_pos hk]
   have ht:=tk_says ls s 0 he
   rw[tkP_zero ls s.c hc]at ht
   have ht:tk ls s 0=(0,⟨s.c,s.out,0⟩):=ht
   rw[ht]
   rfl
  ·rw[if_neg hk,if_neg hk,if_neg hk]
   have ht:=tk_says ls s(k / 4-1)he
   cases hr:tkP ls s.c(k / 4-1)with
   | error e=>
    rw[hr]at ht
    exact ht
   | ok x=>
    obtain⟨x,c⟩:=x
    rw[hr]at ht
    have ht:tk ls s(k / 4-1)=(x,⟨c,s.out,0⟩):=ht
    rw[ht]
    show _=_
    simp only[Prod.mk.injEq,and_true]
    omega

theorem dist_says(ls:List Nat)(s:S5)(y:Nat)(he:s.e=0)(hc:s.c≤ls.length)(h2:y≤29):Says s(bindP(numP ls s.c y 2)(fun d c=>.ok(1+d,c)))(dist5 ls s y):=by
 unfold dist5
 obtain⟨hb,hx⟩:=dbase_is y(by omega)
 rw[hb,hx]
 unfold numP
 by_cases hk:y<2
 ·rw[if_pos hk,if_pos hk,if_pos hk]
  have ht:=tk_says ls s 0 he
  rw[tkP_zero ls s.c hc]at ht
  have ht:tk ls s 0=(0,⟨s.c,s.out,0⟩):=ht
  rw[ht]
  rfl
 ·rw[if_neg hk,if_neg hk,if_neg hk]
  have ht:=tk_says ls s(y / 2-1)he
  cases hr:tkP ls s.c(y / 2-1)with
  | error e=>
   rw[hr]at ht
   exact ht
  | ok x=>
   obtain⟨x,c⟩:=x
   rw[hr]at ht
   have ht:tk ls s(y / 2-1)=(x,⟨c,s.out,0⟩):=ht
   rw[ht]
   show _=_
   simp only[Prod.mk.injEq,and_true]
   omega

theorem sy_says(ns ls:List Nat)(s:S5)(he:s.e=0):
  ((nextF ns(ls.drop s.c)).2.2=10∧(sy ns ls s 53).2.e=55∧(sy ns ls s 53).2.out=s.out)∨((nextF ns(ls.drop s.c)).2.2=32∧(sy ns ls s 53).2.e=53) ∨
  ∃y k,nextF ns(ls.drop s.c)=(y,k,0)∧sy ns ls s 53=(y,⟨s.c+k,s.out,0⟩):=by
 unfold sy
 rw[if_neg(by omega)]
 obtain⟨y,k,g,hn⟩:∃y k g,nextF ns(ls.drop s.c)=(y,k,g):=⟨_,_,_,rfl⟩
 have h3:=nextF_ends ns(ls.drop s.c)
 rw[hn]at h3 ⊢
 simp only at h3 ⊢
 rcases h3 with rfl | rfl | rfl
 ·exact .inr(.inr⟨y,k,rfl,by rw[if_neg(by decide),if_neg(by decide)]⟩)
 ·left;simp
 ·right;left;simp

theorem cp5_says(most far n:Nat)(s:S5)(he:s.e=0)(ho:s.out.length≤most):
  (most<s.out.length+n∧(cp5 most far n s).e=56)∨(s.out.length+n≤most∧cp5 most far n s=⟨s.c,cpL far n s.out,0⟩):=by
 induction n generalizing s with
 | zero=>
  refine .inr⟨by omega,?_⟩
  unfold cp5 cpL
  rw[←he]
 | succ n ih=>
  unfold cp5 cpL
  rw[if_neg(by omega)]
  unfold ly
  rw[if_neg(by omega)]
  by_cases h:most≤s.out.length
  ·rw[if_pos h]
   refine .inl⟨by omega,?_⟩
   cases n with
   | zero=>rfl
   | succ n=>unfold cp5;rw[if_pos(by simp)]
  ·rw[if_neg h]
   have:=ih⟨s.c,s.out++[s.out.getD(s.out.length-far)0],s.e⟩he(by simp;omega)
   simp only[List.length_append,List.length_singleton]at this
   rcases this with⟨h1,h2⟩ | ⟨h1,h2⟩
   ·exact .inl⟨by omega,h2⟩
   ·exact .inr⟨by omega,h2⟩

def CopS(most:Nat)(s:S5)(r:Except Nat((Nat×Nat)×Nat))(p:S5):Prop:=
 match r with
 | .error e=>e≠0∧p.e=e∧p.out=s.out
 | .ok((n,far),c)=>match layP most s.out(.copy n far)with
  | .error e=>p.e=e
  | .ok out=>p=⟨c,out,0⟩

theorem copies_is {ls:List Nat}{most:Nat}{dist:List Nat}{s:S5}{y:Nat}(h:y≤285){n:Nat}{s1 s2 s3 s4:S5}{d:Nat}(e1:len5 ls s y=(n,s1))(e2:(if s1.e=0∧usedB dist=false then {s1 with e:=53} else s1:S5)=s2)(e3:sy dist ls s2 53=(d,s3))(e4:(if s3.e=0∧29<d then {s3 with e:=53} else s3:S5)=s4):
  copies5 ls most dist s y=if s4.e≠0 then s4 else cp5 most(dist5 ls s4 d).1 n(if(dist5 ls s4 d).2.e=0∧(dist5 ls s4 d).2.out.length<(dist5 ls s4 d).1 then {(dist5 ls s4 d).2 with e:=54} else(dist5 ls s4 d).2):=by
 unfold copies5
 rw[if_neg(by omega)]
 simp only[e1]
 rw[e2]
 simp only[e3]
 rw[e4]

theorem copies_says(ls:List Nat)(most:Nat)(dist:List Nat)(s:S5)(y:Nat)(he:s.e=0)(hc:s.c≤ls.length)(ho:s.out.length≤most)(h1:257≤y)(h2:y≤285):CopS most s(copP ls dist s.c y)(copies5 ls most dist s y):=by
 unfold copP
 have hl:=len_says ls s y he hc h1 h2
 cases hr:lenP ls s.c y with
 | error e=>
  rw[hr]at hl
  obtain⟨hn,hle,hlo⟩:=hl
  rw[bindP_no rfl]
  obtain⟨n,s1,hp⟩:∃n s1,len5 ls s y=(n,s1):=⟨_,_,rfl⟩
  rw[hp]at hle hlo
  simp only at hle hlo
  have h9:s1.e≠0:=by omega
  rw[copies_is h2 hp(if_neg(fun h=>h9 h.1))(d:=0)(s3:=s1)(by unfold sy;rw[if_pos h9])(if_neg(fun h=>h9 h.1)),if_pos h9]
  exact⟨hn,hle,hlo⟩
 | ok x=>
  obtain⟨n,c1⟩:=x
  rw[hr]at hl
  have hl:len5 ls s y=(n,⟨c1,s.out,0⟩):=hl
  have hc1:c1≤ls.length:=by
   unfold lenP at hr
   split at hr
   ·obtain⟨m,c2,hm,hr⟩:=bindP_ok.1 hr
    simp only[Except.ok.injEq,Prod.mk.injEq]at hr
    unfold numP at hm
    split at hm
    ·simp only[Except.ok.injEq,Prod.mk.injEq]at hm;omega
    ·obtain⟨m2,c3,hm2,hm⟩:=bindP_ok.1 hm
     simp only[Except.ok.injEq,Prod.mk.injEq]at hm
     have:=tkP_ok hm2
     omega
   ·simp only[Except.ok.injEq,Prod.mk.injEq]at hr;omega
  rw[bindP_is rfl]
  unfold dsyP
  by_cases hu:usedB dist=false
  ·rw[if_pos hu,bindP_no rfl]
   rw[copies_is h2 hl(s2:=⟨c1,s.out,53⟩)(if_pos⟨rfl,hu⟩)(d:=0)(s3:=⟨c1,s.out,53⟩)(by unfold sy;rw[if_pos(by simp)])(if_neg(fun h=>by cases h.1)),if_pos(by simp)]
   exact⟨by decide,rfl,rfl⟩
  ·rw[if_neg hu]
   have e2:(if(⟨c1,s.out,0⟩:S5).e=0∧usedB dist=false then {(⟨c1,s.out,0⟩:S5)with e:=53} else⟨c1,s.out,0⟩:S5)=⟨c1,s.out,0⟩:=if_neg(fun h=>hu h.2)
   rcases sy_says dist ls⟨c1,s.out,0⟩rfl with⟨hn,hse,hso⟩ | ⟨hn,hse⟩ | ⟨z,k,hn,hsy⟩
   ·rw[syP_short hn,bindP_no rfl]
    obtain⟨d,s3,hp⟩:∃d s3,sy dist ls⟨c1,s.out,0⟩53=(d,s3):=⟨_,_,rfl⟩
    rw[hp]at hse hso
    simp only at hse hso
    rw[copies_is h2 hl e2 hp(if_neg(fun h=>by omega)),if_pos(by omega)]
    exact⟨by decide,hse,hso⟩
   ·rw[syP_none hn,bindP_no rfl]
    have hso:(sy dist ls⟨c1,s.out,0⟩53).2.out=s.out:=by unfold sy;split<;>rfl
    obtain⟨d,s3,hp⟩:∃d s3,sy dist ls⟨c1,s.out,0⟩53=(d,s3):=⟨_,_,rfl⟩
    rw[hp]at hse hso
    simp only at hse hso
    rw[copies_is h2 hl e2 hp(if_neg(fun h=>by omega)),if_pos(by omega)]
    exact⟨by decide,hse,hso⟩
   ·simp only at hn hsy
    by_cases hz:29<z
    ·rw[syP_far hn hz,bindP_no rfl,copies_is h2 hl e2 hsy(s4:=⟨c1+k,s.out,53⟩)(if_pos⟨rfl,hz⟩),if_pos(by simp)]
     exact⟨by decide,rfl,rfl⟩
    ·rw[syP_is hn(by omega),bindP_is rfl,copies_is h2 hl e2 hsy(s4:=⟨c1+k,s.out,0⟩)(if_neg(fun h=>hz h.2)),if_neg(by simp)]
     have hc2:c1+k≤ls.length:=nextF_in hc1 hn
     have hd:=dist_says ls⟨c1+k,s.out,0⟩z rfl hc2(by omega)
     simp only at hd
     cases hq:numP ls(c1+k)z 2 with
     | error e=>
      rw[hq,bindP_no rfl]at hd
      obtain⟨hn9,hde,hdo⟩:=hd
      simp only at hdo
      rw[bindP_no rfl]
      rw[if_neg(fun h=>hn9(hde.symm.trans h.1))]
      have hcp:∀f m,cp5 most f m(dist5 ls⟨c1+k,s.out,0⟩z).2=(dist5 ls⟨c1+k,s.out,0⟩z).2:=fun f m=>by
       cases m with
       | zero=>rfl
       | succ m=>unfold cp5;rw[if_pos(by rw[hde];exact hn9)]
      rw[hcp]
      exact⟨hn9,hde,hdo⟩
     | ok x=>
      obtain⟨d,c3⟩:=x
      rw[hq,bindP_is rfl]at hd
      have hd:dist5 ls⟨c1+k,s.out,0⟩z=(1+d,⟨c3,s.out,0⟩):=hd
      rw[bindP_is rfl,hd]
      simp only[true_and]
      unfold CopS
      simp only
      by_cases hf:s.out.length<1+d
      ·rw[if_pos hf]
       have hl2:layP most s.out(.copy n(1+d))=.error 54:=by simp only[layP];rw[if_pos hf]
       rw[hl2]
       show(cp5 most(1+d)n⟨c3,s.out,54⟩).e=54
       cases n with
       | zero=>rfl
       | succ m=>unfold cp5;rw[if_pos(by simp)]
      ·rw[if_neg hf]
       rcases cp5_says most(1+d)n⟨c3,s.out,0⟩rfl ho with⟨h8,h9⟩ | ⟨h8,h9⟩
       ·have hl2:layP most s.out(.copy n(1+d))=.error 56:=by simp only[layP];rw[if_neg hf,if_pos h8]
        rw[hl2]
        exact h9
       ·have hl2:layP most s.out(.copy n(1+d))=.ok(cpL(1+d)n s.out):=by simp only[layP];rw[if_neg hf,if_neg(by simp only at h8;omega)]
        rw[hl2]
        exact h9

def BlkS(ls:List Nat)(most:Nat)(b:Bk)(s r:S5):Prop:=
 (r.e=0∧s.c≤r.c∧r.c≤ls.length∧r.out.length≤most∧∃c1 b1,b1.last=b.last∧Runs ls most⟨s.c,s.out,some b⟩⟨c1,r.out,some b1⟩∧stepP ls b1 c1=.ok((.fin,b1),r.c)) ∨
 (r.e≠0∧∃t,Ends ls most⟨s.c,s.out,some b⟩t r.e∧(r.e=55→t.out=r.out))

theorem BlkS.step {ls:List Nat}{most:Nat}{b b':Bk}{s s' r:S5}(h:stP ls most⟨s.c,s.out,some b⟩=.ok(⟨s'.c,s'.out,some b'⟩,false))(hc:s.c≤s'.c)(hl:b'.last=b.last)(hr:BlkS ls most b' s' r):BlkS ls most b s r:=by
 rcases hr with⟨h1,h2,h3,h4,c1,b1,h5,h6,h7⟩ | ⟨h1,t,h2,h3⟩
 ·exact .inl⟨h1,by omega,h3,h4,c1,b1,h5.trans hl,.step h h6,h7⟩
 ·exact .inr⟨h1,t,.step h h2,h3⟩

theorem syms_stuck(ls:List Nat)(most:Nat)(lit dist:List Nat)(f:Nat)(s:S5)(h:s.e≠0):syms5 ls most lit dist f s=s:=by
 cases f with
 | zero=>rfl
 | succ f=>unfold syms5;rw[if_pos h]

theorem syms_says(ls:List Nat)(most:Nat)(lit dist:List Nat)(last:Bool)(f:Nat)(s:S5)(he:s.e=0)(hc:s.c≤ls.length)(ho:s.out.length≤most)(hf:ls.length-s.c<f):BlkS ls most(.sym last lit dist)s(syms5 ls most lit dist f s):=by
 induction f generalizing s with
 | zero=>omega
 | succ f ih=>
  unfold syms5
  rw[if_neg(by omega)]
  simp only
  rcases sy_says lit ls s he with⟨hn,hse,hso⟩ | ⟨hn,hse⟩ | ⟨y,k,hn,hsy⟩
  ·rw[if_pos(by omega)]
   refine .inr⟨by omega,_,.stop ?_,fun _=>hso.symm⟩
   rw[hse]
   exact stP_some_err rfl(by rw[stepP_sym];exact bindP_no(syP_short hn))
  ·rw[if_pos(by omega)]
   refine .inr⟨by omega,_,.stop ?_,fun h=>by omega⟩
   rw[hse]
   exact stP_some_err rfl(by rw[stepP_sym];exact bindP_no(syP_none hn))
  ·rw[hsy]
   simp only
   rw[if_neg(by simp)]
   have hk:=nextF_len hn
   have hck:=nextF_in hc hn
   by_cases h256:y<256
   ·rw[if_pos h256]
    have hst:stepP ls(.sym last lit dist)s.c=.ok((.byte y,.sym last lit dist),s.c+k):=by
     rw[stepP_sym,bindP_is(syP_is hn(by omega))]
     unfold symP
     rw[if_pos h256]
    unfold ly
    rw[if_neg(by simp)]
    by_cases hm:most≤s.out.length
    ·rw[if_pos hm,syms_stuck _ _ _ _ _ _(by simp)]
     refine .inr⟨by simp,_,.stop ?_,fun h=>by cases h⟩
     rw[stP_some_ok rfl hst]
     exact goP_err(by intro h;cases h)(by simp only[layP];rw[if_pos(by omega)])
    ·rw[if_neg hm]
     refine BlkS.step(s':=⟨s.c+k,s.out++[y],0⟩)(b':=.sym last lit dist) ?_(by simp)rfl(ih _ rfl hck(by simp;omega)(by simp only;omega))
     rw[stP_some_ok rfl hst]
     exact goP_ok(by intro h;cases h)(by simp only[layP];rw[if_neg(by omega)])
   ·rw[if_neg h256]
    by_cases h6:y=256
    ·rw[if_pos h6]
     refine .inl⟨rfl,by simp,hck,ho,s.c,.sym last lit dist,rfl,.refl _,?_⟩
     rw[stepP_sym,bindP_is(syP_is hn(by omega))]
     unfold symP
     rw[if_neg h256,if_pos h6]
    ·rw[if_neg h6]
     by_cases h285:285<y
     ·have hcp:copies5 ls most dist⟨s.c+k,s.out,0⟩y=⟨s.c+k,s.out,53⟩:=by unfold copies5;rw[if_pos h285]
      rw[hcp,syms_stuck _ _ _ _ _ _(by simp)]
      refine .inr⟨by simp,_,.stop ?_,fun h=>by cases h⟩
      exact stP_some_err rfl(by rw[stepP_sym];exact bindP_no(syP_far hn h285))
     ·have hcs:=copies_says ls most dist⟨s.c+k,s.out,0⟩y rfl hck ho(by omega)(by omega)
      simp only at hcs
      have hsp:stepP ls(.sym last lit dist)s.c=bindP(copP ls dist(s.c+k)y)(fun x c2=>.ok((.copy x.1 x.2,.sym last lit dist),c2)):=by
       rw[stepP_sym,bindP_is(syP_is hn(by omega))]
       unfold symP
       rw[if_neg h256,if_neg h6]
      cases hq:copP ls dist(s.c+k)y with
      | error e=>
       rw[hq]at hcs
       obtain⟨hn9,h8,h9⟩:=hcs
       rw[hq,bindP_no rfl]at hsp
       rw[syms_stuck _ _ _ _ _ _(by rw[h8];exact hn9)]
       refine .inr⟨by rw[h8];exact hn9,_,.stop ?_,fun _=>h9.symm⟩
       rw[h8]
       exact stP_some_err rfl hsp
      | ok x=>
       obtain⟨⟨n,far⟩,c2⟩:=x
       have hc2:s.c+k≤c2∧c2≤ls.length:=by
        obtain⟨n1,c3,hl,hq⟩:=bindP_ok.1 hq
        obtain⟨z,c4,hd,hq⟩:=bindP_ok.1 hq
        obtain⟨d,c5,hm,hq⟩:=bindP_ok.1 hq
        simp only[Except.ok.injEq,Prod.mk.injEq]at hq
        have hnum:∀a b c d' e',a≤ls.length→numP ls a b c=.ok(d',e')→a≤e'∧e'≤ls.length:=fun a b c d' e' ha h=>by
         unfold numP at h
         split at h
         ·simp only[Except.ok.injEq,Prod.mk.injEq]at h;omega
         ·obtain⟨m2,c9,hm2,h⟩:=bindP_ok.1 h
          simp only[Except.ok.injEq,Prod.mk.injEq]at h
          have:=tkP_ok hm2
          omega
        have g1:s.c+k≤c3∧c3≤ls.length:=by
         unfold lenP at hl
         split at hl
         ·obtain⟨m,c9,hm9,hl⟩:=bindP_ok.1 hl
          simp only[Except.ok.injEq,Prod.mk.injEq]at hl
          have:=hnum _ _ _ _ _ hck hm9
          omega
         ·simp only[Except.ok.injEq,Prod.mk.injEq]at hl;omega
        have g2:c3≤c4∧c4≤ls.length:=by
         unfold dsyP at hd
         split at hd
         ·cases hd
         ·rcases syP_cases hd with⟨h1,_⟩ | ⟨h1,_⟩ | ⟨y',k',hn',⟨_,h1⟩ | ⟨_,h1⟩⟩
          ·cases h1
          ·cases h1
          ·cases h1
          ·simp only[Except.ok.injEq,Prod.mk.injEq]at h1
           have:=nextF_in g1.2 hn'
           omega
        have g3:=hnum _ _ _ _ _ g2.2 hm
        omega
       rw[hq]at hcs
       have hcs:match layP most s.out(.copy n far)with | .error e=>(copies5 ls most dist⟨s.c+k,s.out,0⟩y).e=e | .ok out=>copies5 ls most dist⟨s.c+k,s.out,0⟩y=⟨c2,out,0⟩:=hcs
       rw[hq,bindP_is rfl]at hsp
       cases hlp:layP most s.out(.copy n far)with
       | error e=>
        rw[hlp]at hcs
        have hcs:(copies5 ls most dist⟨s.c+k,s.out,0⟩y).e=e:=hcs
        have he9:=layP_ne hlp
        rw[syms_stuck _ _ _ _ _ _(by rw[hcs];omega)]
        refine .inr⟨by rw[hcs];omega,_,.stop ?_,fun h=>by rw[hcs]at h;omega⟩
        rw[hcs,stP_some_ok rfl hsp]
        exact goP_err(by intro h;cases h)hlp
       | ok out=>
        rw[hlp]at hcs
        have hcs:copies5 ls most dist⟨s.c+k,s.out,0⟩y=⟨c2,out,0⟩:=hcs
        rw[hcs]
        refine BlkS.step(s':=⟨c2,out,0⟩)(b':=.sym last lit dist) ?_(by simp only;omega)rfl(ih _ rfl hc2.2((layP_ok hlp).2.1 ho)(by simp only;omega))
        rw[stP_some_ok rfl hsp]
        exact goP_ok(by intro h;cases h)hlp

theorem stB_says(ls:List Nat)(most:Nat)(last:Bool)(k:Nat)(s:S5)(he:s.e=0)(hc:s.c≤ls.length)(ho:s.out.length≤most):BlkS ls most(.raw last k)s(stB ls most k s):=by
 induction k generalizing s with
 | zero=>exact .inl⟨he,Nat.le_refl _,hc,ho,s.c,.raw last 0,rfl,.refl _,rfl⟩
 | succ k ih=>
  have ht:=tk_says ls s 8 he
  have hst:stepP ls(.raw last(k+1))s.c=bindP(tkP ls s.c 8)(fun v c'=>.ok((.byte v,.raw last k),c')):=rfl
  have hstk:∀q:S5,q.e≠0→stB ls most k q=q:=fun q hq=>by
   cases k with
   | zero=>rfl
   | succ k=>unfold stB;rw[if_pos hq]
  unfold stB
  rw[if_neg(by omega)]
  cases hr:tkP ls s.c 8 with
  | error e=>
   rw[hr]at ht hst
   obtain⟨hn9,h8,h9⟩:=ht
   have hly:ly most(tk ls s 8).2(tk ls s 8).1=(tk ls s 8).2:=by unfold ly;rw[if_pos(by omega)]
   rw[hly,hstk _(by omega)]
   refine .inr⟨by omega,_,.stop ?_,fun _=>h9.symm⟩
   rw[h8]
   exact stP_some_err rfl hst
  | ok x=>
   obtain⟨x,c⟩:=x
   have hx:=tkP_ok hr
   rw[hr,bindP_is rfl]at hst
   rw[hr]at ht
   have ht:tk ls s 8=(x,⟨c,s.out,0⟩):=ht
   rw[ht]
   simp only
   unfold ly
   rw[if_neg(by simp)]
   by_cases hm:most≤s.out.length
   ·rw[if_pos hm,hstk _(by simp)]
    refine .inr⟨by simp,_,.stop ?_,fun h=>by cases h⟩
    rw[stP_some_ok rfl hst]
    exact goP_err(by intro h;cases h)(by simp only[layP];rw[if_pos(by omega)])
   ·rw[if_neg hm]
    refine BlkS.step(s':=⟨c,s.out++[x],0⟩)(b':=.raw last k) ?_(by simp only;omega)rfl(ih _ rfl(by simp only;omega)(by simp;omega))
    rw[stP_some_ok rfl hst]
    exact goP_ok(by intro h;cases h)(by simp only[layP];rw[if_neg(by omega)])

def OneS(ls:List Nat)(most:Nat)(s:S5)(r:Nat×S5):Prop:=
 (r.2.e=0∧s.c<r.2.c∧r.2.c≤ls.length∧r.2.out.length≤most∧((r.1=0∧Runs ls most⟨s.c,s.out,none⟩⟨r.2.c,r.2.out,none⟩)∨(r.1≠0∧∃bk,Ends ls most⟨s.c,s.out,none⟩⟨r.2.c,r.2.out,bk⟩0))) ∨
 (r.2.e≠0∧∃t,Ends ls most⟨s.c,s.out,none⟩t r.2.e∧(r.2.e=55→t.out=r.2.out))

theorem OneS.of {ls:List Nat}{most l c:Nat}{b:Bk}{s r:S5}(hb:begP ls s.c=.ok(b,c))(hc:s.c<c)(hl:b.last=(l==1))(hl2:l<2)(h:BlkS ls most b⟨c,s.out,0⟩r):OneS ls most s(l,r):=by
 have hs:stP ls most⟨s.c,s.out,none⟩=.ok(⟨c,s.out,some b⟩,false):=stP_none_ok rfl hb
 rcases h with⟨h1,h2,h3,h4,c1,b1,h5,h6,h7⟩ | ⟨h1,t,h2,h3⟩
 ·refine .inl⟨h1,by simp only at h2;simp only;omega,h3,h4,?_⟩
  by_cases h0:l=0
  ·refine .inl⟨h0,.step hs(h6.trans(.step ?_(.refl _)))⟩
   rw[stP_some_ok rfl h7,goP_fin,if_neg(by rw[h5,hl,h0];decide)]
  ·refine .inr⟨h0,some b1,.step hs(h6.ends(.done ?_))⟩
   rw[stP_some_ok rfl h7,goP_fin,if_pos(by rw[h5,hl];simp;omega)]
 ·exact .inr⟨h1,t,.step hs h2,h3⟩

theorem numAt_bit(ls:List Nat)(hb:∀b∈ls,b<2)(c n:Nat):numAt ls c n<2 ^ n:=by
 unfold numAt
 refine Nat.lt_of_lt_of_le(n2_lt _(fun b hbb=>hb b(List.mem_of_mem_drop(List.mem_of_mem_take hbb)))) ?_
 rw[List.length_take]
 exact Nat.pow_le_pow_right(by decide)(Nat.min_le_left _ _)

theorem blk_says(ls:List Nat)(hb:∀b∈ls,b<2)(most:Nat)(s:S5)(he:s.e=0)(ho:s.out.length≤most):OneS ls most s(blk5 ls most s):=by
 unfold blk5
 simp only
 have ht1:=tk_says ls s 1 he
 cases h1:tkP ls s.c 1 with
 | error e=>
  rw[h1]at ht1
  obtain⟨hn9,h8,h9⟩:=ht1
  have h2:tk ls(tk ls s 1).2 2=(0,(tk ls s 1).2):=by
   show(if(tk ls s 1).2.e≠0 then(0,(tk ls s 1).2)else _)=_
   rw[if_pos(by omega)]
  rw[h2,if_pos(by simp only;omega)]
  refine .inr⟨by simp only;omega,_,.stop ?_,fun _=>h9.symm⟩
  simp only
  rw[h8]
  exact stP_none_err rfl(bindP_no h1)
 | ok x=>
  obtain⟨l,c1⟩:=x
  have hx1:=tkP_ok h1
  have hl2:l<2:=by have:=numAt_bit ls hb s.c 1;omega
  rw[h1]at ht1
  have ht1:tk ls s 1=(l,⟨c1,s.out,0⟩):=ht1
  rw[ht1]
  simp only
  have ht2:=tk_says ls⟨c1,s.out,0⟩2 rfl
  simp only at ht2
  cases h2:tkP ls c1 2 with
  | error e=>
   rw[h2]at ht2
   obtain⟨hn9,h8,h9⟩:=ht2
   rw[if_pos(by omega)]
   refine .inr⟨by simp only;omega,_,.stop ?_,fun _=>h9.symm⟩
   simp only
   rw[h8]
   exact stP_none_err rfl(by unfold begP;rw[bindP_is h1];exact bindP_no h2)
  | ok x=>
   obtain⟨k,c2⟩:=x
   have hx2:=tkP_ok h2
   rw[h2]at ht2
   have ht2:tk ls⟨c1,s.out,0⟩2=(k,⟨c2,s.out,0⟩):=ht2
   rw[ht2]
   simp only
   rw[if_neg(by simp)]
   have hbeg:begP ls s.c=kndP ls(l==1)c2 k:=by unfold begP;rw[bindP_is h1,bindP_is h2]
   by_cases k0:k=0
   ·rw[if_pos k0]
    have hbeg:begP ls s.c=bindP(cntP ls c2)(fun n c'=>.ok(.raw(l==1)n,c')):=by rw[hbeg];unfold kndP;rw[if_pos k0]
    unfold stored5
    simp only
    have ht3:=tk_says ls⟨(c2+7) / 8*8,s.out,0⟩16 rfl
    simp only at ht3
    unfold cntP at hbeg
    have hstk:∀(m:Nat)(q:S5),q.e≠0→stB ls most m q=q:=fun m q hq=>by
     cases m with
     | zero=>rfl
     | succ m=>unfold stB;rw[if_pos hq]
    cases h3:tkP ls((c2+7) / 8*8)16 with
    | error e=>
     rw[h3]at ht3 hbeg
     obtain⟨hn9,h8,h9⟩:=ht3
     have h4:tk ls(tk ls⟨(c2+7) / 8*8,s.out,0⟩16).2 16=(0,(tk ls⟨(c2+7) / 8*8,s.out,0⟩16).2):=by
      show(if(tk ls⟨(c2+7) / 8*8,s.out,0⟩16).2.e≠0 then(0,(tk ls⟨(c2+7) / 8*8,s.out,0⟩16).2)else _)=_
      rw[if_pos(by omega)]
     rw[h4]
     simp only
     rw[if_neg(fun h=>by omega),hstk _ _(by omega)]
     refine .inr⟨by simp only;omega,_,.stop ?_,fun _=>h9.symm⟩
     simp only
     rw[h8]
     exact stP_none_err rfl hbeg
    | ok x=>
     obtain⟨n,c3⟩:=x
     have hx3:=tkP_ok h3
     rw[h3]at ht3
     rw[h3,bindP_is rfl]at hbeg
     have ht3:tk ls⟨(c2+7) / 8*8,s.out,0⟩16=(n,⟨c3,s.out,0⟩):=ht3
     rw[ht3]
     simp only
     have ht4:=tk_says ls⟨c3,s.out,0⟩16 rfl
     simp only at ht4
     cases h4:tkP ls c3 16 with
     | error e=>
      rw[h4]at ht4 hbeg
      obtain⟨hn9,h8,h9⟩:=ht4
      rw[if_neg(fun h=>by omega),hstk _ _(by omega)]
      refine .inr⟨by simp only;omega,_,.stop ?_,fun _=>h9.symm⟩
      simp only
      rw[h8]
      exact stP_none_err rfl hbeg
     | ok x=>
      obtain⟨m,c4⟩:=x
      have hx4:=tkP_ok h4
      rw[h4]at ht4
      rw[h4,bindP_is rfl]at hbeg
      have ht4:tk ls⟨c3,s.out,0⟩16=(m,⟨c4,s.out,0⟩):=ht4
      rw[ht4]
      simp only[true_and]
      by_cases hnm:n+m=65535
      ·rw[if_neg(fun h=>h hnm)]
       rw[if_pos hnm,bindP_is rfl]at hbeg
       exact OneS.of hbeg(by omega)rfl hl2(stB_says ls most(l==1)n⟨c4,s.out,0⟩rfl(by simp only;omega)ho)
      ·rw[if_pos hnm,hstk _ _(by simp)]
       rw[if_neg hnm,bindP_no rfl]at hbeg
       exact .inr⟨by simp,_,.stop(stP_none_err rfl hbeg),fun h=>by cases h⟩
   ·rw[if_neg k0]
    by_cases k1:k=1
    ·rw[if_pos k1]
     have hbeg:begP ls s.c=.ok(.sym(l==1)fixL fixD,c2):=by rw[hbeg];unfold kndP;rw[if_neg k0,if_pos k1]
     exact OneS.of hbeg(by omega)rfl hl2(syms_says ls most fixL fixD(l==1)(ls.length+1)⟨c2,s.out,0⟩rfl(by simp only;omega)ho(by simp only;omega))
    ·rw[if_neg k1]
     by_cases k2:k=2
     ·rw[if_pos k2]
      have hbeg:begP ls s.c=bindP(hdP ls c2)(fun x c'=>.ok(.sym(l==1)x.1 x.2,c')):=by rw[hbeg];unfold kndP;rw[if_neg k0,if_neg k1,if_pos k2]
      unfold hdP at hbeg
      cases h5:head5 ls c2 with
      | error e=>
       rw[h5]at hbeg
       have hbeg:begP ls s.c=.error e:=hbeg
       exact .inr⟨head5_ne h5,_,.stop(stP_none_err rfl hbeg),fun _=>rfl⟩
      | ok x=>
       obtain⟨⟨lt,ds⟩,n⟩:=x
       rw[h5]at hbeg
       have hbeg:begP ls s.c=.ok(.sym(l==1)lt ds,c2+n):=hbeg
       have hg:=head5_ge h5
       exact OneS.of hbeg(by omega)rfl hl2(syms_says ls most lt ds(l==1)(ls.length+1)⟨c2+n,s.out,0⟩rfl(by simp only;omega)ho(by simp only;omega))
     ·rw[if_neg k2]
      have hbeg:begP ls s.c=.error 50:=by rw[hbeg];unfold kndP;rw[if_neg k0,if_neg k1,if_neg k2]
      exact .inr⟨by simp,_,.stop(stP_none_err rfl hbeg),fun h=>by cases h⟩

theorem read_says(ls:List Nat)(hb:∀b∈ls,b<2)(most f:Nat)(s:S5)(he:s.e=0)(ho:s.out.length≤most)(hf:ls.length-s.c<f):
  ∃t,Ends ls most⟨s.c,s.out,none⟩t(read5 ls most f s).e∧((read5 ls most f s).e=0∨(read5 ls most f s).e=55→t.out=(read5 ls most f s).out)∧((read5 ls most f s).e=0→t.c=(read5 ls most f s).c):=by
 induction f generalizing s with
 | zero=>omega
 | succ f ih=>
  unfold read5
  rw[if_neg(by omega)]
  have hstk:∀q:S5,q.e≠0→read5 ls most f q=q:=fun q hq=>by
   cases f with
   | zero=>rfl
   | succ f=>unfold read5;rw[if_pos hq]
  rcases blk_says ls hb most s he ho with⟨h1,h2,h3,h4,⟨h5,h6⟩ | ⟨h5,bk,h6⟩⟩ | ⟨h1,t,h2,h3⟩
  ·rw[if_pos h5]
   obtain⟨t,h7,h8,h9⟩:=ih(blk5 ls most s).2 h1 h4(by omega)
   exact⟨t,h6.ends h7,h8,h9⟩
  ·rw[if_neg h5]
   exact⟨_,by rw[h1];exact h6,fun _=>rfl,fun _=>rfl⟩
  ·by_cases h0:(blk5 ls most s).1=0
   ·rw[if_pos h0,hstk _ h1]
    exact⟨t,h2,fun h=>h3(h.resolve_left h1),fun h=>absurd h h1⟩
   ·rw[if_neg h0]
    exact⟨t,h2,fun h=>h3(h.resolve_left h1),fun h=>absurd h h1⟩

theorem infl_says(ls:List Nat)(hb:∀b∈ls,b<2)(most:Nat):
  ∃t,Ends ls most ps0 t(infl5 ls most).e∧((infl5 ls most).e=0∨(infl5 ls most).e=55→t.out=(infl5 ls most).out)∧((infl5 ls most).e=0→t.c=(infl5 ls most).c):=
 read_says ls hb most(ls.length+1)⟨0,[],0⟩rfl(Nat.zero_le _)(by simp only;omega)

end Go.Proofs.YtggcbnhckcenmaaGreatDoor
