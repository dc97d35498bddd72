import Derived.Test.YtggcbnhckcenmaaGreatDoorInSm
namespace Go.Proofs.YtggcbnhckcenmaaGreatDoor
open Go.RowKit

def he5(e:Nat):Nat:=if e=10 then 55 else 52

theorem head5_err {ls:List Nat}{a e:Nat}(h:readF ls a=.error e):head5 ls a=.error(he5 e):=by unfold head5;rw[h];rfl

theorem chk_nats(l:List Nat)(h0:0<l.length)(hl:l.length≤288)(h15:∀x∈l,x≤15):chk(l.map(fun(n:Nat)=>(n:Int)))=chkN l:=by
 have hok:okAll(l.map(fun(n:Nat)=>(n:Int)))0 15=true:=by
  simp only[okAll,List.length_map,Bool.and_eq_true,decide_eq_true_eq,Bool.not_eq_true',List.any_eq_false]
  refine⟨⟨by omega,by omega⟩,fun z hz=>?_⟩
  obtain⟨n,hn,rfl⟩:=List.mem_map.1 hz
  have:=h15 n hn
  simp[badI];omega
 unfold chk
 rw[if_pos hok,List.map_map]
 have e:l.map(Int.toNat ∘ fun(n:Nat)=>(n:Int))=l:=by
  conv=>rhs;rw[←List.map_id l]
  exact List.map_congr_left(fun n _=>by simp)
 rw[e]

theorem chkN_measure {l:List Nat}(h:chkN l=0):measure l≤32768:=by
 unfold chkN at h
 split at h
 ·omega
 ·omega

theorem unused_measure {l:List Nat}(h:usedB l=false):measure l=0:=by
 induction l with
 | nil=>rfl
 | cons a l ih=>
  unfold usedB at h ih
  simp only[List.any_cons,Bool.or_eq_false_iff]at h
  have ha:a=0:=by have:=h.1;simpa using this
  subst ha
  show(unit 0+(l.map unit).sum)=0
  have:=ih h.2
  unfold measure at this
  rw[this]
  rfl

theorem chkN_small(l:List Nat):chkN l=0∨chkN l=30∨chkN l=31:=by
 unfold chkN
 split
 ·exact .inr(.inl rfl)
 ·split
  ·exact .inl rfl
  ·split
   ·exact .inl rfl
   ·exact .inr(.inr rfl)

theorem tk_cases(ls:List Nat)(c:Nat)(so:List Nat)(n:Nat):(c+n≤ls.length∧tk ls⟨c,so,0⟩n=(numAt ls c n,⟨c+n,so,0⟩))∨(ls.length<c+n∧tk ls⟨c,so,0⟩n=(0,⟨c,so,55⟩)):=by
 by_cases h:c+n≤ls.length
 ·exact .inl⟨h,tk_ok rfl h⟩
 ·exact .inr⟨by omega,tk_end rfl(by simp only;omega)⟩

theorem tk_three(ls:List Nat)(a:Nat)(so:List Nat)(h:ls.length<a+14)(t1 t2 t3:Nat×S5)(h1:tk ls⟨a,so,0⟩5=t1)(h2:tk ls t1.2 5=t2)(h3:tk ls t2.2 4=t3):t3.2.e=55:=by
 by_cases k1:ls.length<a+5
 ·rw[tk_end rfl k1]at h1
  subst h1
  rw[tk_stuck(by simp)]at h2
  subst h2
  rw[tk_stuck(by simp)]at h3
  subst h3
  rfl
 ·rw[tk_ok rfl(by simp only;omega)]at h1
  subst h1
  simp only at h2
  by_cases k2:ls.length<a+5+5
  ·rw[tk_end rfl k2]at h2
   subst h2
   rw[tk_stuck(by simp)]at h3
   subst h3
   rfl
  ·rw[tk_ok rfl(by simp only;omega)]at h2
   subst h2
   simp only at h3
   rw[tk_end rfl(by simp only;omega)]at h3
   subst h3
   rfl

def finF(lit a:Nat):Except Nat(List Nat×Nat)→Except Nat((List Nat×List Nat)×Nat)
 | .error e=>.error e
 | .ok(l,c)=>.ok((l.take lit,l.drop lit),c-a)

def restF(ls:List Nat)(a lit dist many:Nat):Except Nat((List Nat×List Nat)×Nat):=
 if ls.length<a+14+3*many then .error 10
 else if chkN(codesF ls(a+14)many)≠0 then .error(chkN(codesF ls(a+14)many))
 else finF lit a(bodyF(codesF ls(a+14)many)ls(lit+dist)(lit+dist) [](a+14+3*many))

def At3(ls:List Nat)(a c e lit dist many:Nat):Prop:=(e≠0∧head5 ls a=.error e)∨(e=0∧c=a+14∧a+14≤ls.length∧readF ls a=restF ls a lit dist many∧lit≤286∧dist≤30)

def badE(e:Nat)(b:Bool):Nat:=if e=0∧b=true then 52 else e
theorem badE_true:badE 0 true=52:=rfl
theorem badE_false(e:Nat):badE e false=e:=by unfold badE;rw[if_neg(fun h=>by cases h.2)]
theorem badE_stuck {e:Nat}(h:e≠0)(b:Bool):badE e b=e:=by unfold badE;rw[if_neg(fun x=>h x.1)]

theorem at3_of(ls:List Nat)(a:Nat)(so:List Nat)(t1 t2 t3:Nat×S5)(h1:tk ls⟨a,so,0⟩5=t1)(h2:tk ls t1.2 5=t2)(h3:tk ls t2.2 4=t3)(B:Bool)(hB:B=true↔(286<t1.1+257∨30<t2.1+1)):
  At3 ls a t3.2.c(badE t3.2.e B)(t1.1+257)(t2.1+1)(t3.1+4):=by
 unfold badE
 by_cases hf:ls.length<a+14
 ·have he:=tk_three ls a so hf t1 t2 t3 h1 h2 h3
  refine .inl ?_
  rw[he,if_neg(by simp)]
  refine⟨by decide,?_⟩
  rw[head5_err(e:=10)(by unfold readF;rw[if_pos hf])]
  rfl
 ·rw[tk_ok rfl(by simp only;omega)]at h1
  subst h1
  rw[tk_ok rfl(by simp only;omega)]at h2
  subst h2
  rw[tk_ok rfl(by simp only;omega)]at h3
  subst h3
  simp only at hB ⊢
  by_cases hb:B=true
  ·refine .inl ?_
   rw[if_pos⟨trivial,hb⟩]
   refine⟨by decide,?_⟩
   rw[head5_err(e:=40)(by unfold readF;rw[if_neg hf,if_pos(hB.1 hb)])]
   rfl
  ·refine .inr ?_
   rw[if_neg(fun h=>hb h.2)]
   have hn:¬(286<numAt ls a 5+257∨30<numAt ls(a+5)5+1):=fun h=>hb(hB.2 h)
   refine⟨rfl,by omega,by omega,?_,by omega,by omega⟩
   unfold readF restF
   rw[if_neg hf,if_neg hn,show a+5+5=a+10 by omega]
   rfl

def AtC(ls:List Nat)(a i c e lit dist many:Nat)(xs:List Nat):Prop:=(e≠0∧head5 ls a=.error e)∨(e=0∧c=a+14+3*i∧a+14+3*i≤ls.length∧xs=codesF ls(a+14)i∧readF ls a=restF ls a lit dist many∧lit≤286∧dist≤30)

theorem At3.codes {ls:List Nat}{a c e lit dist many:Nat}(h:At3 ls a c e lit dist many):AtC ls a 0 c e lit dist many(List.replicate 19 0):=by
 rcases h with h | ⟨h1,h2,h3,h4,h5⟩
 ·exact .inl h
 ·exact .inr⟨h1,by omega,by omega,rfl,h4,h5⟩

theorem AtC.next {ls:List Nat}{a i c lit dist many:Nat}{xs so:List Nat}(h:AtC ls a i c 0 lit dist many xs)(hi:i<many){x:Nat}{s':S5}(ht:tk ls⟨c,so,0⟩3=(x,s')):AtC ls a(i+1)s'.c s'.e lit dist many(xs.set(ord.getD i 0)x):=by
 rcases h with⟨h1,_⟩ | ⟨_,rfl,h3,rfl,h5,h6⟩
 ·exact absurd rfl h1
 ·by_cases hf:a+14+3*i+3≤ls.length
  ·rw[tk_ok rfl hf]at ht
   simp only[Prod.mk.injEq]at ht
   obtain⟨rfl,rfl⟩:=ht
   exact .inr⟨rfl,by simp only;omega,by omega,rfl,h5,h6⟩
  ·rw[tk_end rfl(by simp only;omega)]at ht
   simp only[Prod.mk.injEq]at ht
   obtain⟨rfl,rfl⟩:=ht
   refine .inl⟨by simp,?_⟩
   rw[head5_err(e:=10)(by rw[h5];unfold restF;rw[if_pos(by omega)])]
   rfl

theorem AtC.check {ls:List Nat}{a c lit dist many:Nat}{xs:List Nat}(h:AtC ls a many c 0 lit dist many xs):(chkN xs≠0→head5 ls a=.error 52)∧(chkN xs=0→readF ls a=finF lit a(bodyF xs ls(lit+dist)(lit+dist) []c)):=by
 rcases h with⟨h1,_⟩ | ⟨_,rfl,h3,rfl,h5,h6⟩
 ·exact absurd rfl h1
 ·constructor
  ·intro hc
   have hne:chkN(codesF ls(a+14)many)≠10:=by rcases chkN_small(codesF ls(a+14)many)with h | h | h<;>omega
   rw[head5_err(e:=chkN(codesF ls(a+14)many))(by rw[h5];unfold restF;rw[if_neg(by omega),if_pos hc])]
   unfold he5
   rw[if_neg hne]
  ·intro hc
   rw[h5]
   unfold restF
   rw[if_neg(by omega),if_neg(by omega)]

def AtB(ls:List Nat)(a lit dist:Nat)(xs:List Nat)(f c e:Nat)(l:List Nat):Prop:=
 (e≠0∧head5 ls a=.error e)∨(e=0∧lit+dist<l.length∧head5 ls a=.error 52) ∨
 (e=0∧l.length≤lit+dist∧lit+dist-l.length≤f∧a≤c∧(∀x∈l,x≤15)∧readF ls a=finF lit a(bodyF xs ls(lit+dist)f l c))

theorem AtB.bad {ls:List Nat}{a lit dist:Nat}{xs:List Nat}{f c is k g:Nat}{l:List Nat}(h:AtB ls a lit dist xs f c 0 l)(hl:l.length<lit+dist)(hn:nextF xs(ls.drop c)=(is,k,g))(hg:g≠0):head5 ls a=.error(he5 g):=by
 rcases h with⟨h1,_⟩ | ⟨_,h1,_⟩ | ⟨_,h2,h3,_,_,h5⟩
 ·exact absurd rfl h1
 ·omega
 ·obtain⟨f',rfl⟩:∃f',f=f'+1:=⟨f-1,by omega⟩
  refine head5_err ?_
  rw[h5,bodyF_err hl(e:=g)(by unfold stepF;rw[hn];simp only;rw[if_pos hg])]
  rfl

theorem AtB.short {ls:List Nat}{a lit dist:Nat}{xs:List Nat}{f c is k:Nat}{l:List Nat}(h:AtB ls a lit dist xs f c 0 l)(hl:l.length<lit+dist)(hn:nextF xs(ls.drop c)=(is,k,0))(hs:ls.length<c+k+xbits is):head5 ls a=.error 55:=by
 rcases h with⟨h1,_⟩ | ⟨_,h1,_⟩ | ⟨_,h2,h3,_,_,h5⟩
 ·exact absurd rfl h1
 ·omega
 ·obtain⟨f',rfl⟩:∃f',f=f'+1:=⟨f-1,by omega⟩
  refine(head5_err(e:=10) ?_)
  rw[h5,bodyF_err hl(e:=10)(by unfold stepF;rw[hn];simp only;rw[if_neg(by simp),if_pos hs])]
  rfl

theorem AtB.with {ls:List Nat}{a lit dist:Nat}{xs:List Nat}{f c is k:Nat}{l:List Nat}(h:AtB ls a lit dist xs f c 0 l)(hl:l.length<lit+dist)(hn:nextF xs(ls.drop c)=(is,k,0))(hs:c+k+xbits is≤ls.length):
  readF ls a=finF lit a(match withM l((is:Int),((numAt ls(c+k)(xbits is):Nat):Int))(lit+dist)with | none=>Except.error 41 | some m=>bodyF xs ls(lit+dist)(f-1)m(c+k+xbits is)):=by
 rcases h with⟨h1,_⟩ | ⟨_,h1,_⟩ | ⟨_,h2,h3,_,_,h5⟩
 ·exact absurd rfl h1
 ·omega
 ·obtain⟨f',rfl⟩:∃f',f=f'+1:=⟨f-1,by omega⟩
  rw[h5,bodyF_step hl(s:=is)(x:=numAt ls(c+k)(xbits is))(c':=c+k+xbits is)(by unfold stepF;rw[hn];simp only;rw[if_neg(by simp),if_neg(by omega)])]
  rfl

theorem AtB.says {ls:List Nat}{a lit dist:Nat}{xs:List Nat}{f c is k x v n:Nat}{l:List Nat}(h:AtB ls a lit dist xs f c 0 l)(hl:l.length<lit+dist)(hn:nextF xs(ls.drop c)=(is,k,0))(hs:c+k+xbits is≤ls.length)(hx:x=numAt ls(c+k)(xbits is))(hsay:saysM((is:Int),(x:Int))l=some(v,n)):
  AtB ls a lit dist xs(f-1)(c+k+xbits is)0(l++List.replicate n v):=by
 have hw:=h.with hl hn hs
 rw[←hx]at hw
 unfold withM at hw
 rw[hsay]at hw
 simp only at hw
 have h':=h
 rcases h with⟨h1,_⟩ | ⟨_,h1,_⟩ | ⟨_,h2,h3,hac,h15,h5⟩
 ·exact absurd rfl h1
 ·omega
 ·have h1:=saysM_le hsay h15
  by_cases hov:lit+dist<l.length+n
  ·refine .inr(.inl⟨rfl,by simp;omega,?_⟩)
   rw[if_pos hov]at hw
   rw[head5_err hw]
   rfl
  ·rw[if_neg hov]at hw
   refine .inr(.inr⟨rfl,by simp;omega,by simp;omega,by omega,?_,hw⟩)
   intro y hy
   rcases List.mem_append.1 hy with hy | hy
   ·exact h15 y hy
   ·have:=List.eq_of_mem_replicate hy;omega

theorem AtB.none {ls:List Nat}{a lit dist:Nat}{xs:List Nat}{f c is k x:Nat}{l:List Nat}(h:AtB ls a lit dist xs f c 0 l)(hl:l.length<lit+dist)(hn:nextF xs(ls.drop c)=(is,k,0))(hs:c+k+xbits is≤ls.length)(hx:x=numAt ls(c+k)(xbits is))(hsay:saysM((is:Int),(x:Int))l=none):head5 ls a=.error 52:=by
 have hw:=h.with hl hn hs
 rw[←hx]at hw
 unfold withM at hw
 rw[hsay]at hw
 rw[head5_err hw]
 rfl

theorem AtB.done {ls:List Nat}{a lit dist:Nat}{xs:List Nat}{f c:Nat}{l:List Nat}(h:AtB ls a lit dist xs f c 0 l)(hl:l.length=lit+dist):readF ls a=.ok((l.take lit,l.drop lit),c-a)∧a≤c∧(∀x∈l,x≤15):=by
 rcases h with⟨h1,_⟩ | ⟨_,h1,_⟩ | ⟨_,h2,h3,hac,h15,h5⟩
 ·exact absurd rfl h1
 ·omega
 ·refine⟨?_,hac,h15⟩
  rw[h5,bodyF_end(by omega)]
  rfl

theorem AtB.over {ls:List Nat}{a lit dist:Nat}{xs:List Nat}{f c:Nat}{l:List Nat}(h:AtB ls a lit dist xs f c 0 l)(hl:lit+dist<l.length):head5 ls a=.error 52:=by
 rcases h with⟨h1,_⟩ | ⟨_,_,h1⟩ | ⟨_,h2,_⟩
 ·exact absurd rfl h1
 ·exact h1
 ·omega

theorem AtB.wrong {ls:List Nat}{a lit dist:Nat}{xs:List Nat}{f c e:Nat}{l:List Nat}(h:AtB ls a lit dist xs f c e l)(he:e≠0):head5 ls a=.error e:=by
 rcases h with⟨_,h1⟩ | ⟨h1,_⟩ | ⟨h1,_⟩
 ·exact h1
 ·exact absurd h1 he
 ·exact absurd h1 he

end Go.Proofs.YtggcbnhckcenmaaGreatDoor
