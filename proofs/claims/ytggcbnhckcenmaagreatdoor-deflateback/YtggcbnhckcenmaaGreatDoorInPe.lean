import Derived.Test.YtggcbnhckcenmaaGreatDoorInPm
namespace Go.Proofs.YtggcbnhckcenmaaGreatDoor

theorem bodyF_le15{ns ls:List Nat}{N f c c':Nat}{l m:List Nat}(h:bodyF ns ls N f l c=.ok (m,c'))(hl:∀x∈l,x≤15)(hn:l.length≤N)(hf:N-l.length≤f):(∀x∈m,x≤15)∧m.length=N:=by
 induction f generalizing l c with
 | zero=>
  simp only[bodyF,Except.ok.injEq,Prod.mk.injEq]at h
  obtain⟨rfl,_⟩:=h
  exact⟨hl,by omega⟩
 | succ f ih=>
  unfold bodyF at h
  split at h
  ·simp only[Except.ok.injEq,Prod.mk.injEq]at h
   obtain⟨rfl,_⟩:=h
   exact⟨hl,by omega⟩
  ·split at h
   ·cases h
   ·split at h
    ·cases h
    ·rename_i l2 hw
     have:=withM_grows hw hl
     exact ih h this.2.2 this.2.1 (by omega)

theorem readF_lists{ls:List Nat}{a n:Nat}{l d:List Nat}(h:readF ls a=.ok ((l,d),n)):257≤l.length∧l.length≤286∧0<d.length∧d.length≤30∧(∀x∈l,x≤15)∧∀x∈d,x≤15:=by
 unfold readF at h
 split at h
 ·cases h
 ·split at h
  ·cases h
  ·rename_i h2
   split at h
   ·cases h
   ·split at h
    ·cases h
    ·split at h
     ·cases h
     ·rename_i m c hbd
      simp only[Except.ok.injEq,Prod.mk.injEq]at h
      obtain⟨⟨rfl,rfl⟩,_⟩:=h
      have hm:=bodyF_le15 hbd (by simp) (by simp) (by simp)
      rw[List.length_take,List.length_drop,hm.2]
      exact⟨by omega,by omega,by omega,by omega,fun x hx=>hm.1 x (List.mem_of_mem_take hx),fun x hx=>hm.1 x (List.mem_of_mem_drop hx)⟩

theorem head5_lists{ls:List Nat}{a n:Nat}{l d:List Nat}(h:head5 ls a=.ok ((l,d),n)):OkL l d:=by
 unfold head5 at h
 split at h
 ·cases h
 ·rename_i l2 d2 n2 hr
  split at h
  ·cases h
  ·rename_i h1
   simp only[Except.ok.injEq,Prod.mk.injEq]at h
   obtain⟨⟨rfl,rfl⟩,_⟩:=h
   obtain⟨a1,a2,a3,a4,a5,a6⟩:=readF_lists hr
   refine⟨⟨by omega,by omega,a5,?_⟩,a3,by omega,a6,fun hu=>⟨a3,by omega,a6,?_⟩⟩
   ·exact Classical.byContradiction (fun hc=>h1 (.inr (.inl hc)))
   ·exact Classical.byContradiction (fun hc=>h1 (.inr (.inr ⟨hu,hc⟩)))

theorem fix_ok:OkL fixL fixD:=by
 refine⟨⟨by decide +kernel,by decide +kernel,by decide +kernel,by decide +kernel⟩,by decide +kernel,by decide +kernel,by decide +kernel,fun _=>⟨by decide +kernel,by decide +kernel,by decide +kernel,by decide +kernel⟩⟩

theorem begP_ok{ls:List Nat}{c c':Nat}{b:Bk}(h:begP ls c=.ok (b,c')):BkOk (some b):=by
 obtain⟨l,c1,_,h⟩:=bindP_ok.1 h
 obtain⟨k,c2,_,h⟩:=bindP_ok.1 h
 unfold kndP at h
 split at h
 ·obtain⟨n,c3,_,h⟩:=bindP_ok.1 h
  simp only[Except.ok.injEq,Prod.mk.injEq]at h
  obtain⟨rfl,_⟩:=h
  exact trivial
 ·split at h
  ·simp only[Except.ok.injEq,Prod.mk.injEq]at h
   obtain⟨rfl,_⟩:=h
   exact fix_ok
  ·split at h
   ·obtain⟨x,c3,hh,h⟩:=bindP_ok.1 h
    simp only[Except.ok.injEq,Prod.mk.injEq]at h
    obtain⟨rfl,_⟩:=h
    unfold hdP at hh
    split at hh
    ·cases hh
    ·rename_i y n h5
     simp only[Except.ok.injEq,Prod.mk.injEq]at hh
     obtain⟨rfl,_⟩:=hh
     exact head5_lists (l:=y.1) (d:=y.2) h5
   ·cases h

theorem stepP_ok{ls:List Nat}{b b':Bk}{t:Tok}{c c':Nat}(h:stepP ls b c=.ok ((t,b'),c'))(hk:BkOk (some b)):BkOk (some b')∧b'.last=b.last:=by
 cases b with
 | raw last left=>
  cases left with
  | zero=>
   simp only[stepP,Except.ok.injEq,Prod.mk.injEq]at h
   obtain⟨⟨_,rfl⟩,_⟩:=h
   exact⟨trivial,rfl⟩
  | succ n=>
   rw[stepP_raw]at h
   obtain⟨v,c2,_,h⟩:=bindP_ok.1 h
   simp only[Except.ok.injEq,Prod.mk.injEq]at h
   obtain⟨⟨_,rfl⟩,_⟩:=h
   exact⟨trivial,rfl⟩
 | sym last lit dist=>
  rw[stepP_sym]at h
  obtain⟨y,c2,_,h⟩:=bindP_ok.1 h
  unfold symP at h
  split at h
  ·simp only[Except.ok.injEq,Prod.mk.injEq]at h
   obtain⟨⟨_,rfl⟩,_⟩:=h
   exact⟨hk,rfl⟩
  ·split at h
   ·simp only[Except.ok.injEq,Prod.mk.injEq]at h
    obtain⟨⟨_,rfl⟩,_⟩:=h
    exact⟨hk,rfl⟩
   ·obtain⟨x,c3,_,h⟩:=bindP_ok.1 h
    simp only[Except.ok.injEq,Prod.mk.injEq]at h
    obtain⟨⟨_,rfl⟩,_⟩:=h
    exact⟨hk,rfl⟩

theorem cpL_length(far n:Nat)(out:List Nat):(cpL far n out).length=out.length+n:=by
 induction n generalizing out with
 | zero=>rfl
 | succ n ih=>rw[cpL,ih,List.length_append];simp;omega

theorem layP_ok{most:Nat}{out out':List Nat}{t:Tok}(h:layP most out t=.ok out'):out.length≤out'.length∧(out.length≤most→out'.length≤most)∧∀m,out'.length≤m→layP m out t=.ok out':=by
 cases t with
 | fin=>simp only[layP,Except.ok.injEq]at h;subst h;exact⟨Nat.le_refl _,fun h=>h,fun _ _=>rfl⟩
 | byte b=>
  simp only[layP]at h
  split at h
  ·cases h
  ·simp only[Except.ok.injEq]at h
   subst h
   refine⟨by simp,fun _=>by simp;omega,fun m hm=>?_⟩
   simp only[layP]
   rw[if_neg (by simp at hm;omega)]
 | copy n far=>
  simp only[layP]at h
  split at h
  ·cases h
  ·split at h
   ·cases h
   ·simp only[Except.ok.injEq]at h
    subst h
    rw[cpL_length]
    refine⟨by omega,fun _=>by omega,fun m hm=>?_⟩
    simp only[layP]
    rw[if_neg (by omega),if_neg (by omega)]

theorem layP_ne{most:Nat}{out:List Nat}{t:Tok}{e:Nat}(h:layP most out t=.error e):e=54∨e=56:=by
 cases t with
 | fin=>cases h
 | byte b=>
  simp only[layP]at h
  split at h
  ·simp only[Except.error.injEq]at h;omega
  ·cases h
 | copy n far=>
  simp only[layP]at h
  split at h
  ·simp only[Except.error.injEq]at h;omega
  ·split at h
   ·simp only[Except.error.injEq]at h;omega
   ·cases h

structure PsOk(ls:List Nat)(s:Ps):Prop where
 le:s.c≤ls.length
 bk:BkOk s.bk

theorem stP_same{ls ls':List Nat}{most most':Nat}{s:Ps}{r:Except Nat (Ps×Bool)}(h:stP ls most s=r)
  (hB:s.bk=none→begP ls' s.c=begP ls s.c) (hS:∀b,s.bk=some b→stepP ls' b s.c=stepP ls b s.c) (hL:∀b t b' c,s.bk=some b→stepP ls b s.c=.ok ((t,b'),c)→layP most' s.out t=layP most s.out t):stP ls' most' s=r:=by
 rw[←h]
 cases hbk:s.bk with
 | none=>
  cases hg:begP ls s.c with
  | error e=>rw[stP_none_err hbk hg,stP_none_err hbk ((hB hbk).trans hg)]
  | ok x=>rw[stP_none_ok (b:=x.1) (c:=x.2) hbk hg,stP_none_ok (b:=x.1) (c:=x.2) hbk ((hB hbk).trans hg)]
 | some b=>
  cases hst:stepP ls b s.c with
  | error e=>rw[stP_some_err hbk hst,stP_some_err hbk ((hS b hbk).trans hst)]
  | ok x=>
   obtain⟨⟨t,b'⟩,c⟩:=x
   have hl:=hL b t b' c hbk hst
   rw[stP_some_ok hbk hst,stP_some_ok hbk ((hS b hbk).trans hst)]
   by_cases ht:t=.fin
   ·subst ht;rfl
   ·cases hl2:layP most s.out t with
    | error e=>rw[goP_err ht hl2,goP_err ht (hl.trans hl2)]
    | ok o=>rw[goP_ok ht hl2,goP_ok ht (hl.trans hl2)]

theorem stP_inv{ls:List Nat}(hb:∀b∈ls,b<2){most:Nat}{s t:Ps}{d:Bool}(hs:PsOk ls s)(h:stP ls most s=.ok (t,d)):
  PsOk ls t∧s.c≤t.c∧s.out.length≤t.out.length∧(s.out.length≤most→t.out.length≤most):=by
 cases hbk:s.bk with
 | none=>
  cases hg:begP ls s.c with
  | error e=>rw[stP_none_err hbk hg]at h;cases h
  | ok x=>
   obtain⟨b,c⟩:=x
   rw[stP_none_ok hbk hg]at h
   simp only[Except.ok.injEq,Prod.mk.injEq]at h
   obtain⟨rfl,_⟩:=h
   have:=(begP_loc ls hb s.c).ge _ _ hg
   exact⟨⟨this.2,begP_ok hg⟩,this.1,Nat.le_refl _,fun h=>h⟩
 | some b=>
  have hk:BkOk (some b):=by rw[←hbk];exact hs.bk
  cases hst:stepP ls b s.c with
  | error e=>rw[stP_some_err hbk hst]at h;cases h
  | ok x=>
   obtain⟨⟨tk,b'⟩,c⟩:=x
   rw[stP_some_ok hbk hst]at h
   have h1:=(stepP_loc ls hb b s.c hk hs.le).ge _ _ hst
   have h2:=stepP_ok hst hk
   rcases goP_cases h with⟨_,_,h⟩ | ⟨_,_,h⟩ | ⟨_,⟨e,_,h⟩ | ⟨o,hl,h⟩⟩
   ·simp only[Except.ok.injEq,Prod.mk.injEq]at h
    obtain⟨rfl,_⟩:=h
    exact⟨⟨h1.2,h2.1⟩,h1.1,Nat.le_refl _,fun h=>h⟩
   ·simp only[Except.ok.injEq,Prod.mk.injEq]at h
    obtain⟨rfl,_⟩:=h
    exact⟨⟨h1.2,trivial⟩,h1.1,Nat.le_refl _,fun h=>h⟩
   ·cases h
   ·simp only[Except.ok.injEq,Prod.mk.injEq]at h
    obtain⟨rfl,_⟩:=h
    have h3:=layP_ok hl
    exact⟨⟨h1.2,h2.1⟩,h1.1,h3.1,h3.2.1⟩

theorem stP_agr{ls ls':List Nat}(hb:∀b∈ls,b<2)(hb':∀b∈ls',b<2){most most':Nat}{s t:Ps}{d:Bool}(hs:PsOk ls s)(h:stP ls most s=.ok (t,d))(ha:Agr t.c ls ls')(hm:t.out.length≤most'):stP ls' most' s=.ok (t,d):=by
 refine stP_same h (fun hbk=>?_) (fun b hbk=>?_) (fun b tk b' c hbk hst=>?_)
 ·cases hg:begP ls s.c with
  | error e=>rw[stP_none_err hbk hg]at h;cases h
  | ok x=>
   obtain⟨b,c⟩:=x
   rw[stP_none_ok hbk hg]at h
   simp only[Except.ok.injEq,Prod.mk.injEq]at h
   obtain⟨rfl,_⟩:=h
   exact(begP_loc ls hb s.c).agr _ _ ls' hb' hg ha
 ·have hk:BkOk (some b):=by rw[←hbk];exact hs.bk
  cases hst:stepP ls b s.c with
  | error e=>rw[stP_some_err hbk hst]at h;cases h
  | ok x=>
   obtain⟨⟨tk,b'⟩,c⟩:=x
   rw[stP_some_ok hbk hst]at h
   have hc:t.c=c:=by
    rcases goP_cases h with⟨_,_,h⟩ | ⟨_,_,h⟩ | ⟨_,⟨e,_,h⟩ | ⟨o,hl,h⟩⟩
    ·simp only[Except.ok.injEq,Prod.mk.injEq]at h;obtain⟨rfl,_⟩:=h;rfl
    ·simp only[Except.ok.injEq,Prod.mk.injEq]at h;obtain⟨rfl,_⟩:=h;rfl
    ·cases h
    ·simp only[Except.ok.injEq,Prod.mk.injEq]at h;obtain⟨rfl,_⟩:=h;rfl
   exact(stepP_loc ls hb b s.c hk hs.le).agr _ _ ls' hb' hst (by rw[←hc];exact ha)
 ·rw[stP_some_ok hbk hst]at h
  rcases goP_cases h with⟨rfl,_,h⟩ | ⟨rfl,_,h⟩ | ⟨_,⟨e,_,h⟩ | ⟨o,hl,h⟩⟩
  ·rfl
  ·rfl
  ·cases h
  ·simp only[Except.ok.injEq,Prod.mk.injEq]at h
   obtain⟨rfl,_⟩:=h
   rw[hl]
   exact(layP_ok hl).2.2 most' hm

theorem stP_err{ls:List Nat}(hb:∀b∈ls,b<2)(mo:List Nat)(hm:∀b∈mo,b<2){most:Nat}{s:Ps}{e:Nat}(hs:PsOk ls s)(h:stP ls most s=.error e)(he:e≠55):stP (ls++mo) most s=.error e:=by
 have hb2:∀b∈ls++mo,b<2:=fun b hbb=>by rcases List.mem_append.1 hbb with h | h;exact hb b h;exact hm b h
 refine stP_same h (fun hbk=>?_) (fun b hbk=>?_) (fun _ _ _ _ _ _=>rfl)
 ·cases hg:begP ls s.c with
  | error e2=>
   rw[stP_none_err hbk hg]at h
   simp only[Except.error.injEq]at h
   subst h
   exact(begP_loc ls hb s.c).err _ mo hm hg he
  | ok x=>rw[stP_none_ok (b:=x.1) (c:=x.2) hbk hg]at h;cases h
 ·have hk:BkOk (some b):=by rw[←hbk];exact hs.bk
  cases hst:stepP ls b s.c with
  | error e2=>
   rw[stP_some_err hbk hst]at h
   simp only[Except.error.injEq]at h
   subst h
   exact(stepP_loc ls hb b s.c hk hs.le).err _ mo hm hst he
  | ok x=>exact(stepP_loc ls hb b s.c hk hs.le).agr _ _ _ hb2 hst ((Agr.ext ls mo).less ((stepP_loc ls hb b s.c hk hs.le).ge _ _ hst).2)

theorem stP_ne{ls:List Nat}(hb:∀b∈ls,b<2){most:Nat}{s:Ps}{e:Nat}(hs:PsOk ls s)(h:stP ls most s=.error e):e≠0:=by
 cases hbk:s.bk with
 | none=>
  cases hg:begP ls s.c with
  | error e2=>
   rw[stP_none_err hbk hg]at h
   simp only[Except.error.injEq]at h
   subst h
   exact(begP_loc ls hb s.c).ne _ hg
  | ok x=>rw[stP_none_ok (b:=x.1) (c:=x.2) hbk hg]at h;cases h
 | some b=>
  have hk:BkOk (some b):=by rw[←hbk];exact hs.bk
  cases hst:stepP ls b s.c with
  | error e2=>
   rw[stP_some_err hbk hst]at h
   simp only[Except.error.injEq]at h
   subst h
   exact(stepP_loc ls hb b s.c hk hs.le).ne _ hst
  | ok x=>
   obtain⟨⟨tk,b'⟩,c⟩:=x
   rw[stP_some_ok hbk hst]at h
   rcases goP_cases h with⟨_,_,h⟩ | ⟨_,_,h⟩ | ⟨_,⟨e2,hl,h⟩ | ⟨o,hl,h⟩⟩
   ·cases h
   ·cases h
   ·simp only[Except.error.injEq]at h
    subst h
    have:=layP_ne hl;omega
   ·cases h

theorem Ends.det{ls:List Nat}{most:Nat}{s t t':Ps}{e e':Nat}(h:Ends ls most s t e)(h':Ends ls most s t' e'):t=t'∧e=e':=by
 induction h with
 | stop h=>
  cases h' with
  | stop h2=>rw[h]at h2;simp only[Except.error.injEq]at h2;exact⟨rfl,h2⟩
  | done h2=>rw[h]at h2;cases h2
  | step h2 _=>rw[h]at h2;cases h2
 | done h=>
  cases h' with
  | stop h2=>rw[h]at h2;cases h2
  | done h2=>rw[h]at h2;simp only[Except.ok.injEq,Prod.mk.injEq]at h2;exact⟨h2.1,rfl⟩
  | step h2 _=>rw[h]at h2;simp at h2
 | step h _ ih=>
  cases h' with
  | stop h2=>rw[h]at h2;cases h2
  | done h2=>rw[h]at h2;simp at h2
  | step h2 r2=>
   rw[h]at h2
   simp only[Except.ok.injEq,Prod.mk.injEq,and_true]at h2
   subst h2
   exact ih r2

theorem Ends.inv{ls:List Nat}(hb:∀b∈ls,b<2){most:Nat}{s t:Ps}{e:Nat}(h:Ends ls most s t e)(hs:PsOk ls s):
  PsOk ls t∧s.c≤t.c∧s.out.length≤t.out.length∧(s.out.length≤most→t.out.length≤most):=by
 induction h with
 | stop h=>exact⟨hs,Nat.le_refl _,Nat.le_refl _,fun h=>h⟩
 | done h=>exact stP_inv hb hs h
 | step h _ ih=>
  have h1:=stP_inv hb hs h
  have h2:=ih h1.1
  exact⟨h2.1,by omega,by omega,fun h=>h2.2.2.2 (h1.2.2.2 h)⟩

theorem Ends.err{ls:List Nat}(hb:∀b∈ls,b<2)(mo:List Nat)(hmo:∀b∈mo,b<2){most:Nat}{s t:Ps}{e:Nat}(h:Ends ls most s t e)(hs:PsOk ls s)(ho:s.out.length≤most)(he:e≠55):Ends (ls++mo) most s t e:=by
 have hb2:∀b∈ls++mo,b<2:=fun b hbb=>by rcases List.mem_append.1 hbb with h | h;exact hb b h;exact hmo b h
 induction h with
 | stop h=>exact .stop (stP_err hb mo hmo hs h he)
 | done h=>
  have h1:=stP_inv hb hs h
  exact .done (stP_agr hb hb2 hs h ((Agr.ext ls mo).less h1.1.le) (h1.2.2.2 ho))
 | step h r ih=>
  have h1:=stP_inv hb hs h
  exact .step (stP_agr hb hb2 hs h ((Agr.ext ls mo).less h1.1.le) (h1.2.2.2 ho)) (ih h1.1 (h1.2.2.2 ho) he)

theorem Ends.more{ls:List Nat}(hb:∀b∈ls,b<2)(mo:List Nat)(hmo:∀b∈mo,b<2){most:Nat}{s t u:Ps}{e e':Nat}(h:Ends ls most s t e)(hs:PsOk ls s)(ho:s.out.length≤most)(he:e=55)(h':Ends (ls++mo) most t u e'):Ends (ls++mo) most s u e':=by
 have hb2:∀b∈ls++mo,b<2:=fun b hbb=>by rcases List.mem_append.1 hbb with h | h;exact hb b h;exact hmo b h
 induction h with
 | stop h=>exact h'
 | done h=>omega
 | step h r ih=>
  have h1:=stP_inv hb hs h
  exact .step (stP_agr hb hb2 hs h ((Agr.ext ls mo).less h1.1.le) (h1.2.2.2 ho)) (ih h1.1 (h1.2.2.2 ho) he h')

def ps0:Ps:=⟨0,[],none⟩
theorem ps0_ok(ls:List Nat):PsOk ls ps0:=⟨Nat.zero_le _,trivial⟩

end Go.Proofs.YtggcbnhckcenmaaGreatDoor
