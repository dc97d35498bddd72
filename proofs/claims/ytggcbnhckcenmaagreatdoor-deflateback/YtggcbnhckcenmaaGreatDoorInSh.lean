import Derived.Test.YtggcbnhckcenmaaGreatDoorInPe
namespace Go.Proofs.YtggcbnhckcenmaaGreatDoor

def shC{α:Type}(k:Nat):Except Nat (α×Nat)→Except Nat (α×Nat)
 | .error e=>.error e
 | .ok x=>.ok (x.1,k+x.2)

theorem shC_bind{α β:Type}{k:Nat}{r:Except Nat (α×Nat)}{g g':α→Nat→Except Nat (β×Nat)}(h:∀x c,g' x (k+c)=shC k (g x c)):bindP (shC k r) g'=shC k (bindP r g):=by
 cases r with
 | error e=>rfl
 | ok x=>exact h x.1 x.2

theorem drop_sh(A ls:List Nat)(c:Nat):(A++ls).drop (A.length+c)=ls.drop c:=by
 rw[←List.drop_drop,List.drop_left]

theorem numAt_sh(A ls:List Nat)(c n:Nat):numAt (A++ls) (A.length+c) n=numAt ls c n:=by unfold numAt;rw[drop_sh]

theorem tkP_sh(A ls:List Nat)(c n:Nat):tkP (A++ls) (A.length+c) n=shC A.length (tkP ls c n):=by
 unfold tkP
 by_cases h:ls.length<c+n
 ·rw[if_pos h,if_pos (by rw[List.length_append];omega)];rfl
 ·rw[if_neg h,if_neg (by rw[List.length_append];omega),numAt_sh,Nat.add_assoc];rfl

theorem syP_sh(ns A ls:List Nat)(c last:Nat):syP ns (A++ls) (A.length+c) last=shC A.length (syP ns ls c last):=by
 unfold syP
 rw[drop_sh]
 split
 ·rfl
 ·split
  ·rfl
  ·rw[Nat.add_assoc];rfl

theorem numP_sh(A ls:List Nat)(c y k:Nat):numP (A++ls) (A.length+c) y k=shC A.length (numP ls c y k):=by
 unfold numP
 split
 ·rfl
 ·rw[tkP_sh];exact shC_bind (fun _ _=>rfl)

theorem lenP_sh(A ls:List Nat)(c y:Nat):lenP (A++ls) (A.length+c) y=shC A.length (lenP ls c y):=by
 unfold lenP
 split
 ·rw[numP_sh];exact shC_bind (fun _ _=>rfl)
 ·rfl

theorem dsyP_sh(dist A ls:List Nat)(c:Nat):dsyP dist (A++ls) (A.length+c)=shC A.length (dsyP dist ls c):=by
 unfold dsyP
 split
 ·rfl
 ·exact syP_sh dist A ls c 29

theorem copP_sh(A ls dist:List Nat)(c y:Nat):copP (A++ls) dist (A.length+c) y=shC A.length (copP ls dist c y):=by
 unfold copP
 rw[lenP_sh]
 refine shC_bind (fun n c1=>?_)
 rw[dsyP_sh]
 refine shC_bind (fun z c2=>?_)
 rw[numP_sh]
 exact shC_bind (fun _ _=>rfl)

theorem symP_sh(A ls:List Nat)(last:Bool)(lit dist:List Nat)(y c:Nat):symP (A++ls) last lit dist y (A.length+c)=shC A.length (symP ls last lit dist y c):=by
 unfold symP
 split
 ·rfl
 ·split
  ·rfl
  ·rw[copP_sh];exact shC_bind (fun _ _=>rfl)

theorem stepP_sh(A ls:List Nat)(b:Bk)(c:Nat):stepP (A++ls) b (A.length+c)=shC A.length (stepP ls b c):=by
 cases b with
 | raw last left=>
  cases left with
  | zero=>rfl
  | succ n=>rw[stepP_raw,stepP_raw,tkP_sh];exact shC_bind (fun _ _=>rfl)
 | sym last lit dist=>
  rw[stepP_sym,stepP_sym,syP_sh]
  exact shC_bind (fun y c1=>symP_sh A ls last lit dist y c1)

theorem cntP_sh(A ls:List Nat)(h8:A.length % 8=0)(c:Nat):cntP (A++ls) (A.length+c)=shC A.length (cntP ls c):=by
 unfold cntP
 rw[show(A.length+c+7) / 8*8=A.length+(c+7) / 8*8 by omega,tkP_sh]
 refine shC_bind (fun n c1=>?_)
 rw[tkP_sh]
 refine shC_bind (fun t c2=>?_)
 split
 ·rfl
 ·rfl

theorem stepF_sh(ns A ls:List Nat)(c:Nat):stepF ns (A++ls) (A.length+c)=shC A.length (stepF ns ls c):=by
 unfold stepF
 rw[drop_sh]
 split
 ·rfl
 ·rw[Nat.add_assoc A.length c,numAt_sh,List.length_append]
  by_cases h:ls.length<c+(nextF ns (ls.drop c)).2.1+xbits (nextF ns (ls.drop c)).1
  ·rw[if_pos h,if_pos (by omega)];rfl
  ·rw[if_neg h,if_neg (by omega),Nat.add_assoc A.length];rfl

theorem bodyF_sh(ns A ls:List Nat)(N f:Nat)(l:List Nat)(c:Nat):bodyF ns (A++ls) N f l (A.length+c)=shC A.length (bodyF ns ls N f l c):=by
 induction f generalizing l c with
 | zero=>rfl
 | succ f ih=>
  unfold bodyF
  split
  ·rfl
  ·rw[stepF_sh]
   cases hs:stepF ns ls c with
   | error e=>rfl
   | ok x=>
    obtain⟨s,c'⟩:=x
    simp only[shC]
    cases hw:withM l ((s.1:Int),(s.2:Int)) N with
    | none=>rfl
    | some m=>exact ih m c'

theorem codesF_sh(A ls:List Nat)(c i:Nat):codesF (A++ls) (A.length+c) i=codesF ls c i:=by
 induction i with
 | zero=>rfl
 | succ i ih=>rw[codesF,codesF,ih,Nat.add_assoc,numAt_sh]

theorem readF_sh(A ls:List Nat)(a:Nat):readF (A++ls) (A.length+a)=readF ls a:=by
 unfold readF
 rw[Nat.add_assoc A.length a 14,Nat.add_assoc A.length a 5,Nat.add_assoc A.length a 10,numAt_sh,numAt_sh,numAt_sh,codesF_sh,Nat.add_assoc A.length (a+14),bodyF_sh,List.length_append]
 by_cases h1:ls.length<a+14
 ·rw[if_pos h1,if_pos (by omega)]
 ·rw[if_neg h1,if_neg (by omega)]
  split
  ·rfl
  ·by_cases h3:ls.length<a+14+3*(numAt ls (a+10) 4+4)
   ·rw[if_pos h3,if_pos (by omega)]
   ·rw[if_neg h3,if_neg (by omega)]
    split
    ·rfl
    ·generalize bodyF _ ls _ _ [] (a+14+3*(numAt ls (a+10) 4+4))=r
     cases r with
     | error e=>rfl
     | ok x=>
      obtain⟨l,c⟩:=x
      simp only[shC]
      rw[show A.length+c-(A.length+a)=c-a by omega]

theorem hdP_sh(A ls:List Nat)(c:Nat):hdP (A++ls) (A.length+c)=shC A.length (hdP ls c):=by
 unfold hdP head5
 rw[readF_sh]
 cases readF ls c with
 | error e=>rfl
 | ok x=>
  obtain⟨⟨l,d⟩,n⟩:=x
  simp only
  split
  ·rename_i h
   split at h
   ·simp only[Except.error.injEq]at h;subst h;rfl
   ·cases h
  ·rename_i h
   split at h
   ·cases h
   ·simp only[Except.ok.injEq,Prod.mk.injEq]at h
    obtain⟨rfl,rfl⟩:=h
    rw[Nat.add_assoc];rfl

theorem kndP_sh(A ls:List Nat)(h8:A.length % 8=0)(last:Bool)(c k:Nat):kndP (A++ls) last (A.length+c) k=shC A.length (kndP ls last c k):=by
 unfold kndP
 split
 ·rw[cntP_sh A ls h8];exact shC_bind (fun _ _=>rfl)
 ·split
  ·rfl
  ·split
   ·rw[hdP_sh];exact shC_bind (fun _ _=>rfl)
   ·rfl

theorem begP_sh(A ls:List Nat)(h8:A.length % 8=0)(c:Nat):begP (A++ls) (A.length+c)=shC A.length (begP ls c):=by
 unfold begP
 rw[tkP_sh]
 refine shC_bind (fun l c1=>?_)
 rw[tkP_sh]
 exact shC_bind (fun k c2=>kndP_sh A ls h8 _ c2 k)

def shS(k:Nat)(s:Ps):Ps:=⟨k+s.c,s.out,s.bk⟩
def shR(k:Nat):Except Nat (Ps×Bool)→Except Nat (Ps×Bool)
 | .error e=>.error e
 | .ok x=>.ok (shS k x.1,x.2)

theorem stP_sh(A ls:List Nat)(h8:A.length % 8=0)(most:Nat)(s:Ps):stP (A++ls) most (shS A.length s)=shR A.length (stP ls most s):=by
 cases hbk:s.bk with
 | none=>
  have hb:=begP_sh A ls h8 s.c
  cases hg:begP ls s.c with
  | error e=>
   rw[stP_none_err hbk hg,stP_none_err (s:=shS A.length s) (e:=e) hbk (by rw[hg]at hb;exact hb)];rfl
  | ok x=>
   rw[stP_none_ok (b:=x.1) (c:=x.2) hbk hg,stP_none_ok (s:=shS A.length s) (b:=x.1) (c:=A.length+x.2) hbk (by rw[hg]at hb;exact hb)];rfl
 | some b=>
  have hb:=stepP_sh A ls b s.c
  cases hg:stepP ls b s.c with
  | error e=>
   rw[stP_some_err hbk hg,stP_some_err (s:=shS A.length s) (e:=e) hbk (by rw[hg]at hb;exact hb)];rfl
  | ok x=>
   obtain⟨⟨t,b'⟩,c⟩:=x
   rw[stP_some_ok hbk hg,stP_some_ok (s:=shS A.length s) (x:=((t,b'),A.length+c)) hbk (by rw[hg]at hb;exact hb)]
   by_cases ht:t=.fin
   ·subst ht
    rw[goP_fin,goP_fin]
    split
    ·rfl
    ·rfl
   ·cases hl:layP most s.out t with
    | error e=>rw[goP_err ht hl,goP_err (s:=shS A.length s) ht hl];rfl
    | ok o=>rw[goP_ok ht hl,goP_ok (s:=shS A.length s) ht hl];rfl

theorem Ends.sh{ls:List Nat}{most:Nat}{s t:Ps}{e:Nat}(h:Ends ls most s t e)(A:List Nat)(h8:A.length % 8=0):Ends (A++ls) most (shS A.length s) (shS A.length t) e:=by
 induction h with
 | stop h=>exact .stop (by rw[stP_sh A ls h8,h];rfl)
 | done h=>exact .done (by rw[stP_sh A ls h8,h];rfl)
 | step h _ ih=>exact .step (by rw[stP_sh A ls h8,h];rfl) ih

theorem Ends.goes{B cs:List Nat}{most:Nat}{t u:Ps}{e:Nat}(h:Ends (ofBytes B) most ps0 t 55)(h':Ends (ofBytes (B.drop (t.c / 8)++cs)) most ⟨t.c % 8,t.out,t.bk⟩ u e):Ends (ofBytes (B++cs)) most ps0 (shS (t.c / 8*8) u) e:=by
 have hle:=(h.inv (ofBytes_lt B) (ps0_ok _)).1.le
 rw[ofBytes_length]at hle
 have hq:t.c / 8≤B.length:=by omega
 have hA:(ofBytes (B.take (t.c / 8))).length=t.c / 8*8:=by rw[ofBytes_length,List.length_take];omega
 have h2:=h'.sh (ofBytes (B.take (t.c / 8))) (by omega)
 rw[←ofBytes_append,←List.append_assoc,List.take_append_drop,hA]at h2
 have e1:shS (t.c / 8*8) ⟨t.c % 8,t.out,t.bk⟩=t:=by
  unfold shS
  simp only
  rw[show t.c / 8*8+t.c % 8=t.c by omega]
 rw[e1]at h2
 rw[ofBytes_append]at h2 ⊢
 exact h.more (ofBytes_lt B) (ofBytes cs) (ofBytes_lt cs) (ps0_ok _) (Nat.zero_le _) rfl h2

end Go.Proofs.YtggcbnhckcenmaaGreatDoor
