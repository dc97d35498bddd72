import Derived.Test.YtkhagfgineifhaaGreatDoorInPm
namespace Go.Proofs.YtkhagfgineifhaaGreatDoor
theorem zz{ns ls:List Nat}{N f c c':Nat}{l m:List Nat}(h:bC ns ls N f l c=.ok (m,c'))(hl:∀x∈l,x<=15)(hn:l.length<=N)(hf:N-l.length<=f):(∀x∈m,x<=15)/\m.length=N:=by
 induction f generalizing l c with
 | zero=>
  simp only[bC,Except.ok.injEq,Prod.mk.injEq]at h;obtain⟨rfl,_⟩:=h;exact⟨hl,by omega⟩
 | succ f ih=>
  unfold bC at h;split at h
  ·simp only[Except.ok.injEq,Prod.mk.injEq]at h;obtain⟨rfl,_⟩:=h;exact⟨hl,by omega⟩
  ·split at h
   ·cases h
   ·split at h
    ·cases h
    ·rename_i l2 hw;have:=iA hw hl;exact ih h this.2.2 this.2.1 (by omega)
theorem oK{ls:List Nat}{a n:Nat}{l d:List Nat}(h:b8 ls a=.ok ((l,d),n)):257<=l.length/\l.length<=286/\0<d.length/\d.length<=30/\(∀x∈l,x<=15)/\∀x∈d,x<=15:=by
 unfold b8 at h;split at h
 ·cases h
 ·split at h
  ·cases h
  ·rename_i h2;split at h
   ·cases h
   ·split at h
    ·cases h
    ·split at h
     ·cases h
     ·rename_i m c EN;simp only[Except.ok.injEq,Prod.mk.injEq]at h;obtain⟨⟨rfl,rfl⟩,_⟩:=h;have hm:=zz EN (by simp) (by simp) (by simp);rw[List.length_take,List.length_drop,hm.2];exact⟨by omega,by omega,by omega,by omega,λx hx=>hm.1 x (List.mem_of_mem_take hx),λx hx=>hm.1 x (List.mem_of_mem_drop hx)⟩
theorem wg{ls:List Nat}{a n:Nat}{l d:List Nat}(h:ep ls a=.ok ((l,d),n)):OkL l d:=by
 unfold ep at h;split at h
 ·cases h
 ·rename_i l2 d2 n2 hr;split at h
  ·cases h
  ·rename_i h1;simp only[Except.ok.injEq,Prod.mk.injEq]at h;obtain⟨⟨rfl,rfl⟩,_⟩:=h;obtain⟨a1,a2,a3,a4,a5,a6⟩:=oK hr;refine⟨⟨by omega,by omega,a5,?_⟩,a3,by omega,a6,λhu=>⟨a3,by omega,a6,?_⟩⟩
   ·exact Classical.byContradiction (λhc=>h1 (.inr (.inl hc)))
   ·exact Classical.byContradiction (λhc=>h1 (.inr (.inr ⟨hu,hc⟩)))
theorem fix_ok:OkL fixL fixD:=by refine⟨⟨by decide +kernel,by decide +kernel,by decide +kernel,by decide +kernel⟩,by decide +kernel,by decide +kernel,by decide +kernel,λ_=>⟨by decide +kernel,by decide +kernel,by decide +kernel,by decide +kernel⟩⟩
theorem BX{ls:List Nat}{c c':Nat}{b:Bk}(h:eJ ls c=.ok (b,c')):oC (some b):=by
 obtain⟨l,c1,_,h⟩:=aI.1 h;obtain⟨k,c2,_,h⟩:=aI.1 h;unfold iW at h;split at h
 ·obtain⟨n,c3,_,h⟩:=aI.1 h;simp only[Except.ok.injEq,Prod.mk.injEq]at h;obtain⟨rfl,_⟩:=h;exact trivial
 ·split at h
  ·simp only[Except.ok.injEq,Prod.mk.injEq]at h;obtain⟨rfl,_⟩:=h;exact fix_ok
  ·split at h
   ·obtain⟨x,c3,hh,h⟩:=aI.1 h;simp only[Except.ok.injEq,Prod.mk.injEq]at h;obtain⟨rfl,_⟩:=h;unfold o7 at hh;split at hh
    ·cases hh
    ·rename_i y n h5;simp only[Except.ok.injEq,Prod.mk.injEq]at hh;obtain⟨rfl,_⟩:=hh;exact wg (l:=y.1) (d:=y.2) h5
   ·cases h
theorem qw{ls:List Nat}{b b':Bk}{t:Tok}{c c':Nat}(h:bF ls b c=.ok ((t,b'),c'))(hk:oC (some b)):oC (some b')/\b'.last=b.last:=by
 cases b with
 | raw last left=>
  cases left with
  | zero=>
   simp only[bF,Except.ok.injEq,Prod.mk.injEq]at h;obtain⟨⟨_,rfl⟩,_⟩:=h;exact⟨trivial,rfl⟩
  | succ n=>
   rw[ej]at h;obtain⟨v,c2,_,h⟩:=aI.1 h;simp only[Except.ok.injEq,Prod.mk.injEq]at h;obtain⟨⟨_,rfl⟩,_⟩:=h;exact⟨trivial,rfl⟩
 | sym last lit dist=>
  rw[eo]at h;obtain⟨y,c2,_,h⟩:=aI.1 h;unfold jl at h;split at h
  ·simp only[Except.ok.injEq,Prod.mk.injEq]at h;obtain⟨⟨_,rfl⟩,_⟩:=h;exact⟨hk,rfl⟩
  ·split at h
   ·simp only[Except.ok.injEq,Prod.mk.injEq]at h;obtain⟨⟨_,rfl⟩,_⟩:=h;exact⟨hk,rfl⟩
   ·obtain⟨x,c3,_,h⟩:=aI.1 h;simp only[Except.ok.injEq,Prod.mk.injEq]at h;obtain⟨⟨_,rfl⟩,_⟩:=h;exact⟨hk,rfl⟩
theorem gU(far n:Nat)(out:List Nat):(nj far n out).length=out.length+n:=by
 induction n generalizing out with
 | zero=>rfl
 | succ n ih=>rw[nj,ih,List.length_append];simp;omega
theorem mF{most:Nat}{out out':List Nat}{t:Tok}(h:dB most out t=.ok out'):out.length<=out'.length/\(out.length<=most->out'.length<=most)/\∀m,out'.length<=m->dB m out t=.ok out':=by
 cases t with
 | fin=>simp only[dB,Except.ok.injEq]at h;subst h;exact⟨Nat.le_refl _,λh=>h,λ_ _=>rfl⟩
 | byte b=>
  simp only[dB]at h;split at h
  ·cases h
  ·simp only[Except.ok.injEq]at h;subst h;refine⟨by simp,λ_=>by simp;omega,λm hm=>?_⟩;simp only[dB];rw[if_neg (by simp at hm;omega)]
 | copy n far=>
  simp only[dB]at h;split at h
  ·cases h
  ·split at h
   ·cases h
   ·simp only[Except.ok.injEq]at h;subst h;rw[gU];refine⟨by omega,λ_=>by omega,λm hm=>?_⟩;simp only[dB];rw[if_neg (by omega),if_neg (by omega)]
theorem nk{most:Nat}{out:List Nat}{t:Tok}{e:Nat}(h:dB most out t=.error e):e=54\/e=56:=by
 cases t with
 | fin=>cases h
 | byte b=>
  simp only[dB]at h;split at h
  ·simp only[Except.error.injEq]at h;omega
  ·cases h
 | copy n far=>
  simp only[dB]at h;split at h
  ·simp only[Except.error.injEq]at h;omega
  ·split at h
   ·simp only[Except.error.injEq]at h;omega
   ·cases h
structure tW(ls:List Nat)(s:Ps):Prop where
 le:s.c<=ls.length
 bk:oC s.bk
theorem Cb{ls:List Nat}(hb:∀b∈ls,b<2){most:Nat}{s t:Ps}{d:Bool}(hs:tW ls s)(h:jQ ls most s=.ok (t,d)):
  tW ls t/\s.c<=t.c/\s.out.length<=t.out.length/\(s.out.length<=most->t.out.length<=most):=by
 cases hbk:s.bk with
 | none=>
  cases hg:eJ ls s.c with
  | error e=>rw[fY hbk hg]at h;cases h
  | ok x=>
   obtain⟨b,c⟩:=x;rw[dI hbk hg]at h;simp only[Except.ok.injEq,Prod.mk.injEq]at h;obtain⟨rfl,_⟩:=h;have:=(xp ls hb s.c).ge _ _ hg;exact⟨⟨this.2,BX hg⟩,this.1,Nat.le_refl _,λh=>h⟩
 | some b=>
  have hk:oC (some b):=(by rw[<-hbk];exact hs.bk);cases hst:bF ls b s.c with
  | error e=>rw[eA hbk hst]at h;cases h
  | ok x=>
   obtain⟨⟨tk,b'⟩,c⟩:=x;rw[cj hbk hst]at h;have h1:=(kz ls hb b s.c hk hs.le).ge _ _ hst;have h2:=qw hst hk;rcases nQ h with⟨_,_,h⟩ | ⟨_,_,h⟩ | ⟨_,⟨e,_,h⟩ | ⟨o,hl,h⟩⟩
   ·simp only[Except.ok.injEq,Prod.mk.injEq]at h;obtain⟨rfl,_⟩:=h;exact⟨⟨h1.2,h2.1⟩,h1.1,Nat.le_refl _,λh=>h⟩
   ·simp only[Except.ok.injEq,Prod.mk.injEq]at h;obtain⟨rfl,_⟩:=h;exact⟨⟨h1.2,trivial⟩,h1.1,Nat.le_refl _,λh=>h⟩
   ·cases h
   ·simp only[Except.ok.injEq,Prod.mk.injEq]at h;obtain⟨rfl,_⟩:=h;have h3:=mF hl;exact⟨⟨h1.2,h2.1⟩,h1.1,h3.1,h3.2.1⟩
theorem tZ{ls:List Nat}(hb:∀b∈ls,b<2){most:Nat}{s:Ps}{e:Nat}(hs:tW ls s)(h:jQ ls most s=.error e):e≠0:=by
 cases hbk:s.bk with
 | none=>
  cases hg:eJ ls s.c with
  | error e2=>
   rw[fY hbk hg]at h;simp only[Except.error.injEq]at h;subst h;exact(xp ls hb s.c).ne _ hg
  | ok x=>rw[dI (b:=x.1) (c:=x.2) hbk hg]at h;cases h
 | some b=>
  have hk:oC (some b):=(by rw[<-hbk];exact hs.bk);cases hst:bF ls b s.c with
  | error e2=>
   rw[eA hbk hst]at h;simp only[Except.error.injEq]at h;subst h;exact(kz ls hb b s.c hk hs.le).ne _ hst
  | ok x=>
   obtain⟨⟨tk,b'⟩,c⟩:=x;rw[cj hbk hst]at h;rcases nQ h with⟨_,_,h⟩ | ⟨_,_,h⟩ | ⟨_,⟨e2,hl,h⟩ | ⟨o,hl,h⟩⟩
   ·cases h
   ·cases h
   ·simp only[Except.error.injEq]at h;subst h;have:=nk hl;omega
   ·cases h
theorem Ends.det{ls:List Nat}{most:Nat}{s t t':Ps}{e e':Nat}(h:Ends ls most s t e)(h':Ends ls most s t' e'):t=t'/\e=e':=by
 induction h with
 | stop h=>
  cases h' with
  | stop h2=>rw[h]at h2;simp only[Except.error.injEq]at h2;exact⟨rfl,h2⟩
  | done h2=>rw[h]at h2;cases h2
  | step h2 _=>rw[h]at h2;cases h2
 | done h=>
  cases h' with
  | stop h2=>rw[h]at h2;cases h2
  | done h2=>rw[h]at h2;simp only[Except.ok.injEq,Prod.mk.injEq]at h2;exact⟨h2.1,rfl⟩
  | step h2 _=>rw[h]at h2;simp at h2
 | step h _ ih=>
  cases h' with
  | stop h2=>rw[h]at h2;cases h2
  | done h2=>rw[h]at h2;simp at h2
  | step h2 r2=>
   rw[h]at h2;simp only[Except.ok.injEq,Prod.mk.injEq,and_true]at h2;subst h2;exact ih r2
theorem Ends.inv{ls:List Nat}(hb:∀b∈ls,b<2){most:Nat}{s t:Ps}{e:Nat}(h:Ends ls most s t e)(hs:tW ls s):
  tW ls t/\s.c<=t.c/\s.out.length<=t.out.length/\(s.out.length<=most->t.out.length<=most):=by
 induction h with
 | stop h=>exact⟨hs,Nat.le_refl _,Nat.le_refl _,λh=>h⟩
 | done h=>exact Cb hb hs h
 | step h _ ih=>
  have h1:=Cb hb hs h;have h2:=ih h1.1;exact⟨h2.1,by omega,by omega,λh=>h2.2.2.2 (h1.2.2.2 h)⟩
def ps0:Ps:=⟨0,[],none⟩
theorem GR(ls:List Nat):tW ls ps0:=⟨Nat.zero_le _,trivial⟩
end Go.Proofs.YtkhagfgineifhaaGreatDoor
