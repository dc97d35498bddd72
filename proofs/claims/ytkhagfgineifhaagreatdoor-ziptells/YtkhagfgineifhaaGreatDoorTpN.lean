import Derived.Test.YtkhagfgineifhaaGreatDoorDfT
import Derived.Test.YtkhagfgineifhaaGreatDoorInEq
import Derived.Test.YtkhagfgineifhaaGreatDoorInPl
namespace Go.Proofs.YtkhagfgineifhaaGreatDoor
theorem Ax{ls:List Nat}(hb:∀b∈ls,b<2){bk bk':Bk}{c c' v:Nat}(h:bF ls bk c=.ok ((.byte v,bk'),c')):v<256:=by
 cases bk with
 | raw last n=>
  cases n with
  | zero=>rw[gJ]at h;simp at h
  | succ n=>
   rw[ej]at h;obtain⟨x,c1,h1,h2⟩:=aI.1 h;simp only[Except.ok.injEq,Prod.mk.injEq,Tok.byte.injEq]at h2;obtain⟨⟨rfl,_⟩,_⟩:=h2;rw[(d7 h1).1];exact CI ls hb c 8
 | sym last lit dist=>
  rw[eo]at h;obtain⟨y,c1,_,h2⟩:=aI.1 h;unfold jl at h2;split at h2
  ·simp only[Except.ok.injEq,Prod.mk.injEq,Tok.byte.injEq]at h2;omega
  ·split at h2
   ·simp at h2
   ·obtain⟨z,c2,_,h3⟩:=aI.1 h2;simp at h3
theorem vF{ls:List Nat}(hb:∀b∈ls,b<2){most:Nat}{s t:Ps}{d:Bool}(h:jQ ls most s=.ok (t,d))(hs:∀b∈s.out,b<256):∀b∈t.out,b<256:=by
 cases hk:s.bk with
 | none=>
  cases hg:eJ ls s.c with
  | error e=>rw[fY hk hg]at h;cases h
  | ok x=>
   obtain⟨b,c⟩:=x;rw[dI hk hg]at h;simp only[Except.ok.injEq,Prod.mk.injEq]at h;rw[<-h.1];exact hs
 | some b=>
  cases hg:bF ls b s.c with
  | error e=>rw[eA hk hg]at h;cases h
  | ok x=>
   rw[cj hk hg]at h;obtain⟨⟨tk,b'⟩,c⟩:=x;rcases nQ h with⟨_,_,h1⟩ | ⟨_,_,h1⟩ | ⟨ht,⟨e,_,h1⟩ | ⟨out,hl,h1⟩⟩
   ·simp only[Except.ok.injEq,Prod.mk.injEq]at h1;rw[h1.1];exact hs
   ·simp only[Except.ok.injEq,Prod.mk.injEq]at h1;rw[h1.1];exact hs
   ·cases h1
   ·simp only[Except.ok.injEq,Prod.mk.injEq]at h1;rw[h1.1];cases tk with
    | fin=>exact absurd rfl ht
    | byte v=>
     simp only[dB]at hl;split at hl
     ·cases hl
     ·simp only[Except.ok.injEq]at hl;subst hl;intro b jD;rcases List.mem_append.1 jD with h9 | h9
      ·exact hs b h9
      ·simp only[List.mem_singleton]at h9;subst h9;exact Ax hb hg
    | copy n far=>
     simp only[dB]at hl;split at hl
     ·cases hl
     ·split at hl
      ·cases hl
      ·simp only[Except.ok.injEq]at hl;subst hl;exact Dg far n s.out hs
theorem Ends.byte{ls:List Nat}(hb:∀b∈ls,b<2){most:Nat}{s t:Ps}{e:Nat}(h:Ends ls most s t e)(hs:∀b∈s.out,b<256):∀b∈t.out,b<256:=by
 induction h with
 | stop _=>exact hs
 | done h=>exact vF hb h hs
 | step h _ ih=>exact ih (vF hb h hs)
theorem Ea{x:List Nat}{most:Nat}{t:Ps}{e:Nat}(h:Ends (ae x) most ps0 t e):∀b∈t.out,b<256:=
 h.byte (ay x) (λ_ hb=>nomatch hb)
end Go.Proofs.YtkhagfgineifhaaGreatDoor
