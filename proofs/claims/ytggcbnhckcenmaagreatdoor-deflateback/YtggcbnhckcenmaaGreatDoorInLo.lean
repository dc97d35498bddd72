import Derived.Test.YtggcbnhckcenmaaGreatDoorInM
import Derived.Test.YtggcbnhckcenmaaGreatDoorLnWrM
namespace Go.Proofs.YtggcbnhckcenmaaGreatDoor

structure Agr(c:Nat)(ls ls':List Nat):Prop where
 eq:ls'.take c=ls.take c
 le:c≤ls.length
 le':c≤ls'.length

theorem Agr.less{c d:Nat}{ls ls':List Nat}(h:Agr c ls ls')(hd:d≤c):Agr d ls ls':=by
 refine⟨?_,Nat.le_trans hd h.le,Nat.le_trans hd h.le'⟩
 have e:=congrArg (List.take d) h.eq
 rwa [List.take_take,List.take_take,Nat.min_eq_left hd]at e

theorem Agr.ext(ls m:List Nat):Agr ls.length ls (ls++m):=⟨by rw[List.take_left,List.take_length],Nat.le_refl _,by rw[List.length_append];omega⟩

theorem Agr.part{k:Nat}{ls ls':List Nat}(h:Agr k ls ls')(c n:Nat)(hk:c+n≤k):(ls'.drop c).take n=(ls.drop c).take n:=by
 have e:=(h.less hk).eq
 have e2:=congrArg (List.drop c) e
 rwa [List.drop_take,List.drop_take,show c+n-c=n by omega]at e2

theorem numAt_agr{k:Nat}{ls ls':List Nat}(h:Agr k ls ls')(c n:Nat)(hk:c+n≤k):numAt ls' c n=numAt ls c n:=by
 unfold numAt;rw[h.part c n hk]

structure Pf(ns:List Nat):Prop where
 ms:measure ns≤32768
 le:∀s,key ns s≤15

theorem nextF_agr{ns ls ls':List Nat}(hp:Pf ns)(hb:∀b∈ls',b<2){c s k:Nat}(hn:nextF ns (ls.drop c)=(s,k,0))(h:Agr (c+k) ls ls'):nextF ns (ls'.drop c)=(s,k,0):=by
 have h1:=nextF_is ns (ls.drop c)
 rw[hn]at h1
 rcases h1 with⟨_,hs,hf,hk,_⟩ | ⟨h0,_⟩ | ⟨h0,_⟩
 ·simp only at hs hf hk
  have e1:rowOf ns s=(ls'.drop c).take k:=by
   rw[h.part c k (Nat.le_refl _)]
   have:=(List.prefix_iff_eq_take.1 hf.2)
   rw[rowOf_length,←hk]at this
   exact this
  have e2:ls'.drop c=rowOf ns s++(ls'.drop c).drop k:=by rw[e1,List.take_append_drop]
  rw[e2,nextF_row hp.ms hp.le hs hf.1 _ (fun b hb'=>hb b (List.mem_of_mem_drop (List.mem_of_mem_drop hb'))),←hk]
 ·simp at h0
 ·simp at h0

theorem nextF_err(ns t m:List Nat)(h:(nextF ns t).2.2=32):(nextF ns (t++m)).2.2=32:=by
 have h1:=nextF_is ns t
 rcases h1 with⟨h0,_⟩ | ⟨h0,_⟩ | ⟨_,_,_,hnf,hnb⟩
 ·omega
 ·omega
 ·have:nextF ns (t++m)=(0,0,32):=nextF_of (.inr (.inr ⟨rfl,rfl,rfl,fun s hs hf=>?_,fun s hs hb=>?_⟩))
  ·rw[this]
  ·rcases List.prefix_or_prefix_of_prefix hf.2 (List.prefix_append t m)with h2 | h2
   ·exact hnf s hs ⟨hf.1,h2⟩
   ·exact hnb s hs ⟨hf.1,h2⟩
  ·exact hnb s hs ⟨hb.1,List.IsPrefix.trans (List.prefix_append t m) hb.2⟩

theorem nextF_ends(ns t:List Nat):(nextF ns t).2.2=0∨(nextF ns t).2.2=10∨(nextF ns t).2.2=32:=by
 rcases nextF_is ns t with h | h | h
 ·exact .inl h.1
 ·exact .inr (.inl h.1)
 ·exact .inr (.inr h.1)

theorem stepF_agr{ns ls ls':List Nat}(hp:Pf ns)(hb:∀b∈ls',b<2){c c':Nat}{x:Nat×Nat}(hs:stepF ns ls c=.ok (x,c'))(h:Agr c' ls ls'):stepF ns ls' c=.ok (x,c'):=by
 unfold stepF at hs
 split at hs
 ·cases hs
 ·rename_i h0
  split at hs
  ·cases hs
  ·rename_i h1
   simp only[Except.ok.injEq,Prod.mk.injEq]at hs
   obtain⟨rfl,rfl⟩:=hs
   have hn:nextF ns (ls.drop c)=((nextF ns (ls.drop c)).1,(nextF ns (ls.drop c)).2.1,0):=by
    have:(nextF ns (ls.drop c)).2.2=0:=Classical.not_not.1 h0
    rw[←this]
   have hn':=nextF_agr hp hb hn (h.less (Nat.le_add_right _ _))
   unfold stepF
   rw[hn']
   simp only
   rw[if_neg (by simp),if_neg (by have:=h.le';omega),numAt_agr h _ _ (Nat.le_refl _)]

theorem stepF_err{ns ls:List Nat}{c e:Nat}(hc:c≤ls.length)(hs:stepF ns ls c=.error e)(he:e≠10)(m:List Nat):stepF ns (ls++m) c=.error e:=by
 unfold stepF at hs
 split at hs
 ·rename_i h0
  simp only[Except.error.injEq]at hs
  have h32:(nextF ns (ls.drop c)).2.2=32:=by rcases nextF_ends ns (ls.drop c)with h | h | h<;>omega
  have h2:=nextF_err ns (ls.drop c) m h32
  rw[←List.drop_append_of_le_length hc]at h2
  unfold stepF
  rw[h2,if_pos (by omega)]
  congr 1
  omega
 ·split at hs
  ·simp only[Except.error.injEq]at hs;omega
  ·cases hs

theorem bodyF_ge{ns ls:List Nat}{N f c c':Nat}{l m:List Nat}(h:bodyF ns ls N f l c=.ok (m,c'))(hc:c≤ls.length):c≤c'∧c'≤ls.length:=by
 induction f generalizing l c with
 | zero=>simp only[bodyF,Except.ok.injEq,Prod.mk.injEq]at h;omega
 | succ f ih=>
  unfold bodyF at h
  split at h
  ·simp only[Except.ok.injEq,Prod.mk.injEq]at h;omega
  ·split at h
   ·cases h
   ·rename_i s c2 hs
    have h1:=stepF_ge (s:=s.1) (x:=s.2) hs
    have h2:=stepF_le (s:=s.1) (x:=s.2) hs
    split at h
    ·cases h
    ·have:=ih h h2;omega

theorem bodyF_agr{ns ls ls':List Nat}(hp:Pf ns)(hb:∀b∈ls',b<2){N f c c':Nat}{l m:List Nat}(h:bodyF ns ls N f l c=.ok (m,c'))(hc:c≤ls.length)(ha:Agr c' ls ls'):bodyF ns ls' N f l c=.ok (m,c'):=by
 induction f generalizing l c with
 | zero=>simpa only[bodyF]using h
 | succ f ih=>
  unfold bodyF at h ⊢
  split at h
  ·rename_i h1;rw[if_pos h1];exact h
  ·rename_i h1
   rw[if_neg h1]
   split at h
   ·cases h
   ·rename_i s c2 hs
    have h2:=stepF_le (s:=s.1) (x:=s.2) hs
    split at h
    ·cases h
    ·rename_i l2 hw
     have h3:=bodyF_ge h h2
     rw[stepF_agr hp hb hs (ha.less h3.1)]
     simp only
     rw[hw]
     exact ih h h2

theorem bodyF_fail{ns ls:List Nat}(hp:Pf ns)(mo:List Nat)(hb:∀b∈ls++mo,b<2){N f c e:Nat}{l:List Nat}(h:bodyF ns ls N f l c=.error e)(he:e≠10)(hc:c≤ls.length):bodyF ns (ls++mo) N f l c=.error e:=by
 induction f generalizing l c with
 | zero=>simp[bodyF]at h
 | succ f ih=>
  unfold bodyF at h ⊢
  split at h
  ·cases h
  ·rename_i h1
   rw[if_neg h1]
   split at h
   ·rename_i e2 hs
    simp only[Except.error.injEq]at h
    subst h
    rw[stepF_err hc hs he mo]
   ·rename_i s c2 hs
    have h2:=stepF_le (s:=s.1) (x:=s.2) hs
    rw[stepF_agr hp hb hs ((Agr.ext ls mo).less h2)]
    simp only
    split at h
    ·exact h
    ·exact ih h h2

theorem codesF_agr{k:Nat}{ls ls':List Nat}(h:Agr k ls ls')(c i:Nat)(hi:c+3*i≤k):codesF ls' c i=codesF ls c i:=by
 induction i with
 | zero=>rfl
 | succ i ih=>rw[codesF,codesF,ih (by omega),numAt_agr h _ _ (by omega)]

theorem key_le{ns:List Nat}{b:Nat}(h:∀n∈ns,n≤b)(s:Nat):key ns s≤b:=Nat.le_trans (key_le_mx ns s) (mx_le ns b h)

theorem codesF_pf{ls:List Nat}(hb:∀b∈ls,b<2)(c i:Nat)(h:chkN (codesF ls c i)=0):Pf (codesF ls c i):=by
 refine⟨?_,fun s=>Nat.le_trans (key_le (codesF_le ls hb c i) s) (by omega)⟩
 unfold chkN at h
 split at h
 ·cases h
 ·omega

theorem readF_ge{ls:List Nat}{a n:Nat}{x:List Nat×List Nat}(h:readF ls a=.ok (x,n)):a+14≤a+n∧a+n≤ls.length:=by
 unfold readF at h
 split at h
 ·cases h
 ·split at h
  ·cases h
  ·split at h
   ·cases h
   ·rename_i h3
    split at h
    ·cases h
    ·split at h
     ·cases h
     ·rename_i l c hbd
      simp only[Except.ok.injEq,Prod.mk.injEq]at h
      have:=bodyF_ge hbd (by omega)
      omega

theorem readF_agr{ls ls':List Nat}(hb:∀b∈ls,b<2)(hb':∀b∈ls',b<2){a n:Nat}{x:List Nat×List Nat}(h:readF ls a=.ok (x,n))(ha:Agr (a+n) ls ls'):readF ls' a=.ok (x,n):=by
 have h0:=readF_ge h
 unfold readF at h
 split at h
 ·cases h
 ·rename_i h1
  split at h
  ·cases h
  ·rename_i h2
   split at h
   ·cases h
   ·rename_i h3
    split at h
    ·cases h
    ·rename_i h4
     split at h
     ·cases h
     ·rename_i l c hbd
      simp only[Except.ok.injEq,Prod.mk.injEq]at h
      obtain⟨rfl,hn⟩:=h
      have h5:=bodyF_ge hbd (by omega)
      have hcn:c=a+n:=by omega
      have l1:=ha.le'
      unfold readF
      rw[numAt_agr ha a 5 (by omega),numAt_agr ha (a+5) 5 (by omega),numAt_agr ha (a+10) 4 (by omega),codesF_agr ha (a+14) _ (by omega),if_neg (by omega),if_neg h2,if_neg (by omega),if_neg h4,
       bodyF_agr (codesF_pf hb _ _ (Classical.not_not.1 h4)) hb' hbd (by omega) (by rw[hcn];exact ha)]
      simp only
      rw[hn]

theorem readF_fail{ls:List Nat}(mo:List Nat)(hb:∀b∈ls++mo,b<2){a e:Nat}(h:readF ls a=.error e)(he:e≠10):readF (ls++mo) a=.error e:=by
 have ha:=Agr.ext ls mo
 unfold readF at h
 split at h
 ·simp only[Except.error.injEq]at h;omega
 ·rename_i h1
  unfold readF
  have l1:=ha.le'
  rw[numAt_agr ha a 5 (by omega),numAt_agr ha (a+5) 5 (by omega),numAt_agr ha (a+10) 4 (by omega),if_neg (by omega)]
  split at h
  ·rename_i h2;rw[if_pos h2];exact h
  ·rename_i h2
   rw[if_neg h2]
   split at h
   ·simp only[Except.error.injEq]at h;omega
   ·rename_i h3
    rw[if_neg (by omega),codesF_agr ha (a+14) _ (by omega)]
    split at h
    ·rename_i h4;rw[if_pos h4];exact h
    ·rename_i h4
     rw[if_neg h4]
     split at h
     ·rename_i e2 hbd
      simp only[Except.error.injEq]at h
      subst h
      rw[bodyF_fail (codesF_pf (fun b hbb=>hb b (List.mem_append_left _ hbb)) _ _ (Classical.not_not.1 h4)) mo hb hbd he (by omega)]
     ·cases h

theorem head5_agr{ls ls':List Nat}(hb:∀b∈ls,b<2)(hb':∀b∈ls',b<2){a n:Nat}{x:List Nat×List Nat}(h:head5 ls a=.ok (x,n))(ha:Agr (a+n) ls ls'):head5 ls' a=.ok (x,n):=by
 unfold head5 at h ⊢
 split at h
 ·cases h
 ·rename_i l d n2 hr
  split at h
  ·cases h
  ·rename_i h1
   simp only[Except.ok.injEq,Prod.mk.injEq]at h
   obtain⟨rfl,rfl⟩:=h
   rw[readF_agr hb hb' hr ha]
   simp only
   rw[if_neg h1]

theorem head5_fail{ls:List Nat}(mo:List Nat)(hb:∀b∈ls++mo,b<2){a e:Nat}(h:head5 ls a=.error e)(he:e≠55):head5 (ls++mo) a=.error e:=by
 have hb1:∀b∈ls,b<2:=fun b hbb=>hb b (List.mem_append_left _ hbb)
 unfold head5 at h
 split at h
 ·rename_i e2 hr
  simp only[Except.error.injEq]at h
  have he2:e2≠10:=fun h10=>by rw[if_pos h10]at h;omega
  unfold head5
  rw[readF_fail mo hb hr he2]
  simp only
  rw[h]
 ·rename_i l d n2 hr
  split at h
  ·rename_i h1
   unfold head5
   rw[readF_agr hb1 hb hr ((Agr.ext ls mo).less (readF_ge hr).2)]
   simp only
   rw[if_pos h1]
   exact h
  ·cases h

theorem head5_ge{ls:List Nat}{a n:Nat}{x:List Nat×List Nat}(h:head5 ls a=.ok (x,n)):a+14≤a+n∧a+n≤ls.length:=by
 unfold head5 at h
 split at h
 ·cases h
 ·rename_i l d n2 hr
  split at h
  ·cases h
  ·simp only[Except.ok.injEq,Prod.mk.injEq]at h
   obtain⟨_,rfl⟩:=h
   exact readF_ge hr

end Go.Proofs.YtggcbnhckcenmaaGreatDoor
