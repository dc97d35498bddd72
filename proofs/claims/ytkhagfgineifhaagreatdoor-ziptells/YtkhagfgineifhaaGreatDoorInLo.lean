import Derived.Test.YtkhagfgineifhaaGreatDoorInM
import Derived.Test.YtkhagfgineifhaaGreatDoorLnWrM
namespace Go.Proofs.YtkhagfgineifhaaGreatDoor
structure Agr(c:Nat)(ls ls':List Nat):Prop where
 eq:ls'.take c=ls.take c
 le:c<=ls.length
 le':c<=ls'.length
theorem Agr.less{c d:Nat}{ls ls':List Nat}(h:Agr c ls ls')(hd:d<=c):Agr d ls ls':=by refine⟨?_,Nat.le_trans hd h.le,Nat.le_trans hd h.le'⟩;have e:=congrArg (List.take d) h.eq;rwa [List.take_take,List.take_take,Nat.min_eq_left hd]at e
theorem Agr.ext(ls m:List Nat):Agr ls.length ls (ls++m):=⟨by rw[List.take_left,List.take_length],Nat.le_refl _,by rw[List.length_append];omega⟩
theorem Agr.part{k:Nat}{ls ls':List Nat}(h:Agr k ls ls')(c n:Nat)(hk:c+n<=k):(ls'.drop c).take n=(ls.drop c).take n:=by have e:=(h.less hk).eq;have e2:=congrArg (List.drop c) e;rwa [List.drop_take,List.drop_take,show c+n-c=n by omega]at e2
theorem dN{k:Nat}{ls ls':List Nat}(h:Agr k ls ls')(c n:Nat)(hk:c+n<=k):aX ls' c n=aX ls c n:=by unfold aX;rw[h.part c n hk]
structure Pf(ns:List Nat):Prop where
 ms:measure ns<=32768
 le:∀s,key ns s<=15
theorem nU{ns ls ls':List Nat}(hp:Pf ns)(hb:∀b∈ls',b<2){c s k:Nat}(hn:aT ns (ls.drop c)=(s,k,0))(h:Agr (c+k) ls ls'):aT ns (ls'.drop c)=(s,k,0):=by
 have h1:=jg ns (ls.drop c);rw[hn]at h1;rcases h1 with⟨_,hs,hf,hk,_⟩ | ⟨h0,_⟩ | ⟨h0,_⟩
 ·simp only at hs hf hk;have e1:aE ns s=(ls'.drop c).take k:=by
   rw[h.part c k (Nat.le_refl _)];have:=(List.prefix_iff_eq_take.1 hf.2)
   rw[aq,<-hk]at this;exact this
  have e2:ls'.drop c=aE ns s++(ls'.drop c).drop k:=(by rw[e1,List.take_append_drop]);rw[e2,nV hp.ms hp.le hs hf.1 _ (λb jD=>hb b (List.mem_of_mem_drop (List.mem_of_mem_drop jD))),<-hk]
 ·simp at h0
 ·simp at h0
theorem sI(ns t m:List Nat)(h:(aT ns t).2.2=32):(aT ns (t++m)).2.2=32:=by
 have h1:=jg ns t;rcases h1 with⟨h0,_⟩ | ⟨h0,_⟩ | ⟨_,_,_,so,hnb⟩
 ·omega
 ·omega
 ·have:aT ns (t++m)=(0,0,32):=wK (.inr (.inr ⟨rfl,rfl,rfl,λs hs hf=>?_,λs hs hb=>?_⟩))
  ·rw[this]
  ·rcases List.prefix_or_prefix_of_prefix hf.2 (List.prefix_append t m)with h2 | h2
   ·exact so s hs ⟨hf.1,h2⟩
   ·exact hnb s hs ⟨hf.1,h2⟩
  ·exact hnb s hs ⟨hb.1,List.IsPrefix.trans (List.prefix_append t m) hb.2⟩
theorem lT(ns t:List Nat):(aT ns t).2.2=0\/(aT ns t).2.2=10\/(aT ns t).2.2=32:=by
 rcases jg ns t with h | h | h
 ·exact .inl h.1
 ·exact .inr (.inl h.1)
 ·exact .inr (.inr h.1)
theorem sD{ns ls ls':List Nat}(hp:Pf ns)(hb:∀b∈ls',b<2){c c':Nat}{x:Nat×Nat}(hs:dg ns ls c=.ok (x,c'))(h:Agr c' ls ls'):dg ns ls' c=.ok (x,c'):=by
 unfold dg at hs;split at hs
 ·cases hs
 ·rename_i h0;split at hs
  ·cases hs
  ·rename_i h1;simp only[Except.ok.injEq,Prod.mk.injEq]at hs;obtain⟨rfl,rfl⟩:=hs;have hn:aT ns (ls.drop c)=((aT ns (ls.drop c)).1,(aT ns (ls.drop c)).2.1,0):=by
    have:(aT ns (ls.drop c)).2.2=0:=Classical.not_not.1 h0;rw[<-this]
   have A5:=nU hp hb hn (h.less (Nat.le_add_right _ _));unfold dg;rw[A5];simp only;rw[if_neg (by simp),if_neg (by have:=h.le';omega),dN h _ _ (Nat.le_refl _)]
theorem DE{ns ls:List Nat}{c e:Nat}(hc:c<=ls.length)(hs:dg ns ls c=.error e)(he:e≠10)(m:List Nat):dg ns (ls++m) c=.error e:=by
 unfold dg at hs;split at hs
 ·rename_i h0;simp only[Except.error.injEq]at hs;have QH:(aT ns (ls.drop c)).2.2=32:=by rcases lT ns (ls.drop c)with h | h | h<;>omega
  have h2:=sI ns (ls.drop c) m QH;rw[<-List.drop_append_of_le_length hc]at h2;unfold dg;rw[h2,if_pos (by omega)];congr 1;omega
 ·split at hs
  ·simp only[Except.error.injEq]at hs;omega
  ·cases hs
theorem qC{ns ls:List Nat}{N f c c':Nat}{l m:List Nat}(h:bC ns ls N f l c=.ok (m,c'))(hc:c<=ls.length):c<=c'/\c'<=ls.length:=by
 induction f generalizing l c with
 | zero=>simp only[bC,Except.ok.injEq,Prod.mk.injEq]at h;omega
 | succ f ih=>
  unfold bC at h;split at h
  ·simp only[Except.ok.injEq,Prod.mk.injEq]at h;omega
  ·split at h
   ·cases h
   ·rename_i s c2 hs;have h1:=rH (s:=s.1) (x:=s.2) hs;have h2:=qz (s:=s.1) (x:=s.2) hs;split at h
    ·cases h
    ·have:=ih h h2;omega
theorem CH{ns ls ls':List Nat}(hp:Pf ns)(hb:∀b∈ls',b<2){N f c c':Nat}{l m:List Nat}(h:bC ns ls N f l c=.ok (m,c'))(hc:c<=ls.length)(ha:Agr c' ls ls'):bC ns ls' N f l c=.ok (m,c'):=by
 induction f generalizing l c with
 | zero=>simpa only[bC]using h
 | succ f ih=>
  unfold bC at h ⊢;split at h
  ·rename_i h1;rw[if_pos h1];exact h
  ·rename_i h1;rw[if_neg h1];split at h
   ·cases h
   ·rename_i s c2 hs;have h2:=qz (s:=s.1) (x:=s.2) hs;split at h
    ·cases h
    ·rename_i l2 hw;have h3:=qC h h2;rw[sD hp hb hs (ha.less h3.1)];simp only;rw[hw];exact ih h h2
theorem y8{ns ls:List Nat}(hp:Pf ns)(mo:List Nat)(hb:∀b∈ls++mo,b<2){N f c e:Nat}{l:List Nat}(h:bC ns ls N f l c=.error e)(he:e≠10)(hc:c<=ls.length):bC ns (ls++mo) N f l c=.error e:=by
 induction f generalizing l c with
 | zero=>simp[bC]at h
 | succ f ih=>
  unfold bC at h ⊢;split at h
  ·cases h
  ·rename_i h1;rw[if_neg h1];split at h
   ·rename_i e2 hs;simp only[Except.error.injEq]at h;subst h;rw[DE hc hs he mo]
   ·rename_i s c2 hs;have h2:=qz (s:=s.1) (x:=s.2) hs;rw[sD hp hb hs ((Agr.ext ls mo).less h2)];simp only;split at h
    ·exact h
    ·exact ih h h2
theorem ry{k:Nat}{ls ls':List Nat}(h:Agr k ls ls')(c i:Nat)(hi:c+3*i<=k):aM ls' c i=aM ls c i:=by
 induction i with
 | zero=>rfl
 | succ i ih=>rw[aM,aM,ih (by omega),dN h _ _ (by omega)]
theorem key_le{ns:List Nat}{b:Nat}(h:∀n∈ns,n<=b)(s:Nat):key ns s<=b:=Nat.le_trans (ja ns s) (xU ns b h)
theorem sH{ls:List Nat}(hb:∀b∈ls,b<2)(c i:Nat)(h:bw (aM ls c i)=0):Pf (aM ls c i):=by
 refine⟨?_,λs=>Nat.le_trans (key_le (nR ls hb c i) s) (by omega)⟩;unfold bw at h;split at h
 ·cases h
 ·omega
theorem rE{ls:List Nat}{a n:Nat}{x:List Nat×List Nat}(h:b8 ls a=.ok (x,n)):a+14<=a+n/\a+n<=ls.length:=by
 unfold b8 at h;split at h
 ·cases h
 ·split at h
  ·cases h
  ·split at h
   ·cases h
   ·rename_i h3;split at h
    ·cases h
    ·split at h
     ·cases h
     ·rename_i l c EN;simp only[Except.ok.injEq,Prod.mk.injEq]at h;have:=qC EN (by omega);omega
theorem tD{ls ls':List Nat}(hb:∀b∈ls,b<2)(jD:∀b∈ls',b<2){a n:Nat}{x:List Nat×List Nat}(h:b8 ls a=.ok (x,n))(ha:Agr (a+n) ls ls'):b8 ls' a=.ok (x,n):=by
 have h0:=rE h;unfold b8 at h;split at h
 ·cases h
 ·rename_i h1;split at h
  ·cases h
  ·rename_i h2;split at h
   ·cases h
   ·rename_i h3;split at h
    ·cases h
    ·rename_i h4;split at h
     ·cases h
     ·rename_i l c EN;simp only[Except.ok.injEq,Prod.mk.injEq]at h;obtain⟨rfl,hn⟩:=h;have h5:=qC EN (by omega);have tN:c=a+n:=(by omega);have l1:=ha.le';unfold b8;rw[dN ha a 5 (by omega),dN ha (a+5) 5 (by omega),dN ha (a+10) 4 (by omega),ry ha (a+14) _ (by omega),if_neg (by omega),if_neg h2,if_neg (by omega),if_neg h4,
       CH (sH hb _ _ (Classical.not_not.1 h4)) jD EN (by omega) (by rw[tN];exact ha)]
      simp only;rw[hn]
theorem zx{ls:List Nat}(mo:List Nat)(hb:∀b∈ls++mo,b<2){a e:Nat}(h:b8 ls a=.error e)(he:e≠10):b8 (ls++mo) a=.error e:=by
 have ha:=Agr.ext ls mo;unfold b8 at h;split at h
 ·simp only[Except.error.injEq]at h;omega
 ·rename_i h1;unfold b8;have l1:=ha.le';rw[dN ha a 5 (by omega),dN ha (a+5) 5 (by omega),dN ha (a+10) 4 (by omega),if_neg (by omega)];split at h
  ·rename_i h2;rw[if_pos h2];exact h
  ·rename_i h2;rw[if_neg h2];split at h
   ·simp only[Except.error.injEq]at h;omega
   ·rename_i h3;rw[if_neg (by omega),ry ha (a+14) _ (by omega)];split at h
    ·rename_i h4;rw[if_pos h4];exact h
    ·rename_i h4;rw[if_neg h4];split at h
     ·rename_i e2 EN;simp only[Except.error.injEq]at h;subst h;rw[y8 (sH (λb nL=>hb b (List.mem_append_left _ nL)) _ _ (Classical.not_not.1 h4)) mo hb EN he (by omega)]
     ·cases h
theorem Di{ls ls':List Nat}(hb:∀b∈ls,b<2)(jD:∀b∈ls',b<2){a n:Nat}{x:List Nat×List Nat}(h:ep ls a=.ok (x,n))(ha:Agr (a+n) ls ls'):ep ls' a=.ok (x,n):=by
 unfold ep at h ⊢;split at h
 ·cases h
 ·rename_i l d n2 hr;split at h
  ·cases h
  ·rename_i h1;simp only[Except.ok.injEq,Prod.mk.injEq]at h;obtain⟨rfl,rfl⟩:=h;rw[tD hb jD hr ha];simp only;rw[if_neg h1]
theorem ze{ls:List Nat}(mo:List Nat)(hb:∀b∈ls++mo,b<2){a e:Nat}(h:ep ls a=.error e)(he:e≠55):ep (ls++mo) a=.error e:=by
 have hb1:∀b∈ls,b<2:=λb nL=>hb b (List.mem_append_left _ nL)
 unfold ep at h;split at h
 ·rename_i e2 hr;simp only[Except.error.injEq]at h;have MX:e2≠10:=λIb=>by rw[if_pos Ib]at h;omega
  unfold ep;rw[zx mo hb hr MX];simp only;rw[h]
 ·rename_i l d n2 hr;split at h
  ·rename_i h1;unfold ep;rw[tD hb1 hb hr ((Agr.ext ls mo).less (rE hr).2)];simp only;rw[if_pos h1];exact h
  ·cases h
theorem Gz{ls:List Nat}{a n:Nat}{x:List Nat×List Nat}(h:ep ls a=.ok (x,n)):a+14<=a+n/\a+n<=ls.length:=by
 unfold ep at h;split at h
 ·cases h
 ·rename_i l d n2 hr;split at h
  ·cases h
  ·simp only[Except.ok.injEq,Prod.mk.injEq]at h;obtain⟨_,rfl⟩:=h;exact rE hr
end Go.Proofs.YtkhagfgineifhaaGreatDoor
