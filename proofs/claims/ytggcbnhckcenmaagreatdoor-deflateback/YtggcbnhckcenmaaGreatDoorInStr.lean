import Derived.Test.YtggcbnhckcenmaaGreatDoorInFd
import Derived.Test.YtggcbnhckcenmaaGreatDoorInPA
import Derived.Test.YtggcbnhckcenmaaGreatDoorInSh
namespace Go.Proofs.YtggcbnhckcenmaaGreatDoor
open Go.RowKit
theorem ends_behind{bs:List Nat}(cs:List Nat){most:Nat}{t:Ps}{e:Nat}(h:Ends (ofBytes bs) most ps0 t e)(he:e≠55):Ends (ofBytes (bs++cs)) most ps0 t e:=by
 rw[ofBytes_append]
 exact h.err (ofBytes_lt bs) (ofBytes cs) (ofBytes_lt cs) (ps0_ok _) (Nat.zero_le _) he

theorem ends_in{bs:List Nat}{most:Nat}{t:Ps}{e:Nat}(h:Ends (ofBytes bs) most ps0 t e):(t.c+7) / 8≤bs.length∧t.out.length≤most:=by
 have h1:=h.inv (ofBytes_lt bs) (ps0_ok _)
 have h2:=h1.1.le
 rw[ofBytes_length]at h2
 exact⟨by omega,h1.2.2.2 (Nat.zero_le _)⟩

theorem layP_pre{most:Nat}{out out':List Nat}{t:Tok}(h:layP most out t=.ok out'):∃r,out'=out++r:=by
 have hcp:∀(far n:Nat) (o:List Nat),∃r,cpL far n o=o++r:=fun far n=>by
  induction n with
  | zero=>exact fun o=>⟨[],by simp[cpL]⟩
  | succ n ih=>
   intro o
   obtain⟨r,hr⟩:=ih (o++[o.getD (o.length-far) 0])
   exact⟨o.getD (o.length-far) 0::r,by rw[cpL,hr,List.append_assoc];rfl⟩
 cases t with
 | fin=>simp only[layP,Except.ok.injEq]at h;exact⟨[],by simp[h]⟩
 | byte b=>
  simp only[layP]at h
  split at h
  ·cases h
  ·simp only[Except.ok.injEq]at h;exact⟨[b],h.symm⟩
 | copy n far=>
  simp only[layP]at h
  split at h
  ·cases h
  ·split at h
   ·cases h
   ·simp only[Except.ok.injEq]at h
    obtain⟨r,hr⟩:=hcp far n out
    exact⟨r,by rw[←h,hr]⟩

theorem stP_pre{ls:List Nat}{most:Nat}{s t:Ps}{d:Bool}(h:stP ls most s=.ok (t,d)):∃r,t.out=s.out++r:=by
 cases hbk:s.bk with
 | none=>
  cases hg:begP ls s.c with
  | error e=>rw[stP_none_err hbk hg]at h;cases h
  | ok x=>
   rw[stP_none_ok (b:=x.1) (c:=x.2) hbk hg]at h
   simp only[Except.ok.injEq,Prod.mk.injEq]at h
   obtain⟨rfl,_⟩:=h
   exact⟨[],by simp⟩
 | some b=>
  cases hst:stepP ls b s.c with
  | error e=>rw[stP_some_err hbk hst]at h;cases h
  | ok x=>
   obtain⟨⟨tk,b'⟩,c⟩:=x
   rw[stP_some_ok hbk hst]at h
   rcases goP_cases h with⟨_,_,h⟩ | ⟨_,_,h⟩ | ⟨_,⟨e,_,h⟩ | ⟨o,hl,h⟩⟩
   ·simp only[Except.ok.injEq,Prod.mk.injEq]at h;obtain⟨rfl,_⟩:=h;exact⟨[],by simp⟩
   ·simp only[Except.ok.injEq,Prod.mk.injEq]at h;obtain⟨rfl,_⟩:=h;exact⟨[],by simp⟩
   ·cases h
   ·simp only[Except.ok.injEq,Prod.mk.injEq]at h;obtain⟨rfl,_⟩:=h;exact layP_pre hl

theorem Ends.pre{ls:List Nat}{most:Nat}{s t:Ps}{e:Nat}(h:Ends ls most s t e):∃r,t.out=s.out++r:=by
 induction h with
 | stop h=>exact⟨[],by simp⟩
 | done h=>exact stP_pre h
 | step h _ ih=>
  obtain⟨r,hr⟩:=stP_pre h
  obtain⟨q,hq⟩:=ih
  exact⟨r++q,by rw[hq,hr,List.append_assoc]⟩

theorem Ends.all{ls:List Nat}{most:Nat}{s t:Ps}{e:Nat}(h:Ends ls most s t e):s.out++t.out.drop s.out.length=t.out:=by
 obtain⟨r,hr⟩:=h.pre
 rw[hr,List.drop_left]

theorem SI.clean{w:World}{ρ:Part}{h most e:Nat}{va:Value}{bs:List Nat}{cur:Ps}{vl bv:Value}(s:SI w ρ h most e va bs cur vl bv):∃ρ':Part,SI w ρ' h most e va bs cur vl bv∧(∀j,ρ' j=10→j=0)∧(∀j,ρ j≠10→ρ' j=ρ j)∧(∀j,ρ' j=0∨ρ' j=ρ j):=by
 obtain⟨ρ',hρ⟩:∃ρ':Part,ρ'=fun j=>if ρ j=10∧j≠0 then 0 else ρ j:=⟨_,rfl⟩
 have hq:∀j,ρ j≠10→ρ' j=ρ j:=fun j hj=>by rw[hρ];simp only;rw[if_neg (fun f=>hj f.1)]
 have hg:ρ' 0=10:=by rw[hρ];simp only;rw[if_neg (fun f=>f.2 rfl)];exact s.r10
 have h10:∀j,ρ' j=10→j=0:=fun j hj=>Classical.byContradiction (fun hc=>by
  by_cases hj2:ρ j=10
  ·rw[hρ]at hj;simp only at hj;rw[if_pos ⟨hj2,hc⟩]at hj;cases hj
  ·rw[hq j hj2]at hj;exact hj2 hj)
 have h0:∀j,ρ' j=0∨ρ' j=ρ j:=fun j=>by
  by_cases hj2:ρ j=10∧j≠0
  ·exact .inl (by rw[hρ];simp only;rw[if_pos hj2])
  ·exact .inr (by rw[hρ];simp only;rw[if_neg hj2])
 refine⟨ρ',⟨s.sm,s.row,s.ol,s.mo,?_,s.ok,s.ah,s.by',s.tab,?_,fun k e=>?_,fun k e=>?_,hg,fun j hj=>s.lt j ?_⟩,h10,hq,h0⟩
 ·have hb:=s.bk
  cases hc:cur.bk with
  | none=>rw[hc]at hb;exact hb
  | some k=>
   rw[hc]at hb
   obtain⟨b,h1,h2,h3⟩:=hb
   exact⟨b,h1,h2.less (fun j hj=>by rw[hq j (by omega)];exact hj),by rw[hq b (by omega)];exact h3⟩
 ·have:=s.r1;rw[hq h (by omega)];exact this
 ·have:=s.r2 k e;rw[hq k (by omega)];exact this
 ·have:=s.r9 k e;rw[hq k (by omega)];exact this
 ·rcases h0 j with h | h
  ·exact absurd h hj
  ·rw[←h];exact hj

inductive StI(N:Nat)(w:World)(h most:Nat)(P:List Nat)(t:Ps)(er:Nat)(F:Nat→Prop):Prop
 | wait (ρ:Part) (va vl bv:Value) (he:Ends (ofBytes P) most ps0 t er) (h5:er=55) (hs:SI w ρ h most 55 va (P.drop (t.c / 8)) ⟨t.c % 8,t.out,t.bk⟩ vl bv) (hn:∀j,ρ j=0∨own5 (ρ j)) (h10:∀j,ρ j=10→j=0) (hF:∀j,F j↔ρ j≠0∧ρ j≠10) (hN:∀j,F j→N≤j) (hb:∀b∈P,b<256) (hT:Tab w)
 | done (va:Value) (he:Ends (ofBytes P) most ps0 t er) (h0:er=0) (hs:Sm w h 0 (.slice none 0 0) (.pointer none) va 0 0) (ha:Row w va (P.drop ((t.c+7) / 8))) (hne:va.ownBlock≠some h) (hF:∀j,F j↔j=h∨va.ownBlock=some j) (hN:∀j,F j→N≤j) (hb:∀b∈P,b<256) (hT:Tab w)
 | fail (he:Ends (ofBytes P) most ps0 t er) (h0:er≠0) (h5:er≠55) (hs:Sm w h 0 (.slice none 0 0) (.pointer none) (.slice none 0 0) 0 er) (hF:∀j,F j↔j=h) (hN:∀j,F j→N≤j) (hb:∀b∈P,b<256) (hT:Tab w)

section
variable {N:Nat} {w:World} {h most:Nat} {P:List Nat} {t:Ps} {er:Nat} {F:Nat→Prop}

theorem StI.ends(s:StI N w h most P t er F):Ends (ofBytes P) most ps0 t er:=by cases s<;>assumption
theorem StI.from'(s:StI N w h most P t er F):∀j,F j→N≤j:=by cases s<;>assumption
theorem StI.bytes(s:StI N w h most P t er F):∀b∈P,b<256:=by cases s<;>assumption
theorem StI.tab(s:StI N w h most P t er F):Tab w:=by cases s<;>assumption
theorem StI.lt(s:StI N w h most P t er F):∀j,F j→j<w.heap.size:=by
 intro j hj
 cases s with
 | wait ρ va vl bv he h5 hs hn h10 hF hN hb hT=>exact hs.lt j ((hF j).1 hj).1
 | done va he h0 hs ha hne hF hN hb hT=>
  rcases(hF j).1 hj with rfl | e
  ·exact hs.lt
  ·exact ha.lt e
 | fail he h0 h5 hs hF hN hb hT=>rw[(hF j).1 hj];exact hs.lt

theorem StI.obj(s:StI N w h most P t er F):∃m vl bv va g,Sm w h m vl bv va g er:=by
 cases s with
 | wait ρ va vl bv he h5 hs hn h10 hF hN hb hT=>rw[h5];exact⟨_,_,_,_,_,hs.sm⟩
 | done va he h0 hs ha hne hF hN hb hT=>rw[h0];exact⟨_,_,_,_,_,hs⟩
 | fail he h0 h5 hs hF hN hb hT=>exact⟨_,_,_,_,_,hs⟩

theorem StI.kept{G:Nat→Prop}{w':World}(s:StI N w h most P t er F)(hk:Kept G w w')(hG:∀j,F j→¬G j)(hg:¬G 0):StI N w' h most P t er F:=by
 cases s with
 | wait ρ va vl bv he h5 hs hn h10 hF hN hb hT=>
  refine .wait ρ va vl bv he h5 (hs.kept hk (fun j hj=>?_)) hn h10 hF hN hb (hT.kept hk hg)
  by_cases e10:ρ j=10
  ·rw[h10 j e10];exact hg
  ·exact hG j ((hF j).2 ⟨by unfold own5 at hj;omega,e10⟩)
 | done va he h0 hs ha hne hF hN hb hT=>
  exact .done va he h0 (hs.kept hk (hG h ((hF h).2 (.inl rfl)))) (ha.kept hk (fun k e=>hG k ((hF k).2 (.inr e)))) hne hF hN hb (hT.kept hk hg)
 | fail he h0 h5 hs hF hN hb hT=>
  exact .fail he h0 h5 (hs.kept hk (hG h ((hF h).2 rfl))) hF hN hb (hT.kept hk hg)

theorem StI.size(s:StI N w h most P t er F):N≤w.heap.size∧F h∧h<w.heap.size:=by
 have hh:F h:=by
  cases s with
  | wait ρ va vl bv he h5 hs hn h10 hF hN hb hT=>exact(hF h).2 (by rw[hs.r1];decide)
  | done va he h0 hs ha hne hF hN hb hT=>exact(hF h).2 (.inl rfl)
  | fail he h0 h5 hs hF hN hb hT=>exact(hF h).2 rfl
 have h1:=s.from' h hh
 have h2:=s.lt h hh
 exact⟨by omega,hh,h2⟩

end

theorem StI.new(w w':World)(most:Nat)(hm:most≤16384)(hs:Sm w' w.heap.size most (.slice none 0 0) (.pointer none) (.slice none 0 0) 0 55)(hT:Tab w)(hk:Same w w'):∃F,StI w.heap.size w' w.heap.size most [] ps0 55 F:=by
 have hl:=hT.lt
 have hT':=hT.kept hk (fun f=>f)
 obtain⟨ρ,hsi,hn,h4,hz⟩:=SI.init w' w.heap.size most hs hm hT' (by omega)
 refine⟨fun j=>ρ j≠0∧ρ j≠10,.wait ρ _ _ _ ?_ rfl hsi hn (fun j hj=>?_) (fun j=>Iff.rfl) (fun j hj=>?_) (fun b hb=>by simp at hb) hT'⟩
 ·refine .stop (stP_none_err rfl ?_)
  exact bindP_no (tkP_end (by decide))
 ·refine Classical.byContradiction (fun hc=>?_)
  by_cases hjh:j=w.heap.size
  ·rw[hjh,hsi.r1]at hj;cases hj
  ·rw[hz j hjh hc]at hj;cases hj
 ·by_cases hjh:j=w.heap.size
  ·omega
  ·by_cases hjo:j=0
   ·rw[hjo]at hj;exact absurd hsi.r10 hj.2
   ·exact absurd (hz j hjh hjo) hj.1

structure FedA(N:Nat)(w w':World)(h most:Nat)(P:List Nat)(t:Ps)(F:Nat→Prop)(x:Ending)(u:Value)(t':Ps)(er':Nat)(F':Nat→Prop):Prop where
 ret:x=.returned (.tuple #[u,.int .i64 ((if er'=55 then 0 else er':Nat):Int)])
 st:StI N w' h most P t' er' F'
 row:Row w' u (if er'=0∨er'=55 then t'.out.drop t.out.length else [])
 new:∀k,u.ownBlock=some k→w.heap.size≤k∧¬F' k
 kept:Kept F w w'
 old:∀j,j<w.heap.size→F' j→F j
 all:er'=0∨er'=55→t.out++t'.out.drop t.out.length=t'.out

theorem stI_feed{N:Nat}(w:World)(h most:Nat)(P:List Nat)(t:Ps)(er:Nat)(F:Nat→Prop)(s:StI N w h most P t er F)(v:Value)(I:Nat→Prop)(cs:List Nat)(hv:Src w I v cs)(hb:∀b∈cs,b<256)(hnil:∀n c,v=.slice none n c→n=0∧c=0)(hlen:P.length+cs.length≤2000000)(hO:0<N):
  Calls Tryz.prog 29 #[.pointer (some ⟨h,0,none⟩),v] w fun x w'=>∃u t' er' F',FedA N w w' h most (P++cs) t F x u t' er' F':=by
 have hsz:=s.size
 have hbb:∀b∈P++cs,b<256:=fun b hx=>by
  rcases List.mem_append.1 hx with h | h
  ·exact s.bytes b h
  ·exact hb b h
 cases s with
 | wait ρ va vl bv he h5 hs hn h10 hF hN hbP hT=>
  subst h5
  have hin:=(he.inv (ofBytes_lt P) (ps0_ok _)).1.le
  rw[ofBytes_length]at hin
  refine(pfeed_wait w ρ h most va _ _ vl bv hs hn (show t.c % 8≤7 by omega) v I cs hv hb hnil (by rw[List.length_drop];omega)).mono ?_
  rintro x w' hf
  have hKF:∀{w2},Kept (fun j=>own4 (ρ j)) w w2→Kept F w w2:=fun hk=>hk.mono (fun j _ f=>(hF j).2 (by unfold own4 at f;omega))
  have hdrop:∀k,(P.drop (t.c / 8)++cs).drop k=(P++cs).drop (t.c / 8+k):=fun k=>by
   have e9:(P++cs).drop (t.c / 8)=P.drop (t.c / 8)++cs:=List.drop_append_of_le_length (by omega)
   rw[←e9,List.drop_drop]
  have hNw:∀j,w.heap.size≤j→N≤j:=fun j hj=>by omega
  cases hf with
  | done u v' va' he' hx hr hv' hs' ha hav hvh hk=>
   have hE:=he.goes he'
   refine⟨v',shS (t.c / 8*8) u,0,fun j=>j=h∨va'.ownBlock=some j,hx,.done va' hE rfl hs' ?_ (fun e=>?_) (fun j=>Iff.rfl) (fun j hj=>?_) hbb ?_,?_,fun k e=>⟨hv' k e,fun f=>?_⟩,hKF hk,fun j hj f=>?_,fun _=>?_⟩
   ·rw[hdrop,show t.c / 8+(u.c+7) / 8=(t.c / 8*8+u.c+7) / 8 by omega]at ha
    exact ha
   ·have:=(hav h e).1;omega
   ·rcases hj with rfl | e
    ·exact hN _ hsz.2.1
    ·exact hNw j (hav j e).1
   ·exact hT.kept hk (fun f=>by have:=hs.r10;unfold own4 at f;omega)
   ·rw[if_pos (.inl rfl)];exact hr
   ·rcases f with rfl | e2
    ·exact hvh e
    ·exact(hav k e2).2 e
   ·rcases f with rfl | e2
    ·exact hsz.2.1
    ·have:=(hav j e2).1;omega
   ·exact he'.all
  | wait u v' va' ρ' vl' bv' he' hx hr hv' hs' hn' ho hk=>
   have hE:=he.goes he'
   obtain⟨ρ2,hs2,c10,cq,c0⟩:=hs'.clean
   have hqe:t.c / 8*8+u.c=(shS (t.c / 8*8) u).c:=rfl
   refine⟨v',shS (t.c / 8*8) u,55,fun j=>ρ2 j≠0∧ρ2 j≠10,hx,.wait ρ2 va' vl' bv' hE rfl ?_ (fun j=>?_) c10 (fun j=>Iff.rfl) (fun j hj=>?_) hbb hs'.tab,?_,fun k e=>⟨(hv' k e).1,fun f=>?_⟩,hKF hk,fun j hj f=>?_,fun _=>?_⟩
   ·rw[hdrop,show t.c / 8+u.c / 8=(t.c / 8*8+u.c) / 8 by omega]at hs2
    have e8:u.c % 8=(t.c / 8*8+u.c) % 8:=by omega
    rw[e8]at hs2
    exact hs2
   ·rcases c0 j with h1 | h1
    ·exact .inl h1
    ·rw[h1];exact hn' j
   ·by_cases hjw:j<w.heap.size
    ·rcases c0 j with h1 | h1
     ·exact absurd h1 hj.1
     ·rw[h1,ho j hjw]at hj;exact hN j ((hF j).2 hj)
    ·exact hNw j (by omega)
   ·rw[if_pos (.inr rfl)];exact hr
   ·rcases c0 k with h1 | h1
    ·exact f.1 h1
    ·rw[h1,(hv' k e).2]at f;exact f.1 rfl
   ·rcases c0 j with h1 | h1
    ·exact absurd h1 f.1
    ·rw[h1,ho j hj]at f;exact(hF j).2 f
   ·exact he'.all
  | fail u er' he' h0 h5 hx hs' hk=>
   have hE:=he.goes he'
   refine⟨.slice none 0 0,shS (t.c / 8*8) u,er',fun j=>j=h,?_,.fail hE h0 h5 hs' (fun j=>Iff.rfl) (fun j hj=>?_) hbb ?_,?_,fun k e=>(by cases e),hKF hk,fun j hj f=>?_,fun h9=>absurd h9 (by omega)⟩
   ·rw[if_neg h5];exact hx
   ·rw[hj];exact hN _ hsz.2.1
   ·exact hT.kept hk (fun f=>by have:=hs.r10;unfold own4 at f;omega)
   ·rw[if_neg (by omega)];exact World.ownsRow_nil w' 0 5 1
   ·rw[f];exact hsz.2.1
 | done va he h0 hs ha hne hF hN hbP hT=>
  subst h0
  have hin:=ends_in he
  refine(pfeed_done w h va _ hs ha hne v I cs hv hnil (by rw[List.length_drop];omega)).mono ?_
  rintro x w' ⟨hx,va',hs',ha',hne',hown,hk⟩
  have hkF:Kept F w w':=hk.mono (fun j _ f=>(hF j).2 f)
  have hgo:¬(0=h∨va.ownBlock=some 0):=fun f=>by have h1:=hN _ ((hF _).2 f);omega
  refine⟨.slice none 0 0,t,0,fun j=>j=h∨va'.ownBlock=some j,hx,.done va' (ends_behind cs he (by decide)) rfl hs' ?_ hne' (fun j=>Iff.rfl) (fun j hj=>?_) hbb (hT.kept hk hgo),?_,fun k e=>(by cases e),hkF,fun j hj f=>?_,fun _=>?_⟩
  ·rw[List.drop_append_of_le_length hin.1];exact ha'
  ·rcases hj with rfl | e
   ·exact hN _ hsz.2.1
   ·rcases hown with h1 | h1
    ·rw[h1]at e;exact hN j ((hF j).2 (.inr e))
    ·rw[h1]at e;injection e with e;omega
  ·rw[if_pos (.inl rfl),List.drop_length];exact World.ownsRow_nil w' 0 5 1
  ·rcases f with rfl | e
   ·exact hsz.2.1
   ·rcases hown with h1 | h1
    ·rw[h1]at e;exact(hF j).2 (.inr e)
    ·rw[h1]at e;injection e with e;omega
  ·rw[List.drop_length,List.append_nil]
 | fail he h0 h5 hs hF hN hbP hT=>
  refine(pfeed_failed w h 0 _ _ _ 0 er hs h0 h5 v).mono ?_
  rintro x w' ⟨hx,hk⟩
  refine⟨.slice none 0 0,t,er,F,?_,.fail (ends_behind cs he h5) h0 h5 (hs.kept hk (fun f=>f)) hF hN hbb (hT.kept hk (fun f=>f)),?_,fun k e=>(by cases e),hk.mono (fun _ _ f=>f.elim),fun _ _ f=>f,fun h9=>absurd h9 (by omega)⟩
  ·rw[if_neg h5];exact hx
  ·rw[if_neg (by omega)];exact World.ownsRow_nil w' 0 5 1

end Go.Proofs.YtggcbnhckcenmaaGreatDoor
