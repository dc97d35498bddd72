import Derived.Test.YtkhagfgineifhaaGreatDoorInPy
namespace Go.Proofs.YtkhagfgineifhaaGreatDoor
open Go.RowKit
abbrev bP:=Nat->Nat
def bkIn(w:World)(ρ:bP)(bv:Value):Option Bk->Prop
 | none=>bv=.pointer none
 | some k=>∃b,bv=.pointer (some ⟨b,0,none⟩)/\BkP w b (λj=>ρ j=4) k/\ρ b=3
theorem bkIn.kept{F:Nat->Prop}{w w':World}{ρ:bP}{bv:Value}{k:Option Bk}(h:bkIn w ρ bv k)(hk:Kept F w w')(hF:∀j,ρ j=3\/ρ j=4->¬F j):bkIn w' ρ bv k:=by
 cases k with
 | none=>exact h
 | some k=>
  obtain⟨b,h1,h2,h3⟩:=h;exact⟨b,h1,h2.kept hk (λj hj=>hF j (.inr hj)) (hF b (.inl h3)),h3⟩
theorem bkIn.turn{w:World}{ρ ρ':bP}{bv:Value}{k:Option Bk}(h:bkIn w ρ bv k)(hρ:∀j,ρ j≠0->ρ' j=ρ j):bkIn w ρ' bv k:=by
 cases k with
 | none=>exact h
 | some k=>
  obtain⟨b,h1,h2,h3⟩:=h;exact⟨b,h1,h2.less (λj hj=>by rw[hρ j (by omega)];exact hj),by rw[hρ b (by omega)];exact h3⟩
structure SI(w:World)(ρ:bP)(h most e:Nat)(va:Value)(bs:List Nat)(cur:Ps)(vl bv:Value):Prop where
 sm:Sm w h most vl bv va cur.c e
 row:Row w vl cur.out
 ol:cur.out.length<=most
 mo:most<=16384
 bk:bkIn w ρ bv cur.bk
 ok:tW (ae bs) cur
 ah:Row w va bs
 by':∀b∈bs,b<256
 tab:Tab w
 r1:ρ h=1
 r2:∀k,vl.ownBlock=some k->ρ k=2
 r9:∀k,va.ownBlock=some k->ρ k=9
 r10:ρ 0=10
 lt:∀j,ρ j≠0->j<w.heap.size
def de(n:Nat):Prop:=n=1\/n=2\/n=3\/n=4\/n=9\/n=10
theorem SI.kept{F:Nat->Prop}{w w':World}{ρ:bP}{h most e:Nat}{va:Value}{bs:List Nat}{cur:Ps}{vl bv:Value}(s:SI w ρ h most e va bs cur vl bv)(hk:Kept F w w')(hF:∀j,de (ρ j)->¬F j):SI w' ρ h most e va bs cur vl bv:=
 ⟨s.sm.kept hk (hF h (.inl s.r1)),s.row.kept hk (λk e=>hF k (.inr (.inl (s.r2 k e)))),s.ol,s.mo,s.bk.kept hk (λj hj=>hF j (by unfold de;omega)),s.ok,s.ah.kept hk (λk e=>hF k (by have:=s.r9 k e;unfold de;omega)),s.by',
  s.tab.kept hk (hF _ (by have:=s.r10;unfold de;omega)),s.r1,s.r2,s.r9,s.r10,λj hj=>Nat.lt_of_lt_of_le (s.lt j hj) hk.size⟩
theorem SI.turn{w:World}{ρ ρ':bP}{h most e:Nat}{va:Value}{bs:List Nat}{cur:Ps}{vl bv:Value}(s:SI w ρ h most e va bs cur vl bv)(hρ:∀j,de (ρ j)->ρ' j=ρ j)(hl:∀j,ρ' j≠0->j<w.heap.size):SI w ρ' h most e va bs cur vl bv:=by
 refine⟨s.sm,s.row,s.ol,s.mo,?_,s.ok,s.ah,s.by',s.tab,?_,λk e=>?_,λk e=>?_,?_,hl⟩
 ·have hb:=s.bk;cases hc:cur.bk with
  | none=>rw[hc]at hb;exact hb
  | some k=>
   rw[hc]at hb;obtain⟨b,h1,h2,h3⟩:=hb;exact⟨b,h1,h2.less (λj hj=>by rw[hρ j (by unfold de;omega)];exact hj),by rw[hρ b (by unfold de;omega)];exact h3⟩
 ·rw[hρ h (.inl s.r1)];exact s.r1
 ·have:=s.r2 k e;rw[hρ k (.inr (.inl this))];exact this
 ·have:=s.r9 k e;rw[hρ k (by unfold de;omega)];exact this
 ·have:=s.r10;rw[hρ _ (by unfold de;omega)];exact this
theorem SI.len{w:World}{ρ:bP}{h most e:Nat}{va:Value}{bs:List Nat}{cur:Ps}{vl bv:Value}(s:SI w ρ h most e va bs cur vl bv):cur.c<=8*bs.length:=by have:=s.ok.le;rwa [aB]at this
theorem SI.neh{w:World}{ρ:bP}{h most e:Nat}{va:Value}{bs:List Nat}{cur:Ps}{vl bv:Value}(s:SI w ρ h most e va bs cur vl bv):vl.ownBlock≠some h:=λe1=>by have:=s.r2 h e1;rw[s.r1]at this;cases this
structure RI(w0 w:World)(ρ0 ρ:bP)(h r bx fx:Nat)(sr:Value)(most e:Nat)(va:Value)(bs:List Nat)(cur:Ps)(vl bv:Value):Prop where
 si:SI w ρ h most e va bs cur vl bv
 st:St w r sr bs cur.c
 onc:Onc w bx fx (λj=>ρ j=4)
 r5:ρ r=5
 r6:∀k,sr.ownBlock=some k->ρ k=6
 r7:ρ bx=7
 r8:ρ fx=8
 old:∀j,j<w0.heap.size->ρ j=ρ0 j
 kp:Kept (λj=>ρ0 j=1\/ρ0 j=2\/ρ0 j=3) w0 w
 n0:∀j,j<w0.heap.size->ρ0 j=0\/de (ρ0 j)
theorem RI.fp{w0 w:World}{ρ0 ρ:bP}{h r bx fx:Nat}{sr:Value}{most e:Nat}{va:Value}{bs:List Nat}{cur:Ps}{vl bv:Value}(x:RI w0 w ρ0 ρ h r bx fx sr most e va bs cur vl bv){j:Nat}(hj:Fp r sr j):ρ j=5\/ρ j=6:=by
 rcases hj with rfl | hj
 ·exact .inl x.r5
 ·exact .inr (x.r6 j hj)
theorem RI.bx{w0 w:World}{ρ0 ρ:bP}{h r bx fx:Nat}{sr:Value}{most e:Nat}{va:Value}{bs:List Nat}{cur:Ps}{vl bv:Value}(x:RI w0 w ρ0 ρ h r bx fx sr most e va bs cur vl bv):Bx w r sr bx fx (λj=>ρ j=4):=by
 refine⟨x.onc,λj hj=>x.si.lt j (by omega),λj hj=>⟨λhf=>by have:=x.fp hf;omega,λe1=>?_⟩,λe1=>?_,λhf=>?_,λhf=>?_,λe1=>?_,λe1=>?_,x.si.tab⟩
 ·have:=x.r7;rw[<-e1]at this;omega
 ·have h7:=x.r7;have h8:=x.r8;rw[e1]at h7;omega
 ·have:=x.fp hf;have:=x.r7;omega
 ·have:=x.fp hf;have:=x.r8;omega
 ·have h7:=x.r7;have:=x.si.r10;rw[e1]at h7;omega
 ·have h5:=x.r5;have:=x.si.r10;rw[e1]at h5;omega
theorem RI.goes{w0 w w':World}{ρ0 ρ:bP}{h r bx fx:Nat}{sr:Value}{most e:Nat}{va:Value}{bs:List Nat}{cur:Ps}{vl bv:Value}(x:RI w0 w ρ0 ρ h r bx fx sr most e va bs cur vl bv){F:Nat→Prop}(hk:Kept F w w')(hF:∀j,F j→j<w0.heap.size→ρ j=1∨ρ j=2∨ρ j=3∨(5≤ρ j∧ρ j≤8)):
  Kept (λj=>ρ0 j=1\/ρ0 j=2\/ρ0 j=3) w0 w':=by
 refine Kept.trans x.kp hk (λ_ _ f=>f) (λj hj f=>?_);have h1:=x.old j hj;have h2:=hF j f hj;have h3:=x.n0 j hj;unfold de at h3;omega
theorem yf(ρ:bP)(N N':Nat)(P2 P3 P4:Nat->Prop):∃ρ':bP,(∀j,j<N->ρ' j=ρ j)/\(∀j,N<=j->j<N'->P2 j->ρ' j=2)/\(∀j,N<=j->j<N'->¬P2 j->P3 j->ρ' j=3)/\(∀j,N<=j->j<N'->¬P2 j->¬P3 j->P4 j->ρ' j=4)/\(∀j,N<=j->ρ' j≠0->j<N'):=by
 classical
 refine⟨λj=>if j<N then ρ j else if j<N' then(if P2 j then 2 else if P3 j then 3 else if P4 j then 4 else 0)else 0,λj hj=>?_,λj h1 h2 h3=>?_,λj h1 h2 h3 h4=>?_,λj h1 h2 h3 h4 h5=>?_,λj h1 h2=>?_⟩
 ·simp[hj]
 ·simp[Nat.not_lt.2 h1,h2,h3]
 ·simp[Nat.not_lt.2 h1,h2,h3,h4]
 ·simp[Nat.not_lt.2 h1,h2,h3,h4,h5]
 ·refine Classical.byContradiction (λhc=>h2 ?_);simp[Nat.not_lt.2 h1,hc]
theorem Sm.two{w:World}{h most:Nat}{vl bv va:Value}{gone e:Nat}(s:Sm w h most vl bv va gone e)(u:Value):Sm (w.setCell ⟨h,2,none⟩ u) h most vl u va gone e:=by have:=s.set 2 u;simpa using this
theorem Sm.four{w:World}{h most:Nat}{vl bv va:Value}{gone e:Nat}(s:Sm w h most vl bv va gone e)(c:Nat):Sm (w.setCell ⟨h,4,none⟩ (.int .i64 (c:Nat))) h most vl bv va c e:=by have:=s.set 4 (.int .i64 (c:Nat));simpa using this
theorem RI.same{w0 w w':World}{ρ0 ρ:bP}{h r bx fx:Nat}{sr:Value}{most e:Nat}{va:Value}{bs:List Nat}{cur:Ps}{vl bv:Value}(x:RI w0 w ρ0 ρ h r bx fx sr most e va bs cur vl bv)(hk:Same w w'):RI w0 w' ρ0 ρ h r bx fx sr most e va bs cur vl bv:=
 ⟨x.si.kept hk (λ_ _ f=>f),x.st.kept hk (λ_ _ f=>f),x.onc.kept hk (λ_ _ f=>f) (λf=>f) (λf=>f),x.r5,x.r6,x.r7,x.r8,x.old,Kept.trans x.kp hk (λ_ _ f=>f) (λ_ _ f=>f.elim),x.n0⟩
theorem RI.begun{w0 w w1:World}{ρ0 ρ:bP}{h r bx fx:Nat}{sr:Value}{most e:Nat}{va:Value}{bs:List Nat}{cur:Ps}{vl bv:Value}(x:RI w0 w ρ0 ρ h r bx fx sr most e va bs cur vl bv)
  {b c:Nat} {O':Nat->Prop} {k:Bk} (hB:BkP w1 b O' k) (hb:w.heap.size<=b) (hnb:¬O' b) (hon:Onc w1 bx fx O') (mp:∀j,O' j->ρ j=4\/Cd w.heap.size w1.heap.size j) (hst:St w1 r sr bs c) (hk:Kept (λj=>j=r\/j=bx) w w1)
  (hok:tW (ae bs) ⟨c,cur.out,some k⟩):
  ∃ρ',RI w0 ((w1.setCell ⟨h,2,none⟩ (.pointer (some ⟨b,0,none⟩))).setCell ⟨h,4,none⟩ (.int .i64 (c:Nat))) ρ0 ρ' h r bx fx sr most e va bs ⟨c,cur.out,some k⟩ vl (.pointer (some ⟨b,0,none⟩)):=by
 obtain⟨ρ',hold,_,h3,h4,hlt⟩:=yf ρ w.heap.size w1.heap.size (λ_=>False) (λj=>j=b) O';have hbl:=hB.lt;have hs:=x.si;have hρ:∀j,ρ j≠0->ρ' j=ρ j:=λj hj=>hold j (hs.lt j hj)
 have hk2:Kept (·=h) w1 ((w1.setCell ⟨h,2,none⟩ (.pointer (some ⟨b,0,none⟩))).setCell ⟨h,4,none⟩ (.int .i64 (c:Nat))):=((Kept.refl (·=h) w1).setCell ⟨h,2,none⟩ _ (.inl rfl)).setCell ⟨h,4,none⟩ _ (.inl rfl);have Jl:h<w.heap.size:=hs.lt h (by rw[hs.r1];decide);have Ug:∀j,O' j->ρ' j=4:=λj hj=>by
  rcases mp j hj with h1 | h1
  ·rw[hρ j (by omega)];exact h1
  ·exact h4 j h1.1 h1.2 (λf=>f) (λe1=>hnb (by rw[<-e1];exact hj)) hj
 have VA:∀j,de (ρ j)->¬(j=r\/j=bx):=λj hj e1=>by
  unfold de at hj;rcases e1 with rfl | rfl
  ·have:=x.r5;omega
  ·have:=x.r7;omega
 have hsi1:SI w1 ρ h most e va bs cur vl bv:=hs.kept hk VA;have bm:∀j,ρ' j≠1->j≠h:=λj hj e1=>hj (by rw[e1,hρ h (by rw[hs.r1];decide)];exact hs.r1)
 refine⟨ρ',⟨(hsi1.sm.two _).four c,hs.row.kept (Kept.trans (H:=fun j=>j=r∨j=bx∨j=h) hk hk2 (fun _ _ f=>by rcases f with f | f;exact .inl f;exact .inr (.inl f)) (fun _ _ f=>.inr (.inr f))) (fun j hj f=>?_),hs.ol,hs.mo,⟨b,rfl,(hB.less Ug).kept hk2 (fun j hj=>bm j (by omega)) (bm b (by rw[h3 b hb hbl (fun f=>f) rfl];decide)),h3 b hb hbl (fun f=>f) rfl⟩,hok,
   hsi1.ah.kept hk2 (λj hj e1=>?_),hs.by',hsi1.tab.kept hk2 (λe1=>?_),?_,λj hj=>?_,λj hj=>?_,?_,λj hj=>?_⟩,hst.kept hk2 (λj hj e1=>?_),(hon.less Ug).kept hk2 (λj hj=>bm j (by omega)) (λe1=>?_) (λe1=>?_),?_,λj hj=>?_,?_,?_,λj hj=>?_,?_,x.n0⟩
 ·have:=hs.r2 j hj;rcases f with rfl | rfl | rfl
  ·have:=x.r5;omega
  ·have:=x.r7;omega
  ·have:=hs.r1;omega
 ·have:=hs.r9 j hj;rw[e1,hs.r1]at this;cases this
 ·have:=hs.r10;rw[e1,hs.r1]at this;cases this
 ·rw[hρ h (by rw[hs.r1];decide)];exact hs.r1
 ·have:=hs.r2 j hj;rw[hρ j (by omega)];exact this
 ·have:=hs.r9 j hj;rw[hρ j (by omega)];exact this
 ·have:=hs.r10;rw[hρ _ (by omega)];exact this
 ·have dA:w1.heap.size<=((w1.setCell ⟨h,2,none⟩ (.pointer (some ⟨b,0,none⟩))).setCell ⟨h,4,none⟩ (.int .i64 (c:Nat))).heap.size:=hk2.size;by_cases QV:j<w.heap.size
  ·have:=hk.size;omega
  ·have:=hlt j (by omega) hj;omega
 ·rw[e1]at hj;have:=x.fp hj;have:=hs.r1;omega
 ·have:=x.r7;rw[e1,hs.r1]at this;cases this
 ·have:=x.r8;rw[e1,hs.r1]at this;cases this
 ·have:=x.r5;rw[hρ r (by omega)];exact this
 ·have:=x.r6 j hj;rw[hρ j (by omega)];exact this
 ·have:=x.r7;rw[hρ bx (by omega)];exact this
 ·have:=x.r8;rw[hρ fx (by omega)];exact this
 ·rw[hold j (Nat.lt_of_lt_of_le hj x.kp.size)];exact x.old j hj
 ·refine x.goes (Kept.trans (H:=λj=>j=r\/j=bx\/j=h) hk hk2 (λ_ _ f=>by rcases f with f | f;exact .inl f;exact .inr (.inl f)) (λ_ _ f=>.inr (.inr f))) (λj f _=>?_);rcases f with rfl | rfl | rfl
  ·have:=x.r5;omega
  ·have:=x.r7;omega
  ·exact .inl hs.r1
theorem RI.ended{w0 w w1:World}{ρ0 ρ:bP}{h r bx fx:Nat}{sr:Value}{most e:Nat}{va:Value}{bs:List Nat}{cur:Ps}{vl bv:Value}(x:RI w0 w ρ0 ρ h r bx fx sr most e va bs cur vl bv)
  {b c:Nat} (hb:ρ b=3) (hst:St w1 r sr bs c) (hk:Kept (λj=>j=r\/j=b) w w1) (hc:c<=8*bs.length):
  RI w0 ((w1.setCell ⟨h,4,none⟩ (.int .i64 (c:Nat))).setCell ⟨h,2,none⟩ (.pointer none)) ρ0 ρ h r bx fx sr most e va bs ⟨c,cur.out,none⟩ vl (.pointer none):=by
 have hs:=x.si;have hk2:Kept (·=h) w1 ((w1.setCell ⟨h,4,none⟩ (.int .i64 (c:Nat))).setCell ⟨h,2,none⟩ (.pointer none)):=((Kept.refl (·=h) w1).setCell ⟨h,4,none⟩ _ (.inl rfl)).setCell ⟨h,2,none⟩ _ (.inl rfl);have hk3:Kept (λj=>j=r\/j=b\/j=h) w ((w1.setCell ⟨h,4,none⟩ (.int .i64 (c:Nat))).setCell ⟨h,2,none⟩ (.pointer none)):=Kept.trans hk hk2 (λ_ _ f=>by rcases f with f | f;exact .inl f;exact .inr (.inl f)) (λ_ _ f=>.inr (.inr f));have nH:∀j,ρ j≠5->ρ j≠3->ρ j≠1->¬(j=r\/j=b\/j=h):=λj h5 h3 h1 f=>by
  rcases f with rfl | rfl | rfl
  ·exact h5 x.r5
  ·exact h3 hb
  ·exact h1 hs.r1
 have hsm1:Sm w1 h most vl bv va cur.c e:=hs.sm.kept hk (λf=>by
  rcases f with rfl | rfl
  ·have:=x.r5;have:=hs.r1;omega
  ·have:=hs.r1;omega)
 refine⟨⟨(hsm1.four c).two _,hs.row.kept hk3 (λj hj=>nH j (by have:=hs.r2 j hj;omega) (by have:=hs.r2 j hj;omega) (by have:=hs.r2 j hj;omega)),hs.ol,hs.mo,rfl,⟨by rw[aB];exact hc,trivial⟩,hs.ah.kept hk3 (λj hj=>nH j (by have:=hs.r9 j hj;omega) (by have:=hs.r9 j hj;omega) (by have:=hs.r9 j hj;omega)),hs.by',hs.tab.kept hk3 (nH _ (by have:=hs.r10;omega) (by have:=hs.r10;omega) (by have:=hs.r10;omega)),hs.r1,hs.r2,hs.r9,hs.r10,λj hj=>Nat.lt_of_lt_of_le (hs.lt j hj) hk3.size⟩,
  hst.kept hk2 (λj hj e1=>by have:=x.fp hj;rw[e1,hs.r1]at this;omega),x.onc.kept hk3 (λj hj=>nH j (by omega) (by omega) (by omega)) (nH _ (by have:=x.r7;omega) (by have:=x.r7;omega) (by have:=x.r7;omega)) (nH _ (by have:=x.r8;omega) (by have:=x.r8;omega) (by have:=x.r8;omega)),x.r5,x.r6,x.r7,x.r8,x.old,x.goes hk3 (λj f _=>?_),x.n0⟩
 rcases f with rfl | rfl | rfl
 ·have:=x.r5;omega
 ·omega
 ·exact .inl hs.r1
theorem RI.laid{w0 w w1 w2 w4:World}{ρ0 ρ:bP}{h r bx fx:Nat}{sr:Value}{most e:Nat}{va:Value}{bs:List Nat}{cur:Ps}{vl bv:Value}(x:RI w0 w ρ0 ρ h r bx fx sr most e va bs cur vl bv)
  {b c:Nat} {k:Bk} {out:List Nat} {vl':Value} (OW:bv=.pointer (some ⟨b,0,none⟩)) (hb:ρ b=3) (hB:BkP w1 b (λj=>ρ j=4) k) (hst:St w1 r sr bs c) (hk:Kept (λj=>j=r\/j=b) w w1) (hk2:Kept (·=h) w1 w2)
  (gp:Sm w4 h most vl' bv va c e) (hrow:Row w4 vl' out) (Hz:vl'.ownBlock=vl.ownBlock\/∃j,vl'.ownBlock=some j/\w2.heap.size<=j) (hk4:Kept (λj=>j=h\/vl.ownBlock=some j) w2 w4) (Xc:out.length<=most) (hok:tW (ae bs) ⟨c,out,some k⟩):
  ∃ρ',RI w0 w4 ρ0 ρ' h r bx fx sr most e va bs ⟨c,out,some k⟩ vl' bv:=by
 have hs:=x.si;obtain⟨ρ',hold,h2,_,_,hlt⟩:=yf ρ w.heap.size w4.heap.size (λj=>vl'.ownBlock=some j) (λ_=>False) (λ_=>False);have hρ:∀j,ρ j≠0->ρ' j=ρ j:=λj hj=>hold j (hs.lt j hj)
 have hk12:Kept (λj=>j=r\/j=b\/j=h) w w2:=Kept.trans hk hk2 (λ_ _ f=>by rcases f with f | f;exact .inl f;exact .inr (.inl f)) (λ_ _ f=>.inr (.inr f));have OT:Kept (λj=>j=h\/vl.ownBlock=some j) w1 w4:=Kept.trans hk2 hk4 (λ_ _ f=>.inl f) (λ_ _ f=>f);have hk04:Kept (λj=>j=r\/j=b\/j=h\/vl.ownBlock=some j) w w4:=Kept.trans hk12 hk4 (λ_ _ f=>by rcases f with f | f | f;exact .inl f;exact .inr (.inl f);exact .inr (.inr (.inl f))) (λ_ _ f=>.inr (.inr f));have hn1:∀j,ρ j≠1->ρ j≠2->¬(j=h\/vl.ownBlock=some j):=λj h1 h2 f=>by
  rcases f with rfl | f
  ·exact h1 hs.r1
  ·exact h2 (hs.r2 j f)
 have nG:∀j,ρ j≠5->ρ j≠3->ρ j≠1->ρ j≠2->¬(j=r\/j=b\/j=h\/vl.ownBlock=some j):=λj h5 h3 h1 h2 f=>by
  rcases f with rfl | rfl | f
  ·exact h5 x.r5
  ·exact h3 hb
  ·exact hn1 j h1 h2 f
 have Rt:∀j,vl'.ownBlock=some j->ρ' j=2:=λj hj=>by
  rcases Hz with e1 | ⟨i,e1,hi⟩
  ·rw[e1]at hj;have:=hs.r2 j hj;rw[hρ j (by omega)];exact this
  ·have QV:w.heap.size≤j:=by
    rw[e1]at hj;injection hj with hj;have:=hk12.size;omega
   exact h2 j QV (hrow.lt hj) hj
 refine⟨ρ',⟨gp,hrow,Xc,hs.mo,⟨b,OW,(hB.kept OT (λj hj=>hn1 j (by omega) (by omega)) (hn1 b (by omega) (by omega))).less (λj hj=>by rw[hρ j (by omega)];exact hj),by rw[hρ b (by omega)];exact hb⟩,hok,hs.ah.kept hk04 (λj hj=>nG j (by have:=hs.r9 j hj;omega) (by have:=hs.r9 j hj;omega) (by have:=hs.r9 j hj;omega) (by have:=hs.r9 j hj;omega)),hs.by',hs.tab.kept hk04 (nG _ (by have:=hs.r10;omega) (by have:=hs.r10;omega) (by have:=hs.r10;omega) (by have:=hs.r10;omega)),?_,Rt,λj hj=>?_,?_,λj hj=>?_⟩,
  hst.kept OT (λj hj=>hn1 j (by have:=x.fp hj;omega) (by have:=x.fp hj;omega)),(x.onc.kept hk04 (λj hj=>nG j (by omega) (by omega) (by omega) (by omega)) (nG _ (by have:=x.r7;omega) (by have:=x.r7;omega) (by have:=x.r7;omega) (by have:=x.r7;omega)) (nG _ (by have:=x.r8;omega) (by have:=x.r8;omega) (by have:=x.r8;omega) (by have:=x.r8;omega))).less (λj hj=>by rw[hρ j (by omega)];exact hj),?_,λj hj=>?_,?_,?_,λj hj=>?_,x.goes hk04 (λj f _=>?_),x.n0⟩
 ·rw[hρ h (by rw[hs.r1];decide)];exact hs.r1
 ·have:=hs.r9 j hj;rw[hρ j (by omega)];exact this
 ·have:=hs.r10;rw[hρ _ (by omega)];exact this
 ·by_cases QV:j<w.heap.size
  ·have:=hk04.size;omega
  ·exact hlt j (by omega) hj
 ·have:=x.r5;rw[hρ r (by omega)];exact this
 ·have:=x.r6 j hj;rw[hρ j (by omega)];exact this
 ·have:=x.r7;rw[hρ bx (by omega)];exact this
 ·have:=x.r8;rw[hρ fx (by omega)];exact this
 ·rw[hold j (Nat.lt_of_lt_of_le hj x.kp.size)];exact x.old j hj
 ·rcases f with rfl | rfl | rfl | f
  ·have:=x.r5;omega
  ·omega
  ·exact .inl hs.r1
  ·exact .inr (.inl (hs.r2 j f))
end Go.Proofs.YtkhagfgineifhaaGreatDoor
