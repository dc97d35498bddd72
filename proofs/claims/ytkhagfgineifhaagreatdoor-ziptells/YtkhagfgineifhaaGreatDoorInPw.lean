import Derived.Test.YtkhagfgineifhaaGreatDoorInPv
namespace Go.Proofs.YtkhagfgineifhaaGreatDoor
open Go.RowKit
theorem RI.start{w0 w1 w2 w3:World}{ρ0:bP}{h most e:Nat}{va:Value}{bs:List Nat}{cur:Ps}{vl bv:Value}(s:SI w0 ρ0 h most e va bs cur vl bv)(hn:∀j,ρ0 j=0∨de (ρ0 j))
  {r:Nat} {sr:Value} (hk1:Same w0 w1) (Fg:∀k,Fp r sr k->w0.heap.size<=k) (hst:St w2 r sr bs cur.c) (hk2:Kept (·=r) w1 w2) (CA:∀k,Fp r sr k->k<w2.heap.size)
  (hon:Onc w3 (w2.heap.size+1) w2.heap.size (λ_=>False)) (hk3:Same w2 w3):
  ∃ρ,RI w0 w3 ρ0 ρ h r (w2.heap.size+1) w2.heap.size sr most e va bs cur vl bv:=by
 have bm:=hst.ne;have hr:w0.heap.size<=r:=Fg r (.inl rfl);have uW:r<w2.heap.size:=CA r (.inl rfl);have hs1:=hk1.size;have hs2:=hk2.size;have hs3:=hk3.size;have RK:Kept (λj=>w0.heap.size<=j) w0 w2:=Kept.trans hk1 hk2 (λ_ _ f=>f.elim) (λj hj f=>by omega);have hk03:Kept (λj=>w0.heap.size<=j) w0 w3:=Kept.trans RK hk3 (λ_ _ f=>f) (λ_ _ f=>f.elim);obtain⟨ρ,hρ⟩:∃ρ:bP,ρ=λj=>if j<w0.heap.size then ρ0 j else if j=r then 5 else if sr.ownBlock=some j then 6 else if j=w2.heap.size+1 then 7 else if j=w2.heap.size then 8 else 0:=⟨_,rfl⟩
 have hold:∀j,j<w0.heap.size->ρ j=ρ0 j:=λj hj=>by rw[hρ];simp[hj]
 have PO:∀j,de (ρ0 j)->ρ j=ρ0 j:=λj hj=>hold j (s.lt j (by unfold de at hj;omega))
 have hbx:=hon.bx_lt;have h6:∀k,sr.ownBlock=some k->ρ k=6:=λk hk=>by have h1:=Fg k (.inr hk);rw[hρ];simp only;rw[if_neg (by omega),if_neg (λe1=>bm (by rw[<-e1];exact hk)),if_pos hk]
 have h5:ρ r=5:=by rw[hρ];simp only;rw[if_neg (by omega),if_pos trivial]
 have h7:ρ (w2.heap.size+1)=7:=by rw[hρ];simp only;rw[if_neg (by omega),if_neg (by omega),if_neg (λe1=>by have:=CA _ (.inr e1);omega),if_pos trivial]
 have h8:ρ w2.heap.size=8:=by rw[hρ];simp only;rw[if_neg (by omega),if_neg (by omega),if_neg (λe1=>by have:=CA _ (.inr e1);omega),if_neg (by omega),if_pos trivial]
 have hlt:∀j,ρ j≠0->j<w3.heap.size:=λj hj=>by
  by_cases h1:j<w0.heap.size
  ·omega
  ·rw[hρ]at hj;simp only at hj;rw[if_neg h1]at hj;by_cases h2:j=r
   ·omega
   ·rw[if_neg h2]at hj;by_cases h3:sr.ownBlock=some j
    ·have:=CA j (.inr h3);omega
    ·rw[if_neg h3]at hj;by_cases h4:j=w2.heap.size+1
     ·omega
     ·rw[if_neg h4]at hj;by_cases h9:j=w2.heap.size
      ·omega
      ·rw[if_neg h9]at hj;exact absurd rfl hj
 refine⟨ρ,(s.kept hk03 (λj hj f=>by have:=s.lt j (by unfold de at hj;omega);omega)).turn PO hlt,hst.kept hk3 (λ_ _ f=>f),hon.less (λ_ f=>f.elim),h5,h6,h7,h8,hold,hk03.mono (λj hj f=>by omega),λj _=>hn j⟩
structure SW(w:World)(ρ:bP)(h most e:Nat)(va:Value)(bs out:List Nat)(gone:Nat)(vl bv:Value):Prop where
 sm:Sm w h most vl bv va gone e
 row:Row w vl out
 ah:Row w va bs
 by':∀b∈bs,b<256
 gl:gone<=8*bs.length
 ol:out.length<=16384
 tab:Tab w
 r1:ρ h=1
 r2:∀k,vl.ownBlock=some k->ρ k=2
 r9:∀k,va.ownBlock=some k->ρ k=9
 r10:ρ 0=10
 lt:∀j,ρ j≠0->j<w.heap.size
theorem SI.sw{w:World}{ρ:bP}{h most e:Nat}{va:Value}{bs:List Nat}{cur:Ps}{vl bv:Value}(s:SI w ρ h most e va bs cur vl bv):SW w ρ h most e va bs cur.out cur.c vl bv:=
 ⟨s.sm,s.row,s.ah,s.by',s.len,Nat.le_trans s.ol s.mo,s.tab,s.r1,s.r2,s.r9,s.r10,s.lt⟩
def i8(ρ:bP):bP:=λj=>if ρ j=1\/ρ j=2\/ρ j=3\/ρ j=4\/ρ j=9\/ρ j=10 then ρ j else 0
theorem fw(ρ:bP)(j:Nat)(h:de (ρ j)):i8 ρ j=ρ j:=if_pos h
theorem qp(ρ:bP)(j:Nat):i8 ρ j=0\/de (i8 ρ j):=by
 unfold i8 de;by_cases h1:ρ j=1\/ρ j=2\/ρ j=3\/ρ j=4\/ρ j=9\/ρ j=10
 ·rw[if_pos h1];exact .inr h1
 ·rw[if_neg h1];exact .inl rfl
theorem qS{ρ:bP}{n:Nat}(h:∀j,ρ j≠0->j<n)(j:Nat)(hj:i8 ρ j≠0):j<n:=by refine h j (λe=>hj ?_);unfold i8;rw[e];rfl
structure Og(w0 w':World)(ρ0:bP)(h most e:Nat)(va:Value)(bs:List Nat)(cur:Ps)(er:Nat)(t:Ps)(ρ:bP)(vl bv:Value)(out:List Nat)(gone:Nat):Prop where
 ends:Ends (ae bs) most cur t er
 sw:SW w' ρ h most e va bs out gone vl bv
 more:cur.out.length<=out.length
 wait:er=55->SI w' ρ h most e va bs t vl bv/\out=t.out/\gone=t.c
 done:er=0->out=t.out/\gone=(t.c+7) / 8*8
 old:∀j,j<w0.heap.size->ρ j=ρ0 j
 n0:∀j,ρ j=0\/de (ρ j)
 kp:Kept (λj=>ρ0 j=1\/ρ0 j=2\/ρ0 j=3) w0 w'
theorem RI.lold{w0 w:World}{ρ0 ρ:bP}{h r bx fx:Nat}{sr:Value}{most e:Nat}{va:Value}{bs:List Nat}{cur:Ps}{vl bv:Value}(x:RI w0 w ρ0 ρ h r bx fx sr most e va bs cur vl bv)(j:Nat)(hj:j<w0.heap.size):i8 ρ j=ρ0 j:=by
 have h1:=x.old j hj;rcases x.n0 j hj with h2 | h2
 ·unfold i8;rw[h1,h2];rfl
 ·rw[fw ρ j (by rw[h1];exact h2),h1]
theorem RI.rest{w0 w w1:World}{ρ0 ρ:bP}{h r bx fx:Nat}{sr:Value}{most e:Nat}{va:Value}{bs:List Nat}{cur:Ps}{vl bv:Value}(x:RI w0 w ρ0 ρ h r bx fx sr most e va bs cur vl bv)(hk:Kept (fun j=>j=r∨j=bx) w w1):
  SI w1 (i8 ρ) h most e va bs cur vl bv:=by
 have hs:=x.si.kept hk (λj hj f=>by
  unfold de at hj;rcases f with rfl | rfl
  ·have:=x.r5;omega
  ·have:=x.r7;omega)
 exact hs.turn (λj hj=>fw ρ j hj) (qS hs.lt)
theorem RI.stops{w0 w w1:World}{ρ0 ρ:bP}{h r bx fx:Nat}{sr:Value}{most e:Nat}{va:Value}{bs:List Nat}{start cur:Ps}{vl bv:Value}(x:RI w0 w ρ0 ρ h r bx fx sr most e va bs cur vl bv)(hk:Kept (fun j=>j=r∨j=bx) w w1){er:Nat}(h0:er≠0)
  (yJ:Ends (ae bs) most start cur er) (nK:start.out.length<=cur.out.length):Og w0 w1 ρ0 h most e va bs start er cur (i8 ρ) vl bv cur.out cur.c:=
 ⟨yJ,(x.rest hk).sw,nK,λ_=>⟨x.rest hk,rfl,rfl⟩,λe0=>absurd e0 h0,x.lold,qp ρ,x.goes hk (λj f _=>by
  rcases f with rfl | rfl
  ·have:=x.r5;omega
  ·have:=x.r7;omega)⟩
theorem RI.stays{w0 w w1:World}{ρ0 ρ:bP}{h r bx fx:Nat}{sr:Value}{most e:Nat}{va:Value}{bs:List Nat}{start cur:Ps}{vl bv:Value}(x:RI w0 w ρ0 ρ h r bx fx sr most e va bs cur vl bv){b:Nat}{k:Bk}(OW:bv=.pointer (some ⟨b,0,none⟩))(hbk:cur.bk=some k)(hb:ρ b=3)(hB:BkP w1 b (fun j=>ρ j=4) k)(hk:Kept (fun j=>j=r∨j=b) w w1){er:Nat}(h0:er≠0)
  (yJ:Ends (ae bs) most start cur er) (nK:start.out.length<=cur.out.length):Og w0 w1 ρ0 h most e va bs start er cur (i8 ρ) vl bv cur.out cur.c:=by
 have hs:=x.si;have hn:∀j,ρ j≠5->ρ j≠3->¬(j=r\/j=b):=λj h5 h3 f=>by
  rcases f with rfl | rfl
  ·exact h5 x.r5
  ·exact h3 hb
 have hsi:SI w1 ρ h most e va bs cur vl bv:=⟨hs.sm.kept hk (hn h (by rw[hs.r1];decide) (by rw[hs.r1];decide)),hs.row.kept hk (λj hj=>hn j (by have:=hs.r2 j hj;omega) (by have:=hs.r2 j hj;omega)),hs.ol,hs.mo,by rw[hbk];exact⟨b,OW,hB,hb⟩,hs.ok,hs.ah.kept hk (λj hj=>hn j (by have:=hs.r9 j hj;omega) (by have:=hs.r9 j hj;omega)),hs.by',hs.tab.kept hk (hn _ (by have:=hs.r10;omega) (by have:=hs.r10;omega)),hs.r1,hs.r2,hs.r9,hs.r10,λj hj=>Nat.lt_of_lt_of_le (hs.lt j hj) hk.size⟩
 have hsl:SI w1 (i8 ρ) h most e va bs cur vl bv:=hsi.turn (λj hj=>fw ρ j hj) (qS hsi.lt);exact⟨yJ,hsl.sw,nK,λ_=>⟨hsl,rfl,rfl⟩,λe0=>absurd e0 h0,x.lold,qp ρ,x.goes hk (λj f _=>by
  rcases f with rfl | rfl
  ·have:=x.r5;omega
  ·omega)⟩
theorem RI.halts{w0 w w1:World}{ρ0 ρ:bP}{h r bx fx:Nat}{sr:Value}{most e:Nat}{va:Value}{bs:List Nat}{start cur t:Ps}{vl bv:Value}(x:RI w0 w ρ0 ρ h r bx fx sr most e va bs cur vl bv){b gone:Nat}(hb:ρ b=3)(hk:Kept (fun j=>j=r∨j=b∨j=h) w w1)(gp:Sm w1 h most vl bv va gone e)(hg:gone≤8*bs.length){er:Nat}(Ye:er≠55)
  (yJ:Ends (ae bs) most start t er) (nK:start.out.length<=cur.out.length) (yx:er=0->cur.out=t.out/\gone=(t.c+7) / 8*8):Og w0 w1 ρ0 h most e va bs start er t (i8 ρ) vl bv cur.out gone:=by
 have hs:=x.si;have hn:∀j,ρ j≠5->ρ j≠3->ρ j≠1->¬(j=r\/j=b\/j=h):=λj h5 h3 h1 f=>by
  rcases f with rfl | rfl | rfl
  ·exact h5 x.r5
  ·exact h3 hb
  ·exact h1 hs.r1
 refine⟨yJ,⟨gp,hs.row.kept hk (λj hj=>hn j (by have:=hs.r2 j hj;omega) (by have:=hs.r2 j hj;omega) (by have:=hs.r2 j hj;omega)),hs.ah.kept hk (λj hj=>hn j (by have:=hs.r9 j hj;omega) (by have:=hs.r9 j hj;omega) (by have:=hs.r9 j hj;omega)),hs.by',hg,Nat.le_trans hs.ol hs.mo,hs.tab.kept hk (hn _ (by have:=hs.r10;omega) (by have:=hs.r10;omega) (by have:=hs.r10;omega)),?_,λk e1=>?_,λk e1=>?_,?_,?_⟩,nK,λe1=>absurd e1 Ye,yx,x.lold,qp ρ,x.goes hk (λj f _=>?_)⟩
 ·rw[fw ρ h (.inl hs.r1)];exact hs.r1
 ·have:=hs.r2 k e1;rw[fw ρ k (.inr (.inl this))];exact this
 ·have:=hs.r9 k e1;rw[fw ρ k (by unfold de;omega)];exact this
 ·have:=hs.r10;rw[fw ρ _ (by unfold de;omega)];exact this
 ·exact qS (λj hj=>Nat.lt_of_lt_of_le (hs.lt j hj) hk.size)
 ·rcases f with rfl | rfl | rfl
  ·have:=x.r5;omega
  ·omega
  ·exact .inl hs.r1
end Go.Proofs.YtkhagfgineifhaaGreatDoor
