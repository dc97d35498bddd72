import Derived.Test.YtggcbnhckcenmaaGreatDoorInPv
namespace Go.Proofs.YtggcbnhckcenmaaGreatDoor
open Go.RowKit

theorem RI.start{w0 w1 w2 w3:World}{ρ0:Part}{h most e:Nat}{va:Value}{bs:List Nat}{cur:Ps}{vl bv:Value}(s:SI w0 ρ0 h most e va bs cur vl bv)(hn:∀j,ρ0 j=0∨own5 (ρ0 j))
  {r:Nat} {sr:Value} (hk1:Same w0 w1) (hfp:∀k,Fp r sr k→w0.heap.size≤k) (hst:St w2 r sr bs cur.c) (hk2:Kept (·=r) w1 w2) (hfl:∀k,Fp r sr k→k<w2.heap.size)
  (hon:Onc w3 (w2.heap.size+1) w2.heap.size (fun _=>False)) (hk3:Same w2 w3):
  ∃ρ,RI w0 w3 ρ0 ρ h r (w2.heap.size+1) w2.heap.size sr most e va bs cur vl bv:=by
 have hne:=hst.ne
 have hr:w0.heap.size≤r:=hfp r (.inl rfl)
 have hrl:r<w2.heap.size:=hfl r (.inl rfl)
 have hs1:=hk1.size
 have hs2:=hk2.size
 have hs3:=hk3.size
 have hk02:Kept (fun j=>w0.heap.size≤j) w0 w2:=Kept.trans hk1 hk2 (fun _ _ f=>f.elim) (fun j hj f=>by omega)
 have hk03:Kept (fun j=>w0.heap.size≤j) w0 w3:=Kept.trans hk02 hk3 (fun _ _ f=>f) (fun _ _ f=>f.elim)
 obtain⟨ρ,hρ⟩:∃ρ:Part,ρ=fun j=>if j<w0.heap.size then ρ0 j else if j=r then 5 else if sr.ownBlock=some j then 6 else if j=w2.heap.size+1 then 7 else if j=w2.heap.size then 8 else 0:=⟨_,rfl⟩
 have hold:∀j,j<w0.heap.size→ρ j=ρ0 j:=fun j hj=>by rw[hρ];simp[hj]
 have hownd:∀j,own5 (ρ0 j)→ρ j=ρ0 j:=fun j hj=>hold j (s.lt j (by unfold own5 at hj;omega))
 have hbx:=hon.bx_lt
 have h6:∀k,sr.ownBlock=some k→ρ k=6:=fun k hk=>by
  have h1:=hfp k (.inr hk)
  rw[hρ]
  simp only
  rw[if_neg (by omega),if_neg (fun e1=>hne (by rw[←e1];exact hk)),if_pos hk]
 have h5:ρ r=5:=by rw[hρ];simp only;rw[if_neg (by omega),if_pos trivial]
 have h7:ρ (w2.heap.size+1)=7:=by
  rw[hρ];simp only
  rw[if_neg (by omega),if_neg (by omega),if_neg (fun e1=>by have:=hfl _ (.inr e1);omega),if_pos trivial]
 have h8:ρ w2.heap.size=8:=by
  rw[hρ];simp only
  rw[if_neg (by omega),if_neg (by omega),if_neg (fun e1=>by have:=hfl _ (.inr e1);omega),if_neg (by omega),if_pos trivial]
 have hlt:∀j,ρ j≠0→j<w3.heap.size:=fun j hj=>by
  by_cases h1:j<w0.heap.size
  ·omega
  ·rw[hρ]at hj
   simp only at hj
   rw[if_neg h1]at hj
   by_cases h2:j=r
   ·omega
   ·rw[if_neg h2]at hj
    by_cases h3:sr.ownBlock=some j
    ·have:=hfl j (.inr h3);omega
    ·rw[if_neg h3]at hj
     by_cases h4:j=w2.heap.size+1
     ·omega
     ·rw[if_neg h4]at hj
      by_cases h9:j=w2.heap.size
      ·omega
      ·rw[if_neg h9]at hj;exact absurd rfl hj
 refine⟨ρ,(s.kept hk03 (fun j hj f=>by have:=s.lt j (by unfold own5 at hj;omega);omega)).turn hownd hlt,hst.kept hk3 (fun _ _ f=>f),hon.less (fun _ f=>f.elim),h5,h6,h7,h8,hold,hk03.mono (fun j hj f=>by omega),fun j _=>hn j⟩

structure SW(w:World)(ρ:Part)(h most e:Nat)(va:Value)(bs out:List Nat)(gone:Nat)(vl bv:Value):Prop where
 sm:Sm w h most vl bv va gone e
 row:Row w vl out
 ah:Row w va bs
 by':∀b∈bs,b<256
 gl:gone≤8*bs.length
 ol:out.length≤16384
 tab:Tab w
 r1:ρ h=1
 r2:∀k,vl.ownBlock=some k→ρ k=2
 r9:∀k,va.ownBlock=some k→ρ k=9
 r10:ρ 0=10
 lt:∀j,ρ j≠0→j<w.heap.size

theorem SI.sw{w:World}{ρ:Part}{h most e:Nat}{va:Value}{bs:List Nat}{cur:Ps}{vl bv:Value}(s:SI w ρ h most e va bs cur vl bv):SW w ρ h most e va bs cur.out cur.c vl bv:=
 ⟨s.sm,s.row,s.ah,s.by',s.len,Nat.le_trans s.ol s.mo,s.tab,s.r1,s.r2,s.r9,s.r10,s.lt⟩

def lasts(ρ:Part):Part:=fun j=>if ρ j=1∨ρ j=2∨ρ j=3∨ρ j=4∨ρ j=9∨ρ j=10 then ρ j else 0
theorem lasts_own(ρ:Part)(j:Nat)(h:own5 (ρ j)):lasts ρ j=ρ j:=if_pos h
theorem lasts_n0(ρ:Part)(j:Nat):lasts ρ j=0∨own5 (lasts ρ j):=by
 unfold lasts own5
 by_cases h1:ρ j=1∨ρ j=2∨ρ j=3∨ρ j=4∨ρ j=9∨ρ j=10
 ·rw[if_pos h1];exact .inr h1
 ·rw[if_neg h1];exact .inl rfl
theorem lasts_lt{ρ:Part}{n:Nat}(h:∀j,ρ j≠0→j<n)(j:Nat)(hj:lasts ρ j≠0):j<n:=by
 refine h j (fun e=>hj ?_)
 unfold lasts
 rw[e]
 rfl

structure RdP(w0 w':World)(ρ0:Part)(h most e:Nat)(va:Value)(bs:List Nat)(cur:Ps)(er:Nat)(t:Ps)(ρ:Part)(vl bv:Value)(out:List Nat)(gone:Nat):Prop where
 ends:Ends (ofBytes bs) most cur t er
 sw:SW w' ρ h most e va bs out gone vl bv
 more:cur.out.length≤out.length
 wait:er=55→SI w' ρ h most e va bs t vl bv∧out=t.out∧gone=t.c
 done:er=0→out=t.out∧gone=(t.c+7) / 8*8
 old:∀j,j<w0.heap.size→ρ j=ρ0 j
 n0:∀j,ρ j=0∨own5 (ρ j)
 kp:Kept (fun j=>ρ0 j=1∨ρ0 j=2∨ρ0 j=3) w0 w'

theorem RI.lold{w0 w:World}{ρ0 ρ:Part}{h r bx fx:Nat}{sr:Value}{most e:Nat}{va:Value}{bs:List Nat}{cur:Ps}{vl bv:Value}(x:RI w0 w ρ0 ρ h r bx fx sr most e va bs cur vl bv)(j:Nat)(hj:j<w0.heap.size):lasts ρ j=ρ0 j:=by
 have h1:=x.old j hj
 rcases x.n0 j hj with h2 | h2
 ·unfold lasts
  rw[h1,h2]
  rfl
 ·rw[lasts_own ρ j (by rw[h1];exact h2),h1]

theorem RI.rest{w0 w w1:World}{ρ0 ρ:Part}{h r bx fx:Nat}{sr:Value}{most e:Nat}{va:Value}{bs:List Nat}{cur:Ps}{vl bv:Value}(x:RI w0 w ρ0 ρ h r bx fx sr most e va bs cur vl bv)(hk:Kept (fun j=>j=r∨j=bx) w w1):
  SI w1 (lasts ρ) h most e va bs cur vl bv:=by
 have hs:=x.si.kept hk (fun j hj f=>by
  unfold own5 at hj
  rcases f with rfl | rfl
  ·have:=x.r5;omega
  ·have:=x.r7;omega)
 exact hs.turn (fun j hj=>lasts_own ρ j hj) (lasts_lt hs.lt)

theorem RI.stops{w0 w w1:World}{ρ0 ρ:Part}{h r bx fx:Nat}{sr:Value}{most e:Nat}{va:Value}{bs:List Nat}{start cur:Ps}{vl bv:Value}(x:RI w0 w ρ0 ρ h r bx fx sr most e va bs cur vl bv)(hk:Kept (fun j=>j=r∨j=bx) w w1){er:Nat}(h0:er≠0)
  (hends:Ends (ofBytes bs) most start cur er) (hmore:start.out.length≤cur.out.length):RdP w0 w1 ρ0 h most e va bs start er cur (lasts ρ) vl bv cur.out cur.c:=
 ⟨hends,(x.rest hk).sw,hmore,fun _=>⟨x.rest hk,rfl,rfl⟩,fun e0=>absurd e0 h0,x.lold,lasts_n0 ρ,x.goes hk (fun j f _=>by
  rcases f with rfl | rfl
  ·have:=x.r5;omega
  ·have:=x.r7;omega)⟩

theorem RI.stays{w0 w w1:World}{ρ0 ρ:Part}{h r bx fx:Nat}{sr:Value}{most e:Nat}{va:Value}{bs:List Nat}{start cur:Ps}{vl bv:Value}(x:RI w0 w ρ0 ρ h r bx fx sr most e va bs cur vl bv){b:Nat}{k:Bk}(hbv:bv=.pointer (some ⟨b,0,none⟩))(hbk:cur.bk=some k)(hb:ρ b=3)(hB:BkP w1 b (fun j=>ρ j=4) k)(hk:Kept (fun j=>j=r∨j=b) w w1){er:Nat}(h0:er≠0)
  (hends:Ends (ofBytes bs) most start cur er) (hmore:start.out.length≤cur.out.length):RdP w0 w1 ρ0 h most e va bs start er cur (lasts ρ) vl bv cur.out cur.c:=by
 have hs:=x.si
 have hn:∀j,ρ j≠5→ρ j≠3→¬(j=r∨j=b):=fun j h5 h3 f=>by
  rcases f with rfl | rfl
  ·exact h5 x.r5
  ·exact h3 hb
 have hsi:SI w1 ρ h most e va bs cur vl bv:=⟨hs.sm.kept hk (hn h (by rw[hs.r1];decide) (by rw[hs.r1];decide)),hs.row.kept hk (fun j hj=>hn j (by have:=hs.r2 j hj;omega) (by have:=hs.r2 j hj;omega)),hs.ol,hs.mo,by rw[hbk];exact⟨b,hbv,hB,hb⟩,hs.ok,hs.ah.kept hk (fun j hj=>hn j (by have:=hs.r9 j hj;omega) (by have:=hs.r9 j hj;omega)),hs.by',hs.tab.kept hk (hn _ (by have:=hs.r10;omega) (by have:=hs.r10;omega)),hs.r1,hs.r2,hs.r9,hs.r10,fun j hj=>Nat.lt_of_lt_of_le (hs.lt j hj) hk.size⟩
 have hsl:SI w1 (lasts ρ) h most e va bs cur vl bv:=hsi.turn (fun j hj=>lasts_own ρ j hj) (lasts_lt hsi.lt)
 exact⟨hends,hsl.sw,hmore,fun _=>⟨hsl,rfl,rfl⟩,fun e0=>absurd e0 h0,x.lold,lasts_n0 ρ,x.goes hk (fun j f _=>by
  rcases f with rfl | rfl
  ·have:=x.r5;omega
  ·omega)⟩

theorem RI.halts{w0 w w1:World}{ρ0 ρ:Part}{h r bx fx:Nat}{sr:Value}{most e:Nat}{va:Value}{bs:List Nat}{start cur t:Ps}{vl bv:Value}(x:RI w0 w ρ0 ρ h r bx fx sr most e va bs cur vl bv){b gone:Nat}(hb:ρ b=3)(hk:Kept (fun j=>j=r∨j=b∨j=h) w w1)(hsm:Sm w1 h most vl bv va gone e)(hg:gone≤8*bs.length){er:Nat}(h55:er≠55)
  (hends:Ends (ofBytes bs) most start t er) (hmore:start.out.length≤cur.out.length) (hdone:er=0→cur.out=t.out∧gone=(t.c+7) / 8*8):RdP w0 w1 ρ0 h most e va bs start er t (lasts ρ) vl bv cur.out gone:=by
 have hs:=x.si
 have hn:∀j,ρ j≠5→ρ j≠3→ρ j≠1→¬(j=r∨j=b∨j=h):=fun j h5 h3 h1 f=>by
  rcases f with rfl | rfl | rfl
  ·exact h5 x.r5
  ·exact h3 hb
  ·exact h1 hs.r1
 refine⟨hends,⟨hsm,hs.row.kept hk (fun j hj=>hn j (by have:=hs.r2 j hj;omega) (by have:=hs.r2 j hj;omega) (by have:=hs.r2 j hj;omega)),hs.ah.kept hk (fun j hj=>hn j (by have:=hs.r9 j hj;omega) (by have:=hs.r9 j hj;omega) (by have:=hs.r9 j hj;omega)),hs.by',hg,Nat.le_trans hs.ol hs.mo,hs.tab.kept hk (hn _ (by have:=hs.r10;omega) (by have:=hs.r10;omega) (by have:=hs.r10;omega)),?_,fun k e1=>?_,fun k e1=>?_,?_,?_⟩,hmore,fun e1=>absurd e1 h55,hdone,x.lold,lasts_n0 ρ,x.goes hk (fun j f _=>?_)⟩
 ·rw[lasts_own ρ h (.inl hs.r1)];exact hs.r1
 ·have:=hs.r2 k e1;rw[lasts_own ρ k (.inr (.inl this))];exact this
 ·have:=hs.r9 k e1;rw[lasts_own ρ k (by unfold own5;omega)];exact this
 ·have:=hs.r10;rw[lasts_own ρ _ (by unfold own5;omega)];exact this
 ·exact lasts_lt (fun j hj=>Nat.lt_of_lt_of_le (hs.lt j hj) hk.size)
 ·rcases f with rfl | rfl | rfl
  ·have:=x.r5;omega
  ·omega
  ·exact .inl hs.r1

end Go.Proofs.YtggcbnhckcenmaaGreatDoor
