import Derived.Test.YtkhagfgineifhaaGreatDoorInPx
import Derived.Test.YtkhagfgineifhaaGreatDoorWhl
set_option maxHeartbeats 4000000
set_option maxRecDepth 100000
namespace Go.Proofs.YtkhagfgineifhaaGreatDoor
open Go.RowKit
def iG(n:Nat):Prop:=n=1\/n=2\/n=3\/n=9
theorem SI.fed{w w1:World}{ρ:bP}{h most e:Nat}{va va1:Value}{bs cs:List Nat}{cur:Ps}{vl bv:Value}(s:SI w ρ h most e va bs cur vl bv)(hn:∀j,ρ j=0∨de (ρ j))(hk:Kept (fun j=>va.ownBlock=some j) w w1)(hrow:Row w1 va1 (bs++cs))(Hz:va1.ownBlock=va.ownBlock∨va1.ownBlock=some w.heap.size)(hb:∀b∈cs,b<256):
  ∃ρ',SI (w1.setCell ⟨h,3,none⟩ va1) ρ' h most e va1 (bs++cs) cur vl bv/\(∀j,ρ' j=0\/de (ρ' j))/\(∀j,j<w.heap.size->ρ' j=ρ j)/\Kept (λj=>iG (ρ j)) w (w1.setCell ⟨h,3,none⟩ va1):=by
 obtain⟨ρ',hρ⟩:∃ρ':bP,ρ'=λj=>if va1.ownBlock=some j then 9 else ρ j:=⟨_,rfl⟩
 have hold:∀j,j<w.heap.size->ρ' j=ρ j:=λj hj=>by
  rw[hρ];simp only;by_cases hv:va1.ownBlock=some j
  ·rw[if_pos hv];rcases Hz with e1 | e1
   ·rw[e1]at hv;exact(s.r9 j hv).symm
   ·rw[e1]at hv;injection hv with hv;omega
  ·rw[if_neg hv]
 have h9:∀j,va1.ownBlock=some j->ρ' j=9:=λj hj=>by rw[hρ];simp only;rw[if_pos hj]
 have hks:Kept (·=h) w1 (w1.setCell ⟨h,3,none⟩ va1):=(Kept.refl (·=h) w1).setCell ⟨h,3,none⟩ _ (.inl rfl);have hk2:Kept (λj=>va.ownBlock=some j\/j=h) w (w1.setCell ⟨h,3,none⟩ va1):=Kept.trans hk hks (λ_ _ f=>.inl f) (λ_ _ f=>.inr f);have nH:∀j,ρ j≠9->ρ j≠1->¬(va.ownBlock=some j\/j=h):=λj h9 h1 f=>by
  rcases f with f | rfl
  ·exact h9 (s.r9 j f)
  ·exact h1 s.r1
 have hsm1:Sm w1 h most vl bv va cur.c e:=s.sm.kept hk (λf=>by have:=s.r9 h f;rw[s.r1]at this;cases this);have sl:∀j,ρ j≠0->ρ' j=ρ j:=λj hj=>hold j (s.lt j hj)
 refine⟨ρ',⟨?_,s.row.kept hk2 (λj hj=>nH j (by have:=s.r2 j hj;omega) (by have:=s.r2 j hj;omega)),s.ol,s.mo,(s.bk.kept hk2 (λj hj=>nH j (by omega) (by omega))).turn sl,⟨by rw[ks,List.length_append];have:=s.ok.le;omega,s.ok.bk⟩,hrow.kept hks (λj hj e1=>?_),?_,s.tab.kept hk2 (nH _ (by have:=s.r10;omega) (by have:=s.r10;omega)),?_,λk hk=>?_,h9,?_,λj hj=>?_⟩,λj=>?_,hold,hk2.mono (λj _ f=>?_)⟩
 ·have:=hsm1.set 3 va1;simpa using this
 ·rw[e1]at hj;have h1:=h9 h hj;rw[sl h (by rw[s.r1];decide),s.r1]at h1;cases h1
 ·intro b nL;rcases List.mem_append.1 nL with nL | nL
  ·exact s.by' b nL
  ·exact hb b nL
 ·rw[sl h (by rw[s.r1];decide)];exact s.r1
 ·have:=s.r2 k hk;rw[sl k (by omega)];exact this
 ·have:=s.r10;rw[sl _ (by omega)];exact this
 ·by_cases hv:va1.ownBlock=some j
  ·exact Nat.lt_of_lt_of_le (hrow.lt hv) hks.size
  ·rw[hρ]at hj;simp only at hj;rw[if_neg hv]at hj;exact Nat.lt_of_lt_of_le (s.lt j hj) hk2.size
 ·rw[hρ];simp only;by_cases hv:va1.ownBlock=some j
  ·rw[if_pos hv];exact .inr (by unfold de;omega)
  ·rw[if_neg hv];exact hn j
 ·rcases f with f | rfl
  ·have:=s.r9 j f;unfold iG;omega
  ·exact .inl s.r1
theorem SW.same{w w':World}{ρ:bP}{h most e:Nat}{va:Value}{bs out:List Nat}{gone:Nat}{vl bv:Value}(s:SW w ρ h most e va bs out gone vl bv)(hk:Same w w'):SW w' ρ h most e va bs out gone vl bv:=
 ⟨s.sm.kept hk (λf=>f),s.row.kept hk (λ_ _ f=>f),s.ah.kept hk (λ_ _ f=>f),s.by',s.gl,s.ol,s.tab.kept hk (λf=>f),s.r1,s.r2,s.r9,s.r10,λj hj=>Nat.lt_of_lt_of_le (s.lt j hj) hk.size⟩
theorem SI.let'{w w1:World}{ρ:bP}{h most e:Nat}{va va1:Value}{bs:List Nat}{t:Ps}{vl bv:Value}(s:SI w ρ h most e va bs t vl bv)(hn:∀j,ρ j=0∨de (ρ j))(gp:Sm w1 h most vl bv va1 (t.c % 8) e)(hrow:Row w1 va1 (bs.drop (t.c / 8)))(mp:∀k,va1.ownBlock=some k→w.heap.size≤k)(hk:Kept (·=h) w w1):
  ∃ρ',SI w1 ρ' h most e va1 (bs.drop (t.c / 8)) ⟨t.c % 8,t.out,t.bk⟩ vl bv/\(∀j,ρ' j=0\/de (ρ' j))/\(∀j,j<w.heap.size->ρ' j=ρ j)/\(∀j,w.heap.size<=j->va1.ownBlock≠some j->ρ' j=0):=by
 obtain⟨ρ',hρ⟩:∃ρ':bP,ρ'=λj=>if va1.ownBlock=some j then 9 else ρ j:=⟨_,rfl⟩
 have hold:∀j,j<w.heap.size->ρ' j=ρ j:=λj hj=>by rw[hρ];simp only;rw[if_neg (λhv=>by have:=mp j hv;omega)]
 have sl:∀j,ρ j≠0->ρ' j=ρ j:=λj hj=>hold j (s.lt j hj)
 have h9:∀j,va1.ownBlock=some j->ρ' j=9:=λj hj=>by rw[hρ];simp only;rw[if_pos hj]
 have nH:∀j,ρ j≠1->¬j=h:=λj h1 e1=>h1 (by rw[e1];exact s.r1)
 have hl:=s.len;refine⟨ρ',⟨gp,s.row.kept hk (λj hj=>nH j (by have:=s.r2 j hj;omega)),s.ol,s.mo,(s.bk.kept hk (λj hj=>nH j (by omega))).turn sl,⟨by rw[aB,List.length_drop];show t.c % 8<=_;omega,s.ok.bk⟩,hrow,λb hb=>s.by' b (List.mem_of_mem_drop hb),s.tab.kept hk (nH _ (by have:=s.r10;omega)),?_,λk hk2=>?_,h9,?_,λj hj=>?_⟩,λj=>?_,hold,λj hj hv=>?_⟩
 ·rw[sl h (by rw[s.r1];decide)];exact s.r1
 ·have:=s.r2 k hk2;rw[sl k (by omega)];exact this
 ·have:=s.r10;rw[sl _ (by omega)];exact this
 ·by_cases hv:va1.ownBlock=some j
  ·exact hrow.lt hv
  ·rw[hρ]at hj;simp only at hj;rw[if_neg hv]at hj;exact Nat.lt_of_lt_of_le (s.lt j hj) hk.size
 ·rw[hρ];simp only;by_cases hv:va1.ownBlock=some j
  ·rw[if_pos hv];exact .inr (by unfold de;omega)
  ·rw[if_neg hv];exact hn j
 ·rw[hρ];simp only;rw[if_neg hv];refine Classical.byContradiction (λhc=>?_);have:=s.lt j hc;omega
inductive Oc(w w':World)(ρ:bP)(h most:Nat)(al:List Nat)(cur:Ps)(x:Ending):Prop
 | done (t:Ps) (v' va':Value) (he:Ends (ae al) most cur t 0) (hx:x=.returned (.tuple #[v',.int .i64 0])) (hr:Row w' v' (t.out.drop cur.out.length)) (hv:∀k,v'.ownBlock=some k->w.heap.size<=k) (hs:Sm w' h 0 (.slice none 0 0) (.pointer none) va' 0 0) (ha:Row w' va' (al.drop ((t.c+7) / 8))) (UK:∀k,va'.ownBlock=some k->w.heap.size<=k/\v'.ownBlock≠some k) (Bd:v'.ownBlock≠some h) (hk:Kept (λj=>iG (ρ j)) w w') (hw:Whole w' v')
 | wait (t:Ps) (v' va':Value) (ρ':bP) (vl bv:Value) (he:Ends (ae al) most cur t 55) (hx:x=.returned (.tuple #[v',.int .i64 0])) (hr:Row w' v' (t.out.drop cur.out.length)) (hv:∀k,v'.ownBlock=some k->w.heap.size<=k/\ρ' k=0) (hs:SI w' ρ' h most 55 va' (al.drop (t.c / 8)) ⟨t.c % 8,t.out,t.bk⟩ vl bv) (hn:∀j,ρ' j=0\/de (ρ' j)) (ho:∀j,j<w.heap.size->ρ' j=ρ j) (hk:Kept (λj=>iG (ρ j)) w w')
 | fail (t:Ps) (er:Nat) (he:Ends (ae al) most cur t er) (h0:er≠0) (h5:er≠55) (hx:x=.returned (.tuple #[.slice none 0 0,.int .i64 (er:Nat)])) (hs:Sm w' h 0 (.slice none 0 0) (.pointer none) (.slice none 0 0) 0 er) (hk:Kept (λj=>iG (ρ j)) w w')
theorem zU(w:World)(ρ:bP)(ob most:Nat)(va:Value)(bs:List Nat)(cur:Ps)(vl bv:Value)(hs:SI w ρ ob most 55 va bs cur vl bv)(hn:∀j,ρ j=0∨de (ρ j))(h7:cur.c≤7)(v:Value)(I:Nat→Prop)(cs:List Nat)(hv:Src w I v cs)(hb:∀b∈cs,b<256)(fB:∀n c,v=.slice none n c→n=0∧c=0)(ag:bs.length+cs.length≤2000000):
  Calls Tryz.prog 76 #[.pointer (some ⟨ob,0,none⟩),v] w λx w'=>Oc w w' ρ ob most (bs++cs) cur x:=by
 obtain⟨aa,capa,A9,_⟩:=hs.ah.shape;subst A9;obtain⟨al,cl,I9,_⟩:=hs.row.shape;have HD:=CF w ob most vl bv _ cur.c 55 hs.sm;have c5:w.cell? ⟨ob,5,none⟩=some (.int .i64 55):=hs.sm.cell 5;have HS:Hid (SI w ρ ob most 55 (.slice aa bs.length capa) bs cur vl bv):=hs;have HV:Hid (Src w I v cs):=hv;have HNIL:Hid (∀n c,v=.slice none n c->n=0/\c=0):=fB;obtain⟨av,cv,A1,_⟩:=id hv;obtain⟨nv,EC⟩:∃n,n=cs.length:=⟨_,rfl⟩
 rw[<-EC]at A1;subst A1;have c1:w.cell? ⟨ob,1,none⟩=some vl:=hs.sm.cell 1;obtain⟨ML,S0⟩:∃M,M=cur.out.length:=⟨_,rfl⟩
 rw[<-S0]at I9;subst I9;have c3:w.cell? ⟨ob,3,none⟩=some (.slice aa bs.length capa):=hs.sm.cell 3;have HML:Hid (ML=cur.out.length):=S0;have HN:Hid (∀j,ρ j=0\/de (ρ j)):=hn;have HB:Hid (∀b∈cs,b<256):=hb;have HLEN:Hid (bs.length+cs.length<=2000000):=ag;have HLB:Hid (bs.length+cs.length<=1000000000000):=hid (by omega);obtain⟨LB,lP⟩:∃L,L=bs.length:=⟨_,rfl⟩
 rw[<-lP]at c3;have HLL:Hid (LB=bs.length):=lP;have HROW:Hid (Row w (.slice aa LB capa) bs):=hid (by rw[lP];exact hs.ah);clear hs hv fB hb hn EC ag S0 lP;go_enter Tryz.func76,Tryz.ntmps76;go_wp2_with fail;refine HD.mono ?_;rintro x w1 ⟨rfl,m1,hw1⟩;have HK1:Hid (Same w w1):=hid (by rw[hw1];exact(Kept.refl _ w).drewN m1);have HSZ1:Hid (w1.heap.size=w.heap.size):=hid (by rw[hw1];rfl);have HS1:Hid (SI w1 ρ ob most 55 (.slice aa bs.length capa) bs cur (.slice al ML cl) bv):=hid (HS.out.kept HK1.out (λ_ _ f=>f));have b5:w1.cell? ⟨ob,5,none⟩=some (.int .i64 55):=HK1.out.cell c5 (λf=>f);have b1:w1.cell? ⟨ob,1,none⟩=some (.slice al ML cl):=HK1.out.cell c1 (λf=>f);have b3:w1.cell? ⟨ob,3,none⟩=some (.slice aa LB capa):=HK1.out.cell c3 (λf=>f);have HROW1:Hid (Row w1 (.slice aa LB capa) bs):=hid (HROW.out.kept HK1.out (λ_ _ f=>f));have HV1:Hid (Src w1 I (.slice av nv cv) cs):=hid (HV.out.kept HK1.out (λ_ _ _ f=>f));clear hw1 HD c1 c3 c5 HS HROW HV;simp only[show((55:Nat)==0)=false from by decide];go_wp2_with (at_builtin;refine bi _ rfl (.tmp 43) (.tmp 44) rfl (.slice aa LB capa) bs rfl HROW1.out I (.slice av nv cv) cs rfl HNIL.out HV1.out HLB.out ?_);intro v2 w2 hr2 nN MC;have hk12:Kept (λj=>(Value.slice aa LB capa).ownBlock=some j) w1 w2:=(Kept.refl _ w1).grown nN (λj e=>.inl e);have HOB:Hid ((Value.slice aa LB capa).ownBlock=(Value.slice aa bs.length capa).ownBlock):=hid (by rw[HLL.out]);have IE:Kept (λj=>(Value.slice aa bs.length capa).ownBlock=some j) w1 w2:=hk12.mono (λj _ f=>by rw[<-HOB.out];exact f);have HSM2:Hid (Sm w2 ob most (.slice al ML cl) bv (.slice aa bs.length capa) cur.c 55):=hid (HS1.out.sm.kept IE (λf=>by have:=HS1.out.r9 ob f;rw[HS1.out.r1]at this;cases this));have d3:w2.cell? ⟨ob,3,none⟩=some (.slice aa bs.length capa):=HSM2.out.cell 3;have z3:w2.frozen? ⟨ob,3,none⟩=false:=HSM2.out.frozen 3;have HFED:Hid (∃ρ',SI (w2.setCell ⟨ob,3,none⟩ v2) ρ' ob most 55 v2 (bs++cs) cur (.slice al ML cl) bv/\(∀j,ρ' j=0\/de (ρ' j))/\(∀j,j<w1.heap.size->ρ' j=ρ j)/\Kept (λj=>iG (ρ j)) w1 (w2.setCell ⟨ob,3,none⟩ v2)):=hid (HS1.out.fed HN.out IE hr2 (by rw[<-HOB.out];exact MC) HB.out);obtain⟨a2,Ii,rL,_⟩:=hr2.shape;generalize (bs++cs).length=n2 at rL;subst rL;obtain⟨W3,Qz⟩:∃W,W=w2.setCell ⟨ob,3,none⟩ (.slice a2 n2 Ii):=⟨_,rfl⟩
 rw[<-Qz]at HFED;obtain⟨ρ3,PC,hn3,Lp,hk3⟩:=HFED.out;have HRD:=D2 W3 ρ3 ob most 55 _ (bs++cs) cur _ bv PC hn3 h7 (by rw[List.length_append];exact HLEN.out);have HK3:Hid (Kept (λj=>iG (ρ j)) w W3):=hid (Kept.trans HK1.out hk3 (λ_ _ f=>f.elim) (λ_ _ f=>f));have HOLD3:Hid (∀j,j<w.heap.size->ρ3 j=ρ j):=hid (λj hj=>Lp j (by have:=HSZ1.out;omega));have Qb:w.heap.size<=W3.heap.size:=HK3.out.size;clear hr2 nN MC hk12 IE HFED PC hn3 Lp hk3 HSM2;go_wp2_with fail;rw[<-Qz];clear Qz;refine HRD.mono ?_;rintro x w4 ⟨er,t,ρ4,V9,QB,out,gone,rfl,hrd⟩;have HRP:Hid (Og W3 w4 ρ3 ob most 55 (.slice a2 n2 Ii) (bs++cs) cur er t ρ4 V9 QB out gone):=hrd;obtain⟨a4,c4,Je,_⟩:=hrd.sw.row.shape;obtain⟨L4,NI⟩:∃L,L=out.length:=⟨_,rfl⟩
 rw[<-NI]at Je;subst Je;have e1:w4.cell? ⟨ob,1,none⟩=some (.slice a4 L4 c4):=hrd.sw.sm.cell 1;have V8:ML<=L4:=by have:=hrd.more;have:=HML.out;omega
 have Yk:L4<=c4:=by
  rcases hrd.sw.row.2 with⟨e1,hn⟩ | ⟨g,cp,cc,e1,_,_,mr,_⟩
  ·simp only[Value.slice.injEq]at e1;omega
  ·simp only[Value.slice.injEq]at e1;omega
 have HL4:Hid (L4=out.length):=NI;have HSH:Hid ((a4=none/\L4=0/\c4=0)\/∃g,a4=some ⟨g,0,none⟩):=hid (by
  rcases hrd.sw.row.2 with⟨e1,hn⟩ | ⟨g,cp,cur,e1,_⟩
  ·simp only[Value.slice.injEq]at e1;exact .inl ⟨e1.1,by omega,e1.2.2⟩
  ·simp only[Value.slice.injEq]at e1;exact .inr ⟨g,e1.1⟩)
 have KH:Kept (λj=>iG (ρ j)) w w4:=Kept.trans HK3.out hrd.kp (λ_ _ f=>f) (λj hj f=>by
  have:=HOLD3.out j hj;unfold iG;omega)
 have HKN:Hid (Kept (λj=>iG (ρ j)) w w4):=KH;have HCL:Hid (∀(W:World) (a':Option Addr) (c':Nat),Same w4 W->(ML<L4->∃g,a4=some ⟨g,0,none⟩/\a'=some ⟨g,ML,none⟩)->Calls Tryz.prog 101 #[.slice a' (L4-ML) c'] W λx w'=>∃v',x=.returned v'/\Fresh W w' v' (out.drop ML)/\Whole w' v'):=hid (λW a' c' hW ha=>by
  have hr:=HRP.out.sw.row;have hr2:Row w4 (.slice a4 out.length c4) out:=(by rw[<-NI];exact hr);exact ug W (.slice a' (L4-ML) c') _ (out.drop ML) (by rw[NI];exact(hr2.rest ML (by omega) a' c' (by rw[<-NI];exact ha)).kept hW (λ_ _ _ f=>f)) (by
   rw[List.length_drop];have:=HRP.out.sw.ol;omega))
 clear hrd KH HRD NI;have i1:(0:Int)<=(ML:Int):=by omega
 have i2:(ML:Int)<=(L4:Int):=by omega
 have i3:(L4:Int)<=(c4:Int):=by omega
 have i4:(ML:Int)<=(c4:Int):=by omega
 by_cases LT:er=0
 ·subst LT;go_wp2_with fail
  all_goals
   refine(HCL.out _ _ _ (Kept.refl _ _) ?_).mono ?_
   ·intro hlt;rcases HSH.out with⟨_,h0,_⟩ | ⟨g,hg⟩
    ·omega
    ·refine⟨g,hg,?_⟩
     first
      | (rw[hg];simp[cf];done)
      | (exfalso;omega)
   rintro x w5 ⟨v5,rfl,hf5,jU⟩;have HW5:Hid (Whole w5 v5):=jU;clear jU;have HF5:Hid (Fresh w4 w5 v5 (out.drop ML)):=hf5;have HKP:=AN w5 ρ4 ob most 55 _ (bs++cs) out gone _ QB (HRP.out.sw.same hf5.kept) (by rw[List.length_append];exact HLEN.out);have HH4:Hid (ob<w4.heap.size):=hid HRP.out.sw.sm.lt;obtain⟨a5,jT,gt,_⟩:=hf5.row.shape;generalize (out.drop ML).length=n5 at gt;subst gt;clear hf5;go_wp2_with fail;refine HKP.mono ?_;rintro x w6 ⟨⟨u6,rfl⟩,KI,hsm6,hrow6,hnew6,hk6⟩;have rI:∀k,(Value.slice a5 n5 jT).ownBlock=some k->w4.heap.size<=k:=HF5.out.new;have Bd:(Value.slice a5 n5 jT).ownBlock≠some ob:=λe9=>by have:=rI ob e9;have:=HH4.out;omega
   have HKA:Hid (Kept (λj=>iG (ρ j)) w w6):=hid (Kept.trans (Kept.trans (H:=λj=>iG (ρ j)) HKN.out HF5.out.kept (λ_ _ f=>f) (λ_ _ f=>f.elim)) hk6 (λ_ _ f=>f) (λj _ e9=>by rw[e9];exact .inl HS1.out.r1));have HRW:Hid (Row w6 (.slice a5 n5 jT) (out.drop ML)):=hid (HF5.out.row.kept hk6 (λk e9 e8=>Bd (by rw[<-e8];exact e9)));have HWH:Hid (Whole w6 (.slice a5 n5 jT)):=hid (HW5.out.kept hk6 (λk e9 e8=>Bd (by rw[<-e8];exact e9)));have HVH:Hid ((Value.slice a5 n5 jT).ownBlock≠some ob):=Bd;have HV6:Hid (∀k,(Value.slice a5 n5 jT).ownBlock=some k->w4.heap.size<=k/\k<w5.heap.size):=hid (λk e9=>⟨rI k e9,HF5.out.row.lt e9⟩);have HSM6:=hid hsm6;have HRO6:=hid hrow6;have HNE6:=hid hnew6;have HKE6:=hid hk6;clear hsm6 hrow6 hnew6 hk6 rI Bd HKP;go_wp2_with fail;go_ret2;have oF:w.heap.size<=w4.heap.size:=HKN.out.size;have Ls:w4.heap.size<=w5.heap.size:=HF5.out.kept.size;obtain⟨rfl,rfl⟩:=HRP.out.done rfl;have eg:(t.c+7) / 8*8 / 8=(t.c+7) / 8:=(by omega);refine .done t _ KI HRP.out.ends rfl (by rw[<-HML.out];exact HRW.out) (λk e9=>by have:=HV6.out k e9;omega) HSM6.out (by rw[<-eg];exact HRO6.out) (λk e9=>⟨by have:=HNE6.out k e9;omega,λe8=>by have:=HV6.out k e8;have:=HNE6.out k e9;omega⟩) HVH.out HKA.out HWH.out
 ·by_cases Qx:er=55
  ·subst Qx;clear LT;go_wp2_with fail
   all_goals
    refine(HCL.out _ _ _ (Kept.refl _ _) ?_).mono ?_
    ·intro hlt;rcases HSH.out with⟨_,h0,_⟩ | ⟨g,hg⟩
     ·omega
     ·refine⟨g,hg,?_⟩
      first
       | (rw[hg];simp[cf];done)
       | (exfalso;omega)
    rintro x w5 ⟨v5,rfl,hf5,_⟩;have HF5:Hid (Fresh w4 w5 v5 (out.drop ML)):=hf5;have HKP:=zg w5 ρ4 ob most 55 _ (bs++cs) out gone _ QB (HRP.out.sw.same hf5.kept) (by rw[List.length_append];exact HLEN.out);have HH4:Hid (ob<w4.heap.size):=hid HRP.out.sw.sm.lt;obtain⟨a5,jT,gt,_⟩:=hf5.row.shape;generalize (out.drop ML).length=n5 at gt;subst gt;clear hf5;go_wp2_with fail;refine HKP.mono ?_;rintro x w6 ⟨⟨u6,rfl⟩,KI,hsm6,hrow6,hnew6,hk6⟩;have rI:∀k,(Value.slice a5 n5 jT).ownBlock=some k->w4.heap.size<=k:=HF5.out.new;have Bd:(Value.slice a5 n5 jT).ownBlock≠some ob:=λe9=>by have:=rI ob e9;have:=HH4.out;omega
    have HKA:Hid (Kept (λj=>iG (ρ j)) w w6):=hid (Kept.trans (Kept.trans (H:=λj=>iG (ρ j)) HKN.out HF5.out.kept (λ_ _ f=>f) (λ_ _ f=>f.elim)) hk6 (λ_ _ f=>f) (λj _ e9=>by rw[e9];exact .inl HS1.out.r1));have HRW:Hid (Row w6 (.slice a5 n5 jT) (out.drop ML)):=hid (HF5.out.row.kept hk6 (λk e9 e8=>Bd (by rw[<-e8];exact e9)));have HVH:Hid ((Value.slice a5 n5 jT).ownBlock≠some ob):=Bd;have HV6:Hid (∀k,(Value.slice a5 n5 jT).ownBlock=some k->w4.heap.size<=k/\k<w5.heap.size):=hid (λk e9=>⟨rI k e9,HF5.out.row.lt e9⟩);have HSM6:=hid hsm6;have HRO6:=hid hrow6;have HNE6:=hid hnew6;have HKE6:=hid hk6;clear hsm6 hrow6 hnew6 hk6 rI Bd HKP;go_wp2_with fail;go_ret2;have oF:w.heap.size<=w4.heap.size:=HKN.out.size;have Ls:w4.heap.size<=w5.heap.size:=HF5.out.kept.size;obtain⟨hsi4,rfl,rfl⟩:=HRP.out.wait rfl;obtain⟨ρ6,h1,h2,h3,_⟩:=SI.let' (hsi4.kept HF5.out.kept (λ_ _ f=>f)) HRP.out.n0 HSM6.out HRO6.out HNE6.out HKE6.out;refine .wait t _ KI ρ6 _ _ HRP.out.ends rfl (by rw[<-HML.out];exact HRW.out) (λk e9=>⟨by have:=HV6.out k e9;omega,?_⟩) h1 h2 (λj hj=>?_) HKA.out
    ·rw[h3 k (HV6.out k e9).2];refine Classical.byContradiction (λhc=>?_);have:=hsi4.lt k hc;have:=HV6.out k e9;omega
    ·rw[h3 j (by omega),HRP.out.old j (by omega),HOLD3.out j hj]
  ·have HE0:Hid (er≠0):=LT;have HE5:Hid (er≠55):=Qx;have IV:((er:Int) != 0)=true:=(by simp;omega);have WX:((er:Int) != 55)=true:=(by simp;omega);clear LT Qx;go_wp2_with fail
   all_goals
    refine(HCL.out _ _ _ (Kept.refl _ _) ?_).mono ?_
    ·intro hlt;rcases HSH.out with⟨_,h0,_⟩ | ⟨g,hg⟩
     ·omega
     ·refine⟨g,hg,?_⟩
      first
       | (rw[hg];simp[cf];done)
       | (exfalso;omega)
    rintro x w5 ⟨v5,rfl,hf5,_⟩;have HF5:Hid (Fresh w4 w5 v5 (out.drop ML)):=hf5;have HKP:=zF w5 ρ4 ob most 55 _ (bs++cs) out gone _ QB er HE0.out HE5.out (HRP.out.sw.same hf5.kept) (by rw[List.length_append];exact HLEN.out);have HH4:Hid (ob<w4.heap.size):=hid HRP.out.sw.sm.lt;obtain⟨a5,jT,gt,_⟩:=hf5.row.shape;generalize (out.drop ML).length=n5 at gt;subst gt;clear hf5;go_wp2_with fail;refine HKP.mono ?_;rintro x w6 ⟨⟨u6,rfl⟩,KI,hsm6,hrow6,hnew6,hk6⟩;have rI:∀k,(Value.slice a5 n5 jT).ownBlock=some k->w4.heap.size<=k:=HF5.out.new;have Bd:(Value.slice a5 n5 jT).ownBlock≠some ob:=λe9=>by have:=rI ob e9;have:=HH4.out;omega
    have HKA:Hid (Kept (λj=>iG (ρ j)) w w6):=hid (Kept.trans (Kept.trans (H:=λj=>iG (ρ j)) HKN.out HF5.out.kept (λ_ _ f=>f) (λ_ _ f=>f.elim)) hk6 (λ_ _ f=>f) (λj _ e9=>by rw[e9];exact .inl HS1.out.r1));have HRW:Hid (Row w6 (.slice a5 n5 jT) (out.drop ML)):=hid (HF5.out.row.kept hk6 (λk e9 e8=>Bd (by rw[<-e8];exact e9)));have HVH:Hid ((Value.slice a5 n5 jT).ownBlock≠some ob):=Bd;have HV6:Hid (∀k,(Value.slice a5 n5 jT).ownBlock=some k->w4.heap.size<=k/\k<w5.heap.size):=hid (λk e9=>⟨rI k e9,HF5.out.row.lt e9⟩);have HSM6:=hid hsm6;have HRO6:=hid hrow6;have HNE6:=hid hnew6;have HKE6:=hid hk6;clear hsm6 hrow6 hnew6 hk6 rI Bd HKP;go_wp2_with fail;go_ret2;have oF:w.heap.size<=w4.heap.size:=HKN.out.size;have Ls:w4.heap.size<=w5.heap.size:=HF5.out.kept.size;exact .fail t er HRP.out.ends HE0.out HE5.out rfl HSM6.out HKA.out
end Go.Proofs.YtkhagfgineifhaaGreatDoor
