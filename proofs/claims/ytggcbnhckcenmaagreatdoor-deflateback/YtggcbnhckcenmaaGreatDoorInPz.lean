import Derived.Test.YtggcbnhckcenmaaGreatDoorInPx
import Derived.Test.YtggcbnhckcenmaaGreatDoorWhl
namespace Go.Proofs.YtggcbnhckcenmaaGreatDoor
open Go.RowKit

def own4(n:Nat):Prop:=n=1∨n=2∨n=3∨n=9

theorem SI.fed{w w1:World}{ρ:Part}{h most e:Nat}{va va1:Value}{bs cs:List Nat}{cur:Ps}{vl bv:Value}(s:SI w ρ h most e va bs cur vl bv)(hn:∀j,ρ j=0∨own5 (ρ j))(hk:Kept (fun j=>va.ownBlock=some j) w w1)(hrow:Row w1 va1 (bs++cs))(hown:va1.ownBlock=va.ownBlock∨va1.ownBlock=some w.heap.size)(hb:∀b∈cs,b<256):
  ∃ρ',SI (w1.setCell ⟨h,3,none⟩ va1) ρ' h most e va1 (bs++cs) cur vl bv∧(∀j,ρ' j=0∨own5 (ρ' j))∧(∀j,j<w.heap.size→ρ' j=ρ j)∧Kept (fun j=>own4 (ρ j)) w (w1.setCell ⟨h,3,none⟩ va1):=by
 obtain⟨ρ',hρ⟩:∃ρ':Part,ρ'=fun j=>if va1.ownBlock=some j then 9 else ρ j:=⟨_,rfl⟩
 have hold:∀j,j<w.heap.size→ρ' j=ρ j:=fun j hj=>by
  rw[hρ]
  simp only
  by_cases hv:va1.ownBlock=some j
  ·rw[if_pos hv]
   rcases hown with e1 | e1
   ·rw[e1]at hv;exact(s.r9 j hv).symm
   ·rw[e1]at hv;injection hv with hv;omega
  ·rw[if_neg hv]
 have h9:∀j,va1.ownBlock=some j→ρ' j=9:=fun j hj=>by rw[hρ];simp only;rw[if_pos hj]
 have hks:Kept (·=h) w1 (w1.setCell ⟨h,3,none⟩ va1):=(Kept.refl (·=h) w1).setCell ⟨h,3,none⟩ _ (.inl rfl)
 have hk2:Kept (fun j=>va.ownBlock=some j∨j=h) w (w1.setCell ⟨h,3,none⟩ va1):=Kept.trans hk hks (fun _ _ f=>.inl f) (fun _ _ f=>.inr f)
 have hnot:∀j,ρ j≠9→ρ j≠1→¬(va.ownBlock=some j∨j=h):=fun j h9 h1 f=>by
  rcases f with f | rfl
  ·exact h9 (s.r9 j f)
  ·exact h1 s.r1
 have hsm1:Sm w1 h most vl bv va cur.c e:=s.sm.kept hk (fun f=>by have:=s.r9 h f;rw[s.r1]at this;cases this)
 have hltn:∀j,ρ j≠0→ρ' j=ρ j:=fun j hj=>hold j (s.lt j hj)
 refine⟨ρ',⟨?_,s.row.kept hk2 (fun j hj=>hnot j (by have:=s.r2 j hj;omega) (by have:=s.r2 j hj;omega)),s.ol,s.mo,(s.bk.kept hk2 (fun j hj=>hnot j (by omega) (by omega))).turn hltn,⟨by rw[ofBytes_append,List.length_append];have:=s.ok.le;omega,s.ok.bk⟩,hrow.kept hks (fun j hj e1=>?_),?_,s.tab.kept hk2 (hnot _ (by have:=s.r10;omega) (by have:=s.r10;omega)),?_,fun k hk=>?_,h9,?_,fun j hj=>?_⟩,fun j=>?_,hold,hk2.mono (fun j _ f=>?_)⟩
 ·have:=hsm1.set 3 va1
  simpa using this
 ·rw[e1]at hj
  have h1:=h9 h hj
  rw[hltn h (by rw[s.r1];decide),s.r1]at h1
  cases h1
 ·intro b hbb
  rcases List.mem_append.1 hbb with hbb | hbb
  ·exact s.by' b hbb
  ·exact hb b hbb
 ·rw[hltn h (by rw[s.r1];decide)];exact s.r1
 ·have:=s.r2 k hk;rw[hltn k (by omega)];exact this
 ·have:=s.r10;rw[hltn _ (by omega)];exact this
 ·by_cases hv:va1.ownBlock=some j
  ·exact Nat.lt_of_lt_of_le (hrow.lt hv) hks.size
  ·rw[hρ]at hj
   simp only at hj
   rw[if_neg hv]at hj
   exact Nat.lt_of_lt_of_le (s.lt j hj) hk2.size
 ·rw[hρ]
  simp only
  by_cases hv:va1.ownBlock=some j
  ·rw[if_pos hv];exact .inr (by unfold own5;omega)
  ·rw[if_neg hv];exact hn j
 ·rcases f with f | rfl
  ·have:=s.r9 j f;unfold own4;omega
  ·exact .inl s.r1

theorem SW.same{w w':World}{ρ:Part}{h most e:Nat}{va:Value}{bs out:List Nat}{gone:Nat}{vl bv:Value}(s:SW w ρ h most e va bs out gone vl bv)(hk:Same w w'):SW w' ρ h most e va bs out gone vl bv:=
 ⟨s.sm.kept hk (fun f=>f),s.row.kept hk (fun _ _ f=>f),s.ah.kept hk (fun _ _ f=>f),s.by',s.gl,s.ol,s.tab.kept hk (fun f=>f),s.r1,s.r2,s.r9,s.r10,fun j hj=>Nat.lt_of_lt_of_le (s.lt j hj) hk.size⟩

theorem SI.let'{w w1:World}{ρ:Part}{h most e:Nat}{va va1:Value}{bs:List Nat}{t:Ps}{vl bv:Value}(s:SI w ρ h most e va bs t vl bv)(hn:∀j,ρ j=0∨own5 (ρ j))(hsm:Sm w1 h most vl bv va1 (t.c % 8) e)(hrow:Row w1 va1 (bs.drop (t.c / 8)))(hnew:∀k,va1.ownBlock=some k→w.heap.size≤k)(hk:Kept (·=h) w w1):
  ∃ρ',SI w1 ρ' h most e va1 (bs.drop (t.c / 8)) ⟨t.c % 8,t.out,t.bk⟩ vl bv∧(∀j,ρ' j=0∨own5 (ρ' j))∧(∀j,j<w.heap.size→ρ' j=ρ j)∧(∀j,w.heap.size≤j→va1.ownBlock≠some j→ρ' j=0):=by
 obtain⟨ρ',hρ⟩:∃ρ':Part,ρ'=fun j=>if va1.ownBlock=some j then 9 else ρ j:=⟨_,rfl⟩
 have hold:∀j,j<w.heap.size→ρ' j=ρ j:=fun j hj=>by
  rw[hρ]
  simp only
  rw[if_neg (fun hv=>by have:=hnew j hv;omega)]
 have hltn:∀j,ρ j≠0→ρ' j=ρ j:=fun j hj=>hold j (s.lt j hj)
 have h9:∀j,va1.ownBlock=some j→ρ' j=9:=fun j hj=>by rw[hρ];simp only;rw[if_pos hj]
 have hnot:∀j,ρ j≠1→¬j=h:=fun j h1 e1=>h1 (by rw[e1];exact s.r1)
 have hl:=s.len
 refine⟨ρ',⟨hsm,s.row.kept hk (fun j hj=>hnot j (by have:=s.r2 j hj;omega)),s.ol,s.mo,(s.bk.kept hk (fun j hj=>hnot j (by omega))).turn hltn,⟨by rw[ofBytes_length,List.length_drop];show t.c % 8≤_;omega,s.ok.bk⟩,hrow,fun b hb=>s.by' b (List.mem_of_mem_drop hb),s.tab.kept hk (hnot _ (by have:=s.r10;omega)),?_,fun k hk2=>?_,h9,?_,fun j hj=>?_⟩,fun j=>?_,hold,fun j hj hv=>?_⟩
 ·rw[hltn h (by rw[s.r1];decide)];exact s.r1
 ·have:=s.r2 k hk2;rw[hltn k (by omega)];exact this
 ·have:=s.r10;rw[hltn _ (by omega)];exact this
 ·by_cases hv:va1.ownBlock=some j
  ·exact hrow.lt hv
  ·rw[hρ]at hj
   simp only at hj
   rw[if_neg hv]at hj
   exact Nat.lt_of_lt_of_le (s.lt j hj) hk.size
 ·rw[hρ]
  simp only
  by_cases hv:va1.ownBlock=some j
  ·rw[if_pos hv];exact .inr (by unfold own5;omega)
  ·rw[if_neg hv];exact hn j
 ·rw[hρ]
  simp only
  rw[if_neg hv]
  refine Classical.byContradiction (fun hc=>?_)
  have:=s.lt j hc
  omega

inductive FeedP(w w':World)(ρ:Part)(h most:Nat)(al:List Nat)(cur:Ps)(x:Ending):Prop
 | done (t:Ps) (v' va':Value) (he:Ends (ofBytes al) most cur t 0) (hx:x=.returned (.tuple #[v',.int .i64 0])) (hr:Row w' v' (t.out.drop cur.out.length)) (hv:∀k,v'.ownBlock=some k→w.heap.size≤k) (hs:Sm w' h 0 (.slice none 0 0) (.pointer none) va' 0 0) (ha:Row w' va' (al.drop ((t.c+7) / 8))) (hav:∀k,va'.ownBlock=some k→w.heap.size≤k∧v'.ownBlock≠some k) (hvh:v'.ownBlock≠some h) (hk:Kept (fun j=>own4 (ρ j)) w w') (hw:Whole w' v')
 | wait (t:Ps) (v' va':Value) (ρ':Part) (vl bv:Value) (he:Ends (ofBytes al) most cur t 55) (hx:x=.returned (.tuple #[v',.int .i64 0])) (hr:Row w' v' (t.out.drop cur.out.length)) (hv:∀k,v'.ownBlock=some k→w.heap.size≤k∧ρ' k=0) (hs:SI w' ρ' h most 55 va' (al.drop (t.c / 8)) ⟨t.c % 8,t.out,t.bk⟩ vl bv) (hn:∀j,ρ' j=0∨own5 (ρ' j)) (ho:∀j,j<w.heap.size→ρ' j=ρ j) (hk:Kept (fun j=>own4 (ρ j)) w w')
 | fail (t:Ps) (er:Nat) (he:Ends (ofBytes al) most cur t er) (h0:er≠0) (h5:er≠55) (hx:x=.returned (.tuple #[.slice none 0 0,.int .i64 (er:Nat)])) (hs:Sm w' h 0 (.slice none 0 0) (.pointer none) (.slice none 0 0) 0 er) (hk:Kept (fun j=>own4 (ρ j)) w w')

set_option maxRecDepth 100000 in
set_option maxHeartbeats 4000000 in
theorem pfeed_wait(w:World)(ρ:Part)(ob most:Nat)(va:Value)(bs:List Nat)(cur:Ps)(vl bv:Value)(hs:SI w ρ ob most 55 va bs cur vl bv)(hn:∀j,ρ j=0∨own5 (ρ j))(h7:cur.c≤7)(v:Value)(I:Nat→Prop)(cs:List Nat)(hv:Src w I v cs)(hb:∀b∈cs,b<256)(hnil:∀n c,v=.slice none n c→n=0∧c=0)(hlen:bs.length+cs.length≤2000000):
  Calls Tryz.prog 29 #[.pointer (some ⟨ob,0,none⟩),v] w fun x w'=>FeedP w w' ρ ob most (bs++cs) cur x:=by
 obtain⟨aa,capa,hva,_⟩:=hs.ah.shape
 subst hva
 obtain⟨al,cl,hvl,_⟩:=hs.row.shape
 have HD:=pdone_any w ob most vl bv _ cur.c 55 hs.sm
 have c5:w.cell? ⟨ob,5,none⟩=some (.int .i64 55):=hs.sm.cell 5
 have HS:Hid (SI w ρ ob most 55 (.slice aa bs.length capa) bs cur vl bv):=hs
 have HV:Hid (Src w I v cs):=hv
 have HNIL:Hid (∀n c,v=.slice none n c→n=0∧c=0):=hnil
 obtain⟨av,cv,hvv,_⟩:=id hv
 obtain⟨nv,hnv⟩:∃n,n=cs.length:=⟨_,rfl⟩
 rw[←hnv]at hvv
 subst hvv
 have c1:w.cell? ⟨ob,1,none⟩=some vl:=hs.sm.cell 1
 obtain⟨ML,hML⟩:∃M,M=cur.out.length:=⟨_,rfl⟩
 rw[←hML]at hvl
 subst hvl
 have c3:w.cell? ⟨ob,3,none⟩=some (.slice aa bs.length capa):=hs.sm.cell 3
 have HML:Hid (ML=cur.out.length):=hML
 have HN:Hid (∀j,ρ j=0∨own5 (ρ j)):=hn
 have HB:Hid (∀b∈cs,b<256):=hb
 have HLEN:Hid (bs.length+cs.length≤2000000):=hlen
 have HLB:Hid (bs.length+cs.length≤1000000000000):=hid (by omega)
 obtain⟨LB,hLB⟩:∃L,L=bs.length:=⟨_,rfl⟩
 rw[←hLB]at c3
 have HLL:Hid (LB=bs.length):=hLB
 have HROW:Hid (Row w (.slice aa LB capa) bs):=hid (by rw[hLB];exact hs.ah)
 clear hs hv hnil hb hn hnv hlen hML hLB
 go_enter Tryz.func29,Tryz.ntmps29
 go_wp2_with fail
 refine HD.mono ?_
 rintro x w1 ⟨rfl,m1,hw1⟩
 have HK1:Hid (Same w w1):=hid (by rw[hw1];exact(Kept.refl _ w).drewN m1)
 have HSZ1:Hid (w1.heap.size=w.heap.size):=hid (by rw[hw1];rfl)
 have HS1:Hid (SI w1 ρ ob most 55 (.slice aa bs.length capa) bs cur (.slice al ML cl) bv):=hid (HS.out.kept HK1.out (fun _ _ f=>f))
 have b5:w1.cell? ⟨ob,5,none⟩=some (.int .i64 55):=HK1.out.cell c5 (fun f=>f)
 have b1:w1.cell? ⟨ob,1,none⟩=some (.slice al ML cl):=HK1.out.cell c1 (fun f=>f)
 have b3:w1.cell? ⟨ob,3,none⟩=some (.slice aa LB capa):=HK1.out.cell c3 (fun f=>f)
 have HROW1:Hid (Row w1 (.slice aa LB capa) bs):=hid (HROW.out.kept HK1.out (fun _ _ f=>f))
 have HV1:Hid (Src w1 I (.slice av nv cv) cs):=hid (HV.out.kept HK1.out (fun _ _ _ f=>f))
 clear hw1 HD c1 c3 c5 HS HROW HV
 simp only[show((55:Nat)==0)=false from by decide]
 go_wp2_with (at_builtin;refine wpList_append_any _ rfl (.tmp 43) (.tmp 44) rfl (.slice aa LB capa) bs rfl HROW1.out I (.slice av nv cv) cs rfl HNIL.out HV1.out HLB.out ?_)
 intro v2 w2 hr2 hg2 ho2
 have hk12:Kept (fun j=>(Value.slice aa LB capa).ownBlock=some j) w1 w2:=(Kept.refl _ w1).grown hg2 (fun j e=>.inl e)
 have HOB:Hid ((Value.slice aa LB capa).ownBlock=(Value.slice aa bs.length capa).ownBlock):=hid (by rw[HLL.out])
 have hk12':Kept (fun j=>(Value.slice aa bs.length capa).ownBlock=some j) w1 w2:=hk12.mono (fun j _ f=>by rw[←HOB.out];exact f)
 have HSM2:Hid (Sm w2 ob most (.slice al ML cl) bv (.slice aa bs.length capa) cur.c 55):=hid (HS1.out.sm.kept hk12' (fun f=>by have:=HS1.out.r9 ob f;rw[HS1.out.r1]at this;cases this))
 have d3:w2.cell? ⟨ob,3,none⟩=some (.slice aa bs.length capa):=HSM2.out.cell 3
 have z3:w2.frozen? ⟨ob,3,none⟩=false:=HSM2.out.frozen 3
 have HFED:Hid (∃ρ',SI (w2.setCell ⟨ob,3,none⟩ v2) ρ' ob most 55 v2 (bs++cs) cur (.slice al ML cl) bv∧(∀j,ρ' j=0∨own5 (ρ' j))∧(∀j,j<w1.heap.size→ρ' j=ρ j)∧Kept (fun j=>own4 (ρ j)) w1 (w2.setCell ⟨ob,3,none⟩ v2)):=hid (HS1.out.fed HN.out hk12' hr2 (by rw[←HOB.out];exact ho2) HB.out)
 obtain⟨a2,cp2,hv2,_⟩:=hr2.shape
 generalize (bs++cs).length=n2 at hv2
 subst hv2
 obtain⟨W3,hW3⟩:∃W,W=w2.setCell ⟨ob,3,none⟩ (.slice a2 n2 cp2):=⟨_,rfl⟩
 rw[←hW3]at HFED
 obtain⟨ρ3,hsi3,hn3,hold3,hk3⟩:=HFED.out
 have HRD:=pread_any W3 ρ3 ob most 55 _ (bs++cs) cur _ bv hsi3 hn3 h7 (by rw[List.length_append];exact HLEN.out)
 have HK3:Hid (Kept (fun j=>own4 (ρ j)) w W3):=hid (Kept.trans HK1.out hk3 (fun _ _ f=>f.elim) (fun _ _ f=>f))
 have HOLD3:Hid (∀j,j<w.heap.size→ρ3 j=ρ j):=hid (fun j hj=>hold3 j (by have:=HSZ1.out;omega))
 have hszW:w.heap.size≤W3.heap.size:=HK3.out.size
 clear hr2 hg2 ho2 hk12 hk12' HFED hsi3 hn3 hold3 hk3 HSM2
 go_wp2_with fail
 rw[←hW3]
 clear hW3
 refine HRD.mono ?_
 rintro x w4 ⟨er,t,ρ4,vl4,bv4,out,gone,rfl,hrd⟩
 have HRP:Hid (RdP W3 w4 ρ3 ob most 55 (.slice a2 n2 cp2) (bs++cs) cur er t ρ4 vl4 bv4 out gone):=hrd
 obtain⟨a4,c4,hv4,_⟩:=hrd.sw.row.shape
 obtain⟨L4,hL4⟩:∃L,L=out.length:=⟨_,rfl⟩
 rw[←hL4]at hv4
 subst hv4
 have e1:w4.cell? ⟨ob,1,none⟩=some (.slice a4 L4 c4):=hrd.sw.sm.cell 1
 have hML4:ML≤L4:=by have:=hrd.more;have:=HML.out;omega
 have hL4c:L4≤c4:=by
  rcases hrd.sw.row.2 with⟨e1,hn⟩ | ⟨g,cp,cc,e1,_,_,hle,_⟩
  ·simp only[Value.slice.injEq]at e1;omega
  ·simp only[Value.slice.injEq]at e1;omega
 have HL4:Hid (L4=out.length):=hL4
 have HSH:Hid ((a4=none∧L4=0∧c4=0)∨∃g,a4=some ⟨g,0,none⟩):=hid (by
  rcases hrd.sw.row.2 with⟨e1,hn⟩ | ⟨g,cp,cur,e1,_⟩
  ·simp only[Value.slice.injEq]at e1;exact .inl ⟨e1.1,by omega,e1.2.2⟩
  ·simp only[Value.slice.injEq]at e1;exact .inr ⟨g,e1.1⟩)
 have hkN:Kept (fun j=>own4 (ρ j)) w w4:=Kept.trans HK3.out hrd.kp (fun _ _ f=>f) (fun j hj f=>by
  have:=HOLD3.out j hj
  unfold own4
  omega)
 have HKN:Hid (Kept (fun j=>own4 (ρ j)) w w4):=hkN
 have HCL:Hid (∀(W:World) (a':Option Addr) (c':Nat),Same w4 W→(ML<L4→∃g,a4=some ⟨g,0,none⟩∧a'=some ⟨g,ML,none⟩)→Calls Tryz.prog 51 #[.slice a' (L4-ML) c'] W fun x w'=>∃v',x=.returned v'∧Fresh W w' v' (out.drop ML)∧Whole w' v'):=hid (fun W a' c' hW ha=>by
  have hr:=HRP.out.sw.row
  have hr2:Row w4 (.slice a4 out.length c4) out:=by rw[←hL4];exact hr
  exact pclone_whole W (.slice a' (L4-ML) c') _ (out.drop ML) (by rw[hL4];exact(hr2.rest ML (by omega) a' c' (by rw[←hL4];exact ha)).kept hW (fun _ _ _ f=>f)) (by
   rw[List.length_drop]
   have:=HRP.out.sw.ol
   omega))
 clear hrd hkN HRD hL4
 have i1:(0:Int)≤(ML:Int):=by omega
 have i2:(ML:Int)≤(L4:Int):=by omega
 have i3:(L4:Int)≤(c4:Int):=by omega
 have i4:(ML:Int)≤(c4:Int):=by omega
 by_cases he0:er=0
 ·subst he0
  go_wp2_with fail
  all_goals
   refine(HCL.out _ _ _ (Kept.refl _ _) ?_).mono ?_
   ·intro hlt
    rcases HSH.out with⟨_,h0,_⟩ | ⟨g,hg⟩
    ·omega
    ·refine⟨g,hg,?_⟩
     first
      | (rw[hg];simp[addAt];done)
      | (exfalso;omega)
   rintro x w5 ⟨v5,rfl,hf5,hw5⟩
   have HW5:Hid (Whole w5 v5):=hw5
   clear hw5
   have HF5:Hid (Fresh w4 w5 v5 (out.drop ML)):=hf5
   have HKP:=pkeep_done w5 ρ4 ob most 55 _ (bs++cs) out gone _ bv4 (HRP.out.sw.same hf5.kept) (by rw[List.length_append];exact HLEN.out)
   have HH4:Hid (ob<w4.heap.size):=hid HRP.out.sw.sm.lt
   obtain⟨a5,cp5,hv5,_⟩:=hf5.row.shape
   generalize (out.drop ML).length=n5 at hv5
   subst hv5
   clear hf5
   go_wp2_with fail
   refine HKP.mono ?_
   rintro x w6 ⟨⟨u6,rfl⟩,va6,hsm6,hrow6,hnew6,hk6⟩
   have hv6:∀k,(Value.slice a5 n5 cp5).ownBlock=some k→w4.heap.size≤k:=HF5.out.new
   have hvh:(Value.slice a5 n5 cp5).ownBlock≠some ob:=fun e9=>by have:=hv6 ob e9;have:=HH4.out;omega
   have HKA:Hid (Kept (fun j=>own4 (ρ j)) w w6):=hid (Kept.trans (Kept.trans (H:=fun j=>own4 (ρ j)) HKN.out HF5.out.kept (fun _ _ f=>f) (fun _ _ f=>f.elim)) hk6 (fun _ _ f=>f) (fun j _ e9=>by rw[e9];exact .inl HS1.out.r1))
   have HRW:Hid (Row w6 (.slice a5 n5 cp5) (out.drop ML)):=hid (HF5.out.row.kept hk6 (fun k e9 e8=>hvh (by rw[←e8];exact e9)))
   have HWH:Hid (Whole w6 (.slice a5 n5 cp5)):=hid (HW5.out.kept hk6 (fun k e9 e8=>hvh (by rw[←e8];exact e9)))
   have HVH:Hid ((Value.slice a5 n5 cp5).ownBlock≠some ob):=hvh
   have HV6:Hid (∀k,(Value.slice a5 n5 cp5).ownBlock=some k→w4.heap.size≤k∧k<w5.heap.size):=hid (fun k e9=>⟨hv6 k e9,HF5.out.row.lt e9⟩)
   have HSM6:=hid hsm6
   have HRO6:=hid hrow6
   have HNE6:=hid hnew6
   have HKE6:=hid hk6
   clear hsm6 hrow6 hnew6 hk6 hv6 hvh HKP
   go_wp2_with fail
   go_ret2
   have hs4:w.heap.size≤w4.heap.size:=HKN.out.size
   have hs5:w4.heap.size≤w5.heap.size:=HF5.out.kept.size
   obtain⟨rfl,rfl⟩:=HRP.out.done rfl
   have eg:(t.c+7) / 8*8 / 8=(t.c+7) / 8:=by omega
   refine .done t _ va6 HRP.out.ends rfl (by rw[←HML.out];exact HRW.out) (fun k e9=>by have:=HV6.out k e9;omega) HSM6.out (by rw[←eg];exact HRO6.out) (fun k e9=>⟨by have:=HNE6.out k e9;omega,fun e8=>by have:=HV6.out k e8;have:=HNE6.out k e9;omega⟩) HVH.out HKA.out HWH.out
 ·by_cases he5:er=55
  ·subst he5
   clear he0
   go_wp2_with fail
   all_goals
    refine(HCL.out _ _ _ (Kept.refl _ _) ?_).mono ?_
    ·intro hlt
     rcases HSH.out with⟨_,h0,_⟩ | ⟨g,hg⟩
     ·omega
     ·refine⟨g,hg,?_⟩
      first
       | (rw[hg];simp[addAt];done)
       | (exfalso;omega)
    rintro x w5 ⟨v5,rfl,hf5,_⟩
    have HF5:Hid (Fresh w4 w5 v5 (out.drop ML)):=hf5
    have HKP:=pkeep_wait w5 ρ4 ob most 55 _ (bs++cs) out gone _ bv4 (HRP.out.sw.same hf5.kept) (by rw[List.length_append];exact HLEN.out)
    have HH4:Hid (ob<w4.heap.size):=hid HRP.out.sw.sm.lt
    obtain⟨a5,cp5,hv5,_⟩:=hf5.row.shape
    generalize (out.drop ML).length=n5 at hv5
    subst hv5
    clear hf5
    go_wp2_with fail
    refine HKP.mono ?_
    rintro x w6 ⟨⟨u6,rfl⟩,va6,hsm6,hrow6,hnew6,hk6⟩
    have hv6:∀k,(Value.slice a5 n5 cp5).ownBlock=some k→w4.heap.size≤k:=HF5.out.new
    have hvh:(Value.slice a5 n5 cp5).ownBlock≠some ob:=fun e9=>by have:=hv6 ob e9;have:=HH4.out;omega
    have HKA:Hid (Kept (fun j=>own4 (ρ j)) w w6):=hid (Kept.trans (Kept.trans (H:=fun j=>own4 (ρ j)) HKN.out HF5.out.kept (fun _ _ f=>f) (fun _ _ f=>f.elim)) hk6 (fun _ _ f=>f) (fun j _ e9=>by rw[e9];exact .inl HS1.out.r1))
    have HRW:Hid (Row w6 (.slice a5 n5 cp5) (out.drop ML)):=hid (HF5.out.row.kept hk6 (fun k e9 e8=>hvh (by rw[←e8];exact e9)))
    have HVH:Hid ((Value.slice a5 n5 cp5).ownBlock≠some ob):=hvh
    have HV6:Hid (∀k,(Value.slice a5 n5 cp5).ownBlock=some k→w4.heap.size≤k∧k<w5.heap.size):=hid (fun k e9=>⟨hv6 k e9,HF5.out.row.lt e9⟩)
    have HSM6:=hid hsm6
    have HRO6:=hid hrow6
    have HNE6:=hid hnew6
    have HKE6:=hid hk6
    clear hsm6 hrow6 hnew6 hk6 hv6 hvh HKP
    go_wp2_with fail
    go_ret2
    have hs4:w.heap.size≤w4.heap.size:=HKN.out.size
    have hs5:w4.heap.size≤w5.heap.size:=HF5.out.kept.size
    obtain⟨hsi4,rfl,rfl⟩:=HRP.out.wait rfl
    obtain⟨ρ6,h1,h2,h3,_⟩:=SI.let' (hsi4.kept HF5.out.kept (fun _ _ f=>f)) HRP.out.n0 HSM6.out HRO6.out HNE6.out HKE6.out
    refine .wait t _ va6 ρ6 _ _ HRP.out.ends rfl (by rw[←HML.out];exact HRW.out) (fun k e9=>⟨by have:=HV6.out k e9;omega,?_⟩) h1 h2 (fun j hj=>?_) HKA.out
    ·rw[h3 k (HV6.out k e9).2]
     refine Classical.byContradiction (fun hc=>?_)
     have:=hsi4.lt k hc
     have:=HV6.out k e9
     omega
    ·rw[h3 j (by omega),HRP.out.old j (by omega),HOLD3.out j hj]
  ·have HE0:Hid (er≠0):=he0
   have HE5:Hid (er≠55):=he5
   have hd0:((er:Int) != 0)=true:=by simp;omega
   have hd5:((er:Int) != 55)=true:=by simp;omega
   clear he0 he5
   go_wp2_with fail
   all_goals
    refine(HCL.out _ _ _ (Kept.refl _ _) ?_).mono ?_
    ·intro hlt
     rcases HSH.out with⟨_,h0,_⟩ | ⟨g,hg⟩
     ·omega
     ·refine⟨g,hg,?_⟩
      first
       | (rw[hg];simp[addAt];done)
       | (exfalso;omega)
    rintro x w5 ⟨v5,rfl,hf5,_⟩
    have HF5:Hid (Fresh w4 w5 v5 (out.drop ML)):=hf5
    have HKP:=pkeep_fail w5 ρ4 ob most 55 _ (bs++cs) out gone _ bv4 er HE0.out HE5.out (HRP.out.sw.same hf5.kept) (by rw[List.length_append];exact HLEN.out)
    have HH4:Hid (ob<w4.heap.size):=hid HRP.out.sw.sm.lt
    obtain⟨a5,cp5,hv5,_⟩:=hf5.row.shape
    generalize (out.drop ML).length=n5 at hv5
    subst hv5
    clear hf5
    go_wp2_with fail
    refine HKP.mono ?_
    rintro x w6 ⟨⟨u6,rfl⟩,va6,hsm6,hrow6,hnew6,hk6⟩
    have hv6:∀k,(Value.slice a5 n5 cp5).ownBlock=some k→w4.heap.size≤k:=HF5.out.new
    have hvh:(Value.slice a5 n5 cp5).ownBlock≠some ob:=fun e9=>by have:=hv6 ob e9;have:=HH4.out;omega
    have HKA:Hid (Kept (fun j=>own4 (ρ j)) w w6):=hid (Kept.trans (Kept.trans (H:=fun j=>own4 (ρ j)) HKN.out HF5.out.kept (fun _ _ f=>f) (fun _ _ f=>f.elim)) hk6 (fun _ _ f=>f) (fun j _ e9=>by rw[e9];exact .inl HS1.out.r1))
    have HRW:Hid (Row w6 (.slice a5 n5 cp5) (out.drop ML)):=hid (HF5.out.row.kept hk6 (fun k e9 e8=>hvh (by rw[←e8];exact e9)))
    have HVH:Hid ((Value.slice a5 n5 cp5).ownBlock≠some ob):=hvh
    have HV6:Hid (∀k,(Value.slice a5 n5 cp5).ownBlock=some k→w4.heap.size≤k∧k<w5.heap.size):=hid (fun k e9=>⟨hv6 k e9,HF5.out.row.lt e9⟩)
    have HSM6:=hid hsm6
    have HRO6:=hid hrow6
    have HNE6:=hid hnew6
    have HKE6:=hid hk6
    clear hsm6 hrow6 hnew6 hk6 hv6 hvh HKP
    go_wp2_with fail
    go_ret2
    have hs4:w.heap.size≤w4.heap.size:=HKN.out.size
    have hs5:w4.heap.size≤w5.heap.size:=HF5.out.kept.size
    exact .fail t er HRP.out.ends HE0.out HE5.out rfl HSM6.out HKA.out

end Go.Proofs.YtggcbnhckcenmaaGreatDoor
