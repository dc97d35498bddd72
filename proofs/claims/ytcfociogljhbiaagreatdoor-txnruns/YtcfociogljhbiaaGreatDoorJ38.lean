/-
  Of the proof: parts TyG, TyJ, TyK, TyM, TyL, TyN, TyO, TyP, TyQ, TyR, TyT, TyU, TyV, TyW, TyX, TyY, TyZ.
-/
import Derived.Maps.OwnIn
import Derived.Test.YtcfociogljhbiaaGreatDoorJ37
import Derived.Test.YtcfociogljhbiaaGreatDoorJ29
import Derived.Test.YtcfociogljhbiaaGreatDoorJ20
import Derived.Test.YtcfociogljhbiaaGreatDoorJ32
import Derived.Test.YtcfociogljhbiaaGreatDoorJ30
import Derived.Test.YtcfociogljhbiaaGreatDoorJ31
import Derived.Test.YtcfociogljhbiaaGreatDoorJ33
import Derived.Test.YtcfociogljhbiaaGreatDoorJ26
import Derived.Test.YtcfociogljhbiaaGreatDoorJ7

namespace Go.Proofs.YtcfociogljhbiaaGreatDoor
open Go.RowKit Go.Maps Go.Sort Go.Shelf

attribute [local go_sem] Oper.semAt_some

theorem Tryz.zeroBx:(Tryz.prog.info? 128).bind (·.zero)=some (.agg #[.string ⟨#[]⟩,.string ⟨#[]⟩]):=by kernel_rfl
theorem Tryz.sizeBx:(Tryz.prog.info? 128).map (·.size)=some 2:=by kernel_rfl

def boT(c:Tc)(q:Nat)(ar:Nm):Bx:=⟨(c.ow q).s,ar.s,⟨(c.ow q).ok,ar.ok⟩⟩

def LstA(K N:Nat)(w:World)(p:Nat)(M:Mst)(bg:Int)(τ:Nat→Nat)(c:Tc)(n:Nb)(ar:Nm)(e:Ending)(w':World):Prop:=
 (getK n c.L=none∧e=.returned (.tuple #[.slice none 0 0,.int .i64 140])∧Same w w') ∨
 (∃q,getK n c.L=some q∧sho ar.s=false∧e=.returned (.tuple #[.slice none 0 0,.int .i64 143])∧Same w w') ∨
 (∃q v,getK n c.L=some q∧sho ar.s=true∧e=.returned (.tuple #[v,.int .i64 0])∧RowE w.heap.size 9 nmV w' v (seeN (c.mv q) M (boT c q ar))∧TgA K N w p M bg τ (c.set q (lsM (c.mv q) (boT c q ar))) w')

set_option maxRecDepth 100000 in
set_option maxHeartbeats 4000000 in
theorem tlist_good{K N:Nat}{w:World}{p:Nat}{M:Mst}{bg:Int}{c:Tc}{τ:Nat→Nat}(h:Tk K N w p M bg c τ)(n:Nb)(ar:Nm){q:Nat}(hg:getK n c.L=some q)(hsh:sho ar.s=true)(hs:0≤(c.mv q).t∧(c.mv q).t≤9223372036854775806)(hK:K+1≤100000):
  Calls Tryz.prog 26 #[.pointer (some ⟨p,0,none⟩),.int .i64 n.v,.string ar.s] w fun e w'=>LstA K N w p M bg τ c n ar e w':=by
 have HF:=tfind_any h n
 rw[hg]at HF
 change Calls _ _ _ _ (fun e w'=>e=.returned (.tuple #[.pointer (some ⟨q,0,none⟩),.int .i64 0])∧w'=w)at HF
 have HSH:=short_any w ar.s
 rw[hsh]at HSH
 have HT:=hid h
 have HG:Hid (getK n c.L=some q∧sho ar.s=true):=hid ⟨hg,hsh⟩
 have HS:=hid hs
 have HKK1:=hid hK
 obtain⟨tn,htn⟩:∃x,x=(c.ow q).s:=⟨_,rfl⟩
 obtain⟨st,hst⟩:∃x,x=c.st q:=⟨_,rfl⟩
 obtain⟨aa,has⟩:∃x,x=ar.s:=⟨_,rfl⟩
 have HNM:Hid (tn=(c.ow q).s∧st=c.st q∧aa=ar.s):=hid ⟨htn,hst,has⟩
 rw[←has]at HSH ⊢
 clear h hg hsh hs hK htn hst has
 refine(callsIn_wide (n:=4)).1 (callsIn_of_wp_marks Tryz.func26 rfl trivial (wpIn_wide.2 ?_) rfl)
 simp only[Tryz.ntmps26,List.size_toArray,List.length_cons,List.length_nil,Nat.reduceAdd,Nat.reduceSub,Array.replicate_succ,Array.replicate_zero,List.push_toArray,List.append_toArray,List.nil_append,List.cons_append]
 go_wp2_with fail
 refine HF.mono ?_
 rintro e w1 ⟨rfl,hw1⟩
 have hw9:=hw1.symm
 subst hw9
 clear HF
 go_wp2_with fail
 refine HSH.mono ?_
 rintro e w1 ⟨rfl,hk1⟩
 have HK1:=hid hk1
 have HT1:=hid (HT.out.same hk1)
 have q0:w1.cell? ⟨q,0,none⟩=some (.string tn):=by rw[HNM.out.1];exact(HT1.out.tb _ (getK_mem HG.out.1)).cell 0
 clear HSH hk1
 go_upto_region 7 with(first
  | (with_reducible refine at_alloc 128 10 ?_;refine wpl_alloc 128 _ Tryz.zeroBx ?_;intro w3 g3 hB3 hk3 hg3 hl3;have HB3:=hid hB3;have HK3:=hid hk3;clear hB3 hk3)
  | (with_reducible refine at_store 128 10 ?_;refine wpl_store 128 2 Tryz.sizeBx rfl (cells:=[.string tn,.string aa]) rfl HB3.out rfl rfl (by simp[Value.oneCell']) ?_;intro w4 hB4 hk4 hs4;have HK4:Hid (Same w1 w4):=hid (HK3.out.then hk4 (fun x hx e=>by omega));have HB4:=hid hB4;clear hB4 hk4 hs4 HB3 HK3))
 have HT4:=hid (HT1.out.same HK4.out)
 have f0:w4.cell? ⟨g3,0,none⟩=some (.string tn):=HB4.out.cell 0
 have f1:w4.cell? ⟨g3,1,none⟩=some (.string aa):=HB4.out.cell 1
 have q2:w4.cell? ⟨q,2,none⟩=some (.pointer (some ⟨st,0,none⟩)):=by rw[HNM.out.2.1];exact(HT4.out.tb _ (getK_mem HG.out.1)).cell 2
 obtain⟨b,hb⟩:∃b,b=boT c q ar:=⟨_,rfl⟩
 have HBB:Hid (b=boT c q ar∧b.tn=(c.ow q).s∧b.ar=ar.s):=hid (by rw[hb];exact⟨rfl,rfl,rfl⟩)
 have HLS:Hid (∀w',Same w4 w'→Calls Tryz.prog 69 #[.pointer (some ⟨st,0,none⟩),.agg #[.string tn,.string aa]] w' fun e w2=>e=.returned (.tuple #[])∧(w2.cell? ⟨g3,0,none⟩=some (.string tn)∧w2.cell? ⟨g3,1,none⟩=some (.string aa)∧w2.cell? ⟨q,2,none⟩=some (.pointer (some ⟨st,0,none⟩)))∧Tk (K+1) N w2 p M bg (c.set q (lsM (c.mv q) b)) τ∧Kept (fun k=>τ k≠0) w' w2):=hid (fun w' hk=>by
  have hT:=HT4.out.same hk
  have h9:=xvlist (hT.ts _ (getK_mem HG.out.1)) b HKK1.out
  rw[HBB.out.2.1,HBB.out.2.2,←HNM.out.1,←HNM.out.2.2]at h9
  change Calls _ _ #[.pointer (some ⟨c.st q,0,none⟩),_] _ _ at h9
  rw[←HNM.out.2.1]at h9
  refine h9.mono ?_
  rintro e w2 ⟨rfl,h2,h3⟩
  obtain⟨h5,h6⟩:=hT.setMv HG.out.1 (by rw[←HNM.out.2.1];exact h2) h3 (Nat.le_succ _) HKK1.out
  have hg0:¬τ g3≠0:=fun e=>e (HT1.out.zero hg3)
  have hbk:=(HB4.out.kept hk (fun f=>f)).kept h6 hg0
  refine⟨rfl,⟨hbk.cell 0,hbk.cell 1,?_⟩,h5,h6⟩
  rw[HNM.out.2.1]
  exact(h5.tb _ (getK_mem HG.out.1)).cell 2)
 have HKK:Hid (Same w4 w4):=hid (Kept.refl _ _)
 clear hb q0
 go_region_held3 (fun w'=>w'.cell? ⟨g3,0,none⟩=some (.string tn)∧w'.cell? ⟨g3,1,none⟩=some (.string aa)∧w'.cell? ⟨q,2,none⟩=some (.pointer (some ⟨st,0,none⟩)))
  (first
   | exact hcl
   | go_keep)
  (first
   | (go_at_call 69;refine(HLS.out _ (by first | exact HKK.out | exact HKK.out.drew)).mono ?_;rintro e w5 ⟨rfl,hcl,hT5,hk5⟩;have HT5:=hid hT5;have HK5:Hid (Kept (fun k=>τ k≠0) w4 w5):=hid (by first | exact hk5 | exact Kept.undrewC hk5);clear hT5 hk5))
 obtain⟨h0,h1,_⟩:=hcl
 obtain⟨W6,hW6⟩:∃W,W=w5.alloc (.cells #[.slice none 0 0] 47):=⟨_,rfl⟩
 obtain⟨bo,hbo⟩:∃x,x=w5.heap.size:=⟨_,rfl⟩
 have HBO6:Hid (Blk W6 bo #[.slice none 0 0] 47∧Same w5 W6∧bo=w5.heap.size∧bo<W6.heap.size):=hid ⟨by rw[hW6,hbo];exact Blk.new w5 _ _,by rw[hW6];exact(Kept.refl _ w5).alloc _,hbo,by rw[hW6,hbo];simp⟩
 have i0:W6.cell? ⟨g3,0,none⟩=some (.string tn):=HBO6.out.2.1.cell h0 (fun f=>f)
 have i1:W6.cell? ⟨g3,1,none⟩=some (.string aa):=HBO6.out.2.1.cell h1 (fun f=>f)
 have HNF:=tnamesf W6 q tn aa
 clear h0 h1 HLS HKK f0 f1 q2
 rw[hW6]at i0 i1
 go_wp2_with fail
 rw[←hbo,←hW6]
 clear hW6 hbo i0 i1
 refine HNF.mono ?_
 rintro e w7 ⟨b1,b2,rfl,hx1,hx2,hb1,hb2,hk7⟩
 have HX7:Hid (Blk w7 b1 #[.pointer (some ⟨q,0,none⟩)] 110∧Blk w7 b2 #[.string tn,.string aa] 128∧W6.heap.size≤b1∧W6.heap.size≤b2∧b1<w7.heap.size∧b2<w7.heap.size):=hid ⟨hx1,hx2,hb1,hb2,hx1.lt,hx2.lt⟩
 have HK7:=hid hk7
 have HTT:Hid (Tt (K+1) N w7 q c.ps (c.ow q) (c.st q) (c.J q) (lsM (c.mv q) b) M c.ρ):=hid (by
  have h9:=((HT5.out.same HBO6.out.2.1).same hk7).tt (n:=n) (q:=q) HG.out.1
  have e1:(c.set q (lsM (c.mv q) b)).mv q=lsM (c.mv q) b:=if_pos rfl
  rw[e1]at h9
  exact h9)
 obtain⟨ns,hns⟩:∃x,x=seeN (lsM (c.mv q) b) M b:=⟨_,rfl⟩
 have HNS:Hid (ns=seeN (lsM (c.mv q) b) M b):=hns
 have HOL:Hid (∀k,(c.ρ k≠0∨c.J q k∨k=q)→k<bo):=hid (fun k e=>by
  have hT:=HT4.out
  have h9:τ k≠0:=by
   rcases e with e | e | e
   ·rw[hT.r3 k e];decide
   ·rw[hT.r7 _ (getK_mem HG.out.1) k e];omega
   ·rw[e,hT.r6 _ (getK_mem HG.out.1)];omega
  have:=(hT.new k h9).2
  have:=HK5.out.size
  have:=HBO6.out.2.2.1
  omega)
 clear hx1 hx2 hb1 hb2 hk7 hns HNF
 go_wp2_with fail
 refine(wpIn_wide (n:=3)).1 ?_
 refine range_fq 1 rfl (by omega) (gf:=110) (lb:=#[.pointer (some ⟨b1,0,none⟩),.pointer (some ⟨b2,0,none⟩)]) rfl trivial (enters_of Tryz.func110 (by kernel_rfl) rfl) ns.length (fun k=>#[.string (ns.getD k (c.ow q)).s]) (fun _=>rfl) (fun _=>true) 0
  (fpL bo) (LI w7 bo ns) (fun k W W' G h hk hG hB=>h.more hk hG hB) (fun k W W' G h hk hG=>h.stays hk hG) (fun k W j h hf=>h.lt' hf) (fun k W j h hf=>h.ne hf) ?start ?seq ?round ?done
 case start=>exact⟨⟨_,HBO6.out.1.kept HK7.out (fun f=>f),by simpa using RowE.nil⟩,Kept.refl _ _,by have:=HBO6.out.2.2.2;have:=HK7.out.size;omega⟩
 case seq=>
  intro J W hW hsz hJs hfs hlt hY hJ0
  have hbc:W.cell? ⟨bo,0,none⟩=some (.slice none 0 0):=hW.cell ((HBO6.out.1.kept HK7.out (fun f=>f)).cell 0) (fun f=>f)
  rw[HNS.out]at hY ⊢
  refine tnames_in 2 (w7.heap.size+1) (fun _=>true) (fpR w7.heap.size (fpL bo)) J b1 b2 b HBB.out.2.1 w7.heap.size hJs hfs hlt hY W hJ0 (HTT.out.same hW) HS.out (HX7.out.1.kept hW (fun f=>f)) ?_ ?_
  ·rw[HBB.out.2.2,←HNM.out.1,←HNM.out.2.2]
   exact HX7.out.2.1.kept hW (fun f=>f)
  ·intro k e
   have hkl:k<w7.heap.size∧k≠bo:=by
    have h6:=HBO6.out.2.2.2
    have h7:=HK7.out.size
    obtain⟨_,_,g1,g2,g3,g4⟩:=HX7.out
    rcases e with e | e | e | e | e
    ·have:=HOL.out k (.inl e);omega
    ·have:=HOL.out k (.inr (.inl e));omega
    ·have:=HOL.out k (.inr (.inr e));omega
    ·omega
    ·omega
   refine⟨fun f=>?_,by have:=hW.size;omega⟩
   rcases f with f | f | f | ⟨v',hv',ho⟩
   ·omega
   ·omega
   ·exact hkl.2 f
   ·rw[hbc]at hv'
    injection hv' with hv'
    subst hv'
    cases ho
 case round=>
  intro k W hk hgo hI hsz
  have hgd:ns.getD k (c.ow q)=ns[k]:=by simp[List.getD,hk]
  simp only[hgd]
  obtain⟨nm,hnm⟩:∃x,x=ns[k]:=⟨_,rfl⟩
  rw[←hnm]
  have HTK:Hid (ns.take (k+1)=ns.take k++[nm]):=hid (by rw[List.take_succ_eq_append_getElem hk,hnm])
  clear hgd hnm
  gi_wp2
  refine⟨Kept.refl _ _,fun W1 hI1 hkP=>?_⟩
  obtain⟨v,hvb,hr⟩:=hI1.ex
  obtain⟨av,cv,hv,_⟩:=hr.shape
  obtain⟨nv,hnv⟩:∃n,n=(ns.take k).length:=⟨_,rfl⟩
  rw[←hnv]at hv
  subst hv
  have hc:W1.cell? ⟨bo,0,none⟩=some (.slice av nv cv):=hvb.cell 0
  have HVB:=hid hvb
  have HHR:Hid (W1.ownsRow (w7.heap.size+2) 9 1 (.slice av nv cv) nv ((ns.take k).map nmV)):=hid (by rw[hnv];exact(by rw[hnv]at hr;exact hr))
  have HBN:Hid (∀j,(Value.slice av nv cv).ownBlock=some j→w7.heap.size+2≤j):=hid (fun j e=>(HHR.out.lt j e).1)
  have HNV:Hid (nv≤1000000∧nv=(ns.take k).length):=hid ⟨by
   have h9:=seeN_len (lsM (c.mv q) b) M b
   rw[←HNS.out]at h9
   rw[hnv,List.length_take]
   omega,hnv⟩
  have HI1:=hid hI1
  have hszW:w7.heap.size+2≤W1.heap.size:=by have:=hkP.size;omega
  obtain⟨y0,hyi,hz0,hz1,hz2⟩:=info_parts Tryz.infoStr
  clear hnv hr hvb hI hI1 hkP hk
  gi_wp2_with (gi_at_builtin;refine wpListIn_append_own_at (W1.alloc (.cells #[.string nm.s] 9)) rfl (.tmp 41) (.tmp 43) 47 rfl (w7.heap.size+2) 9 y0 (.string ⟨#[]⟩) 1 16 Tryz.underlying47 hyi hz0 hz1 hz2 rfl (by decide) (.slice av nv cv) nv ((ns.take k).map nmV) rfl (HHR.out.alloc _) ⟨W1.heap.size,0,none⟩ 1 1 [.string nm.s] rfl rfl (cellsAt_new _ _ _) (nmV_one [nm]) (by have:=HNV.out;unfold maxLen;omega) (by have:=HNV.out;omega) (by simp;omega) ?_)
  intro v5 w5' hr5 hg5 hn5 ha5
  have HR6:Hid (RowE (w7.heap.size+2) 9 nmV w5' v5 (ns.take (k+1))):=hid (by
   rw[HTK.out]
   show w5'.ownsRow _ _ _ v5 (ns.take k++[nm]).length ((ns.take k++[nm]).map nmV)
   rw[List.length_append,←HNV.out.2,List.map_append,List.map_take]
   exact hr5)
  have HA5:=hid ha5
  have HK5':Hid (Kept (fun j=>(Value.slice av nv cv).ownBlock=some j) W1 w5'):=hid (((Kept.refl (fun j=>(Value.slice av nv cv).ownBlock=some j) W1).alloc _).grown hg5 (fun j e=>.inl e))
  have hne5:¬(Value.slice av nv cv).ownBlock=some bo:=fun e=>by have:=HBN.out _ e;have:=HI1.out.lt;omega
  have HB5':=hid (HVB.out.kept HK5'.out hne5)
  have hc5:w5'.cell? ⟨bo,0,none⟩=some (.slice av nv cv):=HB5'.out.cell 0
  have hf5:w5'.frozen? ⟨bo,0,none⟩=false:=HB5'.out.frozen 0
  obtain⟨a5,n5,c5,hv5⟩:∃a n c,v5=.slice a n c:=by
   obtain⟨a,c,e,_⟩:=HR6.out.shape
   exact⟨a,_,c,e⟩
  subst hv5
  clear hr5 hg5 hn5 ha5
  gi_wp2
  have hkS:Kept (fun j=>j=bo) w5' (w5'.setCell ⟨bo,0,none⟩ (.slice a5 n5 c5)):=(Kept.refl (fun j=>j=bo) w5').setCell _ _ (.inl rfl)
  have hbS:Blk (w5'.setCell ⟨bo,0,none⟩ (.slice a5 n5 c5)) bo #[.slice a5 n5 c5] 47:=by
   have h9:=HB5'.out.set 0 (.slice a5 n5 c5)
   simpa using h9
  have hcS:(w5'.setCell ⟨bo,0,none⟩ (.slice a5 n5 c5)).cell? ⟨bo,0,none⟩=some (.slice a5 n5 c5):=hbS.cell 0
  have hfp:∀j,(Value.slice av nv cv).ownBlock=some j→fpL bo W1 j:=fun j e=>.inr ⟨_,hc,e⟩
  have hkf:Kept (fpL bo W1) W1 (w5'.setCell ⟨bo,0,none⟩ (.slice a5 n5 c5)):=Kept.trans HK5'.out hkS (fun j _ e=>hfp j e) (fun j _ e=>.inl e)
  refine⟨rfl,⟨hkf,fun j hj=>?_⟩,⟨⟨_,hbS,HR6.out.kept hkS (fun j e e2=>by have:=HR6.out.ge e;have:=HI1.out.lt;omega)⟩,Kept.trans HI1.out.kept hkf (fun _ _ f=>f) (fun j hj f=>?_),HI1.out.lt⟩⟩
  ·rcases hj with rfl | ⟨v',hv',ho⟩
   ·exact .inl (.inl rfl)
   ·rw[hcS]at hv'
    injection hv' with hv'
    subst hv'
    rcases HA5.out with h9 | h9
    ·rw[h9]at ho;exact .inl (hfp j ho)
    ·rw[h9]at ho
     simp at ho
     exact .inr (by omega)
  ·rcases f with rfl | ⟨v',hv',ho⟩
   ·exact .inl rfl
   ·rw[hc]at hv'
    injection hv' with hv'
    subst hv'
    exact .inr (by have:=HBN.out j ho;omega)
 case done=>
  intro Mx W hMN hM hI hD hsz
  have hMe:Mx=ns.length:=by rcases hM with h9 | ⟨_,h9⟩;exact h9;cases h9
  obtain⟨v,hvb,hr⟩:=hI.ex
  rw[hMe,List.take_length]at hr
  have hc:W.cell? ⟨bo,0,none⟩=some v:=hvb.cell 0
  have HRV:=hid hr
  have HKI:=hid hI.kept
  obtain⟨av,cv,hv,_⟩:=hr.shape
  generalize ns.length=nv at hv
  subst hv
  have hex:(if Mx=0 then Exit.normal else endG ((fun _=>true) (Mx-1)) 0)=.normal:=by split<;>rfl
  rw[hex]
  clear hr hI hvb
  go_wp2_with fail
  refine⟨by simp,.inl ⟨_,_,rfl,run_takeDeferred hD,?_⟩⟩
  refine⟨_,results_tmp2 rfl _ _ _,?_⟩
  have hkD:Kept (·=w7.heap.size) W (W.putObj w7.heap.size (.deferred none)):=kept_putObj W w7.heap.size (.deferred none)
  have hk57:Same w5 w7:=HBO6.out.2.1.trans HK7.out
  have hkF:Kept (fun j=>w5.heap.size≤j) w7 (W.putObj w7.heap.size (.deferred none)):=Kept.trans HKI.out hkD (fun j _ f=>by have:=HBO6.out.2.2.1;have:=hk57.size;omega) (fun j _ f=>by have:=hk57.size;omega)
  have hkE:Same w5 (W.putObj w7.heap.size (.deferred none)):=hk57.then hkF (fun k hk e=>by omega)
  refine .inr (.inr ⟨q,_,HG.out.1,HG.out.2,rfl,?_,?_⟩)
  ·have h1:=HRV.out.kept hkD (fun j e e2=>by have:=HRV.out.ge e;omega)
   rw[HNS.out,see_ls]at h1
   rw[←HBB.out.1]
   refine h1.base ?_
   have:=HK1.out.size
   have:=HK4.out.size
   have:=HK5.out.size
   have:=hk57.size
   omega
  ·rw[←HBB.out.1]
   refine⟨HT5.out.same hkE,?_⟩
   exact Kept.trans (Kept.trans (HK1.out.trans HK4.out) HK5.out (fun _ _ f=>f.elim) (fun _ _ e=>e)) hkE (fun _ _ e=>e) (fun _ _ f=>f.elim)

set_option maxRecDepth 100000 in
set_option maxHeartbeats 1000000 in
theorem tlist_any{K N:Nat}{w:World}{p:Nat}{M:Mst}{bg:Int}{c:Tc}{τ:Nat→Nat}(h:Tk K N w p M bg c τ)(n:Nb)(ar:Nm)(hs:∀x∈c.L,0≤(c.mv x.2).t∧(c.mv x.2).t≤9223372036854775806)(hK:K+1≤100000):
  Calls Tryz.prog 26 #[.pointer (some ⟨p,0,none⟩),.int .i64 n.v,.string ar.s] w fun e w'=>LstA K N w p M bg τ c n ar e w':=by
 have HF:=tfind_any h n
 cases hg:getK n c.L with
 | none=>
  rw[hg]at HF
  change Calls _ _ _ _ (fun e w'=>e=.returned (.tuple #[.pointer none,.int .i64 140])∧w'=w)at HF
  have HG:=hid hg
  clear h hg hs hK
  go_enter Tryz.func26,Tryz.ntmps26
  go_wp2_with fail
  refine HF.mono ?_
  rintro e w1 ⟨rfl,rfl⟩
  go_wp2_with fail
  go_ret2
  exact .inl ⟨HG.out,rfl,Kept.refl _ _⟩
 | some q=>
  cases hsh:sho ar.s with
  | true=>exact tlist_good h n ar hg hsh (hs _ (getK_mem hg)) hK
  | false=>
   rw[hg]at HF
   change Calls _ _ _ _ (fun e w'=>e=.returned (.tuple #[.pointer (some ⟨q,0,none⟩),.int .i64 0])∧w'=w)at HF
   have HSH:=short_any w ar.s
   rw[hsh]at HSH
   have HG:Hid (getK n c.L=some q∧sho ar.s=false):=hid ⟨hg,hsh⟩
   clear h hg hsh hs hK
   go_enter Tryz.func26,Tryz.ntmps26
   go_wp2_with fail
   refine HF.mono ?_
   rintro e w1 ⟨rfl,hw1⟩
   have hw9:=hw1.symm
   subst hw9
   clear HF
   go_wp2_with fail
   refine HSH.mono ?_
   rintro e w1 ⟨rfl,hk1⟩
   have HK1:=hid hk1
   clear HSH hk1
   go_wp2_with fail
   go_ret2
   exact .inr (.inl ⟨q,HG.out.1,HG.out.2,rfl,HK1.out⟩)

end Go.Proofs.YtcfociogljhbiaaGreatDoor

namespace Go.Proofs.YtcfociogljhbiaaGreatDoor
open Go.RowKit Go.Maps Go.Sort Go.Shelf

def Ts.beg(S:Ts)(nb:Nb)(tn:Nm):Ts:={S with bg:=S.bg+1,op:=fun y=>if y=nb then some (tn,mv0 (S.M.now-1))else S.op y,ln:=S.ln+1}

theorem delK_none{s:Nb}{L:List (Nb×Nat)}(h:∀x∈L,x.1≠s):delK s L=L:=by
 unfold delK
 refine List.filter_eq_self.2 (fun x hx=>?_)
 simp[h x hx]

section
variable {K N:Nat} {B:Int} {w:World} {p:Nat} {S:Ts} {F:Nat→Prop}

theorem gbeginT(h:Mg K N B w p S F)(tn:Nm)(hbg:S.bg+1≤100000):Calls Tryz.prog 15 #[.pointer (some ⟨p,0,none⟩),.string tn.s] w fun e w'=>
  (sho tn.s=false∧e=.returned (.tuple #[.int .i64 0,.int .i64 143])∧MgA K N B w p F S w')∨(sho tn.s=true∧256≤S.ln∧e=.returned (.tuple #[.int .i64 0,.int .i64 141])∧MgA K N B w p F S w') ∨
  (sho tn.s=true∧S.ln<256∧∃nb:Nb,nb.v=S.bg+1∧e=.returned (.tuple #[.int .i64 (S.bg+1),.int .i64 0])∧MgA K N B w p F (S.beg nb tn) w'):=by
 have hm:=h
 obtain⟨c,τ,h1,h2,h3,h4⟩:=h
 have hl:S.ln=c.L.length:=by rw[←h3];rfl
 have hN:N≤w.heap.size:=by have:=h1.new p (by rw[h1.r1];decide);omega
 refine(tbegin_any h1 tn hN hbg).mono ?_
 rintro e w' (⟨a1,a2,a3⟩ | ⟨a1,a2,a3,a4⟩ | ⟨a1,a2,nb,q,st,J,τ',a3,a4,a5,a6,a7,a8⟩)
 ·exact .inl ⟨a1,a2,hm.still (Nat.le_refl _) h1.big a3⟩
 ·exact .inr (.inl ⟨a1,by rw[hl];exact a2,a3,hm.still (Nat.le_refl _) h1.big a4⟩)
 ·have hnew:∀x∈c.L,x.1≠nb:=fun x hx e=>by
   have:=h1.key x hx
   rw[e,a3]at this
   omega
  have hq:∀x∈c.L,x.2≠q:=fun x hx e=>by
   have:=(h1.new x.2 (by rw[h1.r6 x hx];omega)).2
   omega
  refine .inr (.inr ⟨a1,by rw[hl];exact a2,nb,a3,a4,fun k=>τ' k≠0,⟨_,τ',a5,h2.add hq,?_,fun _=>Iff.rfl⟩,fun k hk=>by show τ' k≠0↔F k;rw[a6 k hk];exact(h4 k).symm,a8.mono (fun k _ e=>(h4 k).2 e)⟩)
  have e1:S.beg nb tn=(absT S.M S.bg c).beg nb tn:=by rw[h3]
  rw[e1]
  unfold absT Ts.beg
  simp only[Ts.mk.injEq,true_and]
  refine⟨?_,?_,rfl⟩
  ·funext y
   show(getK y (putK kI nb q c.L)).map (fun r=>(updN c.ow q tn r,updN c.mv q (mv0 (S.M.now-1)) r))=_
   rw[getK_put h1.apart]
   by_cases e:nb=y
   ·subst e
    rw[if_pos rfl,if_pos rfl,Option.map_some,updN_at,updN_at]
   ·rw[if_neg e,if_neg (fun q=>e q.symm)]
    cases hy:getK y c.L with
    | none=>rfl
    | some r=>
     have:=hq _ (getK_mem hy)
     rw[Option.map_some,Option.map_some,updN_off _ _ this,updN_off _ _ this]
  ·show(putK kI nb q c.L).length=c.L.length+1
   unfold putK
   rw[insK_len,delK_none hnew]

def kyT(ow ar en:Nm):Ke:=(⟨ow.s,ar.s,⟨ow.ok,ar.ok⟩⟩,en)

def Ts.stg(S:Ts)(n:Nb)(ar en:Nm)(f:Nm→Mv→Int×Mv):Int×Ts:=
 match S.op n with
 | none=>(140,S)
 | some (ow,mv)=>if namT ar en=true then((f ow mv).1,S.set n (ow,(f ow mv).2)) else(143,S)

theorem gstageT{c:Tc}{τ:Nat→Nat}(h1:Tk K N w p S.M S.bg c τ)(h2:Iv B S.M c)(h3:absT S.M S.bg c=S)(h4:∀k,F k↔τ k≠0){n:Nb}{ar en:Nm}{f:Nm→Mv→Int×Mv}(hf:∀ow mv,(f ow mv).2.t=mv.t){e:Ending}{w':World}
  (hc:StgA K N w p S.M S.bg τ c n ar en (fun q=>f (c.ow q) (c.mv q)) e w'):
  e=.returned (.int .i64 (S.stg n ar en f).1)∧MgA (K+1) N B w p F (S.stg n ar en f).2 w':=by
 obtain⟨m,c',rfl,hR,hT⟩:=hc
 have hop:S.op n=(getK n c.L).map (fun q=>(c.ow q,c.mv q)):=by rw[←h3];rfl
 unfold Ts.stg
 unfold StgR at hR
 rw[hop]
 cases hg:getK n c.L with
 | none=>
  rw[hg]at hR
  obtain⟨rfl,rfl⟩:=hR
  exact⟨rfl,F,⟨_,τ,hT.1,h2,h3,h4⟩,fun _ _=>Iff.rfl,hT.2.mono (fun k _ e=>(h4 k).2 e)⟩
 | some q=>
  rw[hg]at hR
  simp only at hR
  simp only[Option.map_some]
  by_cases hn:namT ar en=true
  ·rw[if_pos hn]at hR ⊢
   obtain⟨rfl,rfl⟩:=hR
   exact⟨rfl,mg_set h1 h2 h3 h4 hg (hf _ _) hT⟩
  ·rw[if_neg hn]at hR ⊢
   obtain⟨rfl,rfl⟩:=hR
   exact⟨rfl,F,⟨_,τ,hT.1,h2,h3,h4⟩,fun _ _=>Iff.rfl,hT.2.mono (fun k _ e=>(h4 k).2 e)⟩

theorem gputT(h:Mg K N B w p S F)(n:Nb)(ar en:Nm)(d:ByteArray)(hd:d.size≤maxLen)(hx:Mxl w)(hK:K+1≤100000):Calls Tryz.prog 28 #[.pointer (some ⟨p,0,none⟩),.int .i64 n.v,.string ar.s,.string en.s,.string d] w fun e w'=>
  e=.returned (.int .i64 (S.stg n ar en (fun ow mv=>if 8192<d.size then(145,mv) else(0,stM mv ⟨(kyT ow ar en).1,(kyT ow ar en).2,true,d,hd⟩))).1)∧MgA (K+1) N B w p F (S.stg n ar en (fun ow mv=>if 8192<d.size then(145,mv) else(0,stM mv ⟨(kyT ow ar en).1,(kyT ow ar en).2,true,d,hd⟩))).2 w':=by
 obtain⟨c,τ,h1,h2,h3,h4⟩:=h
 refine(tput_any h1 n ar en d hd hx hK).mono (fun e w' hc=>gstageT h1 h2 h3 h4 (fun ow mv=>?_) hc)
 split<;>rfl

theorem gdelT(h:Mg K N B w p S F)(n:Nb)(ar en:Nm)(hx:Mxl w)(hK:K+1≤100000):Calls Tryz.prog 30 #[.pointer (some ⟨p,0,none⟩),.int .i64 n.v,.string ar.s,.string en.s] w fun e w'=>
  e=.returned (.int .i64 (S.stg n ar en (fun ow mv=>(0,stM mv ⟨(kyT ow ar en).1,(kyT ow ar en).2,false,⟨#[]⟩,by decide⟩))).1)∧MgA (K+1) N B w p F (S.stg n ar en (fun ow mv=>(0,stM mv ⟨(kyT ow ar en).1,(kyT ow ar en).2,false,⟨#[]⟩,by decide⟩))).2 w':=by
 obtain⟨c,τ,h1,h2,h3,h4⟩:=h
 exact(tdel_any h1 n ar en hx hK).mono (fun e w' hc=>gstageT h1 h2 h3 h4 (fun ow mv=>rfl) hc)

end

end Go.Proofs.YtcfociogljhbiaaGreatDoor

namespace Go.Proofs.YtcfociogljhbiaaGreatDoor
open Go.RowKit Go.Maps Go.Sort Go.Shelf

theorem delK_one{s:Nb}{q:Nat}:∀{L:List (Nb×Nat)},L.Pairwise (fun p q=>p.1≠q.1)→(s,q)∈L→(delK s L).length+1=L.length
 | [],_,h=>by cases h
 | x::L,ha,h=>by
  obtain⟨h1,h2⟩:=List.pairwise_cons.1 ha
  rcases List.mem_cons.1 h with e | e
  ·subst e
   have h9:delK s ((s,q)::L)=delK s L:=by unfold delK;rw[List.filter_cons];simp
   rw[h9,delK_none (fun y hy=>(h1 y hy).symm),List.length_cons]
  ·have hx:x.1≠s:=h1 _ e
   have h9:delK s (x::L)=x::delK s L:=by unfold delK;rw[List.filter_cons];simp[hx]
   rw[h9,List.length_cons,List.length_cons,delK_one h2 e]

def Ts.ends(S:Ts)(n:Nb)(m:Int):Ts:=⟨prM S.M (m+1),S.bg,fun y=>if y=n then none else S.op y,S.ln-1,S.cl.drop (S.cl.length-(S.M.now-1-m).toNat)⟩

def OldS(S:Ts)(n:Nb)(m:Int):Prop:=m≤S.M.now-1∧(∀y x,y≠n→S.op y=some x→m≤x.2.t)∧(m=S.M.now-1∨∃y x,y≠n∧S.op y=some x∧m=x.2.t)

section
variable {K N:Nat} {B:Int} {w:World} {p:Nat} {S:Ts} {F:Nat→Prop} {c:Tc} {τ:Nat→Nat}

theorem old_abs{M:Mst}{bg:Int}(h1:Tk K N w p M bg c τ){n:Nb}{m:Int}(h:OldM (delK n c.L) (fun q=>(c.mv q).t) (M.now-1) m):OldS (absT M bg c) n m:=by
 obtain⟨a1,a2,a3⟩:=h
 refine⟨a1,fun y x hy hx=>?_,?_⟩
 ·have hx':(getK y c.L).map (fun q=>(c.ow q,c.mv q))=some x:=hx
  cases hg:getK y c.L with
  | none=>rw[hg]at hx';cases hx'
  | some q=>
   rw[hg,Option.map_some]at hx'
   injection hx' with hx'
   subst hx'
   exact a2 (y,q) (delK_mem.2 ⟨getK_mem hg,hy⟩)
 ·rcases a3 with e | ⟨x,hx,e⟩
  ·exact .inl e
  ·obtain⟨hx1,hx2⟩:=delK_mem.1 hx
   refine .inr ⟨x.1,(c.ow x.2,c.mv x.2),hx2,?_,e⟩
   show(getK x.1 c.L).map (fun q=>(c.ow q,c.mv q))=_
   rw[getK_of_mem h1.apart hx1]
   rfl

theorem mg_end(h1:Tk K N w p S.M S.bg c τ)(h2:Iv B S.M c)(h3:absT S.M S.bg c=S)(h4:∀k,F k↔τ k≠0){n:Nb}{q:Nat}(hg:getK n c.L=some q){e:Ending}{w':World}(hE:EndA K N w p S.M S.bg c τ n e w'):∃m,OldS S n m∧MgA K N B w p F (S.ends n m) w':=by
 obtain⟨m,c',τ',g1,g2,g3,g4,g5,g6,g7,g8,g9⟩:=hE.iv h2
 have ho:=old_abs h1 g1
 rw[h3]at ho
 refine⟨m,ho,fun k=>τ' k≠0,⟨c',τ',g6,g9,?_,fun _=>Iff.rfl⟩,fun k hk=>by show τ' k≠0↔F k;rw[g7 k hk];exact(h4 k).symm,g8.mono (fun k _ e=>(h4 k).2 e)⟩
 have e1:S.ends n m=(absT S.M S.bg c).ends n m:=by rw[h3]
 rw[e1]
 unfold absT Ts.ends
 simp only[Ts.mk.injEq,true_and]
 refine⟨?_,?_,?_⟩
 ·funext y
  rw[g2,getK_del h1.apart,g3,g4]
  by_cases e:n=y
  ·rw[if_pos e,if_pos e.symm];rfl
  ·rw[if_neg e,if_neg (fun q=>e q.symm)]
 ·rw[g2]
  have:=delK_one h1.apart (getK_mem hg)
  omega
 ·rw[g5,List.map_drop,List.length_map]

theorem gabortT(h:Mg K N B w p S F)(n:Nb)(hB:B≤9223372036854775806):Calls Tryz.prog 19 #[.pointer (some ⟨p,0,none⟩),.int .i64 n.v] w fun e w'=>
  (S.op n=none∧e=.returned (.int .i64 140)∧MgA K N B w p F S w')∨(∃x m,S.op n=some x∧OldS S n m∧e=.returned (.int .i64 0)∧MgA K N B w p F (S.ends n m) w'):=by
 have hm:=h
 obtain⟨c,τ,h1,h2,h3,h4⟩:=h
 have hop:S.op n=(getK n c.L).map (fun q=>(c.ow q,c.mv q)):=by rw[←h3];rfl
 refine(tabort_any h1 n h2.sn ⟨h2.now.1,by have:=h2.now;omega⟩).mono ?_
 rintro e w' (⟨a1,a2,a3⟩ | ⟨q,a1,a2,a3⟩)
 ·exact .inl ⟨by rw[hop,a1];rfl,a2,hm.still (Nat.le_refl _) h1.big a3⟩
 ·obtain⟨m,g⟩:=mg_end h1 h2 h3 h4 a1 a3
  exact .inr ⟨_,m,by rw[hop,a1];rfl,g.1,a2,g.2⟩

theorem gnowT(h:Mg K N B w p S F):Calls Tryz.prog 16 #[.pointer (some ⟨p,0,none⟩)] w fun e w'=>e=.returned (.int .i64 (S.M.now-1))∧w'=w:=by
 obtain⟨c,τ,h1,h2,h3,h4⟩:=h
 exact tnow_any h1

theorem gownerT(h:Mg K N B w p S F)(n:Nb):Calls Tryz.prog 27 #[.pointer (some ⟨p,0,none⟩),.int .i64 n.v] w fun e w'=>
  e=.returned (match S.op n with | some x=>.tuple #[.string x.1.s,.int .i64 0] | none=>.tuple #[.string ⟨#[]⟩,.int .i64 140])∧Same w w':=by
 obtain⟨c,τ,h1,h2,h3,h4⟩:=h
 have hop:S.op n=(getK n c.L).map (fun q=>(c.ow q,c.mv q)):=by rw[←h3];rfl
 refine(towner_any h1 n).mono ?_
 rintro e w' ⟨⟨s,m,rfl,hm⟩,hk⟩
 refine⟨?_,hk⟩
 rw[hop]
 cases hg:getK n c.L with
 | none=>
  rw[hg]at hm
  obtain⟨rfl,rfl⟩:=hm
  rfl
 | some q=>
  rw[hg]at hm
  obtain⟨rfl,rfl⟩:=hm
  rfl

theorem addF_t(mv:Mv)(M:Mst)(k:Ke)(d:ByteArray):(addF mv M k d).2.t=mv.t:=by
 have h:(notM mv k).t=mv.t:=by unfold notM;split<;>rfl
 unfold addF
 split
 ·exact h
 ·exact h

theorem gaddT(h:Mg K N B w p S F)(n:Nb)(ar en:Nm)(d:ByteArray)(hbig:∀ow mv,S.op n=some (ow,mv)→(seeD mv S.M (kyT ow ar en)).size+d.size≤4611686018427387904)(hx:Mxl w)(hB:B≤9223372036854775806)(hK:K+1+1≤100000):Calls Tryz.prog 29 #[.pointer (some ⟨p,0,none⟩),.int .i64 n.v,.string ar.s,.string en.s,.string d] w fun e w'=>
  e=.returned (.int .i64 (S.stg n ar en (fun ow mv=>addF mv S.M (kyT ow ar en) d)).1)∧MgA (K+1+1) N B w p F (S.stg n ar en (fun ow mv=>addF mv S.M (kyT ow ar en) d)).2 w':=by
 obtain⟨c,τ,h1,h2,h3,h4⟩:=h
 have hop:S.op n=(getK n c.L).map (fun q=>(c.ow q,c.mv q)):=by rw[←h3];rfl
 refine(tadd_any h1 n ar en d (fun q hq=>hbig (c.ow q) (c.mv q) (by rw[hop,hq];rfl)) hx (fun x hx=>⟨(h2.sn x hx).1,by have:=(h2.sn x hx).2.1;have:=h2.now;omega⟩) hK).mono (fun e w' hc=>gstageT (h1.more (Nat.le_succ _) (by omega)) h2 h3 h4 (fun ow mv=>addF_t _ _ _ _) hc)

def Ts.see(S:Ts)(n:Nb)(ar en:Nm)(z:Int→Value)(f:Nm→Mv→Value×Mv):Value×Ts:=
 match S.op n with
 | none=>(z 140,S)
 | some (ow,mv)=>if namT ar en=true then((f ow mv).1,S.set n (ow,(f ow mv).2)) else(z 143,S)

theorem gseeT(h1:Tk K N w p S.M S.bg c τ)(h2:Iv B S.M c)(h3:absT S.M S.bg c=S)(h4:∀k,F k↔τ k≠0){n:Nb}{ar en:Nm}{z:Int→Value}{f:Nm→Mv→Value×Mv}(hf:∀ow mv,(f ow mv).2.t=mv.t){e:Ending}{w':World}
  (hc:SeeG K N w p S.M S.bg τ c n ar en z (fun q=>f (c.ow q) (c.mv q)) e w'):
  e=.returned (S.see n ar en z f).1∧MgA (K+1) N B w p F (S.see n ar en z f).2 w':=by
 obtain⟨m,c',rfl,hR,hT⟩:=hc
 have hop:S.op n=(getK n c.L).map (fun q=>(c.ow q,c.mv q)):=by rw[←h3];rfl
 unfold Ts.see
 unfold SeeR at hR
 rw[hop]
 cases hg:getK n c.L with
 | none=>
  rw[hg]at hR
  obtain⟨rfl,rfl⟩:=hR
  exact⟨rfl,F,⟨_,τ,hT.1,h2,h3,h4⟩,fun _ _=>Iff.rfl,hT.2.mono (fun k _ e=>(h4 k).2 e)⟩
 | some q=>
  rw[hg]at hR
  simp only at hR
  simp only[Option.map_some]
  by_cases hn:namT ar en=true
  ·rw[if_pos hn]at hR ⊢
   obtain⟨rfl,rfl⟩:=hR
   exact⟨rfl,mg_set h1 h2 h3 h4 hg (hf _ _) hT⟩
  ·rw[if_neg hn]at hR ⊢
   obtain⟨rfl,rfl⟩:=hR
   exact⟨rfl,F,⟨_,τ,hT.1,h2,h3,h4⟩,fun _ _=>Iff.rfl,hT.2.mono (fun k _ e=>(h4 k).2 e)⟩

def reaT(M:Mst)(ar en:Nm)(ow:Nm)(mv:Mv):Value×Mv:=(if seeT mv M (kyT ow ar en)=true then .tuple #[.string (seeD mv M (kyT ow ar en)),.int .i64 0]else .tuple #[.string ⟨#[]⟩,.int .i64 144],notM mv (kyT ow ar en))

theorem greadT(h:Mg K N B w p S F)(n:Nb)(ar en:Nm)(hx:Mxl w)(hB:B≤9223372036854775806)(hK:K+1≤100000):Calls Tryz.prog 24 #[.pointer (some ⟨p,0,none⟩),.int .i64 n.v,.string ar.s,.string en.s] w fun e w'=>
  e=.returned (S.see n ar en (fun m=>.tuple #[.string ⟨#[]⟩,.int .i64 m]) (reaT S.M ar en)).1∧MgA (K+1) N B w p F (S.see n ar en (fun m=>.tuple #[.string ⟨#[]⟩,.int .i64 m]) (reaT S.M ar en)).2 w':=by
 obtain⟨c,τ,h1,h2,h3,h4⟩:=h
 refine(tread_any h1 n ar en hx (fun x hx=>⟨(h2.sn x hx).1,by have:=(h2.sn x hx).2.1;have:=h2.now;omega⟩) hK).mono (fun e w' hc=>gseeT h1 h2 h3 h4 (f:=reaT S.M ar en) (fun ow mv=>?_) hc)
 show(notM mv (kyT ow ar en)).t=mv.t
 unfold notM
 split<;>rfl

end

end Go.Proofs.YtcfociogljhbiaaGreatDoor

namespace Go.Proofs.YtcfociogljhbiaaGreatDoor
open Go.RowKit Go.Maps Go.Sort Go.Shelf

def risP(last:Int):List (Int×List Wr)→Bool
 | []=>true
 | c::r=>decide (last<c.1) && risP c.1 r

def chkP(M:Mv)(cs:List (Int×List Wr)):Int:=if risP 0 cs then(if M.emp then -1 else ixL (fun c=>claM M c.1 c.2) cs)else -1

theorem ris_map(l:Int)(cs:List Cm):risC l cs=risP l (cs.map (fun y=>(y.t,y.ws))):=by
 induction cs generalizing l with
 | nil=>rfl
 | cons c r ih=>rw[risC,List.map_cons,risP,ih]

theorem ix_map{α β:Type}(g:α→β)(p:β→Bool)(l:List α):ixL (fun x=>p (g x)) l=ixL p (l.map g):=by
 unfold ixL
 rw[List.findIdx?_map]
 rfl

theorem chk_map(M:Mv)(cs:List Cm):(chkM M cs).1=chkP M (cs.map (fun y=>(y.t,y.ws))):=by
 unfold chkM chkP
 rw[ris_map]
 split
 ·split
  ·rfl
  ·exact ix_map (fun y:Cm=>(y.t,y.ws)) (fun c=>claM M c.1 c.2) cs
 ·rfl

def Ts.con(S:Ts)(mv:Mv):Bool:=decide (0≤chkP mv (S.cl.drop (S.cl.length-(S.M.now-1-mv.t).toNat)))

def CkT(S:Ts)(n:Nb)(t er:Int)(xs:List Wr):Prop:=
 (S.op n=none∧er=140∧t=0∧xs=[])∨∃ow mv ys,S.op n=some (ow,mv)∧StW mv ys∧ys.length≤100000 ∧
  ((ys=[]∧er=0∧t=0∧xs=[])∨(ys≠[]∧S.con mv=true∧er=142∧t=0∧xs=[]) ∨
   (ys≠[]∧S.con mv=false∧∃D,IsDm (visF S.M.V S.M.now) D ∧
    ((manyB (cntW (thNow S.M) ys (cntD ow.s D))=true∧er=145∧t=0∧xs=[])∨(manyB (cntW (thNow S.M) ys (cntD ow.s D))=false∧er=0∧t=S.M.now∧xs=ys))))

theorem con_abs{M:Mst}{bg:Int}{c:Tc}{S:Ts}(h:absT M bg c=S)(q:Nat):conB M c q=S.con (c.mv q):=by
 subst h
 unfold conB Ts.con absT lowC
 simp only
 rw[chk_map,List.map_drop,List.length_map]

theorem ckt_of{S:Ts}{c:Tc}(h:absT S.M S.bg c=S){n:Nb}{t er:Int}{xs:List Wr}(hR:CkR S.M c n t er xs):CkT S n t er xs:=by
 have hop:S.op n=(getK n c.L).map (fun q=>(c.ow q,c.mv q)):=by rw[←h];rfl
 rcases hR with⟨h1,h2⟩ | ⟨q,ys,h1,h2,h3,h4⟩
 ·exact .inl ⟨by rw[hop,h1];rfl,h2⟩
 ·refine .inr ⟨c.ow q,c.mv q,ys,by rw[hop,h1];rfl,h2,h3,?_⟩
  rw[con_abs h q]at h4
  exact h4

def Ts.com(S:Ts)(xs:List Wr):Ts:=if xs=[]then S else {S with M:=putM S.M (S.M.now+1) xs,cl:=S.cl++[(S.M.now,xs)]}

theorem com_op(S:Ts)(xs:List Wr):(S.com xs).op=S.op∧(S.com xs).bg=S.bg∧(S.com xs).ln=S.ln∧(S.com xs).M=(if xs=[]then S.M else putM S.M (S.M.now+1) xs):=by
 unfold Ts.com
 by_cases e:xs=[]
 ·rw[if_pos e,if_pos e];exact⟨rfl,rfl,rfl,rfl⟩
 ·rw[if_neg e,if_neg e];exact⟨rfl,rfl,rfl,rfl⟩

section
variable {K N:Nat} {B:Int} {w:World} {p:Nat} {S:Ts} {F:Nat→Prop} {c:Tc} {τ:Nat→Nat}

theorem old_abs2{M:Mst}{bg:Int}(ha:c.L.Pairwise (fun p q=>p.1≠q.1)){n:Nb}{m:Int}(h:OldM (delK n c.L) (fun q=>(c.mv q).t) (M.now-1) m):OldS (absT M bg c) n m:=by
 obtain⟨a1,a2,a3⟩:=h
 refine⟨a1,fun y x hy hx=>?_,?_⟩
 ·have hx':(getK y c.L).map (fun q=>(c.ow q,c.mv q))=some x:=hx
  cases hg:getK y c.L with
  | none=>rw[hg]at hx';cases hx'
  | some q=>
   rw[hg,Option.map_some]at hx'
   injection hx' with hx'
   subst hx'
   exact a2 (y,q) (delK_mem.2 ⟨getK_mem hg,hy⟩)
 ·rcases a3 with e | ⟨x,hx,e⟩
  ·exact .inl e
  ·obtain⟨hx1,hx2⟩:=delK_mem.1 hx
   refine .inr ⟨x.1,(c.ow x.2,c.mv x.2),hx2,?_,e⟩
   show(getK x.1 c.L).map (fun q=>(c.ow q,c.mv q))=_
   rw[getK_of_mem ha hx1]
   rfl

theorem mg_end2(ha:c.L.Pairwise (fun p q=>p.1≠q.1))(h2:Iv B S.M c)(h3:absT S.M S.bg c=S){n:Nb}{q:Nat}(hg:getK n c.L=some q){e:Ending}{w':World}(hE:EndA K N w p S.M S.bg c τ n e w'):∃m,OldS S n m∧∃c' τ',Tk K N w' p (prM S.M (m+1)) S.bg c' τ'∧Iv B (prM S.M (m+1)) c'∧absT (prM S.M (m+1)) S.bg c'=S.ends n m∧(∀k,k<w.heap.size→τ' k=τ k)∧Kept (fun k=>τ k≠0) w w':=by
 obtain⟨m,c',τ',g1,g2,g3,g4,g5,g6,g7,g8,g9⟩:=hE.iv h2
 have ho:=old_abs2 (bg:=S.bg) ha g1
 rw[h3]at ho
 refine⟨m,ho,c',τ',g6,g9,?_,g7,g8⟩
 have e1:S.ends n m=(absT S.M S.bg c).ends n m:=by rw[h3]
 rw[e1]
 unfold absT Ts.ends
 simp only[Ts.mk.injEq,true_and]
 refine⟨?_,?_,?_⟩
 ·funext y
  rw[g2,getK_del ha,g3,g4]
  by_cases e:n=y
  ·rw[if_pos e,if_pos e.symm];rfl
  ·rw[if_neg e,if_neg (fun q=>e q.symm)]
 ·rw[g2]
  have:=delK_one ha (getK_mem hg)
  omega
 ·rw[g5,List.map_drop,List.length_map]

theorem gcommitT(h:Mg K N B w p S F)(n:Nb)(hB:B≤9223372036854775804)(hK:∀t er xs,CkT S n t er xs→K+3*xs.length≤100000):Calls Tryz.prog 18 #[.pointer (some ⟨p,0,none⟩),.int .i64 n.v] w fun e w'=>
  (S.op n=none∧e=.returned (.tuple #[.int .i64 0,.int .i64 140])∧MgA K N B w p F S w')∨(∃x t er xs m,S.op n=some x∧CkT S n t er xs∧e=.returned (.tuple #[.int .i64 t,.int .i64 er])∧OldS (S.com xs) n m∧MgA (K+3*xs.length) N (B+1) w p F ((S.com xs).ends n m) w'):=by
 have hm:=h
 obtain⟨c,τ,h1,h2,h3,h4⟩:=h
 have hop:S.op n=(getK n c.L).map (fun q=>(c.ow q,c.mv q)):=by rw[←h3];rfl
 refine(tcommit_any h1 n h2.sn (fun y hy=>by have:=h2.num y hy;omega) ⟨h2.now.1,by have:=h2.now;omega⟩ (fun t er xs hR=>hK t er xs (ckt_of h3 hR))).mono ?_
 rintro e w' (⟨a1,a2,a3⟩ | ⟨a1,t,er,xs,a2,a3,w1,c1,τ1,b1,b2,b3,b4,b5,b6,b7,b8⟩)
 ·exact .inl ⟨by rw[hop,a1];rfl,a2,hm.still (Nat.le_refl _) h1.big a3⟩
 ·cases hg:getK n c.L with
  | none=>exact absurd hg a1
  | some q=>
   have hc:=com_op S xs
   have h2':Iv (B+1) (S.com xs).M c1:=by rw[hc.2.2.2];exact h2.com b2 b4 b5
   have h3':absT (S.com xs).M (S.com xs).bg c1=S.com xs:=by
    have hs:S=absT S.M S.bg c:=h3.symm
    rcases b5 with⟨e1,e2⟩ | ⟨e1,y,e2,e3,e4⟩
    ·subst e1
     have:S.com []=S:=by unfold Ts.com;rw[if_pos rfl]
     rw[this]
     conv=>rhs;rw[hs]
     unfold absT
     rw[b2,b3,b4,e2]
    ·have h9:S.com xs={S with M:=putM S.M (S.M.now+1) xs,cl:=S.cl++[(S.M.now,xs)]}:=by unfold Ts.com;rw[if_neg e1]
     rw[h9]
     have o1:S.op=(absT S.M S.bg c).op:=by rw[h3]
     have o2:S.ln=(absT S.M S.bg c).ln:=by rw[h3]
     have o3:S.cl=(absT S.M S.bg c).cl:=by rw[h3]
     rw[o1,o2,o3]
     unfold absT
     simp only[Ts.mk.injEq,true_and]
     rw[b2,b3,b4,e4,List.map_append,List.map_cons,List.map_nil,e2,e3]
     exact⟨rfl,rfl,rfl⟩
   rw[←hc.2.2.2,←hc.2.1]at b1
   obtain⟨m,ho,c',τ',g1,g2,g3,g4,g5⟩:=mg_end2 (K:=K+3*xs.length) (by rw[b2];exact h1.apart) h2' h3' (by rw[b2];exact hg) b1
   refine .inr ⟨_,t,er,xs,m,by rw[hop,hg];rfl,ckt_of h3 a2,a3,ho,fun k=>τ' k≠0,⟨c',τ',g1,g2,g3,fun _=>Iff.rfl⟩,fun k hk=>?_,?_⟩
   ·show τ' k≠0↔F k
    rw[g4 k (by omega),b6 k hk]
    exact(h4 k).symm
   ·refine Kept.trans b7 g5 (fun k _ e=>(h4 k).2 e) (fun k hk e=>(h4 k).2 ?_)
    rw[←b6 k hk]
    exact e
end

end Go.Proofs.YtcfociogljhbiaaGreatDoor

namespace Go.Proofs.YtcfociogljhbiaaGreatDoor
open Go.RowKit Go.Maps Go.Sort Go.Shelf

def bxT(ow ar:Nm):Bx:=⟨ow.s,ar.s,⟨ow.ok,ar.ok⟩⟩

theorem lsM_t(mv:Mv)(b:Bx):(lsM mv b).t=mv.t:=by
 first
 | rfl
 | (unfold lsM;split<;>rfl)

section
variable {K N:Nat} {B:Int} {w:World} {p:Nat} {S:Ts} {F:Nat→Prop}
theorem guseT(h:Mg K N B w p S F)(ow:ByteArray):Calls Tryz.prog 32 #[.pointer (some ⟨p,0,none⟩),.string ow] w fun e w'=>
  ∃D,IsDm (visF S.M.V S.M.now) D∧e=.returned (.agg #[.int .i64 (wr14 (useB ow D)),.int .i64 (wr14 (useN ow D))])∧Same w w':=by
 obtain⟨c,τ,h1,h2,h3,h4⟩:=h
 exact tuse_any h1 ow

theorem gdumpT(h:Mg K N B w p S F):Calls Tryz.prog 22 #[.pointer (some ⟨p,0,none⟩)] w fun e w'=>DumA w (visF S.M.V S.M.now) e w':=by
 obtain⟨c,τ,h1,h2,h3,h4⟩:=h
 exact tdump_any h1

end

end Go.Proofs.YtcfociogljhbiaaGreatDoor

namespace Go.Proofs.YtcfociogljhbiaaGreatDoor
open Go.RowKit Go.Maps Go.Sort Go.Shelf

def nmT14:Nm:=⟨⟨#[116]⟩,by decide⟩
def nmX14:Nm:=⟨⟨#[120]⟩,by decide⟩
def nmA14:Nm:=⟨⟨#[97]⟩,by decide⟩
def nmB14:Nm:=⟨⟨#[98]⟩,by decide⟩
def nb1:Nb:=⟨1,by decide⟩
def nb2:Nb:=⟨2,by decide⟩
def nb3:Nb:=⟨3,by decide⟩
def dOne:ByteArray:=⟨#[111,110,101]⟩
def dTwo:ByteArray:=⟨#[116,119,111]⟩
def dBang:ByteArray:=⟨#[33]⟩
def dAll:ByteArray:=⟨#[111,110,101,33]⟩
def bx14:Bx:=bxT nmT14 nmX14
def kA14:Ke:=(bx14,nmA14)
def wA14:Wr:=⟨bx14,nmA14,true,dOne,by decide⟩
def wB14:Wr:=⟨bx14,nmB14,true,dTwo,by decide⟩
def wC14:Wr:=⟨bx14,nmA14,true,dAll,by decide⟩

def VS(l:List Ver):Vs:=fun b n=>if b=bx14∧n=nmA14 then l else []

theorem vs_put(l:List Ver)(x:Wr)(t:Int)(hb:x.b=bx14)(hn:x.n=nmA14):putsF (VS l) [x] t=VS (putV l (verOf x t)):=by
 funext b n
 show(if b=x.b∧n=x.n then putV (VS l b n) (verOf x t)else VS l b n)=_
 rw[hb,hn]
 unfold VS
 by_cases h:b=bx14∧n=nmA14
 ·rw[if_pos h,if_pos h,if_pos h]
 ·rw[if_neg h,if_neg h,if_neg h]

theorem vs_nil:(fun _ _=>[]:Vs)=VS []:=by
 funext b n
 unfold VS
 split<;>rfl

theorem vs_pru(now fl f:Int)(l:List Ver):pruM ⟨now,fl,VS l⟩ f=⟨now,f,VS (pruV l f)⟩:=by
 unfold pruM
 congr 1
 funext b n
 show pruV (VS l b n) f=VS (pruV l f) b n
 unfold VS
 split<;>rfl

theorem vs_dm(l:List Ver)(t:Int)(d:ByteArray)(h:visV l t=some d):IsDm (visF (VS l) t) [(bx14,[(nmA14,d)])]:=by
 have hv:∀b n,visF (VS l) t b n=if b=bx14∧n=nmA14 then some d else none:=by
  intro b n
  unfold visF VS
  split
  ·exact h
  ·rfl
 refine⟨List.pairwise_singleton _ _,fun x hx=>?_,fun x hx=>?_,fun b n hb=>?_⟩
 ·rw[List.mem_singleton.1 hx];simp
 ·rw[List.mem_singleton.1 hx]
  refine⟨List.pairwise_singleton _ _,fun n e=>?_⟩
  rw[hv]
  constructor
  ·intro hm
   have e1:=List.mem_singleton.1 hm
   injection e1 with e1 e2
   rw[if_pos ⟨rfl,e1⟩,e2]
  ·intro hm
   by_cases hn:n=nmA14
   ·rw[if_pos ⟨rfl,hn⟩]at hm
    injection hm with hm
    rw[hn,hm]
    exact List.mem_singleton.2 rfl
   ·rw[if_neg (fun q=>hn q.2)]at hm
    cases hm
 ·rw[hv]at hb
  by_cases hc:b=bx14∧n=nmA14
  ·exact⟨_,List.mem_singleton.2 rfl,hc.1.symm⟩
  ·rw[if_neg hc]at hb
   exact absurd rfl hb

theorem vs_dm0(t:Int):IsDm (visF (VS []) t) []:=by
 have:visF (VS []) t=fun _ _=>none:=by
  funext b n
  unfold visF VS
  split<;>rfl
 rw[this]
 exact⟨List.Pairwise.nil,fun _ h=>(by cases h),fun _ h=>(by cases h),fun _ _ h=>absurd rfl h⟩

def Op2(x y:Option (Nm×Mv)):Nb→Option (Nm×Mv):=fun n=>if n=nb2 then y else if n=nb1 then x else none
def Op3(x:Option (Nm×Mv)):Nb→Option (Nm×Mv):=fun n=>if n=nb3 then x else none

theorem set2_1(M:Mst)(bg:Int)(x y:Option (Nm×Mv))(ln:Nat)(cl:List (Int×List Wr))(v:Nm×Mv):(⟨M,bg,Op2 x y,ln,cl⟩:Ts).set nb1 v=⟨M,bg,Op2 (some v) y,ln,cl⟩:=by
 unfold Ts.set
 congr 1
 funext n
 show(if n=nb1 then some v else Op2 x y n)=Op2 (some v) y n
 unfold Op2
 by_cases h2:n=nb2
 ·subst h2;rw[if_neg (by decide),if_pos rfl,if_pos rfl]
 ·by_cases h1:n=nb1
  ·rw[if_pos h1,if_neg h2,if_pos h1]
  ·rw[if_neg h1,if_neg h2,if_neg h1,if_neg h2,if_neg h1]

theorem set2_2(M:Mst)(bg:Int)(x y:Option (Nm×Mv))(ln:Nat)(cl:List (Int×List Wr))(v:Nm×Mv):(⟨M,bg,Op2 x y,ln,cl⟩:Ts).set nb2 v=⟨M,bg,Op2 x (some v),ln,cl⟩:=by
 unfold Ts.set
 congr 1
 funext n
 show(if n=nb2 then some v else Op2 x y n)=Op2 x (some v) n
 unfold Op2
 by_cases h2:n=nb2
 ·rw[if_pos h2,if_pos h2]
 ·rw[if_neg h2,if_neg h2,if_neg h2]

theorem set3_3(M:Mst)(bg:Int)(x:Option (Nm×Mv))(ln:Nat)(cl:List (Int×List Wr))(v:Nm×Mv):(⟨M,bg,Op3 x,ln,cl⟩:Ts).set nb3 v=⟨M,bg,Op3 (some v),ln,cl⟩:=by
 unfold Ts.set
 congr 1
 funext n
 show(if n=nb3 then some v else Op3 x n)=Op3 (some v) n
 unfold Op3
 by_cases h:n=nb3
 ·rw[if_pos h,if_pos h]
 ·rw[if_neg h,if_neg h,if_neg h]

theorem rem2_1(x y:Option (Nm×Mv)):(fun n=>if n=nb1 then none else Op2 x y n)=Op2 none y:=by
 funext n
 unfold Op2
 by_cases h2:n=nb2
 ·subst h2;rw[if_neg (by decide),if_pos rfl,if_pos rfl]
 ·by_cases h1:n=nb1
  ·rw[if_pos h1,if_neg h2,if_pos h1]
  ·rw[if_neg h1,if_neg h2,if_neg h1,if_neg h2,if_neg h1]

theorem rem2_2(y:Option (Nm×Mv)):(fun n=>if n=nb2 then none else Op2 none y n)=(fun _=>none):=by
 funext n
 unfold Op2
 by_cases h2:n=nb2
 ·rw[if_pos h2]
 ·rw[if_neg h2,if_neg h2];split<;>rfl

theorem rem3_3(x:Option (Nm×Mv)):(fun n=>if n=nb3 then none else Op3 x n)=(fun _=>none):=by
 funext n
 unfold Op3
 by_cases h:n=nb3
 ·rw[if_pos h]
 ·rw[if_neg h,if_neg h]

def OneSt(mv:Mv)(x:Wr):Prop:=mv.emp=false∧∀k,mv.st k=if keO x=k then some x else none

theorem one_stm(mv:Mv)(x:Wr)(h:∀k,mv.st k=none):OneSt (stM mv x) x:=⟨rfl,fun k=>by
 show(if keO x=k then some x else mv.st k)=_
 rw[h]⟩

theorem one_stw{mv:Mv}{x:Wr}(h:OneSt mv x){ys:List Wr}(hy:StW mv ys):ys=[x]:=by
 obtain⟨h1,h2⟩:=hy
 have hx:x∈ys:=(h2 x).2 (by rw[h.2,if_pos rfl])
 have hall:∀r∈ys,r=x:=fun r hr=>by
  have h9:=(h2 r).1 hr
  rw[h.2]at h9
  by_cases e:keO x=keO r
  ·rw[if_pos e]at h9
   injection h9 with h9
   exact h9.symm
  ·rw[if_neg e]at h9
   cases h9
 match ys,hx with
 | [a],_=>rw[hall a (by simp)]
 | a::b::r,_=>
  exfalso
  have e1:=hall a (by simp)
  have e2:=hall b (by simp)
  have h9:=(List.pairwise_cons.1 h1).1 b (by simp)
  rw[e1,e2]at h9
  exact ltK_irr _ h9

end Go.Proofs.YtcfociogljhbiaaGreatDoor

namespace Go.Proofs.YtcfociogljhbiaaGreatDoor
open Go.RowKit Go.Maps Go.Sort Go.Shelf

def m14a:Mv:=stM (mv0 0) wA14
def m14b:Mv:=redM (mv0 0) kA14
def m14c:Mv:=stM m14b wB14
def m14d:Mv:=stM (redM (mv0 1) kA14) wC14
def m14e:Mv:=lsM m14d bx14
def v14a:Ver:=⟨2,true,dOne⟩
def v14b:Ver:=⟨3,true,dAll⟩
def T14a:Ts:=⟨M14,1,Op2 (some (nmT14,mv0 0)) none,1,[]⟩
def T14b:Ts:=⟨M14,2,Op2 (some (nmT14,mv0 0)) (some (nmT14,mv0 0)),2,[]⟩
def T14c:Ts:=⟨M14,2,Op2 (some (nmT14,m14a)) (some (nmT14,mv0 0)),2,[]⟩
def T14d:Ts:=⟨M14,2,Op2 (some (nmT14,m14a)) (some (nmT14,m14b)),2,[]⟩
def T14e:Ts:=⟨⟨2,1,VS [v14a]⟩,2,Op2 none (some (nmT14,m14b)),1,[(1,[wA14])]⟩
def T14f:Ts:=⟨⟨2,1,VS [v14a]⟩,2,Op2 none (some (nmT14,m14c)),1,[(1,[wA14])]⟩
def T14g:Ts:=⟨⟨2,2,VS [v14a]⟩,2,fun _=>none,0,[]⟩
def T14h:Ts:=⟨⟨2,2,VS [v14a]⟩,3,Op3 (some (nmT14,mv0 1)),1,[]⟩
def T14i:Ts:=⟨⟨2,2,VS [v14a]⟩,3,Op3 (some (nmT14,m14d)),1,[]⟩
def T14j:Ts:=⟨⟨2,2,VS [v14a]⟩,3,Op3 (some (nmT14,m14e)),1,[]⟩
def T14k:Ts:=⟨⟨3,3,VS [v14b]⟩,3,fun _=>none,0,[]⟩

theorem sho14:sho nmT14.s=true∧sho nmX14.s=true:=by decide +kernel
theorem nam14:namT nmX14 nmA14=true∧namT nmX14 nmB14=true:=by decide +kernel

theorem beg14a:(⟨M14,0,fun _=>none,0,[]⟩:Ts).beg nb1 nmT14=T14a:=by
 unfold Ts.beg T14a
 congr 1
 funext n
 show(if n=nb1 then some (nmT14,mv0 (1-1))else none)=Op2 _ none n
 unfold Op2
 by_cases h:n=nb2
 ·subst h;rw[if_neg (by decide),if_pos rfl]
 ·rw[if_neg h];rfl

theorem beg14b:T14a.beg nb2 nmT14=T14b:=by
 unfold Ts.beg T14a T14b
 congr 1
 funext n
 show(if n=nb2 then some (nmT14,mv0 (1-1))else Op2 _ none n)=Op2 _ _ n
 unfold Op2
 by_cases h:n=nb2
 ·rw[if_pos h,if_pos h];rfl
 ·rw[if_neg h,if_neg h,if_neg h]

theorem beg14h:T14g.beg nb3 nmT14=T14h:=by
 unfold Ts.beg T14g T14h
 congr 1

theorem put14c:T14b.stg nb1 nmX14 nmA14 (fun ow mv=>if 8192<dOne.size then(145,mv) else(0,stM mv ⟨(kyT ow nmX14 nmA14).1,(kyT ow nmX14 nmA14).2,true,dOne,by decide⟩))=(0,T14c):=by
 unfold Ts.stg
 have h:T14b.op nb1=some (nmT14,mv0 0):=rfl
 rw[h]
 simp only[nam14.1,if_true]
 rw[if_neg (by decide)]
 unfold T14b T14c
 rw[set2_1]
 rfl

theorem put14f:T14e.stg nb2 nmX14 nmB14 (fun ow mv=>if 8192<dTwo.size then(145,mv) else(0,stM mv ⟨(kyT ow nmX14 nmB14).1,(kyT ow nmX14 nmB14).2,true,dTwo,by decide⟩))=(0,T14f):=by
 unfold Ts.stg
 have h:T14e.op nb2=some (nmT14,m14b):=rfl
 rw[h]
 simp only[nam14.2,if_true]
 rw[if_neg (by decide)]
 unfold T14e T14f
 rw[set2_2]
 rfl

theorem rea14a:T14c.see nb1 nmX14 nmA14 (fun m=>.tuple #[.string ⟨#[]⟩,.int .i64 m]) (reaT T14c.M nmX14 nmA14)=(.tuple #[.string dOne,.int .i64 0],T14c):=by
 unfold Ts.see
 have h:T14c.op nb1=some (nmT14,m14a):=rfl
 rw[h]
 simp only[nam14.1,if_true]
 have hs:m14a.st (kyT nmT14 nmX14 nmA14)=some wA14:=by
  show(if keO wA14=kA14 then some wA14 else none)=_
  exact if_pos rfl
 have hn:notM m14a (kyT nmT14 nmX14 nmA14)=m14a:=by unfold notM;rw[hs];rfl
 unfold reaT seeT seeD
 rw[hn]
 simp only[hs]
 unfold T14c
 rw[set2_1]
 rfl

theorem rea14b:T14c.see nb2 nmX14 nmA14 (fun m=>.tuple #[.string ⟨#[]⟩,.int .i64 m]) (reaT T14c.M nmX14 nmA14)=(.tuple #[.string ⟨#[]⟩,.int .i64 144],T14d):=by
 unfold Ts.see
 have h:T14c.op nb2=some (nmT14,mv0 0):=rfl
 rw[h]
 simp only[nam14.1,if_true]
 unfold T14c T14d
 rw[set2_2]
 rfl

theorem com14a{t er:Int}{xs:List Wr}(h:CkT T14d nb1 t er xs):t=1∧er=0∧xs=[wA14]:=by
 have hop:T14d.op nb1=some (nmT14,m14a):=rfl
 rcases h with⟨h1,_⟩ | ⟨ow,mv,ys,h1,h2,_,h4⟩
 ·rw[hop]at h1;cases h1
 ·rw[hop]at h1
  injection h1 with h1
  injection h1 with e1 e2
  subst e1 e2
  have hy:=one_stw (one_stm (mv0 0) wA14 (fun _=>rfl)) h2
  subst hy
  rcases h4 with⟨h5,_⟩ | ⟨_,h5,_⟩ | ⟨_,_,D,hD,h6⟩
  ·cases h5
  ·have:T14d.con m14a=false:=by decide +kernel
   rw[this]at h5;cases h5
  ·have hd:D=[]:=by
    have h9:=vs_dm0 T14d.M.now
    have e:(VS []:Vs)=T14d.M.V:=vs_nil.symm
    rw[e]at h9
    exact hD.det h9
   subst hd
   rcases h6 with⟨h7,_⟩ | ⟨_,h7,h8,h9⟩
   ·have:manyB (cntW (thNow T14d.M) [wA14] (cntD nmT14.s []))=false:=by decide +kernel
    rw[this]at h7;cases h7
   ·exact⟨h8,h7,h9⟩

theorem old14a{m:Int}(h:OldS (T14d.com [wA14]) nb1 m):m=0:=by
 have hop:(T14d.com [wA14]).op=T14d.op:=(com_op _ _).1
 obtain⟨h1,h2,h3⟩:=h
 have h4:=h2 nb2 (nmT14,m14b) (by decide) (by rw[hop];rfl)
 have h5:m≤0:=h4
 rcases h3 with e | ⟨y,x,e1,e2,e3⟩
 ·have:(T14d.com [wA14]).M.now-1=1:=rfl
  omega
 ·rw[hop]at e2
  have e4:Op2 (some (nmT14,m14a)) (some (nmT14,m14b)) y=some x:=e2
  unfold Op2 at e4
  by_cases hy:y=nb2
  ·rw[if_pos hy]at e4
   injection e4 with e4
   rw[e3,←e4];rfl
  ·rw[if_neg hy,if_neg e1]at e4
   cases e4

theorem end14e:(T14d.com [wA14]).ends nb1 0=T14e:=by
 have hc:T14d.com [wA14]=⟨⟨2,0,VS [v14a]⟩,2,Op2 (some (nmT14,m14a)) (some (nmT14,m14b)),2,[(1,[wA14])]⟩:=by
  unfold Ts.com
  rw[if_neg (by simp)]
  have e:putM T14d.M (T14d.M.now+1) [wA14]=⟨2,0,VS [v14a]⟩:=by
   unfold putM
   have h9:=vs_put [] wA14 2 rfl rfl
   rw[←vs_nil]at h9
   show(⟨2,0,putsF (fun _ _=>[]) [wA14] 2⟩:Mst)=_
   rw[h9]
   rfl
  rw[e]
  rfl
 rw[hc]
 unfold Ts.ends T14e
 have hp:prM ⟨2,0,VS [v14a]⟩ (0+1)=⟨2,1,VS [v14a]⟩:=by
  unfold prM
  rw[if_neg (by decide)]
  show pruM ⟨2,0,VS [v14a]⟩ 1=_
  rw[vs_pru]
  have:pruV [v14a] 1=[v14a]:=by
   unfold pruV newV upV v14a
   rfl
  rw[this]
 simp only[hp,rem2_1]
 rfl

end Go.Proofs.YtcfociogljhbiaaGreatDoor

namespace Go.Proofs.YtcfociogljhbiaaGreatDoor
open Go.RowKit Go.Maps Go.Sort Go.Shelf

theorem com14f{t er:Int}{xs:List Wr}(h:CkT T14f nb2 t er xs):t=0∧er=142∧xs=[]:=by
 have hop:T14f.op nb2=some (nmT14,m14c):=rfl
 have hcon:T14f.con m14c=true:=by decide +kernel
 rcases h with⟨h1,_⟩ | ⟨ow,mv,ys,h1,h2,_,h4⟩
 ·rw[hop]at h1;cases h1
 ·rw[hop]at h1
  injection h1 with h1
  injection h1 with e1 e2
  subst e1 e2
  have hy:=one_stw (one_stm m14b wB14 (fun _=>rfl)) h2
  subst hy
  rcases h4 with⟨h5,_⟩ | ⟨_,_,h6,h7,h8⟩ | ⟨_,h5,_⟩
  ·cases h5
  ·exact⟨h7,h6,h8⟩
  ·rw[hcon]at h5;cases h5

theorem com_nil(S:Ts):S.com []=S:=by unfold Ts.com;rw[if_pos rfl]

theorem old14f{m:Int}(h:OldS (T14f.com []) nb2 m):m=1:=by
 rw[com_nil]at h
 obtain⟨h1,h2,h3⟩:=h
 rcases h3 with e | ⟨y,x,e1,e2,e3⟩
 ·exact e
 ·have e4:Op2 none (some (nmT14,m14c)) y=some x:=e2
  unfold Op2 at e4
  rw[if_neg e1]at e4
  split at e4<;>cases e4

theorem pru14:pruV [v14a] 1=[v14a]∧pruV [v14a] 2=[v14a]∧pruV [v14a,v14b] 3=[v14b]:=⟨rfl,rfl,rfl⟩

theorem end14g:(T14f.com []).ends nb2 1=T14g:=by
 rw[com_nil]
 unfold Ts.ends T14f T14g
 have hp:prM ⟨2,1,VS [v14a]⟩ (1+1)=⟨2,2,VS [v14a]⟩:=by
  unfold prM
  rw[if_neg (by decide)]
  show pruM ⟨2,1,VS [v14a]⟩ 2=_
  rw[vs_pru,pru14.2.1]
 simp only[hp,rem2_2]
 rfl

theorem see14:seeD (mv0 1) T14h.M kA14=dOne∧seeT (mv0 1) T14h.M kA14=true:=by
 unfold seeD seeT
 have h:T14h.M.V kA14.1 kA14.2=[v14a]:=by
  show(if bx14=bx14∧nmA14=nmA14 then [v14a]else [])=_
  exact if_pos ⟨rfl,rfl⟩
 show(newV (T14h.M.V kA14.1 kA14.2) (max (1+1) 2)).data=dOne∧(newV (T14h.M.V kA14.1 kA14.2) (max (1+1) 2)).there=true
 rw[h]
 exact⟨rfl,rfl⟩

theorem add14i:T14h.stg nb3 nmX14 nmA14 (fun ow mv=>addF mv T14h.M (kyT ow nmX14 nmA14) dBang)=(0,T14i):=by
 unfold Ts.stg
 have h:T14h.op nb3=some (nmT14,mv0 1):=rfl
 rw[h]
 simp only[nam14.1,if_true]
 have hk:kyT nmT14 nmX14 nmA14=kA14:=rfl
 have hs:=see14.1
 have hn:notM (mv0 1) kA14=redM (mv0 1) kA14:=rfl
 have hadd:addF (mv0 1) T14h.M kA14 dBang=(0,m14d):=by
  unfold addF
  rw[dif_pos (by rw[hs];decide),hn]
  congr 1
 rw[hk,hadd]
 unfold T14h T14i
 rw[set3_3]

theorem lis14:seeN m14d T14i.M bx14=[nmA14]:=by
 refine seeN_is ⟨List.pairwise_singleton _ _,fun n=>?_⟩ (by decide)
 rw[List.mem_singleton]
 have hst:m14d.st (bx14,n)=if keO wC14=(bx14,n)then some wC14 else none:=rfl
 constructor
 ·intro e
  subst e
  unfold seeT
  have h9:m14d.st (bx14,nmA14)=some wC14:=by rw[hst];exact if_pos rfl
  rw[h9]
  rfl
 ·intro h
  refine Classical.byContradiction (fun hne=>?_)
  have h9:m14d.st (bx14,n)=none:=by
   rw[hst]
   refine if_neg (fun e=>hne ?_)
   injection e with _ e
   exact e.symm
  unfold seeT at h
  rw[h9]at h
  have h8:T14i.M.V bx14 n=[]:=by
   show(if bx14=bx14∧n=nmA14 then [v14a]else [])=_
   exact if_neg (fun e=>hne e.2)
  simp only[h8]at h
  exact absurd h (by decide)

theorem set14j:T14i.set nb3 (nmT14,lsM m14d (bxT nmT14 nmX14))=T14j:=by
 unfold T14i T14j
 rw[set3_3]
 rfl

theorem com14j{t er:Int}{xs:List Wr}(h:CkT T14j nb3 t er xs):t=2∧er=0∧xs=[wC14]:=by
 have hop:T14j.op nb3=some (nmT14,m14e):=rfl
 have hcon:T14j.con m14e=false:=by decide +kernel
 rcases h with⟨h1,_⟩ | ⟨ow,mv,ys,h1,h2,_,h4⟩
 ·rw[hop]at h1;cases h1
 ·rw[hop]at h1
  injection h1 with h1
  injection h1 with e1 e2
  subst e1 e2
  have hy:=one_stw (mv:=m14e) (x:=wC14) ⟨rfl,fun _=>rfl⟩ h2
  subst hy
  rcases h4 with⟨h5,_⟩ | ⟨_,h5,_⟩ | ⟨_,_,D,hD,h6⟩
  ·cases h5
  ·rw[hcon]at h5;cases h5
  ·have hd:D=[(bx14,[(nmA14,dOne)])]:=hD.det (vs_dm [v14a] 2 dOne rfl)
   subst hd
   rcases h6 with⟨h7,_⟩ | ⟨_,h7,h8,h9⟩
   ·have:manyB (cntW (thNow T14j.M) [wC14] (cntD nmT14.s [(bx14,[(nmA14,dOne)])]))=false:=by decide +kernel
    rw[this]at h7;cases h7
   ·exact⟨h8,h7,h9⟩

theorem old14j{m:Int}(h:OldS (T14j.com [wC14]) nb3 m):m=2:=by
 have hop:(T14j.com [wC14]).op=T14j.op:=(com_op _ _).1
 obtain⟨h1,h2,h3⟩:=h
 rcases h3 with e | ⟨y,x,e1,e2,e3⟩
 ·exact e
 ·rw[hop]at e2
  have e4:Op3 (some (nmT14,m14e)) y=some x:=e2
  unfold Op3 at e4
  rw[if_neg e1]at e4
  cases e4

theorem end14k:(T14j.com [wC14]).ends nb3 2=T14k:=by
 have hc:T14j.com [wC14]=⟨⟨3,2,VS [v14a,v14b]⟩,3,Op3 (some (nmT14,m14e)),1,[(2,[wC14])]⟩:=by
  unfold Ts.com
  rw[if_neg (by simp)]
  have e:putM T14j.M (T14j.M.now+1) [wC14]=⟨3,2,VS [v14a,v14b]⟩:=by
   unfold putM
   have h9:=vs_put [v14a] wC14 3 rfl rfl
   show(⟨3,2,putsF (VS [v14a]) [wC14] 3⟩:Mst)=_
   rw[h9]
   rfl
  rw[e]
  rfl
 rw[hc]
 unfold Ts.ends T14k
 have hp:prM ⟨3,2,VS [v14a,v14b]⟩ (2+1)=⟨3,3,VS [v14b]⟩:=by
  unfold prM
  rw[if_neg (by decide)]
  show pruM ⟨3,2,VS [v14a,v14b]⟩ 3=_
  rw[vs_pru,pru14.2.2]
 simp only[hp,rem3_3]
 rfl

theorem use14{D:List (Bx×List Ent)}(h:IsDm (visF T14k.M.V T14k.M.now) D):wr14 (useB nmT14.s D)=4∧wr14 (useN nmT14.s D)=1:=by
 have hd:D=[(bx14,[(nmA14,dAll)])]:=h.det (vs_dm [v14b] 3 dAll rfl)
 subst hd
 decide +kernel

end Go.Proofs.YtcfociogljhbiaaGreatDoor

namespace Go.Proofs.YtcfociogljhbiaaGreatDoor
open Go.RowKit Go.Maps Go.Sort Go.Shelf

structure Ma(w0:World)(K N:Nat)(B:Int)(p:Nat)(S:Ts)(w:World):Prop where
 mg:∃F,Mg K N B w p S F
 same:Same w0 w
 le:w0.heap.size≤N

section
variable {w0 w w':World} {K K' N:Nat} {B B':Int} {p:Nat} {S S':Ts}

theorem Ma.next{F:Nat→Prop}(h:Mg K N B w p S F)(hs:Same w0 w)(hN:w0.heap.size≤N)(a:MgA K' N B' w p F S' w'):Ma w0 K' N B' p S' w':=by
 obtain⟨F',h1,_,h3⟩:=a
 exact⟨⟨F',h1⟩,hs.then h3 (fun k hk f=>by have:=(h.lt f).1;omega),hN⟩

theorem Ma.still(h:Ma w0 K N B p S w)(hk:Same w w'):Ma w0 K N B p S w':=by
 obtain⟨⟨F,h1⟩,h2,h3⟩:=h
 exact⟨⟨F,h1.same hk⟩,Same.trans h2 hk,h3⟩

theorem Ma.mxl(h:Ma w0 K N B p S w)(hx:Mxl w0):Mxl w:=hx.kept h.same (fun f=>f)

theorem ma_beg(h:Ma w0 K N B p S w)(hln:S.ln<256)(hbg:S.bg+1≤100000)(nb:Nb)(hnb:nb.v=S.bg+1):Calls Tryz.prog 15 #[.pointer (some ⟨p,0,none⟩),.string nmT14.s] w fun e w'=>e=.returned (.tuple #[.int .i64 nb.v,.int .i64 0])∧Ma w0 K N B p (S.beg nb nmT14) w':=by
 obtain⟨⟨F,h1⟩,h2,h3⟩:=h
 refine(gbeginT h1 nmT14 hbg).mono ?_
 rintro e w' (⟨a,_⟩ | ⟨_,a,_⟩ | ⟨_,_,nb',a1,a2,a3⟩)
 ·rw[sho14.1]at a;cases a
 ·omega
 ·obtain rfl:nb'=nb:=Nb.ext' (by rw[a1,hnb])
  exact⟨by rw[a2,hnb],Ma.next h1 h2 h3 a3⟩

theorem ma_put(h:Ma w0 K N B p S w)(n:Nb)(ar en:Nm)(d:ByteArray)(hd:d.size≤maxLen)(hx:Mxl w0)(hK:K+1≤100000){r:Int×Ts}(hr:S.stg n ar en (fun ow mv=>if 8192<d.size then(145,mv) else(0,stM mv ⟨(kyT ow ar en).1,(kyT ow ar en).2,true,d,hd⟩))=r):Calls Tryz.prog 28 #[.pointer (some ⟨p,0,none⟩),.int .i64 n.v,.string ar.s,.string en.s,.string d] w fun e w'=>e=.returned (.int .i64 r.1)∧Ma w0 (K+1) N B p r.2 w':=by
 have hm:=h.mxl hx
 obtain⟨⟨F,h1⟩,h2,h3⟩:=h
 subst hr
 exact(gputT h1 n ar en d hd hm hK).mono (fun e w' ⟨a1,a2⟩=>⟨a1,Ma.next h1 h2 h3 a2⟩)

theorem ma_read(h:Ma w0 K N B p S w)(n:Nb)(ar en:Nm)(hx:Mxl w0)(hB:B≤9223372036854775806)(hK:K+1≤100000){r:Value×Ts}(hr:S.see n ar en (fun m=>.tuple #[.string ⟨#[]⟩,.int .i64 m]) (reaT S.M ar en)=r):Calls Tryz.prog 24 #[.pointer (some ⟨p,0,none⟩),.int .i64 n.v,.string ar.s,.string en.s] w fun e w'=>e=.returned r.1∧Ma w0 (K+1) N B p r.2 w':=by
 have hm:=h.mxl hx
 obtain⟨⟨F,h1⟩,h2,h3⟩:=h
 subst hr
 exact(greadT h1 n ar en hm hB hK).mono (fun e w' ⟨a1,a2⟩=>⟨a1,Ma.next h1 h2 h3 a2⟩)

theorem ma_add(h:Ma w0 K N B p S w)(n:Nb)(ar en:Nm)(d:ByteArray)(hbig:∀ow mv,S.op n=some (ow,mv)→(seeD mv S.M (kyT ow ar en)).size+d.size≤4611686018427387904)(hx:Mxl w0)(hB:B≤9223372036854775806)(hK:K+1+1≤100000){r:Int×Ts}(hr:S.stg n ar en (fun ow mv=>addF mv S.M (kyT ow ar en) d)=r):Calls Tryz.prog 29 #[.pointer (some ⟨p,0,none⟩),.int .i64 n.v,.string ar.s,.string en.s,.string d] w fun e w'=>e=.returned (.int .i64 r.1)∧Ma w0 (K+1+1) N B p r.2 w':=by
 have hm:=h.mxl hx
 obtain⟨⟨F,h1⟩,h2,h3⟩:=h
 subst hr
 exact(gaddT h1 n ar en d hbig hm hB hK).mono (fun e w' ⟨a1,a2⟩=>⟨a1,Ma.next h1 h2 h3 a2⟩)

theorem ma_com(h:Ma w0 K N B p S w)(n:Nb)(hB:B≤9223372036854775804)(hK:K+3≤100000){t er:Int}{xs:List Wr}{m:Int}(hop:S.op n≠none)(hc:∀t' er' xs',CkT S n t' er' xs'→t'=t∧er'=er∧xs'=xs)(ho:∀m',OldS (S.com xs) n m'→m'=m)(hl:xs.length≤1)(he:(S.com xs).ends n m=S'):Calls Tryz.prog 18 #[.pointer (some ⟨p,0,none⟩),.int .i64 n.v] w fun e w'=>e=.returned (.tuple #[.int .i64 t,.int .i64 er])∧Ma w0 (K+3*xs.length) N (B+1) p S' w':=by
 obtain⟨⟨F,h1⟩,h2,h3⟩:=h
 refine(gcommitT h1 n hB (fun t' er' xs' hh=>by rw[(hc t' er' xs' hh).2.2];omega)).mono ?_
 rintro e w' (⟨a1,_⟩ | ⟨x,t',er',xs',m',_,b2,b3,b4,b5⟩)
 ·exact absurd a1 hop
 ·obtain⟨rfl,rfl,rfl⟩:=hc t' er' xs' b2
  obtain rfl:=ho m' b4
  subst he
  exact⟨b3,Ma.next h1 h2 h3 b5⟩

theorem ma_com_none(h:Ma w0 K N B p S w)(n:Nb)(hB:B≤9223372036854775804)(hK:K≤100000)(hop:S.op n=none):Calls Tryz.prog 18 #[.pointer (some ⟨p,0,none⟩),.int .i64 n.v] w fun e w'=>e=.returned (.tuple #[.int .i64 0,.int .i64 140])∧Ma w0 K N B p S w':=by
 obtain⟨⟨F,h1⟩,h2,h3⟩:=h
 refine(gcommitT h1 n hB (fun t' er' xs' hh=>?_)).mono ?_
 ·rcases hh with⟨_,_,_,rfl⟩ | ⟨ow,mv,ys,e,_⟩
  ·exact hK
  ·rw[hop]at e;cases e
 ·rintro e w' (⟨_,a2,a3⟩ | ⟨x,t',er',xs',m',b1,_⟩)
  ·exact⟨a2,Ma.next h1 h2 h3 a3⟩
  ·rw[hop]at b1;cases b1

theorem ma_now(h:Ma w0 K N B p S w):Calls Tryz.prog 16 #[.pointer (some ⟨p,0,none⟩)] w fun e w'=>e=.returned (.int .i64 (S.M.now-1))∧w'=w:=by
 obtain⟨⟨F,h1⟩,h2,h3⟩:=h
 exact gnowT h1

theorem ma_use(h:Ma w0 K N B p T14k w):Calls Tryz.prog 32 #[.pointer (some ⟨p,0,none⟩),.string nmT14.s] w fun e w'=>e=.returned (.agg #[.int .i64 4,.int .i64 1])∧Same w w':=by
 obtain⟨⟨F,h1⟩,h2,h3⟩:=h
 refine(guseT h1 nmT14.s).mono ?_
 rintro e w' ⟨D,hD,a1,a2⟩
 obtain⟨b1,b2⟩:=use14 hD
 rw[b1,b2]at a1
 exact⟨a1,a2⟩
end

theorem ma_new(w:World):Calls Tryz.prog 10 #[.slice none 0 0,.int .i64 0] w fun e w'=>∃N p,e=.returned (.tuple #[.pointer (some ⟨p,0,none⟩),.int .i64 0])∧Ma w 0 N 1 p ⟨M14,0,fun _=>none,0,[]⟩ w':=
 (tnew_none w).mono (fun e w' h=>by
  obtain⟨N,p,F,h1,h2,h3,_,h5⟩:=mg_new h
  exact⟨N,p,h1,⟨F,h3⟩,h5,h2⟩)

theorem ma_empty(w:World):Calls Tryz.prog 13 #[] w fun e w'=>∃N p,e=.returned (.pointer (some ⟨p,0,none⟩))∧Ma w 0 N 1 p ⟨M14,0,fun _=>none,0,[]⟩ w':=by
 have HN:=ma_new w
 go_enter Tryz.func13,Tryz.ntmps13
 go_wp2_with fail
 refine HN.mono ?_
 rintro e w1 ⟨N,p,rfl,h⟩
 have HM:=hid h
 clear h HN
 go_wp2_with fail
 go_ret
 exact⟨N,p,rfl,HM.out⟩

end Go.Proofs.YtcfociogljhbiaaGreatDoor

namespace Go.Proofs.YtcfociogljhbiaaGreatDoor
open Go.RowKit Go.Maps Go.Sort Go.Shelf

theorem row_one(w:World)(n:Nm):RowE w.heap.size 9 nmV (w.alloc (.cells #[.string n.s] 9)) (.slice (some ⟨w.heap.size,0,none⟩) 1 1) [n]:=
 World.ownsRow_lit w #[.string n.s] 1 (Nat.le_refl _) (by decide) rfl

structure MaR(w0:World)(K N:Nat)(B:Int)(p:Nat)(S:Ts)(v:Value)(L:List Nm)(w:World):Prop where
 mg:∃F,Mg K N B w p S F∧∀k,v.ownBlock=some k→¬F k
 same:Same w0 w
 le:w0.heap.size≤N
 row:RowE w0.heap.size 9 nmV w v L

section
variable {w0 w w':World} {K K' N:Nat} {B B':Int} {p:Nat} {S S':Ts} {v:Value} {Ln:List Nm}

theorem MaR.ma(h:MaR w0 K N B p S v Ln w):Ma w0 K N B p S w:=by
 obtain⟨⟨F,h1,_⟩,h2,h3,_⟩:=h
 exact⟨⟨F,h1⟩,h2,h3⟩

theorem mar_list(h:Ma w0 K N B p S w)(n:Nb)(ar:Nm)(hsh:sho ar.s=true)(hB:B≤9223372036854775806)(hK:K+1≤100000){ow:Nm}{mv:Mv}(hop:S.op n=some (ow,mv)){L:List Nm}(hL:seeN mv S.M (bxT ow ar)=L)(hS:S.set n (ow,lsM mv (bxT ow ar))=S'):Calls Tryz.prog 26 #[.pointer (some ⟨p,0,none⟩),.int .i64 n.v,.string ar.s] w fun e w'=>∃v,e=.returned (.tuple #[v,.int .i64 0])∧MaR w0 (K+1) N B p S' v L w':=by
 obtain⟨⟨F,c,τ,h1,h2,h3,h4⟩,hs,hl⟩:=h
 have hop':S.op n=(getK n c.L).map (fun q=>(c.ow q,c.mv q)):=by rw[←h3];rfl
 refine(tlist_any h1 n ar (fun x hx=>⟨(h2.sn x hx).1,by have:=(h2.sn x hx).2.1;have:=h2.now;omega⟩) hK).mono ?_
 rintro e w' (⟨a1,_⟩ | ⟨q,_,a2,_⟩ | ⟨q,v,a1,a2,a3,a4,a5⟩)
 ·rw[hop',a1]at hop;cases hop
 ·rw[hsh]at a2;cases a2
 ·rw[hop',a1]at hop
  injection hop with hop
  injection hop with e1 e2
  subst e1 e2
  have hq:seeN (c.mv q) S.M (boT c q ar)=L:=hL
  rw[hq]at a4
  have hb:=hs.size
  refine⟨v,a3,⟨F,⟨c.set q (lsM (c.mv q) (boT c q ar)),τ,by rw[←hS];exact a5.1,by rw[←hS];exact h2.set (lsM_t _ _),?_,h4⟩,fun k e f=>?_⟩,?_,hl,a4.base hb⟩
  ·have h9:=abs_set h1 a1 (lsM (c.mv q) (boT c q ar))
   rw[h3]at h9
   rw[←hS]
   exact h9
  ·have:=a4.ge e
   have:=(h1.new k ((h4 k).1 f)).2
   omega
  ·exact hs.then a5.2 (fun k hk f=>by have:=(h1.new k f).1;omega)

theorem mar_com(h:MaR w0 K N B p S v Ln w)(n:Nb)(hB:B≤9223372036854775804)(hK:K+3≤100000){t er:Int}{xs:List Wr}{m:Int}(hop:S.op n≠none)(hc:∀t' er' xs',CkT S n t' er' xs'→t'=t∧er'=er∧xs'=xs)(ho:∀m',OldS (S.com xs) n m'→m'=m)(hl:xs.length≤1)(he:(S.com xs).ends n m=S'):Calls Tryz.prog 18 #[.pointer (some ⟨p,0,none⟩),.int .i64 n.v] w fun e w'=>e=.returned (.tuple #[.int .i64 t,.int .i64 er])∧MaR w0 (K+3*xs.length) N (B+1) p S' v Ln w':=by
 obtain⟨⟨F,h1,h5⟩,h2,h3,h4⟩:=h
 refine(gcommitT h1 n hB (fun t' er' xs' hh=>by rw[(hc t' er' xs' hh).2.2];omega)).mono ?_
 rintro e w' (⟨a1,_⟩ | ⟨x,t',er',xs',m',_,b2,b3,b4,F',c1,c2,c3⟩)
 ·exact absurd a1 hop
 ·obtain⟨rfl,rfl,rfl⟩:=hc t' er' xs' b2
  obtain rfl:=ho m' b4
  subst he
  exact⟨b3,⟨F',c1,fun k e f=>h5 k e ((c2 k (h4.lt e)).1 f)⟩,h2.then c3 (fun k hk f=>by have:=(h1.lt f).1;omega),h3,h4.kept c3 h5⟩
end

set_option maxRecDepth 100000 in
set_option maxHeartbeats 4000000 in
theorem awake14(w:World)(hx:Mxl w):Calls Tryz.prog 9 #[] w fun e w'=>e=.returned (.bool true)∧Same w w':=by
 have HX:=hid hx
 have HC:=ma_empty w
 clear hx
 go_enter Tryz.func9,Tryz.ntmps9
 go_wp2_with fail
 refine HC.mono ?_
 rintro e w1 ⟨N,p,rfl,h⟩
 have H1:Hid (Ma w 0 N 1 p ⟨M14,0,fun _=>none,0,[]⟩ w1):=hid h
 clear h HC
 have HC:Calls Tryz.prog 15 #[.pointer (some ⟨p,0,none⟩),.string ⟨#[116]⟩] w1 fun e w'=>e=.returned (.tuple #[.int .i64 1,.int .i64 0])∧Ma w 0 N 1 p T14a w':=by
  have h:=ma_beg H1.out (by decide) (by decide) nb1 rfl
  rw[beg14a]at h
  exact h
 clear H1
 go_wp2_with fail
 refine HC.mono ?_
 rintro e w2 ⟨rfl,h⟩
 have H2:=hid h
 clear h HC
 have HC:Calls Tryz.prog 15 #[.pointer (some ⟨p,0,none⟩),.string ⟨#[116]⟩] w2 fun e w'=>e=.returned (.tuple #[.int .i64 2,.int .i64 0])∧Ma w 0 N 1 p T14b w':=by
  have h:=ma_beg H2.out (by decide) (by decide) nb2 rfl
  rw[beg14b]at h
  exact h
 clear H2
 go_wp2_with fail
 refine HC.mono ?_
 rintro e w3 ⟨rfl,h⟩
 have H3:=hid h
 clear h HC
 have HC:Calls Tryz.prog 28 #[.pointer (some ⟨p,0,none⟩),.int .i64 1,.string ⟨#[120]⟩,.string ⟨#[97]⟩,.string ⟨#[111,110,101]⟩] w3 fun e w'=>e=.returned (.int .i64 0)∧Ma w 1 N 1 p T14c w':=by
  exact ma_put H3.out nb1 nmX14 nmA14 dOne (by decide) HX.out (by decide) put14c
 clear H3
 go_wp2_with fail
 refine HC.mono ?_
 rintro e w4 ⟨rfl,h⟩
 have H4:=hid h
 clear h HC
 have HC:Calls Tryz.prog 24 #[.pointer (some ⟨p,0,none⟩),.int .i64 1,.string ⟨#[120]⟩,.string ⟨#[97]⟩] w4 fun e w'=>e=.returned (.tuple #[.string ⟨#[111,110,101]⟩,.int .i64 0])∧Ma w 2 N 1 p T14c w':=by
  exact ma_read H4.out nb1 nmX14 nmA14 HX.out (by decide) (by decide) rea14a
 clear H4
 go_wp2_with fail
 refine HC.mono ?_
 rintro e w5 ⟨rfl,h⟩
 have H5:=hid h
 clear h HC
 have HC:Calls Tryz.prog 24 #[.pointer (some ⟨p,0,none⟩),.int .i64 2,.string ⟨#[120]⟩,.string ⟨#[97]⟩] w5 fun e w'=>e=.returned (.tuple #[.string ⟨#[]⟩,.int .i64 144])∧Ma w 3 N 1 p T14d w':=by
  exact ma_read H5.out nb2 nmX14 nmA14 HX.out (by decide) (by decide) rea14b
 clear H5
 go_wp2_with fail
 refine HC.mono ?_
 rintro e w6 ⟨rfl,h⟩
 have H6:=hid h
 clear h HC
 have HC:Calls Tryz.prog 18 #[.pointer (some ⟨p,0,none⟩),.int .i64 1] w6 fun e w'=>e=.returned (.tuple #[.int .i64 1,.int .i64 0])∧Ma w 6 N 2 p T14e w':=by
  exact ma_com H6.out nb1 (by decide) (by decide) (fun e=>by rw[show T14d.op nb1=some (nmT14,m14a)from rfl]at e;cases e) (fun _ _ _ h=>com14a h) (fun _ h=>old14a h) (by decide) end14e
 clear H6
 go_wp2_with fail
 refine HC.mono ?_
 rintro e w7 ⟨rfl,h⟩
 have H7:=hid h
 clear h HC
 have HC:Calls Tryz.prog 28 #[.pointer (some ⟨p,0,none⟩),.int .i64 2,.string ⟨#[120]⟩,.string ⟨#[98]⟩,.string ⟨#[116,119,111]⟩] w7 fun e w'=>e=.returned (.int .i64 0)∧Ma w 7 N 2 p T14f w':=by
  exact ma_put H7.out nb2 nmX14 nmB14 dTwo (by decide) HX.out (by decide) put14f
 clear H7
 go_wp2_with fail
 refine HC.mono ?_
 rintro e w8 ⟨rfl,h⟩
 have H8:=hid h
 clear h HC
 have HC:Calls Tryz.prog 18 #[.pointer (some ⟨p,0,none⟩),.int .i64 2] w8 fun e w'=>e=.returned (.tuple #[.int .i64 0,.int .i64 142])∧Ma w 7 N 3 p T14g w':=by
  exact ma_com H8.out nb2 (by decide) (by decide) (fun e=>by rw[show T14f.op nb2=some (nmT14,m14c)from rfl]at e;cases e) (fun _ _ _ h=>com14f h) (fun _ h=>old14f h) (by decide) end14g
 clear H8
 go_wp2_with fail
 refine HC.mono ?_
 rintro e w9 ⟨rfl,h⟩
 have H9:=hid h
 clear h HC
 have HC:Calls Tryz.prog 18 #[.pointer (some ⟨p,0,none⟩),.int .i64 2] w9 fun e w'=>e=.returned (.tuple #[.int .i64 0,.int .i64 140])∧Ma w 7 N 3 p T14g w':=by
  exact ma_com_none H9.out nb2 (by decide) (by decide) rfl
 clear H9
 go_wp2_with fail
 refine HC.mono ?_
 rintro e w10 ⟨rfl,h⟩
 have H10:=hid h
 clear h HC
 have HC:Calls Tryz.prog 15 #[.pointer (some ⟨p,0,none⟩),.string ⟨#[116]⟩] w10 fun e w'=>e=.returned (.tuple #[.int .i64 3,.int .i64 0])∧Ma w 7 N 3 p T14h w':=by
  have h:=ma_beg H10.out (by decide) (by decide) nb3 rfl
  rw[beg14h]at h
  exact h
 clear H10
 go_wp2_with fail
 refine HC.mono ?_
 rintro e w11 ⟨rfl,h⟩
 have H11:=hid h
 clear h HC
 have HC:Calls Tryz.prog 29 #[.pointer (some ⟨p,0,none⟩),.int .i64 3,.string ⟨#[120]⟩,.string ⟨#[97]⟩,.string ⟨#[33]⟩] w11 fun e w'=>e=.returned (.int .i64 0)∧Ma w 9 N 3 p T14i w':=by
  exact ma_add H11.out nb3 nmX14 nmA14 dBang (fun ow mv e=>by
   rw[show T14h.op nb3=some (nmT14,mv0 1)from rfl]at e
   cases e
   show(seeD (mv0 1) T14h.M kA14).size+_≤_
   rw[see14.1]
   decide) HX.out (by decide) (by decide) add14i
 clear H11
 go_wp2_with fail
 refine HC.mono ?_
 rintro e w12 ⟨rfl,h⟩
 have H12:=hid h
 clear h HC
 have HC:Calls Tryz.prog 26 #[.pointer (some ⟨p,0,none⟩),.int .i64 3,.string ⟨#[120]⟩] w12 fun e w'=>∃v,e=.returned (.tuple #[v,.int .i64 0])∧MaR w 10 N 3 p T14j v [nmA14] w':=
  mar_list H12.out nb3 nmX14 sho14.2 (by decide) (by decide) (show T14i.op nb3=some (nmT14,m14d)from rfl) lis14 set14j
 clear H12
 go_wp2_with fail
 refine HC.mono ?_
 rintro e w13 ⟨v,rfl,h⟩
 have H13:=hid h
 clear h HC
 have HC:Calls Tryz.prog 18 #[.pointer (some ⟨p,0,none⟩),.int .i64 3] w13 fun e w'=>e=.returned (.tuple #[.int .i64 2,.int .i64 0])∧MaR w 13 N 4 p T14k v [nmA14] w':=
  mar_com H13.out nb3 (by decide) (by decide) (fun e=>by rw[show T14j.op nb3=some (nmT14,m14e)from rfl]at e;cases e) (fun _ _ _ h=>com14j h) (fun _ h=>old14j h) (by decide) end14k
 clear H13
 go_wp2_with fail
 refine HC.mono ?_
 rintro e w14 ⟨rfl,h⟩
 have H14:=hid h
 clear h HC
 go_wp2_with fail

 obtain⟨w15,hw15⟩:∃W,W=w14.alloc (.cells #[.string ⟨#[97]⟩] 9):=⟨_,rfl⟩
 obtain⟨b,hb⟩:∃x,x=w14.heap.size:=⟨_,rfl⟩
 have HC:Calls Tryz.prog 33 #[v,.slice (some ⟨b,0,none⟩) 1 1] w15 fun e w'=>e=.returned (.bool true)∧Ma w 13 N 4 p T14k w':=by
  have hk:Same w14 w15:=by rw[hw15];exact(Kept.refl _ _).alloc _
  have hr:RowE w14.heap.size 9 nmV w15 (.slice (some ⟨b,0,none⟩) 1 1) [nmA14]:=by rw[hw15,hb];exact row_one w14 nmA14
  exact(texts_true w15 _ _ _ _ [nmA14] (H14.out.row.same hk) hr (by decide)).mono (fun e w' h=>⟨h.1,(H14.out.ma.still hk).still h.2⟩)
 rw[←hw15,←hb]
 clear hw15 hb H14
 refine HC.mono ?_
 rintro e w16 ⟨rfl,h⟩
 have H16:=hid h
 clear h HC
 go_wp2_with fail
 refine(show Calls Tryz.prog 32 #[.pointer (some ⟨p,0,none⟩),.string ⟨#[116]⟩] w16 _ from ma_use H16.out).mono ?_
 rintro e w17 ⟨rfl,h⟩
 have H17:=hid (H16.out.still h)
 clear h H16
 go_wp2_with fail
 refine(show Calls Tryz.prog 16 #[.pointer (some ⟨p,0,none⟩)] w17 (fun e w'=>e=.returned (.int .i64 2)∧w'=w17)from ma_now H17.out).mono ?_
 rintro e w18 ⟨rfl,hw⟩
 have hw9:=hw.symm
 subst hw9
 go_wp2_with fail
 go_ret
 exact⟨rfl,H17.out.same⟩

end Go.Proofs.YtcfociogljhbiaaGreatDoor

namespace Go.Proofs.YtcfociogljhbiaaGreatDoor
open Go.ChangeShapes Go.WideShapes Go.ChangeAt Go.RowKit Go.Deep Go.Maps

theorem Tryz.cells14s:Tryz.prog.cellsOf 9=1:=by kernel_rfl
theorem Tryz.cells14i:Tryz.prog.cellsOf 3=1:=by kernel_rfl
theorem Tryz.cells14o:Tryz.prog.cellsOf 24=6:=by kernel_rfl

structure Ot where
 kind:Int
 num:Int
 tn:ByteArray
 ar:ByteArray
 en:ByteArray
 dt:ByteArray
 ok:tn.size≤maxLen∧ar.size≤maxLen∧en.size≤maxLen∧dt.size≤maxLen∧(Lit.int .i64 num).wf=true

def otE(o:Ot):List Value:=[.int .i64 o.kind,.int .i64 o.num,.string o.tn,.string o.ar,.string o.en,.string o.dt]
theorem otE_ok:EncOk otE 6:=⟨fun _=>rfl,fun x u hu=>by simp[otE]at hu;rcases hu with rfl | rfl | rfl | rfl | rfl | rfl<;>rfl,by decide⟩

section
variable {H:Type} {enc:TypeId×Value→H} {W:World} {x:DataW H×List MemPlace}

theorem ot_of{fuel:Nat}{k0 k1 k2 k3 k4 k5:Value}(h:DataW.trod enc Tryz.prog W 0 (fun _=>true) true fuel 24 [k0,k1,k2,k3,k4,k5]=some x):∃o:Ot,[k0,k1,k2,k3,k4,k5]=otE o:=by
 obtain⟨xs,n',_,_,_,hlen,hf⟩:=DataW.trod_struct Tryz.underlying24 h
 match xs,hlen with
 | [y0,y1,y2,y3,y4,y5],_=>
  have c2:=Tryz.cells14s
  have c3:=Tryz.cells14i
  have t0:DataW.trod enc Tryz.prog W 0 (fun _=>true) true n' 3 [k0]=some y0:=by simpa[c2,c3]using hf 0 _ rfl
  have t1:DataW.trod enc Tryz.prog W 0 (fun _=>true) true n' 3 [k1]=some y1:=by simpa[c2,c3]using hf 1 _ rfl
  have t2:DataW.trod enc Tryz.prog W 0 (fun _=>true) true n' 9 [k2]=some y2:=by simpa[c2,c3]using hf 2 _ rfl
  have t3:DataW.trod enc Tryz.prog W 0 (fun _=>true) true n' 9 [k3]=some y3:=by simpa[c2,c3]using hf 3 _ rfl
  have t4:DataW.trod enc Tryz.prog W 0 (fun _=>true) true n' 9 [k4]=some y4:=by simpa[c2,c3]using hf 4 _ rfl
  have t5:DataW.trod enc Tryz.prog W 0 (fun _=>true) true n' 9 [k5]=some y5:=by simpa[c2,c3]using hf 5 _ rfl
  obtain⟨q0,e0,_,s0⟩:=DataW.trod_int Tryz.underlying3 t0
  obtain⟨q1,e1,_,s1⟩:=DataW.trod_int Tryz.underlying3 t1
  obtain⟨q2,e2,_,s2⟩:=DataW.trod_string Tryz.underlying9 t2
  obtain⟨q3,e3,_,s3⟩:=DataW.trod_string Tryz.underlying9 t3
  obtain⟨q4,e4,_,s4⟩:=DataW.trod_string Tryz.underlying9 t4
  obtain⟨q5,e5,_,s5⟩:=DataW.trod_string Tryz.underlying9 t5
  simp only[List.cons.injEq,and_true]at e0 e1 e2 e3 e4 e5
  subst e0 e1 e2 e3 e4 e5
  exact⟨⟨q0,q1,q2,q3,q4,q5,s2,s3,s4,s5,s1⟩,rfl⟩

theorem ot_arg{fuel:Nat}{cs:Array Value}(hs:cs.size=Tryz.prog.cellsOf 24)(h:DataW.trod enc Tryz.prog W 0 (fun _=>true) true fuel 24 (Value.agg cs).cells.toList=some x):∃o:Ot,cs=(otE o).toArray:=by
 rw[Tryz.cells14o]at hs
 obtain⟨l⟩:=cs
 simp only[List.size_toArray]at hs
 rcases l with _ | ⟨a,_ | ⟨b,_ | ⟨c,_ | ⟨d,_ | ⟨e,_ | ⟨f,_ | ⟨q,r⟩⟩⟩⟩⟩⟩⟩
 all_goals try (simp at hs;done)
 obtain⟨o,h1⟩:=ot_of (k0:=a) (k1:=b) (k2:=c) (k3:=d) (k4:=e) (k5:=f) h
 exact⟨o,by rw[h1]⟩
end
end Go.Proofs.YtcfociogljhbiaaGreatDoor

namespace Go.Proofs.YtcfociogljhbiaaGreatDoor
open Go.RowKit Go.Maps Go.Sort Go.Shelf
section
variable {K' N:Nat} {B:Int} {w:World} {p:Nat} {S':Ts} {F:Nat→Prop}
def MgV(K N:Nat)(B:Int)(w:World)(p:Nat)(F:Nat→Prop)(S:Ts)(v:Value)(L:List Nm)(w':World):Prop:=∃F',Mg K N B w' p S F'∧(∀k,k<w.heap.size→(F' k↔F k))∧Kept F w w'∧RowE w.heap.size 9 nmV w' v L∧∀k,v.ownBlock=some k→¬F' k

noncomputable def lsF (S:Ts) (n:Nb) (ar:Nm):Int×List Nm×Ts:=
 match S.op n with
 | none=>(140,[],S)
 | some (ow,mv)=>if sho ar.s=true then(0,seeN mv S.M (bxT ow ar),S.set n (ow,lsM mv (bxT ow ar))) else(143,[],S)

theorem glistV{K:Nat}{S:Ts}(h:Mg K N B w p S F)(n:Nb)(ar:Nm)(hK:K+1≤100000)(hB:B≤9223372036854775806):Calls Tryz.prog 26 #[.pointer (some ⟨p,0,none⟩),.int .i64 n.v,.string ar.s] w fun e w'=>∃v,e=.returned (.tuple #[v,.int .i64 (lsF S n ar).1])∧MgV (K+1) N B w p F (lsF S n ar).2.2 v (lsF S n ar).2.1 w':=by
 have hm:=h
 have hlt:∀k,F k→k<w.heap.size:=fun k f=>(h.lt f).2
 have hstill:∀w',Same w w'→MgV (K+1) N B w p F S (.slice none 0 0) [] w':=fun w' hk=>by
  obtain⟨F',b1,b2,b3⟩:=hm.still (Nat.le_succ _) hK hk
  exact⟨F',b1,b2,b3,RowE.nil,fun k e=>by cases e⟩
 obtain⟨c,τ,h1,h2,h3,h4⟩:=h
 have hop:S.op n=(getK n c.L).map (fun q=>(c.ow q,c.mv q)):=by rw[←h3];rfl
 refine(tlist_any h1 n ar (fun x hx=>⟨(h2.sn x hx).1,by have:=(h2.sn x hx).2.1;have:=h2.now;omega⟩) hK).mono ?_
 rintro e w' (⟨a1,a2,a3⟩ | ⟨q,a1,a2,a3,a4⟩ | ⟨q,v,a1,a2,a3,a4,a5⟩)
 ·have hl:lsF S n ar=(140,[],S):=by unfold lsF;rw[hop,a1];rfl
  rw[hl]
  exact⟨_,a2,hstill w' a3⟩
 ·have hl:lsF S n ar=(143,[],S):=by unfold lsF;rw[hop,a1];show(if sho ar.s=true then _ else _)=_;rw[if_neg (by rw[a2];decide)]
  rw[hl]
  exact⟨_,a3,hstill w' a4⟩
 ·have hl:lsF S n ar=(0,seeN (c.mv q) S.M (boT c q ar),S.set n (c.ow q,lsM (c.mv q) (boT c q ar))):=by unfold lsF;rw[hop,a1];show(if sho ar.s=true then _ else _)=_;rw[if_pos a2];rfl
  rw[hl]
  refine⟨v,a3,F,⟨c.set q (lsM (c.mv q) (boT c q ar)),τ,a5.1,h2.set (lsM_t _ _),?_,h4⟩,fun _ _=>Iff.rfl,a5.2.mono (fun k _ e=>(h4 k).2 e),a4,fun k e f=>?_⟩
  ·have h9:=abs_set h1 a1 (lsM (c.mv q) (boT c q ar))
   rw[h3]at h9
   exact h9
  ·have:=a4.ge e
   have:=hlt k f
   omega

end

end Go.Proofs.YtcfociogljhbiaaGreatDoor

namespace Go.Proofs.YtcfociogljhbiaaGreatDoor
open Go.RowKit Go.Maps Go.Sort Go.Shelf

structure Sm(S:Ts):Prop where
 vs:∀b n,∀v∈S.M.V b n,v.data.size≤8192
 st:∀n ow mv,S.op n=some (ow,mv)→∀k r,mv.st k=some r→r.data.size≤8192

section
variable {S:Ts} {n:Nb} {ow:Nm} {mv m:Mv}

theorem Sm.see(h:Sm S)(hop:S.op n=some (ow,mv))(k:Ke):(seeD mv S.M k).size≤8192:=by
 unfold seeD
 cases hs:mv.st k with
 | some r=>exact h.st n ow mv hop k r hs
 | none=>
  rcases newV_in (S.M.V k.1 k.2) (max (mv.t+1) S.M.floor)with e | e
  ·show(newV _ _).data.size≤_
   rw[e];exact Nat.zero_le _
  ·exact h.vs _ _ _ e

theorem Sm.set(h:Sm S)(hm:∀k r,m.st k=some r→r.data.size≤8192):Sm (S.set n (ow,m)):=by
 refine⟨h.vs,fun y o2 m2 e=>?_⟩
 have e':(if y=n then some (ow,m)else S.op y)=some (o2,m2):=e
 by_cases hy:y=n
 ·rw[if_pos hy]at e'
  injection e' with e'
  injection e' with e1 e2
  subst e1 e2
  exact hm
 ·rw[if_neg hy]at e'
  exact h.st y o2 m2 e'

theorem Sm.beg(h:Sm S)(tn:Nm):Sm (S.beg n tn):=by
 refine⟨h.vs,fun y o2 m2 e=>?_⟩
 have e':(if y=n then some (tn,mv0 (S.M.now-1))else S.op y)=some (o2,m2):=e
 by_cases hy:y=n
 ·rw[if_pos hy]at e'
  injection e' with e'
  injection e' with e1 e2
  subst e1 e2
  intro k r e
  cases e
 ·rw[if_neg hy]at e'
  exact h.st y o2 m2 e'

theorem puts_in(f:Vs)(ws:List Wr)(t:Int)(b:Bx)(n:Nm)(v:Ver)(h:v∈putsF f ws t b n):v∈f b n∨∃x∈ws,v=verOf x t:=by
 induction ws generalizing f with
 | nil=>exact .inl h
 | cons x r ih=>
  rcases ih (putF f x t) h with h9 | ⟨y,hy,e⟩
  ·have h8:v∈(if b=x.b∧n=x.n then putV (f b n) (verOf x t)else f b n):=h9
   by_cases hb:b=x.b∧n=x.n
   ·rw[if_pos hb]at h8
    unfold putV at h8
    rcases List.mem_append.1 h8 with h7 | h7
    ·exact .inl (List.mem_filter.1 h7).1
    ·exact .inr ⟨x,List.mem_cons_self,List.mem_singleton.1 h7⟩
   ·rw[if_neg hb]at h8
    exact .inl h8
  ·exact .inr ⟨y,List.mem_cons_of_mem _ hy,e⟩

theorem ver_sz(x:Wr)(t:Int)(h:x.data.size≤8192):(verOf x t).data.size≤8192:=by
 unfold verOf
 split
 ·exact h
 ·exact Nat.zero_le _

theorem Sm.com(h:Sm S)(xs:List Wr)(hx:∀x∈xs,x.data.size≤8192):Sm (S.com xs):=by
 obtain⟨e1,_,_,e4⟩:=com_op S xs
 refine⟨fun b n v hv=>?_,fun y o2 m2 e=>h.st y o2 m2 (by rw[←e1];exact e)⟩
 rw[e4]at hv
 by_cases hn:xs=[]
 ·rw[if_pos hn]at hv;exact h.vs b n v hv
 ·rw[if_neg hn]at hv
  rcases puts_in _ _ _ _ _ _ hv with h9 | ⟨x,hx9,rfl⟩
  ·exact h.vs b n v h9
  ·exact ver_sz x _ (hx x hx9)

theorem Sm.ends(h:Sm S)(mm:Int):Sm (S.ends n mm):=by
 refine⟨fun b k v hv=>?_,fun y o2 m2 e=>?_⟩
 ·have hv':v∈(prM S.M (mm+1)).V b k:=hv
  unfold prM at hv'
  split at hv'
  ·exact h.vs b k v hv'
  ·exact h.vs b k v (List.drop_subset _ _ hv')
 ·have e':(if y=n then none else S.op y)=some (o2,m2):=e
  by_cases hy:y=n
  ·rw[if_pos hy]at e';cases e'
  ·rw[if_neg hy]at e';exact h.st y o2 m2 e'
end

def Ot.a(o:Ot):Nm:=⟨o.ar,o.ok.2.1⟩
def Ot.e(o:Ot):Nm:=⟨o.en,o.ok.2.2.1⟩

def ActR(S:Ts)(n:Nb)(o:Ot)(dt:ByteArray)(L:List Nm)(er:Int)(S':Ts):Prop:=
 (o.kind=2∧L=[]∧S.see n o.a o.e (fun m=>.tuple #[.string ⟨#[]⟩,.int .i64 m]) (reaT S.M o.a o.e)=(.tuple #[.string dt,.int .i64 er],S')) ∨
 (o.kind=3∧dt=⟨#[]⟩∧lsF S n o.a=(er,L,S')) ∨
 (o.kind=4∧dt=⟨#[]⟩∧L=[]∧S.stg n o.a o.e (fun ow mv=>if 8192<o.dt.size then(145,mv) else(0,stM mv ⟨(kyT ow o.a o.e).1,(kyT ow o.a o.e).2,true,o.dt,o.ok.2.2.2.1⟩))=(er,S')) ∨
 (o.kind=5∧dt=⟨#[]⟩∧L=[]∧S.stg n o.a o.e (fun ow mv=>addF mv S.M (kyT ow o.a o.e) o.dt)=(er,S')) ∨
 (o.kind=6∧dt=⟨#[]⟩∧L=[]∧S.stg n o.a o.e (fun ow mv=>(0,stM mv ⟨(kyT ow o.a o.e).1,(kyT ow o.a o.e).2,false,⟨#[]⟩,by decide⟩))=(er,S')) ∨
 ((o.kind≠2∧o.kind≠3∧o.kind≠4∧o.kind≠5∧o.kind≠6)∧dt=⟨#[]⟩∧L=[]∧er=0∧S'=S)

section
variable {K N:Nat} {B:Int} {w:World} {p:Nat} {S:Ts} {F:Nat→Prop}

theorem Mg.more(h:Mg K N B w p S F){K':Nat}(hK:K≤K')(hb:K'≤100000):Mg K' N B w p S F:=by
 obtain⟨c,τ,h1,h2,h3,h4⟩:=h
 exact⟨c,τ,h1.more hK hb,h2,h3,h4⟩

theorem see_ex(S:Ts)(n:Nb)(ar en:Nm):∃dt er,(S.see n ar en (fun m=>.tuple #[.string ⟨#[]⟩,.int .i64 m]) (reaT S.M ar en)).1=.tuple #[.string dt,.int .i64 er]:=by
 unfold Ts.see
 cases S.op n with
 | none=>exact⟨_,_,rfl⟩
 | some x=>
  obtain⟨ow,mv⟩:=x
  show ∃dt er,(if namT ar en=true then _ else _:Value×Ts).1=_
  by_cases h:namT ar en=true
  ·rw[if_pos h]
   show ∃dt er,(if seeT mv S.M (kyT ow ar en)=true then _ else _:Value)=_
   by_cases h2:seeT mv S.M (kyT ow ar en)=true
   ·rw[if_pos h2];exact⟨_,_,rfl⟩
   ·rw[if_neg h2];exact⟨_,_,rfl⟩
  ·rw[if_neg h];exact⟨_,_,rfl⟩

end

end Go.Proofs.YtcfociogljhbiaaGreatDoor

namespace Go.Proofs.YtcfociogljhbiaaGreatDoor
open Go.RowKit Go.Maps Go.Sort Go.Shelf

theorem ris_len:∀(ys:List Wr) (ks:List Ke),ys.Pairwise ltW→(∀r∈ys,keO r∈ks)→ys.length≤ks.length
 | [],_,_,_=>Nat.zero_le _
 | r::ys,ks,hp,hk=>by
  have hr:=hk r List.mem_cons_self
  have hp':=List.pairwise_cons.1 hp
  have h9:=ris_len ys (ks.erase (keO r)) hp'.2 (fun y hy=>(List.mem_erase_of_ne (fun e=>by
   have h8:=hp'.1 y hy
   unfold ltW at h8
   rw[e]at h8
   exact ltK_irr _ h8)).2 (hk y (List.mem_cons_of_mem _ hy)))
  rw[List.length_erase_of_mem hr]at h9
  have:0<ks.length:=List.length_pos_of_mem hr
  rw[List.length_cons]
  omega

structure Jn(S:Ts)(K:Nat)(B:Int)(i:Nat)(T:List Nb):Prop where
 sm:Sm S
 bg:S.bg≤(i:Int)
 bb:B≤1+(i:Int)
 kk:K+3*T.length≤5*i
 ks:∀n ow mv,S.op n=some (ow,mv)→∃ks:List Ke,ks.length≤T.count n∧∀k,mv.st k≠none→k∈ks

section
variable {S S':Ts} {K:Nat} {B:Int} {i:Nat} {T:List Nb} {n:Nb}

theorem Jn.more(h:Jn S K B i T){K':Nat}(hK:K'≤K+5):Jn S K' B (i+1) T:=
 ⟨h.sm,by have:=h.bg;omega,by have:=h.bb;omega,by have:=h.kk;omega,h.ks⟩

theorem Jn.set(h:Jn S K B i T){ow:Nm}{mv m:Mv}(hop:S.op n=some (ow,mv))(hs:∀k r,m.st k=some r→r.data.size≤8192){q:Ke}(hq:∀k,m.st k≠none→k=q∨mv.st k≠none):Jn (S.set n (ow,m)) (K+2) B (i+1) (n::T):=by
 refine⟨h.sm.set hs,by have:=h.bg;show S.bg≤_;omega,by have:=h.bb;omega,by have:=h.kk;rw[List.length_cons];omega,fun y o2 m2 e=>?_⟩
 have e':(if y=n then some (ow,m)else S.op y)=some (o2,m2):=e
 by_cases hy:y=n
 ·rw[if_pos hy]at e'
  injection e' with e'
  injection e' with e1 e2
  subst e1 e2
  subst hy
  obtain⟨ks,h1,h2⟩:=h.ks y ow mv hop
  refine⟨q::ks,by rw[List.count_cons_self,List.length_cons];omega,fun k hk=>?_⟩
  rcases hq k hk with e | e
  ·rw[e];exact List.mem_cons_self
  ·exact List.mem_cons_of_mem _ (h2 k e)
 ·rw[if_neg hy]at e'
  obtain⟨ks,h1,h2⟩:=h.ks y o2 m2 e'
  exact⟨ks,by rw[List.count_cons_of_ne (fun e=>hy e.symm)];exact h1,h2⟩

theorem stM_st(mv:Mv)(r:Wr)(k:Ke):(stM mv r).st k=if keO r=k then some r else mv.st k:=rfl

theorem Jn.stg(h:Jn S K B i T){ar en:Nm}{f:Nm→Mv→Int×Mv}(hf:∀ow mv,S.op n=some (ow,mv)→(f ow mv).2.st=mv.st∨∃r:Wr,r.data.size≤8192∧(f ow mv).2.st=fun k=>if keO r=k then some r else mv.st k):∃T',Jn (S.stg n ar en f).2 (K+2) B (i+1) T':=by
 unfold Ts.stg
 cases hop:S.op n with
 | none=>exact⟨T,h.more (by omega)⟩
 | some x=>
  obtain⟨ow,mv⟩:=x
  show ∃T',Jn (if namT ar en=true then _ else _:Int×Ts).2 _ _ _ _
  by_cases hn:namT ar en=true
  ·rw[if_pos hn]
   refine⟨n::T,?_⟩
   rcases hf ow mv hop with e | ⟨r,hr,e⟩
   ·exact h.set hop (fun k r e2=>h.sm.st n ow mv hop k r (by rw[←e];exact e2)) (q:=(⟨⟨#[]⟩,⟨#[]⟩,⟨Nat.zero_le _,Nat.zero_le _⟩⟩,⟨⟨#[]⟩,Nat.zero_le _⟩)) (fun k e2=>.inr (by rw[←e];exact e2))
   ·refine h.set hop (q:=keO r) (fun k x e2=>?_) (fun k e2=>?_)
    ·rw[e]at e2
     simp only at e2
     split at e2
     ·injection e2 with e2;subst e2;exact hr
     ·exact h.sm.st n ow mv hop k x e2
    ·rw[e]at e2
     simp only at e2
     split at e2
     ·rename_i e3;exact .inl e3.symm
     ·exact .inr e2
  ·rw[if_neg hn]
   exact⟨T,h.more (by omega)⟩

theorem Jn.act(h:Jn S K B i T){o:Ot}{dt:ByteArray}{L:List Nm}{er:Int}(ha:ActR S n o dt L er S'):∃T',Jn S' (K+2) B (i+1) T':=by
 rcases ha with⟨_,_,e⟩ | ⟨_,_,e⟩ | ⟨_,_,_,e⟩ | ⟨_,_,_,e⟩ | ⟨_,_,_,e⟩ | ⟨_,_,_,_,e⟩
 ·have e2:(S.see n o.a o.e (fun m=>.tuple #[.string ⟨#[]⟩,.int .i64 m]) (reaT S.M o.a o.e)).2=S':=by rw[e]
  rw[←e2]
  unfold Ts.see
  cases hop:S.op n with
  | none=>exact⟨T,h.more (by omega)⟩
  | some x=>
   obtain⟨ow,mv⟩:=x
   show ∃T',Jn (if namT o.a o.e=true then _ else _:Value×Ts).2 _ _ _ _
   by_cases hn:namT o.a o.e=true
   ·rw[if_pos hn]
    exact⟨n::T,h.set hop (m:=notM mv (kyT ow o.a o.e)) (fun k r e2=>h.sm.st n ow mv hop k r (by rw[←(notM_st mv (kyT ow o.a o.e) k).1];exact e2)) (q:=kyT ow o.a o.e) (fun k e2=>.inr (by rw[←(notM_st mv (kyT ow o.a o.e) k).1];exact e2))⟩
   ·rw[if_neg hn]
    exact⟨T,h.more (by omega)⟩
 ·unfold lsF at e
  cases hop:S.op n with
  | none=>
   rw[hop]at e
   obtain rfl:S=S':=congrArg (fun x=>x.2.2) e
   exact⟨T,h.more (by omega)⟩
  | some x=>
   obtain⟨ow,mv⟩:=x
   rw[hop]at e
   simp only at e
   split at e
   ·have e2:S.set n (ow,lsM mv (bxT ow o.a))=S':=congrArg (fun x=>x.2.2) e
    rw[←e2]
    exact⟨n::T,h.set hop (m:=lsM mv (bxT ow o.a)) (fun k r e2=>h.sm.st n ow mv hop k r e2) (q:=kyT ow o.a o.e) (fun k e2=>.inr e2)⟩
   ·obtain rfl:S=S':=congrArg (fun x=>x.2.2) e
    exact⟨T,h.more (by omega)⟩
 ·have e2:=congrArg Prod.snd e
  simp only at e2
  rw[←e2]
  refine h.stg (fun ow mv hop=>?_)
  by_cases hd:8192<o.dt.size
  ·rw[if_pos hd];exact .inl rfl
  ·rw[if_neg hd];exact .inr ⟨_,by show o.dt.size≤_;omega,rfl⟩
 ·have e2:=congrArg Prod.snd e
  simp only at e2
  rw[←e2]
  refine h.stg (fun ow mv hop=>?_)
  unfold addF
  by_cases hd:(seeD mv S.M (kyT ow o.a o.e)).size+o.dt.size≤8192
  ·rw[dif_pos hd]
   refine .inr ⟨⟨(kyT ow o.a o.e).1,(kyT ow o.a o.e).2,true,seeD mv S.M (kyT ow o.a o.e)++o.dt,by rw[ByteArray.size_append];unfold maxLen;omega⟩,by show(_++_:ByteArray).size≤_;rw[ByteArray.size_append];exact hd,?_⟩
   funext k
   rw[stM_st,(notM_st mv (kyT ow o.a o.e) k).1]
  ·rw[dif_neg hd]
   exact .inl (funext fun k=>(notM_st mv (kyT ow o.a o.e) k).1)
 ·have e2:=congrArg Prod.snd e
  simp only at e2
  rw[←e2]
  exact h.stg (fun ow mv hop=>.inr ⟨_,Nat.zero_le _,rfl⟩)
 ·rw[e];exact⟨T,h.more (by omega)⟩

theorem Jn.beg(h:Jn S K B i T){tn:Nm}:Jn (S.beg n tn) K B (i+1) T:=by
 refine⟨h.sm.beg tn,by have:=h.bg;show S.bg+1≤_;omega,by have:=h.bb;omega,by have:=h.kk;omega,fun y o2 m2 e=>?_⟩
 have e':(if y=n then some (tn,mv0 (S.M.now-1))else S.op y)=some (o2,m2):=e
 by_cases hy:y=n
 ·rw[if_pos hy]at e'
  injection e' with e'
  injection e' with e1 e2
  subst e1 e2
  exact⟨[],Nat.zero_le _,fun k e=>absurd rfl e⟩
 ·rw[if_neg hy]at e'
  exact h.ks y o2 m2 e'

theorem Jn.xs(h:Jn S K B i T){t er:Int}{xs:List Wr}(hc:CkT S n t er xs):xs.length≤T.count n∧∀x∈xs,x.data.size≤8192:=by
 rcases hc with⟨_,_,_,e⟩ | ⟨ow,mv,ys,hop,hst,_,hc⟩
 ·subst e;exact⟨Nat.zero_le _,fun x hx=>by cases hx⟩
 ·have hy:xs=[]∨xs=ys:=by
   rcases hc with⟨_,_,_,e⟩ | ⟨_,_,_,_,e⟩ | ⟨_,_,D,_,⟨_,_,_,e⟩ | ⟨_,_,_,e⟩⟩
   ·exact .inl e
   ·exact .inl e
   ·exact .inl e
   ·exact .inr e
  rcases hy with e | e
  ·subst e;exact⟨Nat.zero_le _,fun x hx=>by cases hx⟩
  ·subst e
   obtain⟨ks,h1,h2⟩:=h.ks n ow mv hop
   exact⟨Nat.le_trans (ris_len xs ks hst.1 (fun r hr=>h2 _ (by rw[(hst.2 r).1 hr];exact fun e=>by cases e))) h1,fun x hx=>h.sm.st n ow mv hop _ x ((hst.2 x).1 hx)⟩

theorem Jn.com(h:Jn S K B i T){t er m:Int}{xs:List Wr}(hc:CkT S n t er xs):Jn ((S.com xs).ends n m) (K+3*xs.length) (B+1) (i+1) (T.filter (fun x=>decide (x≠n))):=by
 obtain⟨h1,h2⟩:=h.xs hc
 obtain⟨e1,e2,_,_⟩:=com_op S xs
 have hl:(T.filter (fun x=>decide (x≠n))).length+T.count n=T.length:=by
  clear h h1 h2 hc
  induction T with
  | nil=>rfl
  | cons x r ih=>
   by_cases e:x=n
   ·subst e
    rw[List.filter_cons_of_neg (by simp),List.count_cons_self,List.length_cons];omega
   ·rw[List.filter_cons_of_pos (by simpa using e),List.count_cons_of_ne e,List.length_cons,List.length_cons];omega
 refine⟨(h.sm.com xs h2).ends m,?_,by have:=h.bb;omega,by have:=h.kk;omega,fun y o2 m2 e=>?_⟩
 ·show(S.com xs).bg≤_
  rw[e2]
  have:=h.bg
  omega
 ·have e':(if y=n then none else(S.com xs).op y)=some (o2,m2):=e
  by_cases hy:y=n
  ·rw[if_pos hy]at e';cases e'
  ·rw[if_neg hy,e1]at e'
   obtain⟨ks,g1,g2⟩:=h.ks y o2 m2 e'
   refine⟨ks,?_,g2⟩
   rw[List.count_filter (by simpa using hy)]
   exact g1
end

end Go.Proofs.YtcfociogljhbiaaGreatDoor

namespace Go.Proofs.YtcfociogljhbiaaGreatDoor
open Go.RowKit Go.Maps Go.Sort Go.Shelf

theorem gcheckT{K N:Nat}{B:Int}{w:World}{p:Nat}{S:Ts}{F:Nat→Prop}(h:Mg K N B w p S F)(n:Nb)(hB:B≤9223372036854775804):Calls Tryz.prog 23 #[.pointer (some ⟨p,0,none⟩),.int .i64 n.v] w fun e w'=>
  ∃(t:Int) (a:Option Addr) (m cap:Nat) (er:Int) (xs:List Wr),e=.returned (.tuple #[.agg #[.int .i64 t,.slice a m cap],.int .i64 er])∧CkT S n t er xs∧RowC w.heap.size 65 5 wrE w' (.slice a m cap) xs∧Same w w':=by
 obtain⟨c,τ,h1,h2,h3,h4⟩:=h
 refine(tcheck_any h1 n h2.sn (fun y hy=>by have:=h2.num y hy;omega) ⟨h2.now.1,by have:=h2.now;omega⟩).mono ?_
 rintro e w' ⟨hk,t,a,m,cap,er,xs,e1,e2,e3⟩
 exact⟨t,a,m,cap,er,xs,e1,ckt_of h3 e2,e3,hk⟩

end Go.Proofs.YtcfociogljhbiaaGreatDoor

namespace Go.Proofs.YtcfociogljhbiaaGreatDoor
open Go.ChangeShapes Go.WideShapes Go.ChangeAt Go.RowKit Go.Deep Go.Maps Go.Sort Go.Shelf

instance:Inhabited Ot:=⟨⟨0,0,⟨#[]⟩,⟨#[]⟩,⟨#[]⟩,⟨#[]⟩,Nat.zero_le _,Nat.zero_le _,Nat.zero_le _,Nat.zero_le _,by decide⟩⟩

theorem SrcC.at6{w:World}{I:Nat→Prop}{ao:Option Addr}{n c:Nat}{xs:List Ot}(h:SrcC 6 otE w I (.slice ao n c) xs)(j:Nat)(hj:j<n):∃b o t,ao=some ⟨b,o,none⟩∧I b∧xs[j]? = some t∧w.cell? ⟨b,o+j*6,none⟩=some (.int .i64 t.kind)∧w.cell? ⟨b,o+j*6+1,none⟩=some (.int .i64 t.num)∧w.cell? ⟨b,o+j*6+2,none⟩=some (.string t.tn)∧w.cell? ⟨b,o+j*6+3,none⟩=some (.string t.ar)∧w.cell? ⟨b,o+j*6+4,none⟩=some (.string t.en)∧w.cell? ⟨b,o+j*6+5,none⟩=some (.string t.dt):=by
 obtain⟨a',c',e,hl,hc⟩:=h
 injection e with e1 e2 e3
 have hjx:j<xs.length:=by omega
 obtain⟨b,o,h1,h2,h3⟩:=hc (fun e=>by rw[e]at hjx;simp at hjx)
 exact⟨b,o,xs[j],e1.trans h1,h2,List.getElem?_eq_getElem hjx,h3 j hjx 0 (by omega),h3 j hjx 1 (by omega),h3 j hjx 2 (by omega),h3 j hjx 3 (by omega),h3 j hjx 4 (by omega),h3 j hjx 5 (by omega)⟩

def Ot.t(o:Ot):Nm:=⟨o.tn,o.ok.1⟩
def Ot.n(o:Ot):Nb:=⟨o.num,o.ok.2.2.2.2⟩

section
variable {w0 w:World} {N p i:Nat}
end

end Go.Proofs.YtcfociogljhbiaaGreatDoor

namespace Go.Proofs.YtcfociogljhbiaaGreatDoor
open Go.RowKit Go.Maps Go.Sort Go.Shelf

structure OwnM(tn:Nm)(t:Int)(mv:Mv):Prop where
 tt:mv.t=t
 key:∀k r,mv.st k=some r→keO r=k∧k.1.tn=tn.s∧namT ⟨k.1.ar,k.1.ok.2⟩ k.2=true
 sz:∀k r,mv.st k=some r→r.data.size≤8192
 gone:∀k r,mv.st k=some r→r.there=false→r.data=⟨#[]⟩

theorem OwnM.new(tn:Nm)(t:Int):OwnM tn t (mv0 t):=⟨rfl,fun k r e=>(by cases e),fun k r e=>(by cases e),fun k r e=>(by cases e)⟩

theorem OwnM.like{tn:Nm}{t:Int}{mv m:Mv}(h:OwnM tn t mv)(h1:m.t=mv.t)(h2:∀k,m.st k=mv.st k):OwnM tn t m:=
 ⟨h1.trans h.tt,fun k r e=>h.key k r (by rw[←h2];exact e),fun k r e=>h.sz k r (by rw[←h2];exact e),fun k r e=>h.gone k r (by rw[←h2];exact e)⟩

theorem OwnM.stage{tn:Nm}{t:Int}{mv m:Mv}(h:OwnM tn t mv){ar en:Nm}(hn:namT ar en=true)(r:Wr)(hk:keO r=kyT tn ar en)(hd:r.data.size≤8192)(hg:r.there=false→r.data=⟨#[]⟩)(h1:m.t=mv.t)(h2:∀k,m.st k=if keO r=k then some r else mv.st k):OwnM tn t m:=by
 refine⟨h1.trans h.tt,fun k x e=>?_,fun k x e=>?_,fun k x e=>?_⟩
 ·rw[h2]at e
  by_cases hq:keO r=k
  ·rw[if_pos hq]at e
   injection e with e
   subst e
   refine⟨hq,?_,?_⟩
   ·rw[←hq,hk];rfl
   ·rw[←hq,hk];exact hn
  ·rw[if_neg hq]at e
   exact h.key k x e
 ·rw[h2]at e
  by_cases hq:keO r=k
  ·rw[if_pos hq]at e
   injection e with e
   subst e
   exact hd
  ·rw[if_neg hq]at e
   exact h.sz k x e
 ·rw[h2]at e
  by_cases hq:keO r=k
  ·rw[if_pos hq]at e
   injection e with e
   subst e
   exact hg
  ·rw[if_neg hq]at e
   exact h.gone k x e

theorem set_op14(S:Ts)(n:Nb)(a:Nm×Mv):(S.set n a).op n=some a:=if_pos rfl

section
variable {S:Ts} {n:Nb} {tn:Nm} {t:Int} {mv:Mv}
end

end Go.Proofs.YtcfociogljhbiaaGreatDoor
