import Derived.Test.YtggcbnhckcenmaaGreatDoorInPh
namespace Go.Proofs.YtggcbnhckcenmaaGreatDoor
open Go.RowKit

def BegA(w w':World)(p:Nat)(s:Value)(bs:List Nat)(bx fx:Nat)(O:Nat→Prop)(e:Ending):Except Nat (Bk×Nat)→Prop
 | .error er=>e=.returned (.tuple #[.pointer none,.int .i64 (er:Nat)])∧er≠0∧∃c',c'≤8*bs.length∧St w' p s bs c'
 | .ok (bk,c')=>(∃b O',e=.returned (.tuple #[.pointer (some ⟨b,0,none⟩),.int .i64 0])∧BkP w' b O' bk∧w.heap.size≤b∧¬O' b∧Onc w' bx fx O'∧(∀j,O j→O' j)∧∀j,O' j→O j∨Bet w.heap.size w'.heap.size j)∧c'≤8*bs.length∧St w' p s bs c'

theorem BegA.err{w w':World}{p:Nat}{s:Value}{bs:List Nat}{bx fx:Nat}{O:Nat→Prop}{e:Ending}{er:Nat}(h:BegA w w' p s bs bx fx O e (.error er)):e=.returned (.tuple #[.pointer none,.int .i64 (er:Nat)])∧er≠0∧∃c',c'≤8*bs.length∧St w' p s bs c':=h
theorem BegA.ok{w w':World}{p:Nat}{s:Value}{bs:List Nat}{bx fx:Nat}{O:Nat→Prop}{e:Ending}{bk:Bk}{c':Nat}(h:BegA w w' p s bs bx fx O e (.ok (bk,c'))):(∃b O',e=.returned (.tuple #[.pointer (some ⟨b,0,none⟩),.int .i64 0])∧BkP w' b O' bk∧w.heap.size≤b∧¬O' b∧Onc w' bx fx O'∧(∀j,O j→O' j)∧∀j,O' j→O j∨Bet w.heap.size w'.heap.size j)∧c'≤8*bs.length∧St w' p s bs c':=h

structure Bx(w:World)(p:Nat)(s:Value)(bx fx:Nat)(O:Nat→Prop):Prop where
 onc:Onc w bx fx O
 lt:∀j,O j→j<w.heap.size
 ap:∀j,O j→¬Fp p s j∧j≠bx
 bf:bx≠fx
 bp:¬Fp p s bx
 fp:¬Fp p s fx
 bg:bx≠0
 pg:p≠0
 tab:Tab w

theorem Onc.fx_lt{w:World}{bx fx:Nat}{O:Nat→Prop}(h:Onc w bx fx O):fx<w.heap.size:=h.1.lt
theorem Onc.bx_lt{w:World}{bx fx:Nat}{O:Nat→Prop}(h:Onc w bx fx O):bx<w.heap.size:=by
 rcases h.2 with h | ⟨_,h,_⟩
 ·exact h.lt
 ·exact h.lt

theorem cntP_le{ls:List Nat}{c n c':Nat}(h:cntP ls c=.ok (n,c')):n≤65535:=by
 obtain⟨x,c1,_,h⟩:=bindP_ok.1 h
 obtain⟨t,c2,_,h⟩:=bindP_ok.1 h
 split at h
 ·simp only[Except.ok.injEq,Prod.mk.injEq]at h;omega
 ·cases h

theorem kndP_raw{ls:List Nat}{last:Bool}{c:Nat}:kndP ls last c 0=bindP (cntP ls c) (fun n c'=>.ok (.raw last n,c')):=by unfold kndP;rw[if_pos rfl]
theorem kndP_fix{ls:List Nat}{last:Bool}{c:Nat}:kndP ls last c 1=.ok (.sym last fixL fixD,c):=by unfold kndP;rw[if_neg (by decide),if_pos rfl]
theorem kndP_head{ls:List Nat}{last:Bool}{c:Nat}:kndP ls last c 2=bindP (hdP ls c) (fun x c'=>.ok (.sym last x.1 x.2,c')):=by unfold kndP;rw[if_neg (by decide),if_neg (by decide),if_pos rfl]
theorem kndP_none{ls:List Nat}{last:Bool}{c:Nat}:kndP ls last c 3=.error 50:=by unfold kndP;rw[if_neg (by decide),if_neg (by decide),if_neg (by decide)]

set_option maxRecDepth 100000 in
set_option maxHeartbeats 4000000 in
theorem pbegin_any(w:World)(p c:Nat)(s:Value)(bs:List Nat)(bx fx:Nat)(O:Nat→Prop)(hs:St w p s bs c)(hc:c≤8*bs.length)(hlen:bs.length≤100000000)(hx:Bx w p s bx fx O):
  Calls Tryz.prog 73 #[.pointer (some ⟨p,0,none⟩),onceV bx fx] w fun e w'=>BegA w w' p s bs bx fx O e (begP (ofBytes bs) c)∧Kept (fun j=>j=p∨j=bx) w w':=by
 have hpw:p<w.heap.size:=hs.lt
 have HP:Hid (∀j,Fp p s j→j<w.heap.size):=hid (fun j h=>hs.fp_lt h)
 have HX:Hid (Bx w p s bx fx O):=hx
 have HLEN:Hid (bs.length≤100000000):=hlen
 have HT:=ptake_any w p c 1 s bs hs hc hlen (by decide)
 have HEQ:Hid (begP (ofBytes bs) c=bindP (tkP (ofBytes bs) c 1) (fun l c1=>bindP (tkP (ofBytes bs) c1 2) (fun k c2=>kndP (ofBytes bs) (l==1) c2 k))):=hid rfl
 clear hs hc hlen hx
 cases ht:tkP (ofBytes bs) c 1 with
 | error er=>
  rw[ht]at HT
  have HE:Hid (begP (ofBytes bs) c=.error er):=hid (by rw[HEQ.out,bindP_no ht])
  clear ht HEQ
  go_enter Tryz.func73,Tryz.ntmps73
  go_wp2_with fail
  refine HT.mono ?_
  rintro e w2 ⟨hn2,hk2⟩
  obtain⟨rfl,her,hst⟩:=hn2.err
  have hed:((er:Int) != 0)=true:=by simp;omega
  have HER:Hid (er≠0):=her
  have HST:Hid (∃c',c'≤8*bs.length∧St w2 p s bs c'):=hst
  have HK2:Hid (Kept (fun j=>j=p∨j=bx) w w2):=hid (hk2.mono (fun _ _ h=>.inl h))
  clear hn2 hst hk2 her HT
  go_wp2_with fail
  go_ret2
  rw[HE.out]
  exact⟨⟨rfl,HER.out,HST.out⟩,HK2.out⟩
 | ok l=>
  obtain⟨l,c1⟩:=l
  rw[ht]at HT
  have HE1:Hid (begP (ofBytes bs) c=bindP (tkP (ofBytes bs) c1 2) (fun k c2=>kndP (ofBytes bs) (l==1) c2 k)):=hid (by rw[HEQ.out,bindP_is ht])
  obtain⟨last,hlast⟩:∃last:Bool,last=(l==1):=⟨_,rfl⟩
  rw[←hlast]at HE1
  have hlI:((l:Int)==1)=last:=by
   rw[hlast,Bool.eq_iff_iff]
   simp only[beq_iff_eq]
   omega
  clear ht HEQ hlast
  go_enter Tryz.func73,Tryz.ntmps73
  go_wp2_with fail
  refine HT.mono ?_
  rintro e w1 ⟨hn1,hk1⟩
  obtain⟨rfl,hc1,hst1⟩:=hn1.ok
  have HK1:Hid (Kept (·=p) w w1):=hk1
  have HT2:=ptake_any w1 p c1 2 s bs hst1 hc1 HLEN.out (by decide)
  clear hn1 hc1 hst1 hk1 HT
  cases ht:tkP (ofBytes bs) c1 2 with
  | error er=>
   rw[ht]at HT2
   have HE:Hid (begP (ofBytes bs) c=.error er):=hid (by rw[HE1.out,bindP_no ht])
   clear ht HE1
   go_wp2_with fail
   refine HT2.mono ?_
   rintro e w2 ⟨hn2,hk2⟩
   obtain⟨rfl,her,hst⟩:=hn2.err
   have hed:((er:Int) != 0)=true:=by simp;omega
   have HER:Hid (er≠0):=her
   have HST:Hid (∃c',c'≤8*bs.length∧St w2 p s bs c'):=hst
   have HK2:Hid (Kept (fun j=>j=p∨j=bx) w w2):=hid (HK1.out.trans hk2 (fun _ _ h=>.inl h) (fun _ _ h=>.inl h))
   clear hn2 hst hk2 her HT2
   go_wp2_with fail
   go_ret2
   rw[HE.out]
   exact⟨⟨rfl,HER.out,HST.out⟩,HK2.out⟩
  | ok k=>
   obtain⟨k,c2⟩:=k
   rw[ht]at HT2
   have HE2:Hid (begP (ofBytes bs) c=kndP (ofBytes bs) last c2 k):=hid (by rw[HE1.out,bindP_is ht])
   have hk4:k<4:=by
    rw[(tkP_ok ht).1]
    exact numAt_lt _ (ofBytes_lt bs) _ _
   clear ht HE1
   go_wp2_with fail
   refine HT2.mono ?_
   rintro e w2 ⟨hn2,hk2⟩
   obtain⟨rfl,hc2,hst2⟩:=hn2.ok
   have HK2:Hid (Kept (·=p) w w2):=hid (HK1.out.trans hk2 (fun _ _ h=>h) (fun _ _ h=>h))
   have HS2:Hid (St w2 p s bs c2):=hst2
   have HC2:Hid (c2≤8*bs.length):=hc2
   have hsz2:=HK2.out.size
   obtain⟨W,hW⟩:∃W,W=w2.alloc (.cells #[.bool last,.int .i64 0,.pointer none] 107):=⟨_,rfl⟩
   have hkW:Same w2 W:=by rw[hW];exact(Kept.refl _ w2).alloc _
   have hWs:W.heap.size=w2.heap.size+1:=by rw[hW];simp
   have HBW:Hid (Blk W w2.heap.size #[.bool last,.int .i64 0,.pointer none] 107):=hid (by rw[hW];exact Blk.new w2 _ _)
   have HSW:Hid (St W p s bs c2):=hid (HS2.out.kept hkW (fun _ _ f=>f))
   have HKW:Hid (Kept (·=p) w W):=hid (HK2.out.trans hkW (fun _ _ h=>h) (fun _ _ f=>f.elim))
   have HOW:Hid (Onc W bx fx O):=hid (HX.out.onc.kept HKW.out (fun j hj e=>(HX.out.ap j hj).1 (.inl e)) (fun e=>HX.out.bp (.inl e)) (fun e=>HX.out.fp (.inl e)))
   have hbxl:=HX.out.onc.bx_lt
   have hfxl:=HX.out.onc.fx_lt
   clear hn2 hc2 hst2 hk2 HT2 hkW HK1
   obtain rfl | rfl | rfl | rfl:k=0∨k=1∨k=2∨k=3:=by omega
   ·have HC:=pcount_any W p c2 s bs HSW.out HC2.out HLEN.out
    cases hcn:cntP (ofBytes bs) c2 with
    | error er=>
     rw[hcn]at HC
     have HE:Hid (begP (ofBytes bs) c=.error er):=hid (by rw[HE2.out,kndP_raw,bindP_no hcn])
     clear hcn HE2 hk4
     go_wp2_with fail
     rw[←hW]
     clear hW
     refine HC.mono ?_
     rintro e w3 ⟨hn2,hk2⟩
     obtain⟨rfl,her,hst⟩:=hn2.err
     have hed:((er:Int) != 0)=true:=by simp;omega
     have HER:Hid (er≠0):=her
     have HST:Hid (∃c',c'≤8*bs.length∧St w3 p s bs c'):=hst
     have HK3:Hid (Kept (fun j=>j=p∨j=bx) w w3):=hid (HKW.out.trans hk2 (fun _ _ h=>.inl h) (fun _ _ h=>.inl h))
     have HB3:Hid (Blk w3 w2.heap.size #[.bool last,.int .i64 0,.pointer none] 107):=hid (HBW.out.kept hk2 (by omega))
     have z1:w3.cell? ⟨w2.heap.size,1,none⟩=some (.int .i64 0):=HB3.out.cell 1
     have fz1:w3.frozen? ⟨w2.heap.size,1,none⟩=false:=HB3.out.frozen 1
     clear hn2 hst hk2 her HC
     go_wp2_with fail
     go_ret2
     have hKs:Kept (·=w2.heap.size) w3 (w3.setCell ⟨w2.heap.size,1,none⟩ (.int .i64 0)):=(Kept.refl (·=w2.heap.size) w3).setCell ⟨w2.heap.size,1,none⟩ _ (.inl rfl)
     rw[HE.out]
     obtain⟨c9,h9,hs9⟩:=HST.out
     exact⟨⟨rfl,HER.out,c9,h9,hs9.kept hKs (fun j h e=>by have:=HP.out j h;omega)⟩,Kept.trans HK3.out hKs (fun _ _ h=>h) (fun j hj e=>by omega)⟩
    | ok n=>
     obtain⟨n,c3⟩:=n
     rw[hcn]at HC
     have hn65:=cntP_le hcn
     have HE:Hid (begP (ofBytes bs) c=.ok (.raw last n,c3)):=hid (by rw[HE2.out,kndP_raw,bindP_is hcn])
     clear hcn HE2 hk4
     go_wp2_with fail
     rw[←hW]
     clear hW
     refine HC.mono ?_
     rintro e w3 ⟨hn2,hk2⟩
     obtain⟨rfl,hc3,hst⟩:=hn2.ok
     have HC3:Hid (c3≤8*bs.length):=hc3
     have HST:Hid (St w3 p s bs c3):=hst
     have HK3:Hid (Kept (fun j=>j=p∨j=bx) w w3):=hid (HKW.out.trans hk2 (fun _ _ h=>.inl h) (fun _ _ h=>.inl h))
     have HB3:Hid (Blk w3 w2.heap.size #[.bool last,.int .i64 0,.pointer none] 107):=hid (HBW.out.kept hk2 (by omega))
     have HO3:Hid (Onc w3 bx fx O):=hid (HOW.out.kept hk2 (fun j hj e=>(HX.out.ap j hj).1 (.inl e)) (fun e=>HX.out.bp (.inl e)) (fun e=>HX.out.fp (.inl e)))
     have z1:w3.cell? ⟨w2.heap.size,1,none⟩=some (.int .i64 0):=HB3.out.cell 1
     have fz1:w3.frozen? ⟨w2.heap.size,1,none⟩=false:=HB3.out.frozen 1
     clear hn2 hst hk2 hc3 HC
     go_wp2_with fail
     go_ret2
     have hKs:Kept (·=w2.heap.size) w3 (w3.setCell ⟨w2.heap.size,1,none⟩ (.int .i64 (n:Nat))):=(Kept.refl (·=w2.heap.size) w3).setCell ⟨w2.heap.size,1,none⟩ _ (.inl rfl)
     have hB4:Blk (w3.setCell ⟨w2.heap.size,1,none⟩ (.int .i64 (n:Nat))) w2.heap.size #[.bool last,.int .i64 (n:Nat),.pointer none] 107:=by
      have:=HB3.out.set 1 (.int .i64 (n:Nat))
      simpa using this
     rw[HE.out]
     exact⟨⟨⟨_,O,rfl,⟨hB4,hn65⟩,hsz2,fun h=>by have:=HX.out.lt _ h;omega,HO3.out.kept hKs (fun j hj e=>by have:=HX.out.lt j hj;omega) (by omega) (by omega),fun _ h=>h,fun _ h=>.inl h⟩,HC3.out,HST.out.kept hKs (fun j h e=>by have:=HP.out j h;omega)⟩,Kept.trans HK3.out hKs (fun _ _ h=>h) (fun j hj e=>by omega)⟩
   ·have HE:Hid (begP (ofBytes bs) c=.ok (.sym last fixL fixD,c2)):=hid (by rw[HE2.out,kndP_fix])
    have HC:=ponce1_any W bx fx O HOW.out HX.out.bf
    clear HE2 hk4
    go_wp2_with fail
    rw[←hW]
    clear hW
    refine HC.mono ?_
    rintro e w3 ⟨kc,O',rfl,hon3,hcp,hsub,hnew,hk3⟩
    have HO3:Hid (Onc w3 bx fx O'):=hon3
    have HCP:Hid (CodesP w3 kc fixL fixD O'):=hcp
    have HSUB:Hid (∀j,O j→O' j):=hsub
    have HNEW:Hid (∀j,O' j→O j∨Bet (w2.heap.size+1) w3.heap.size j):=hid (fun j hj=>by have:=hnew j hj;rw[hWs]at this;exact this)
    have HS3:Hid (St w3 p s bs c2):=hid (HSW.out.kept hk3 (fun j hj e=>HX.out.bp (by rw[←e];exact hj)))
    have HK3:Hid (Kept (fun j=>j=p∨j=bx) w w3):=hid (HKW.out.trans hk3 (fun _ _ h=>.inl h) (fun _ _ h=>.inr h))
    have HB3:Hid (Blk w3 w2.heap.size #[.bool last,.int .i64 0,.pointer none] 107):=hid (HBW.out.kept hk3 (by omega))
    have z1:w3.cell? ⟨w2.heap.size,2,none⟩=some (.pointer none):=HB3.out.cell 2
    have fz1:w3.frozen? ⟨w2.heap.size,2,none⟩=false:=HB3.out.frozen 2
    have hs3:w3.heap.size≤w3.heap.size:=Nat.le_refl _
    clear hon3 hcp hsub hnew hk3 HC
    go_wp2_with fail
    go_ret2
    have hKs:Kept (·=w2.heap.size) w3 (w3.setCell ⟨w2.heap.size,2,none⟩ (.pointer (some ⟨kc,0,none⟩))):=(Kept.refl (·=w2.heap.size) w3).setCell ⟨w2.heap.size,2,none⟩ _ (.inl rfl)
    have hB4:Blk (w3.setCell ⟨w2.heap.size,2,none⟩ (.pointer (some ⟨kc,0,none⟩))) w2.heap.size #[.bool last,.int .i64 0,.pointer (some ⟨kc,0,none⟩)] 107:=by
     have:=HB3.out.set 2 (.pointer (some ⟨kc,0,none⟩))
     simpa using this
    have hno:∀j,O' j→¬j=w2.heap.size:=fun j hj e=>by
     rcases HNEW.out j hj with h | h
     ·have:=HX.out.lt j h;omega
     ·have:=h.1;omega
    rw[HE.out]
    refine⟨⟨⟨_,O',rfl,⟨kc,hB4,HCP.out.kept hKs hno⟩,hsz2,fun h=>hno _ h rfl,HO3.out.kept hKs hno (by omega) (by omega),HSUB.out,fun j hj=>?_⟩,HC2.out,HS3.out.kept hKs (fun j h e=>by have:=HP.out j h;omega)⟩,Kept.trans HK3.out hKs (fun _ _ h=>h) (fun j hj e=>by omega)⟩
    rcases HNEW.out j hj with h | h
    ·exact .inl h
    ·refine .inr ⟨by have:=h.1;omega,?_⟩
     simp only[World.setCell,Array.size_modify]
     exact h.2
   ·have HTW:Tab W:=HX.out.tab.kept HKW.out (fun e=>HX.out.pg e.symm)
    have HC:=pbrought_any W p c2 s bs HSW.out HC2.out HLEN.out HTW HX.out.pg
    clear HTW
    cases hhd:hdP (ofBytes bs) c2 with
    | error er=>
     rw[hhd]at HC
     have HE:Hid (begP (ofBytes bs) c=.error er):=hid (by rw[HE2.out,kndP_head,bindP_no hhd])
     clear hhd HE2 hk4
     go_wp2_with fail
     rw[←hW]
     clear hW
     refine HC.mono ?_
     rintro e w3 ⟨hn2,hk2⟩
     obtain⟨rfl,her,hst⟩:=hn2.err
     have hed:((er:Int) != 0)=true:=by simp;omega
     have HER:Hid (er≠0):=her
     have HST:Hid (∃c',c'≤8*bs.length∧St w3 p s bs c'):=hst
     have HK3:Hid (Kept (fun j=>j=p∨j=bx) w w3):=hid (HKW.out.trans hk2 (fun _ _ h=>.inl h) (fun _ _ h=>.inl h))
     have HB3:Hid (Blk w3 w2.heap.size #[.bool last,.int .i64 0,.pointer none] 107):=hid (HBW.out.kept hk2 (by omega))
     have z1:w3.cell? ⟨w2.heap.size,2,none⟩=some (.pointer none):=HB3.out.cell 2
     have fz1:w3.frozen? ⟨w2.heap.size,2,none⟩=false:=HB3.out.frozen 2
     clear hn2 hst hk2 her HC
     go_wp2_with fail
     go_ret2
     have hKs:Kept (·=w2.heap.size) w3 (w3.setCell ⟨w2.heap.size,2,none⟩ (.pointer none)):=(Kept.refl (·=w2.heap.size) w3).setCell ⟨w2.heap.size,2,none⟩ _ (.inl rfl)
     rw[HE.out]
     obtain⟨c9,h9,hs9⟩:=HST.out
     exact⟨⟨rfl,HER.out,c9,h9,hs9.kept hKs (fun j h e=>by have:=HP.out j h;omega)⟩,Kept.trans HK3.out hKs (fun _ _ h=>h) (fun j hj e=>by omega)⟩
    | ok x=>
     obtain⟨x,c3⟩:=x
     rw[hhd]at HC
     have HE:Hid (begP (ofBytes bs) c=.ok (.sym last x.1 x.2,c3)):=hid (by rw[HE2.out,kndP_head,bindP_is hhd])
     clear hhd HE2 hk4
     go_wp2_with fail
     rw[←hW]
     clear hW
     refine HC.mono ?_
     rintro e w3 ⟨hn2,hk2⟩
     obtain⟨⟨kc,rfl,hcp⟩,hc3,hst⟩:=hn2.ok
     have HCP:Hid (CodesP w3 kc x.1 x.2 (fun j=>O j∨Bet (w2.heap.size+1) w3.heap.size j)):=hid (by rw[hWs]at hcp;exact hcp.less (fun j hj=>.inr hj))
     have HC3:Hid (c3≤8*bs.length):=hc3
     have HST:Hid (St w3 p s bs c3):=hst
     have HK3:Hid (Kept (fun j=>j=p∨j=bx) w w3):=hid (HKW.out.trans hk2 (fun _ _ h=>.inl h) (fun _ _ h=>.inl h))
     have HB3:Hid (Blk w3 w2.heap.size #[.bool last,.int .i64 0,.pointer none] 107):=hid (HBW.out.kept hk2 (by omega))
     have HO3:Hid (Onc w3 bx fx (fun j=>O j∨Bet (w2.heap.size+1) w3.heap.size j)):=hid ((HOW.out.kept hk2 (fun j hj e=>(HX.out.ap j hj).1 (.inl e)) (fun e=>HX.out.bp (.inl e)) (fun e=>HX.out.fp (.inl e))).less (fun j hj=>.inl hj))
     have z1:w3.cell? ⟨w2.heap.size,2,none⟩=some (.pointer none):=HB3.out.cell 2
     have fz1:w3.frozen? ⟨w2.heap.size,2,none⟩=false:=HB3.out.frozen 2
     clear hn2 hst hk2 hc3 HC hcp
     go_wp2_with fail
     go_ret2
     have hKs:Kept (·=w2.heap.size) w3 (w3.setCell ⟨w2.heap.size,2,none⟩ (.pointer (some ⟨kc,0,none⟩))):=(Kept.refl (·=w2.heap.size) w3).setCell ⟨w2.heap.size,2,none⟩ _ (.inl rfl)
     have hB4:Blk (w3.setCell ⟨w2.heap.size,2,none⟩ (.pointer (some ⟨kc,0,none⟩))) w2.heap.size #[.bool last,.int .i64 0,.pointer (some ⟨kc,0,none⟩)] 107:=by
      have:=HB3.out.set 2 (.pointer (some ⟨kc,0,none⟩))
      simpa using this
     have hno:∀j,(O j∨Bet (w2.heap.size+1) w3.heap.size j)→¬j=w2.heap.size:=fun j hj e=>by
      rcases hj with h | h
      ·have:=HX.out.lt j h;omega
      ·have:=h.1;omega
     rw[HE.out]
     refine⟨⟨⟨_,_,rfl,⟨kc,hB4,HCP.out.kept hKs hno⟩,hsz2,fun h=>hno _ h rfl,HO3.out.kept hKs hno (by omega) (by omega),fun j hj=>.inl hj,fun j hj=>?_⟩,HC3.out,HST.out.kept hKs (fun j h e=>by have:=HP.out j h;omega)⟩,Kept.trans HK3.out hKs (fun _ _ h=>h) (fun j hj e=>by omega)⟩
     rcases hj with h | h
     ·exact .inl h
     ·refine .inr ⟨by have:=h.1;omega,?_⟩
      simp only[World.setCell,Array.size_modify]
      exact h.2
   ·have HE:Hid (begP (ofBytes bs) c=.error 50):=hid (by rw[HE2.out,kndP_none])
    subst hW
    clear HE2 hk4
    go_wp2_with fail
    go_ret2
    rw[HE.out]
    exact⟨⟨rfl,by decide,c2,HC2.out,HSW.out⟩,HKW.out.mono (fun _ _ h=>.inl h)⟩

end Go.Proofs.YtggcbnhckcenmaaGreatDoor
