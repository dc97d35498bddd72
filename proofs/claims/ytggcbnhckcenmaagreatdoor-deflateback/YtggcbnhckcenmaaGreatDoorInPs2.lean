import Derived.Test.YtggcbnhckcenmaaGreatDoorInPs
namespace Go.Proofs.YtggcbnhckcenmaaGreatDoor
open Go.RowKit

theorem StepPA.err{w':World}{b p:Nat}{s:Value}{bs:List Nat}{O:Nat→Prop}{bk:Bk}{e:Ending}{er:Nat}(h:StepPA w' b p s bs O bk e (.error er)):e=.returned (.tuple #[.agg tok0,.bool false,.int .i64 (er:Nat)])∧er≠0∧BkP w' b O bk∧∃c',c'≤8*bs.length∧St w' p s bs c':=h
theorem StepPA.ok{w':World}{b p:Nat}{s:Value}{bs:List Nat}{O:Nat→Prop}{bk:Bk}{e:Ending}{x:Tok×Bk}{c':Nat}(h:StepPA w' b p s bs O bk e (.ok (x,c'))):e=.returned (.tuple #[.agg (tokC x.1),.bool (isFin x.1),.int .i64 0])∧BkP w' b O x.2∧c'≤8*bs.length∧St w' p s bs c':=h
theorem CopA.err{w':World}{p:Nat}{s:Value}{bs:List Nat}{e:Ending}{er:Nat}(h:CopA w' p s bs e (.error er)):e=.returned (.tuple #[.agg tok0,.int .i64 (er:Nat)])∧er≠0∧∃c',c'≤8*bs.length∧St w' p s bs c':=h
theorem CopA.ok{w':World}{p:Nat}{s:Value}{bs:List Nat}{e:Ending}{x:Nat×Nat}{c':Nat}(h:CopA w' p s bs e (.ok (x,c'))):e=.returned (.tuple #[.agg #[.int .u8 0,.int .i64 (x.1:Nat),.int .i64 (x.2:Nat)],.int .i64 0])∧c'≤8*bs.length∧St w' p s bs c':=h

theorem symP_byte{ls:List Nat}{last:Bool}{lit dist:List Nat}{y c:Nat}(h:y<256):symP ls last lit dist y c=.ok ((.byte y,.sym last lit dist),c):=by unfold symP;rw[if_pos h]
theorem symP_fin{ls:List Nat}{last:Bool}{lit dist:List Nat}{c:Nat}:symP ls last lit dist 256 c=.ok ((.fin,.sym last lit dist),c):=by unfold symP;rw[if_neg (by omega),if_pos rfl]
theorem symP_copy{ls:List Nat}{last:Bool}{lit dist:List Nat}{y c:Nat}(h:256<y):symP ls last lit dist y c=bindP (copP ls dist c y) (fun x c2=>.ok ((.copy x.1 x.2,.sym last lit dist),c2)):=by unfold symP;rw[if_neg (by omega),if_neg (by omega)]

set_option maxRecDepth 100000 in
set_option maxHeartbeats 2000000 in
theorem pstep_raw(w:World)(b p c:Nat)(s:Value)(bs:List Nat)(last:Bool)(left:Nat)(O:Nat→Prop)(hB:BkP w b O (.raw last left))(hOL:∀j,O j→j<w.heap.size)(hbp:¬Fp p s b)(hs:St w p s bs c)(hc:c≤8*bs.length)(hlen:bs.length≤100000000):
  Calls Tryz.prog 75 #[.pointer (some ⟨b,0,none⟩),.pointer (some ⟨p,0,none⟩)] w fun e w'=>StepPA w' b p s bs O (.raw last left) e (stepP (ofBytes bs) (.raw last left) c)∧Kept (fun j=>j=p∨j=b) w w':=by
 obtain⟨W,hW⟩:∃W,W=w.alloc (.cells #[.int .u8 0,.int .i64 0,.int .i64 0] 33):=⟨_,rfl⟩
 have hk0:Same w W:=by rw[hW];exact(Kept.refl _ w).alloc _
 have HK0:Hid (Kept (fun j=>j=p∨j=b) w W):=hid (hk0.mono (fun _ _ f=>f.elim))
 have HBK:Hid (Blk W w.heap.size tok0 33):=hid (by rw[hW];exact Blk.new w _ _)
 have hpw:p<w.heap.size:=hs.lt
 have hbw:b<w.heap.size:=hB.1.lt
 have HBW:Hid (BkP W b O (.raw last left)):=hid (hB.kept hk0 (fun _ _ f=>f) (fun f=>f))
 have hb2:=HBW.out.1.cell 2
 simp at hb2
 have HOL:Hid (∀j,O j→j<w.heap.size):=hOL
 have HP:Hid (∀j,Fp p s j→j<w.heap.size):=hid (fun j h=>hs.fp_lt h)
 have HS:Hid (St W p s bs c):=hid (hs.kept hk0 (fun _ _ f=>f))
 have HT:=pbyte_any W b p c s bs last left O HBW.out hbp HS.out hc hlen
 clear hs hB hk0 hbp hc hOL
 subst hW
 cases hst:stepP (ofBytes bs) (.raw last left) c with
 | error er=>
  rw[hst]at HT
  have HE:Hid (stepP (ofBytes bs) (.raw last left) c=.error er):=hst
  rw[←hst]
  clear hst
  go_enter Tryz.func75,Tryz.ntmps75
  go_wp2_with fail
  refine HT.mono ?_
  rintro e w2 ⟨hn2,hk2⟩
  obtain⟨rfl,her,hbb,hst⟩:=hn2.err
  have HER:Hid (er≠0):=her
  have HBB:Hid (BkP w2 b O (.raw last left)):=hbb
  have HST:Hid (∃c',c'≤8*bs.length∧St w2 p s bs c'):=hst
  have HKE:Hid (Kept (fun j=>j=p∨j=b) w w2):=hid (HK0.out.trans hk2 (fun _ _ h=>h) (fun _ _ h=>h))
  have HBE:Hid (Blk w2 w.heap.size tok0 33):=hid (HBK.out.kept hk2 (by omega))
  have fz0:w2.frozen? ⟨w.heap.size,0,none⟩=false:=HBE.out.frozen 0
  have fz1:w2.frozen? ⟨w.heap.size,1,none⟩=false:=HBE.out.frozen 1
  have fz2:w2.frozen? ⟨w.heap.size,2,none⟩=false:=HBE.out.frozen 2
  have cz0:w2.cell? ⟨w.heap.size,0,none⟩=some (.int .u8 0):=HBE.out.cell 0
  have cz1:w2.cell? ⟨w.heap.size,1,none⟩=some (.int .i64 0):=HBE.out.cell 1
  have cz2:w2.cell? ⟨w.heap.size,2,none⟩=some (.int .i64 0):=HBE.out.cell 2
  clear her hst hk2 hn2 HT hbb
  go_wp2_with fail
  have HKF:Hid (Kept (·=w.heap.size) w2 (((w2.setCell ⟨w.heap.size,0,none⟩ (.int .u8 0)).setCell ⟨w.heap.size,1,none⟩ (.int .i64 0)).setCell ⟨w.heap.size,2,none⟩ (.int .i64 0))):=hid ((((Kept.refl (·=w.heap.size) w2).setCell ⟨w.heap.size,0,none⟩ _ (.inl rfl)).setCell ⟨w.heap.size,1,none⟩ _ (.inl rfl)).setCell ⟨w.heap.size,2,none⟩ _ (.inl rfl))
  refine bodyPost_ret (v:=.tuple #[.agg #[.int .u8 0,.int .i64 0,.int .i64 0],.bool false,.int .i64 (er:Nat)]) (by simp[results,Tryz.results75,go_sem,cz0,cz1,cz2]) rfl ?_
  refine⟨?_,Kept.trans HKE.out HKF.out (fun _ _ h=>h) (fun j hj e=>by omega)⟩
  rw[HE.out]
  obtain⟨c9,h9,hs9⟩:=HST.out
  exact⟨rfl,HER.out,HBB.out.kept HKF.out (fun j hj e=>by have:=HOL.out j hj;omega) (by omega),c9,h9,hs9.kept HKF.out (fun j h e=>by have:=HP.out j h;omega)⟩
 | ok x=>
  obtain⟨⟨t,bk'⟩,c2⟩:=x
  rw[hst]at HT
  have HE:Hid (stepP (ofBytes bs) (.raw last left) c=.ok ((t,bk'),c2)):=hst
  rw[←hst]
  have htc:(t=.fin)∨∃v,t=.byte v:=by
   cases left with
   | zero=>
    rw[stepP_zero]at hst
    simp only[Except.ok.injEq,Prod.mk.injEq]at hst
    exact .inl hst.1.1.symm
   | succ m=>
    rw[stepP_raw]at hst
    obtain⟨v,c3,_,h⟩:=bindP_ok.1 hst
    simp only[Except.ok.injEq,Prod.mk.injEq]at h
    exact .inr ⟨v,h.1.1.symm⟩
  clear hst
  rcases htc with rfl | ⟨v,rfl⟩
  ·go_enter Tryz.func75,Tryz.ntmps75
   go_wp2_with fail
   refine HT.mono ?_
   rintro e w2 ⟨hn2,hk2⟩
   obtain⟨rfl,hbb,hc2,hst⟩:=hn2.ok
   have HBB:Hid (BkP w2 b O bk'):=hbb
   have HC2:Hid (c2≤8*bs.length):=hc2
   have HST:Hid (St w2 p s bs c2):=hst
   have HKE:Hid (Kept (fun j=>j=p∨j=b) w w2):=hid (HK0.out.trans hk2 (fun _ _ h=>h) (fun _ _ h=>h))
   have HBE:Hid (Blk w2 w.heap.size tok0 33):=hid (HBK.out.kept hk2 (by omega))
   have fz0:w2.frozen? ⟨w.heap.size,0,none⟩=false:=HBE.out.frozen 0
   have fz1:w2.frozen? ⟨w.heap.size,1,none⟩=false:=HBE.out.frozen 1
   have fz2:w2.frozen? ⟨w.heap.size,2,none⟩=false:=HBE.out.frozen 2
   have cz0:w2.cell? ⟨w.heap.size,0,none⟩=some (.int .u8 0):=HBE.out.cell 0
   have cz1:w2.cell? ⟨w.heap.size,1,none⟩=some (.int .i64 0):=HBE.out.cell 1
   have cz2:w2.cell? ⟨w.heap.size,2,none⟩=some (.int .i64 0):=HBE.out.cell 2
   clear hst hk2 hn2 HT hbb hc2
   simp only[tokC,isFin]
   go_wp2_with fail
   have HKF:Hid (Kept (·=w.heap.size) w2 (((w2.setCell ⟨w.heap.size,0,none⟩ (.int .u8 0)).setCell ⟨w.heap.size,1,none⟩ (.int .i64 0)).setCell ⟨w.heap.size,2,none⟩ (.int .i64 0))):=hid ((((Kept.refl (·=w.heap.size) w2).setCell ⟨w.heap.size,0,none⟩ _ (.inl rfl)).setCell ⟨w.heap.size,1,none⟩ _ (.inl rfl)).setCell ⟨w.heap.size,2,none⟩ _ (.inl rfl))
   refine bodyPost_ret (v:=.tuple #[.agg #[.int .u8 0,.int .i64 0,.int .i64 0],.bool true,.int .i64 0]) (by simp[results,Tryz.results75,go_sem,cz0,cz1,cz2]) rfl ?_
   refine⟨?_,Kept.trans HKE.out HKF.out (fun _ _ h=>h) (fun j hj e=>by omega)⟩
   rw[HE.out]
   exact⟨rfl,HBB.out.kept HKF.out (fun j hj e=>by have:=HOL.out j hj;omega) (by omega),HC2.out,HST.out.kept HKF.out (fun j h e=>by have:=HP.out j h;omega)⟩
  ·go_enter Tryz.func75,Tryz.ntmps75
   go_wp2_with fail
   refine HT.mono ?_
   rintro e w2 ⟨hn2,hk2⟩
   obtain⟨rfl,hbb,hc2,hst⟩:=hn2.ok
   have HBB:Hid (BkP w2 b O bk'):=hbb
   have HC2:Hid (c2≤8*bs.length):=hc2
   have HST:Hid (St w2 p s bs c2):=hst
   have HKE:Hid (Kept (fun j=>j=p∨j=b) w w2):=hid (HK0.out.trans hk2 (fun _ _ h=>h) (fun _ _ h=>h))
   have HBE:Hid (Blk w2 w.heap.size tok0 33):=hid (HBK.out.kept hk2 (by omega))
   have fz0:w2.frozen? ⟨w.heap.size,0,none⟩=false:=HBE.out.frozen 0
   have fz1:w2.frozen? ⟨w.heap.size,1,none⟩=false:=HBE.out.frozen 1
   have fz2:w2.frozen? ⟨w.heap.size,2,none⟩=false:=HBE.out.frozen 2
   have cz0:w2.cell? ⟨w.heap.size,0,none⟩=some (.int .u8 0):=HBE.out.cell 0
   have cz1:w2.cell? ⟨w.heap.size,1,none⟩=some (.int .i64 0):=HBE.out.cell 1
   have cz2:w2.cell? ⟨w.heap.size,2,none⟩=some (.int .i64 0):=HBE.out.cell 2
   clear hst hk2 hn2 HT hbb hc2
   simp only[tokC,isFin]
   go_wp2_with fail
   have HKF:Hid (Kept (·=w.heap.size) w2 (((w2.setCell ⟨w.heap.size,0,none⟩ (.int .u8 (v:Nat))).setCell ⟨w.heap.size,1,none⟩ (.int .i64 0)).setCell ⟨w.heap.size,2,none⟩ (.int .i64 0))):=hid ((((Kept.refl (·=w.heap.size) w2).setCell ⟨w.heap.size,0,none⟩ _ (.inl rfl)).setCell ⟨w.heap.size,1,none⟩ _ (.inl rfl)).setCell ⟨w.heap.size,2,none⟩ _ (.inl rfl))
   refine bodyPost_ret (v:=.tuple #[.agg #[.int .u8 (v:Nat),.int .i64 0,.int .i64 0],.bool false,.int .i64 0]) (by simp[results,Tryz.results75,go_sem,cz0,cz1,cz2]) rfl ?_
   refine⟨?_,Kept.trans HKE.out HKF.out (fun _ _ h=>h) (fun j hj e=>by omega)⟩
   rw[HE.out]
   exact⟨rfl,HBB.out.kept HKF.out (fun j hj e=>by have:=HOL.out j hj;omega) (by omega),HC2.out,HST.out.kept HKF.out (fun j h e=>by have:=HP.out j h;omega)⟩

set_option maxRecDepth 100000 in
set_option maxHeartbeats 2000000 in
theorem pstep_sym(w:World)(b p c:Nat)(s:Value)(bs:List Nat)(last:Bool)(lit dist:List Nat)(O:Nat→Prop)(hB:BkP w b O (.sym last lit dist))(hOL:∀j,O j→j<w.heap.size)(hO:∀j,O j→¬Fp p s j)(hbp:¬Fp p s b)(hok:OkL lit dist)(hs:St w p s bs c)(hc:c≤8*bs.length)(hlen:bs.length≤100000000):
  Calls Tryz.prog 75 #[.pointer (some ⟨b,0,none⟩),.pointer (some ⟨p,0,none⟩)] w fun e w'=>StepPA w' b p s bs O (.sym last lit dist) e (stepP (ofBytes bs) (.sym last lit dist) c)∧Kept (fun j=>j=p∨j=b) w w':=by
 obtain⟨W,hW⟩:∃W,W=w.alloc (.cells #[.int .u8 0,.int .i64 0,.int .i64 0] 33):=⟨_,rfl⟩
 have hk0:Same w W:=by rw[hW];exact(Kept.refl _ w).alloc _
 have HK0:Hid (Kept (fun j=>j=p∨j=b) w W):=hid (hk0.mono (fun _ _ f=>f.elim))
 have HBK:Hid (Blk W w.heap.size tok0 33):=hid (by rw[hW];exact Blk.new w _ _)
 have hpw:p<w.heap.size:=hs.lt
 have hbw:b<w.heap.size:=hB.lt
 have HBW:Hid (BkP W b O (.sym last lit dist)):=hid (hB.kept hk0 (fun _ _ f=>f) (fun f=>f))
 obtain⟨k,hbk,d,vc,vs,dv,hck,hdec,hOd,hdi,hOk⟩:=HBW.out
 have hb2:=hbk.cell 2
 have hk0c:=hck.cell 0
 have hk1c:=hck.cell 1
 simp at hb2 hk0c hk1c
 have HOL:Hid (∀j,O j→j<w.heap.size):=hOL
 have HO:Hid (∀j,O j→¬Fp p s j):=hO
 have hbpn:b≠p:=fun e=>hbp (.inl e)
 have hkp:k≠p:=fun e=>hO k hOk (.inl e)
 have HP:Hid (∀j,Fp p s j→j<w.heap.size):=hid (fun j h=>hs.fp_lt h)
 have HS:Hid (St W p s bs c):=hid (hs.kept hk0 (fun _ _ f=>f))
 have HSY:=psym_any W d vc vs lit p c 285 s bs hok.lit hdec HS.out hc hlen (fun j hj=>hO j (hOd j hj))
 have HDI:Hid (DistP W dv dist O):=hdi
 have HDO:Hid (usedB dist=true→Lok dist):=hok.dist
 have HEQ:Hid (stepP (ofBytes bs) (.sym last lit dist) c=bindP (syP lit (ofBytes bs) c 285) (symP (ofBytes bs) last lit dist)):=hid (stepP_sym _ _ _ _ _)
 have HLEN:Hid (bs.length≤100000000):=hlen
 have HBC:Hid (Blk W b #[.bool last,.int .i64 0,.pointer (some ⟨k,0,none⟩)] 107):=hbk
 have HKC:Hid (Blk W k #[.pointer (some ⟨d,0,none⟩),dv] 147):=hck
 clear hs hB hk0 hbp hc hOL hok hdec hdi hOd hbk hck hO hlen
 subst hW
 cases hsy:syP lit (ofBytes bs) c 285 with
 | error er=>
  rw[hsy]at HSY
  have HE:Hid (stepP (ofBytes bs) (.sym last lit dist) c=.error er):=hid (by rw[HEQ.out,bindP_no hsy])
  clear hsy HEQ
  go_enter Tryz.func75,Tryz.ntmps75
  go_wp2_with fail
  refine HSY.mono ?_
  rintro e w2 ⟨hn2,hk2⟩
  obtain⟨rfl,her,hst⟩:=hn2.err
  have hed:((er:Int) != 0)=true:=by simp;omega
  have HER:Hid (er≠0):=her
  have HBB:Hid (BkP w2 b O (.sym last lit dist)):=hid (HBW.out.kept hk2 (fun j hj e=>HO.out j hj (.inl e)) hbpn)
  have HST:Hid (∃c',c'≤8*bs.length∧St w2 p s bs c'):=hst
  have HKE:Hid (Kept (fun j=>j=p∨j=b) w w2):=hid (HK0.out.trans hk2 (fun _ _ h=>h) (fun _ _ h=>.inl h))
  have HBE:Hid (Blk w2 w.heap.size tok0 33):=hid (HBK.out.kept hk2 (by omega))
  have fz0:w2.frozen? ⟨w.heap.size,0,none⟩=false:=HBE.out.frozen 0
  have fz1:w2.frozen? ⟨w.heap.size,1,none⟩=false:=HBE.out.frozen 1
  have fz2:w2.frozen? ⟨w.heap.size,2,none⟩=false:=HBE.out.frozen 2
  have cz0:w2.cell? ⟨w.heap.size,0,none⟩=some (.int .u8 0):=HBE.out.cell 0
  have cz1:w2.cell? ⟨w.heap.size,1,none⟩=some (.int .i64 0):=HBE.out.cell 1
  have cz2:w2.cell? ⟨w.heap.size,2,none⟩=some (.int .i64 0):=HBE.out.cell 2
  clear her hst hk2 hn2 HSY
  go_wp2_with fail
  have HKF:Hid (Kept (·=w.heap.size) w2 (((w2.setCell ⟨w.heap.size,0,none⟩ (.int .u8 0)).setCell ⟨w.heap.size,1,none⟩ (.int .i64 0)).setCell ⟨w.heap.size,2,none⟩ (.int .i64 0))):=hid ((((Kept.refl (·=w.heap.size) w2).setCell ⟨w.heap.size,0,none⟩ _ (.inl rfl)).setCell ⟨w.heap.size,1,none⟩ _ (.inl rfl)).setCell ⟨w.heap.size,2,none⟩ _ (.inl rfl))
  refine bodyPost_ret (v:=.tuple #[.agg #[.int .u8 0,.int .i64 0,.int .i64 0],.bool false,.int .i64 (er:Nat)]) (by simp[results,Tryz.results75,go_sem,cz0,cz1,cz2]) rfl ?_
  refine⟨?_,Kept.trans HKE.out HKF.out (fun _ _ h=>h) (fun j hj e=>by omega)⟩
  rw[HE.out]
  obtain⟨c9,h9,hs9⟩:=HST.out
  exact⟨rfl,HER.out,HBB.out.kept HKF.out (fun j hj e=>by have:=HOL.out j hj;omega) (by omega),c9,h9,hs9.kept HKF.out (fun j h e=>by have:=HP.out j h;omega)⟩
 | ok y=>
  obtain⟨y,c2⟩:=y
  rw[hsy]at HSY
  have hy285:y≤285:=by
   rcases syP_cases hsy with⟨h1,_⟩ | ⟨h1,_⟩ | ⟨y1,k1,_,⟨_,h1⟩ | ⟨h29,h1⟩⟩
   ·cases h1
   ·cases h1
   ·cases h1
   ·simp only[Except.ok.injEq,Prod.mk.injEq]at h1;omega
  have HEA:Hid (stepP (ofBytes bs) (.sym last lit dist) c=symP (ofBytes bs) last lit dist y c2):=hid (by rw[HEQ.out,bindP_is hsy])
  clear hsy HEQ
  by_cases hlt:y<256
  ·have hld:decide ((y:Int)<256)=true:=by simp;omega
   have hym:(y:Int) % 256=(y:Int):=by omega
   have HE:Hid (stepP (ofBytes bs) (.sym last lit dist) c=.ok ((.byte y,.sym last lit dist),c2)):=hid (by rw[HEA.out,symP_byte hlt])
   clear HEA hlt
   go_enter Tryz.func75,Tryz.ntmps75
   go_wp2_with fail
   refine HSY.mono ?_
   rintro e w2 ⟨hn2,hk2⟩
   obtain⟨rfl,hc2,hst⟩:=hn2.ok
   have HBB:Hid (BkP w2 b O (.sym last lit dist)):=hid (HBW.out.kept hk2 (fun j hj e=>HO.out j hj (.inl e)) hbpn)
   have HC2:Hid (c2≤8*bs.length):=hc2
   have HST:Hid (St w2 p s bs c2):=hst
   have HKE:Hid (Kept (fun j=>j=p∨j=b) w w2):=hid (HK0.out.trans hk2 (fun _ _ h=>h) (fun _ _ h=>.inl h))
   have HBE:Hid (Blk w2 w.heap.size tok0 33):=hid (HBK.out.kept hk2 (by omega))
   have fz0:w2.frozen? ⟨w.heap.size,0,none⟩=false:=HBE.out.frozen 0
   have fz1:w2.frozen? ⟨w.heap.size,1,none⟩=false:=HBE.out.frozen 1
   have fz2:w2.frozen? ⟨w.heap.size,2,none⟩=false:=HBE.out.frozen 2
   have cz0:w2.cell? ⟨w.heap.size,0,none⟩=some (.int .u8 0):=HBE.out.cell 0
   have cz1:w2.cell? ⟨w.heap.size,1,none⟩=some (.int .i64 0):=HBE.out.cell 1
   have cz2:w2.cell? ⟨w.heap.size,2,none⟩=some (.int .i64 0):=HBE.out.cell 2
   clear hst hk2 hn2 HSY hc2
   go_wp2_with fail
   have HKF:Hid (Kept (·=w.heap.size) w2 (((w2.setCell ⟨w.heap.size,0,none⟩ (.int .u8 (y:Nat))).setCell ⟨w.heap.size,1,none⟩ (.int .i64 0)).setCell ⟨w.heap.size,2,none⟩ (.int .i64 0))):=hid ((((Kept.refl (·=w.heap.size) w2).setCell ⟨w.heap.size,0,none⟩ _ (.inl rfl)).setCell ⟨w.heap.size,1,none⟩ _ (.inl rfl)).setCell ⟨w.heap.size,2,none⟩ _ (.inl rfl))
   refine bodyPost_ret (v:=.tuple #[.agg #[.int .u8 (y:Nat),.int .i64 0,.int .i64 0],.bool false,.int .i64 0]) (by simp[results,Tryz.results75,go_sem,cz0,cz1,cz2]) rfl ?_
   refine⟨?_,Kept.trans HKE.out HKF.out (fun _ _ h=>h) (fun j hj e=>by omega)⟩
   rw[HE.out]
   exact⟨rfl,HBB.out.kept HKF.out (fun j hj e=>by have:=HOL.out j hj;omega) (by omega),HC2.out,HST.out.kept HKF.out (fun j h e=>by have:=HP.out j h;omega)⟩
  ·have hld:decide ((y:Int)<256)=false:=by simp;omega
   by_cases heq:y=256
   ·subst heq
    have HE:Hid (stepP (ofBytes bs) (.sym last lit dist) c=.ok ((.fin,.sym last lit dist),c2)):=hid (by rw[HEA.out,symP_fin])
    clear HEA hlt hld
    go_enter Tryz.func75,Tryz.ntmps75
    go_wp2_with fail
    refine HSY.mono ?_
    rintro e w2 ⟨hn2,hk2⟩
    obtain⟨rfl,hc2,hst⟩:=hn2.ok
    have HBB:Hid (BkP w2 b O (.sym last lit dist)):=hid (HBW.out.kept hk2 (fun j hj e=>HO.out j hj (.inl e)) hbpn)
    have HC2:Hid (c2≤8*bs.length):=hc2
    have HST:Hid (St w2 p s bs c2):=hst
    have HKE:Hid (Kept (fun j=>j=p∨j=b) w w2):=hid (HK0.out.trans hk2 (fun _ _ h=>h) (fun _ _ h=>.inl h))
    have HBE:Hid (Blk w2 w.heap.size tok0 33):=hid (HBK.out.kept hk2 (by omega))
    have fz0:w2.frozen? ⟨w.heap.size,0,none⟩=false:=HBE.out.frozen 0
    have fz1:w2.frozen? ⟨w.heap.size,1,none⟩=false:=HBE.out.frozen 1
    have fz2:w2.frozen? ⟨w.heap.size,2,none⟩=false:=HBE.out.frozen 2
    have cz0:w2.cell? ⟨w.heap.size,0,none⟩=some (.int .u8 0):=HBE.out.cell 0
    have cz1:w2.cell? ⟨w.heap.size,1,none⟩=some (.int .i64 0):=HBE.out.cell 1
    have cz2:w2.cell? ⟨w.heap.size,2,none⟩=some (.int .i64 0):=HBE.out.cell 2
    clear hst hk2 hn2 HSY hc2
    go_wp2_with fail
    have HKF:Hid (Kept (·=w.heap.size) w2 (((w2.setCell ⟨w.heap.size,0,none⟩ (.int .u8 0)).setCell ⟨w.heap.size,1,none⟩ (.int .i64 0)).setCell ⟨w.heap.size,2,none⟩ (.int .i64 0))):=hid ((((Kept.refl (·=w.heap.size) w2).setCell ⟨w.heap.size,0,none⟩ _ (.inl rfl)).setCell ⟨w.heap.size,1,none⟩ _ (.inl rfl)).setCell ⟨w.heap.size,2,none⟩ _ (.inl rfl))
    refine bodyPost_ret (v:=.tuple #[.agg #[.int .u8 0,.int .i64 0,.int .i64 0],.bool true,.int .i64 0]) (by simp[results,Tryz.results75,go_sem,cz0,cz1,cz2]) rfl ?_
    refine⟨?_,Kept.trans HKE.out HKF.out (fun _ _ h=>h) (fun j hj e=>by omega)⟩
    rw[HE.out]
    exact⟨rfl,HBB.out.kept HKF.out (fun j hj e=>by have:=HOL.out j hj;omega) (by omega),HC2.out,HST.out.kept HKF.out (fun j h e=>by have:=HP.out j h;omega)⟩
   ·have hyd:((y:Int)==256)=false:=by simp;omega
    have h257:257≤y:=by omega
    have HEB:Hid (stepP (ofBytes bs) (.sym last lit dist) c=bindP (copP (ofBytes bs) dist c2 y) (fun x c2=>.ok ((.copy x.1 x.2,.sym last lit dist),c2))):=hid (by rw[HEA.out,symP_copy (by omega)])
    clear HEA hlt heq
    go_enter Tryz.func75,Tryz.ntmps75
    go_wp2_with fail
    refine HSY.mono ?_
    rintro e w2 ⟨hn2,hk2⟩
    obtain⟨rfl,hc2,hst⟩:=hn2.ok
    have HK2:Hid (Kept (fun j=>j=p∨j=b) w w2):=hid (HK0.out.trans hk2 (fun _ _ h=>h) (fun _ _ h=>.inl h))
    have HBW2:Hid (BkP w2 b O (.sym last lit dist)):=hid (HBW.out.kept hk2 (fun j hj e=>HO.out j hj (.inl e)) hbpn)
    have HBK2:Hid (Blk w2 w.heap.size tok0 33):=hid (HBK.out.kept hk2 (by omega))
    have e2:=(HBC.out.kept hk2 hbpn).cell 2
    have e1:=(HKC.out.kept hk2 hkp).cell 1
    simp at e2 e1
    have HCO:=pcopied_any w2 k p c2 y s bs dist dv O e1 (HDI.out.kept hk2 (fun j hj e=>HO.out j hj (.inl e))) HO.out (.inr HDO.out) hkp hst hc2 HLEN.out hy285 h257
    clear hn2 HSY hc2 hst hk2
    cases hco:copP (ofBytes bs) dist c2 y with
    | error er=>
     rw[hco]at HCO
     have HE:Hid (stepP (ofBytes bs) (.sym last lit dist) c=.error er):=hid (by rw[HEB.out,bindP_no hco])
     clear hco HEB
     go_wp2_with fail
     refine HCO.mono ?_
     rintro e w3 ⟨hn2,hk2⟩
     obtain⟨rfl,her,hst⟩:=hn2.err
     have HER:Hid (er≠0):=her
     have HBB:Hid (BkP w3 b O (.sym last lit dist)):=hid (HBW2.out.kept hk2 (fun j hj e=>HO.out j hj (.inl e)) hbpn)
     have HST:Hid (∃c',c'≤8*bs.length∧St w3 p s bs c'):=hst
     have HKE:Hid (Kept (fun j=>j=p∨j=b) w w3):=hid (HK2.out.trans hk2 (fun _ _ h=>h) (fun _ _ h=>.inl h))
     have HBE:Hid (Blk w3 w.heap.size tok0 33):=hid (HBK2.out.kept hk2 (by omega))
     have fz0:w3.frozen? ⟨w.heap.size,0,none⟩=false:=HBE.out.frozen 0
     have fz1:w3.frozen? ⟨w.heap.size,1,none⟩=false:=HBE.out.frozen 1
     have fz2:w3.frozen? ⟨w.heap.size,2,none⟩=false:=HBE.out.frozen 2
     have cz0:w3.cell? ⟨w.heap.size,0,none⟩=some (.int .u8 0):=HBE.out.cell 0
     have cz1:w3.cell? ⟨w.heap.size,1,none⟩=some (.int .i64 0):=HBE.out.cell 1
     have cz2:w3.cell? ⟨w.heap.size,2,none⟩=some (.int .i64 0):=HBE.out.cell 2
     clear her hst hk2 hn2 HCO
     go_wp2_with fail
     have HKF:Hid (Kept (·=w.heap.size) w3 ((((((w3.setCell ⟨w.heap.size,0,none⟩ (.int .u8 0)).setCell ⟨w.heap.size,1,none⟩ (.int .i64 0)).setCell ⟨w.heap.size,2,none⟩ (.int .i64 0)).setCell ⟨w.heap.size,0,none⟩ (.int .u8 0)).setCell ⟨w.heap.size,1,none⟩ (.int .i64 0)).setCell ⟨w.heap.size,2,none⟩ (.int .i64 0))):=hid (((((((Kept.refl (·=w.heap.size) w3).setCell ⟨w.heap.size,0,none⟩ _ (.inl rfl)).setCell ⟨w.heap.size,1,none⟩ _ (.inl rfl)).setCell ⟨w.heap.size,2,none⟩ _ (.inl rfl)).setCell ⟨w.heap.size,0,none⟩ _ (.inl rfl)).setCell ⟨w.heap.size,1,none⟩ _ (.inl rfl)).setCell ⟨w.heap.size,2,none⟩ _ (.inl rfl))
     have HBF:Blk ((((((w3.setCell ⟨w.heap.size,0,none⟩ (.int .u8 0)).setCell ⟨w.heap.size,1,none⟩ (.int .i64 0)).setCell ⟨w.heap.size,2,none⟩ (.int .i64 0)).setCell ⟨w.heap.size,0,none⟩ (.int .u8 0)).setCell ⟨w.heap.size,1,none⟩ (.int .i64 0)).setCell ⟨w.heap.size,2,none⟩ (.int .i64 0)) w.heap.size #[.int .u8 0,.int .i64 0,.int .i64 0] 33:=by
      have:=((((((HBE.out.set 0 (.int .u8 0)).set 1 (.int .i64 0)).set 2 (.int .i64 0)).set 0 (.int .u8 0)).set 1 (.int .i64 0)).set 2 (.int .i64 0))
      simpa using this
     have g0:=HBF.cell 0
     have g1:=HBF.cell 1
     have g2:=HBF.cell 2
     generalize (((((w3.setCell ⟨w.heap.size,0,none⟩ (.int .u8 0)).setCell ⟨w.heap.size,1,none⟩ (.int .i64 0)).setCell ⟨w.heap.size,2,none⟩ (.int .i64 0)).setCell ⟨w.heap.size,0,none⟩ (.int .u8 0)).setCell ⟨w.heap.size,1,none⟩ (.int .i64 0)).setCell ⟨w.heap.size,2,none⟩ (.int .i64 0)=wF at *
     simp at g0 g1 g2
     refine bodyPost_ret (v:=.tuple #[.agg #[.int .u8 0,.int .i64 0,.int .i64 0],.bool false,.int .i64 (er:Nat)]) (by simp[results,Tryz.results75,go_sem,g0,g1,g2]) rfl ?_
     refine⟨?_,Kept.trans HKE.out HKF.out (fun _ _ h=>h) (fun j hj e=>by omega)⟩
     rw[HE.out]
     obtain⟨c9,h9,hs9⟩:=HST.out
     exact⟨rfl,HER.out,HBB.out.kept HKF.out (fun j hj e=>by have:=HOL.out j hj;omega) (by omega),c9,h9,hs9.kept HKF.out (fun j h e=>by have:=HP.out j h;omega)⟩
    | ok x=>
     obtain⟨⟨n,far⟩,c3⟩:=x
     rw[hco]at HCO
     have HE:Hid (stepP (ofBytes bs) (.sym last lit dist) c=.ok ((.copy n far,.sym last lit dist),c3)):=hid (by rw[HEB.out,bindP_is hco])
     clear hco HEB
     go_wp2_with fail
     refine HCO.mono ?_
     rintro e w3 ⟨hn2,hk2⟩
     obtain⟨rfl,hc3,hst⟩:=hn2.ok
     have HBB:Hid (BkP w3 b O (.sym last lit dist)):=hid (HBW2.out.kept hk2 (fun j hj e=>HO.out j hj (.inl e)) hbpn)
     have HC2:Hid (c3≤8*bs.length):=hc3
     have HST:Hid (St w3 p s bs c3):=hst
     have HKE:Hid (Kept (fun j=>j=p∨j=b) w w3):=hid (HK2.out.trans hk2 (fun _ _ h=>h) (fun _ _ h=>.inl h))
     have HBE:Hid (Blk w3 w.heap.size tok0 33):=hid (HBK2.out.kept hk2 (by omega))
     have fz0:w3.frozen? ⟨w.heap.size,0,none⟩=false:=HBE.out.frozen 0
     have fz1:w3.frozen? ⟨w.heap.size,1,none⟩=false:=HBE.out.frozen 1
     have fz2:w3.frozen? ⟨w.heap.size,2,none⟩=false:=HBE.out.frozen 2
     have cz0:w3.cell? ⟨w.heap.size,0,none⟩=some (.int .u8 0):=HBE.out.cell 0
     have cz1:w3.cell? ⟨w.heap.size,1,none⟩=some (.int .i64 0):=HBE.out.cell 1
     have cz2:w3.cell? ⟨w.heap.size,2,none⟩=some (.int .i64 0):=HBE.out.cell 2
     clear hst hk2 hn2 HCO hc3
     go_wp2_with fail
     have HKF:Hid (Kept (·=w.heap.size) w3 ((((((w3.setCell ⟨w.heap.size,0,none⟩ (.int .u8 0)).setCell ⟨w.heap.size,1,none⟩ (.int .i64 (n:Nat))).setCell ⟨w.heap.size,2,none⟩ (.int .i64 (far:Nat))).setCell ⟨w.heap.size,0,none⟩ (.int .u8 0)).setCell ⟨w.heap.size,1,none⟩ (.int .i64 (n:Nat))).setCell ⟨w.heap.size,2,none⟩ (.int .i64 (far:Nat)))):=hid (((((((Kept.refl (·=w.heap.size) w3).setCell ⟨w.heap.size,0,none⟩ _ (.inl rfl)).setCell ⟨w.heap.size,1,none⟩ _ (.inl rfl)).setCell ⟨w.heap.size,2,none⟩ _ (.inl rfl)).setCell ⟨w.heap.size,0,none⟩ _ (.inl rfl)).setCell ⟨w.heap.size,1,none⟩ _ (.inl rfl)).setCell ⟨w.heap.size,2,none⟩ _ (.inl rfl))
     have HBF:Blk ((((((w3.setCell ⟨w.heap.size,0,none⟩ (.int .u8 0)).setCell ⟨w.heap.size,1,none⟩ (.int .i64 (n:Nat))).setCell ⟨w.heap.size,2,none⟩ (.int .i64 (far:Nat))).setCell ⟨w.heap.size,0,none⟩ (.int .u8 0)).setCell ⟨w.heap.size,1,none⟩ (.int .i64 (n:Nat))).setCell ⟨w.heap.size,2,none⟩ (.int .i64 (far:Nat))) w.heap.size #[.int .u8 0,.int .i64 (n:Nat),.int .i64 (far:Nat)] 33:=by
      have:=((((((HBE.out.set 0 (.int .u8 0)).set 1 (.int .i64 (n:Nat))).set 2 (.int .i64 (far:Nat))).set 0 (.int .u8 0)).set 1 (.int .i64 (n:Nat))).set 2 (.int .i64 (far:Nat)))
      simpa using this
     have g0:=HBF.cell 0
     have g1:=HBF.cell 1
     have g2:=HBF.cell 2
     generalize (((((w3.setCell ⟨w.heap.size,0,none⟩ (.int .u8 0)).setCell ⟨w.heap.size,1,none⟩ (.int .i64 (n:Nat))).setCell ⟨w.heap.size,2,none⟩ (.int .i64 (far:Nat))).setCell ⟨w.heap.size,0,none⟩ (.int .u8 0)).setCell ⟨w.heap.size,1,none⟩ (.int .i64 (n:Nat))).setCell ⟨w.heap.size,2,none⟩ (.int .i64 (far:Nat))=wF at *
     simp at g0 g1 g2
     refine bodyPost_ret (v:=.tuple #[.agg #[.int .u8 0,.int .i64 (n:Nat),.int .i64 (far:Nat)],.bool false,.int .i64 0]) (by simp[results,Tryz.results75,go_sem,g0,g1,g2]) rfl ?_
     refine⟨?_,Kept.trans HKE.out HKF.out (fun _ _ h=>h) (fun j hj e=>by omega)⟩
     rw[HE.out]
     exact⟨rfl,HBB.out.kept HKF.out (fun j hj e=>by have:=HOL.out j hj;omega) (by omega),HC2.out,HST.out.kept HKF.out (fun j h e=>by have:=HP.out j h;omega)⟩

end Go.Proofs.YtggcbnhckcenmaaGreatDoor
