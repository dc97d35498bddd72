import Derived.Test.YtggcbnhckcenmaaGreatDoorLnTk
import Derived.Test.YtggcbnhckcenmaaGreatDoorBlk
namespace Go.Proofs.YtggcbnhckcenmaaGreatDoor
open Go.RowKit

set_option maxRecDepth 100000 in
set_option maxHeartbeats 2000000 in
theorem lstep_any(w:World)(d:Nat)(vc vs:Value)(zs:List Int)(ns:List Nat)(p c:Nat)(s:Value)(bs:List Nat)(hg:Good zs ns)(hd:Dec w d vc vs ns)(hs:St w p s bs c)(hc:c≤8*bs.length)(hlen:bs.length≤100000000)(hdis:∀k,DF d vc vs k→¬Fp p s k):
  Calls Tryz.prog 182 #[.pointer (some ⟨p,0,none⟩),.pointer (some ⟨d,0,none⟩)] w fun e w'=>RStepA w' p s bs c e (stepF ns (ofBytes bs) c)∧Kept (·=p) w w':=by
 obtain⟨W,hW⟩:∃W,W=w.alloc (.cells #[.int .i64 0,.int .i64 0] 171):=⟨_,rfl⟩
 have hk0:Same w W:=by rw[hW];exact(Kept.refl _ w).alloc _
 have HN:=lnext_any W d vc vs zs ns p c s bs hg (hd.kept hk0 (fun _ _ f=>f)) (hs.kept hk0 (fun _ _ f=>f)) hc hlen hdis
 have HK0:Hid (Same w W):=hk0
 have HBK:Hid (Blk W w.heap.size #[.int .i64 0,.int .i64 0] 171):=hid (by rw[hW];exact Blk.new w _ _)
 have hpw:p<w.heap.size:=hs.lt
 have HB:Hid (∀b∈bs,b<256):=hs.byte
 obtain⟨sym,long,er,hnf⟩:∃a b c',nextF ns ((ofBytes bs).drop c)=(a,b,c'):=⟨_,_,_,rfl⟩
 rw[hnf]at HN
 simp only at HN
 have HF:Hid (stepF ns (ofBytes bs) c=if er≠0 then .error er else if 8*bs.length<c+long+xbits sym then .error 10 else .ok ((sym,numAt (ofBytes bs) (c+long) (xbits sym)),c+long+xbits sym)):=hid (by
  unfold stepF
  rw[hnf,ofBytes_length])
 have HSH:=fun W2=>shape_any W2 (sym:Int)
 rw[widthM_nat]at HSH
 have hx7:=xbits_le sym
 obtain⟨xb,hxb⟩:∃x,x=xbits sym:=⟨_,rfl⟩
 rw[←hxb]at HF HSH hx7
 have HP:Hid (∀k,Fp p s k→k<w.heap.size):=hid (fun k h=>hs.fp_lt h)
 clear hd hs hdis hnf hk0 hxb
 go_enter Tryz.func182,Tryz.ntmps182
 go_wp2_with fail
 rw[←hW]
 clear hW
 refine HN.mono ?_
 rintro e w2 ⟨rfl,hs2,hc2,hk2⟩
 have HST2:Hid (St w2 p s bs (c+long)):=hs2
 have HK2:Hid (Kept (·=p) W w2):=hk2
 have HB2:Hid (Blk w2 w.heap.size #[.int .i64 0,.int .i64 0] 171):=hid (HBK.out.kept hk2 (by omega))
 have f1:w2.frozen? ⟨w.heap.size,0,none⟩=false:=HB2.out.frozen 0
 have f2:w2.frozen? ⟨w.heap.size,1,none⟩=false:=HB2.out.frozen 1
 have c1:w2.cell? ⟨w.heap.size,0,none⟩=some (.int .i64 0):=HB2.out.cell 0
 have c2:w2.cell? ⟨w.heap.size,1,none⟩=some (.int .i64 0):=HB2.out.cell 1
 have hcl:c≤c+long:=by omega
 have HKW:Hid (Kept (·=p) w w2):=hid (Kept.trans (HK0.out.mono (fun _ _ f=>f.elim)) hk2 (fun _ _ h=>h) (fun _ _ h=>h))
 clear hs2 hk2 HN
 by_cases her:er=0
 ·have hed:((er:Int) != 0)=false:=by simp;omega
  have HER:Hid (er=0):=her
  have her0:(er:Int)=0:=by omega
  clear her
  go_wp2_with fail
  refine(HSH _).mono ?_
  rintro e w3 ⟨rfl,hw3⟩
  subst hw3
  clear HSH
  by_cases hfit:c+long+xb≤8*bs.length
  ·have HT:=take_good p (c+long) xb s bs w3 HST2.out (by omega) (by omega) hfit
   rw[num_bits bs HB.out _ xb hfit]at HT
   obtain⟨x,hx⟩:∃x,x=numAt (ofBytes bs) (c+long) xb:=⟨_,rfl⟩
   have hxl:x<2 ^ 7:=by
    rw[hx]
    exact Nat.lt_of_lt_of_le (numAt_lt _ (ofBytes_lt bs) _ _) (Nat.pow_le_pow_right (by decide) hx7)
   rw[←hx]at HT HF
   have hxw:wrap64 (x:Int)=(x:Int):=by unfold wrap64;omega
   have HE:Hid (stepF ns (ofBytes bs) c=.ok ((sym,x),c+long+xb)):=hid (by rw[HF.out,HER.out,if_neg (by simp),if_neg (by omega)])
   have HFIT:Hid (c+long+xb≤8*bs.length):=hfit
   clear hx hfit
   go_wp2_with fail
   refine HT.mono ?_
   rintro e w4 ⟨rfl,hs4,hk4⟩
   have HST4:Hid (St w4 p s bs (c+long+xb)):=hs4
   have HB4:Hid (Blk w4 w.heap.size #[.int .i64 0,.int .i64 0] 171):=hid (HB2.out.kept hk4 (by omega))
   have HK4:Hid (Kept (·=p) w w4):=hid (Kept.trans HKW.out hk4 (fun _ _ h=>h) (fun _ _ h=>h))
   have f3:w4.frozen? ⟨w.heap.size,0,none⟩=false:=HB4.out.frozen 0
   have f4:w4.frozen? ⟨w.heap.size,1,none⟩=false:=HB4.out.frozen 1
   have c3:w4.cell? ⟨w.heap.size,0,none⟩=some (.int .i64 0):=HB4.out.cell 0
   have c4:w4.cell? ⟨w.heap.size,1,none⟩=some (.int .i64 0):=HB4.out.cell 1
   clear hs4 hk4 HT f1 f2 c1 c2
   go_wp2_with fail
   have HKF:Hid (Kept (·=w.heap.size) w4 ((w4.setCell ⟨w.heap.size,0,none⟩ (.int .i64 (sym:Nat))).setCell ⟨w.heap.size,1,none⟩ (.int .i64 (x:Nat)))):=hid (((Kept.refl (·=w.heap.size) w4).setCell ⟨w.heap.size,0,none⟩ _ (.inl rfl)).setCell ⟨w.heap.size,1,none⟩ _ (.inl rfl))
   refine bodyPost_ret (v:=.tuple #[.agg #[.int .i64 (sym:Nat),.int .i64 (x:Nat)],.int .i64 0]) (by simp[results,Tryz.results182,go_sem,c3,c4]) rfl ?_
   refine⟨?_,Kept.trans HK4.out HKF.out (fun _ _ h=>h) (fun k hk e=>by omega)⟩
   rw[HE.out]
   exact⟨rfl,HFIT.out,HST4.out.kept HKF.out (fun k h e=>by have:=HP.out k h;omega)⟩
  ·have HT:=take_end p (c+long) xb s bs w3 HST2.out hc2 (by omega) (by omega) (by omega)
   have HE:Hid (stepF ns (ofBytes bs) c=.error 10):=hid (by rw[HF.out,HER.out,if_neg (by simp),if_pos (by omega)])
   clear hfit
   go_wp2_with fail
   refine HT.mono ?_
   rintro e w4 ⟨rfl,m,hw4⟩
   subst hw4
   clear HT
   go_wp2_with fail
   have HKF:Hid (Kept (·=w.heap.size) w3 (((w3.drewN m).setCell ⟨w.heap.size,0,none⟩ (.int .i64 0)).setCell ⟨w.heap.size,1,none⟩ (.int .i64 0))):=hid ((((Kept.refl (·=w.heap.size) w3).drewN m).setCell ⟨w.heap.size,0,none⟩ _ (.inl rfl)).setCell ⟨w.heap.size,1,none⟩ _ (.inl rfl))
   refine bodyPost_ret (v:=.tuple #[.agg #[.int .i64 0,.int .i64 0],.int .i64 10]) (by simp[results,Tryz.results182,go_sem,c1,c2]) rfl ?_
   refine⟨?_,Kept.trans HKW.out HKF.out (fun _ _ h=>h) (fun k hk e=>by omega)⟩
   rw[HE.out]
   exact⟨rfl,by decide,c+long,hcl,hc2,HST2.out.kept HKF.out (fun k h e=>by have:=HP.out k h;omega)⟩
 ·have hed:((er:Int) != 0)=true:=by simp;omega
  have HE:Hid (stepF ns (ofBytes bs) c=.error er):=hid (by rw[HF.out,if_pos her])
  have HER:Hid (er≠0):=her
  clear her
  go_wp2_with fail
  have HKF:Hid (Kept (·=w.heap.size) w2 ((w2.setCell ⟨w.heap.size,0,none⟩ (.int .i64 0)).setCell ⟨w.heap.size,1,none⟩ (.int .i64 0))):=hid (((Kept.refl (·=w.heap.size) w2).setCell ⟨w.heap.size,0,none⟩ _ (.inl rfl)).setCell ⟨w.heap.size,1,none⟩ _ (.inl rfl))
  refine bodyPost_ret (v:=.tuple #[.agg #[.int .i64 0,.int .i64 0],.int .i64 (er:Nat)]) (by simp[results,Tryz.results182,go_sem,c1,c2]) rfl ?_
  refine⟨?_,Kept.trans HKW.out HKF.out (fun _ _ h=>h) (fun k hk e=>by omega)⟩
  rw[HE.out]
  exact⟨rfl,HER.out,c+long,hcl,hc2,HST2.out.kept HKF.out (fun k h e=>by have:=HP.out k h;omega)⟩

end Go.Proofs.YtggcbnhckcenmaaGreatDoor
