import Derived.Test.YtggcbnhckcenmaaGreatDoorInPn
import Derived.Test.YtggcbnhckcenmaaGreatDoorBlk
namespace Go.Proofs.YtggcbnhckcenmaaGreatDoor
open Go.RowKit

abbrev tok0:Array Value:=#[.int .u8 0,.int .i64 0,.int .i64 0]

def DistP(w:World)(dv:Value)(dist:List Nat)(O:Nat→Prop):Prop:=
 (usedB dist=false∧dv=.pointer none)∨(usedB dist=true∧∃d vc vs,dv=.pointer (some ⟨d,0,none⟩)∧Dec w d vc vs dist∧∀k,DF d vc vs k→O k)

theorem DistP.kept{F O:Nat→Prop}{w w':World}{dv:Value}{dist:List Nat}(h:DistP w dv dist O)(hk:Kept F w w')(hO:∀k,O k→¬F k):DistP w' dv dist O:=by
 rcases h with h | ⟨hu,d,vc,vs,rfl,hd,hO2⟩
 ·exact .inl h
 ·exact .inr ⟨hu,d,vc,vs,rfl,hd.kept hk (fun k hk2=>hO k (hO2 k hk2)),hO2⟩

theorem DistP.less{O O':Nat→Prop}{w:World}{dv:Value}{dist:List Nat}(h:DistP w dv dist O)(hO:∀k,O k→O' k):DistP w dv dist O':=by
 rcases h with h | ⟨hu,d,vc,vs,rfl,hd,hO2⟩
 ·exact .inl h
 ·exact .inr ⟨hu,d,vc,vs,rfl,hd,fun k hk=>hO k (hO2 k hk)⟩

def CopA(w':World)(p:Nat)(s:Value)(bs:List Nat)(e:Ending):Except Nat ((Nat×Nat)×Nat)→Prop
 | .error er=>e=.returned (.tuple #[.agg tok0,.int .i64 (er:Nat)])∧er≠0∧∃c',c'≤8*bs.length∧St w' p s bs c'
 | .ok (x,c')=>e=.returned (.tuple #[.agg #[.int .u8 0,.int .i64 (x.1:Nat),.int .i64 (x.2:Nat)],.int .i64 0])∧c'≤8*bs.length∧St w' p s bs c'

theorem lenP_le{ls:List Nat}(hb:∀b∈ls,b<2){c y n c':Nat}(hy:y≤285)(h257:257≤y)(h:lenP ls c y=.ok (n,c')):3≤n∧n≤258:=by
 unfold lenP at h
 split at h
 ·obtain⟨x,c2,h1,h2⟩:=bindP_ok.1 h
  simp only[Except.ok.injEq,Prod.mk.injEq]at h2
  rename_i hlt
  have:x≤255:=by
   unfold numP at h1
   split at h1
   ·simp only[Except.ok.injEq,Prod.mk.injEq]at h1;omega
   ·obtain⟨v,c3,h3,h4⟩:=bindP_ok.1 h1
    simp only[Except.ok.injEq,Prod.mk.injEq]at h4
    have hv:v<2 ^ ((y-257) / 4-1):=by rw[(tkP_ok h3).1];exact numAt_lt _ hb _ _
    have hq:(y-257) / 4-1≤5:=by omega
    have key:∀q,q≤5→∀r,r≤3→∀v,v<2 ^ q→(4+r)*2 ^ q+v≤255:=by
     intro q hq r hr v hv
     have hp:2 ^ q≤2 ^ 5:=Nat.pow_le_pow_right (by decide) hq
     have e5:(2:Nat) ^ 5=32:=by decide
     rw[e5]at hp
     have h1:(4+r)*2 ^ q≤7*2 ^ q:=Nat.mul_le_mul_right _ (by omega)
     generalize 2 ^ q=m at *
     generalize (4+r)*m=mm at *
     omega
    have:=key _ hq ((y-257) % 4) (by omega) v hv
    omega
  omega
 ·simp only[Except.ok.injEq,Prod.mk.injEq]at h;omega

theorem numP2_le{ls:List Nat}(hb:∀b∈ls,b<2){c y n c':Nat}(hy:y≤29)(h:numP ls c y 2=.ok (n,c')):n≤32767:=by
 unfold numP at h
 split at h
 ·simp only[Except.ok.injEq,Prod.mk.injEq]at h;omega
 ·obtain⟨v,c3,h3,h4⟩:=bindP_ok.1 h
  simp only[Except.ok.injEq,Prod.mk.injEq]at h4
  have hv:v<2 ^ (y / 2-1):=by rw[(tkP_ok h3).1];exact numAt_lt _ hb _ _
  have hq:y / 2-1≤13:=by omega
  have key:∀q,q≤13→∀r,r≤1→∀v,v<2 ^ q→(2+r)*2 ^ q+v≤32767:=by
   intro q hq r hr v hv
   have hp:2 ^ q≤2 ^ 13:=Nat.pow_le_pow_right (by decide) hq
   have e5:(2:Nat) ^ 13=8192:=by decide
   rw[e5]at hp
   have h1:(2+r)*2 ^ q≤3*2 ^ q:=Nat.mul_le_mul_right _ (by omega)
   generalize 2 ^ q=m at *
   generalize (2+r)*m=mm at *
   omega
  have:=key _ hq (y % 2) (by omega) v hv
  omega

set_option maxRecDepth 100000 in
set_option maxHeartbeats 2000000 in
theorem pcopied_any(w:World)(k p c y:Nat)(s:Value)(bs dist:List Nat)(dv:Value)(O:Nat→Prop)(hcell:w.cell? ⟨k,1,none⟩=some dv)(hD:DistP w dv dist O)(hO:∀j,O j→¬Fp p s j)(hok:OkL dist dist∨(usedB dist=true→Lok dist))(hkp:k≠p)(hs:St w p s bs c)(hc:c≤8*bs.length)(hlen:bs.length≤100000000)(hy:y≤285)(h257:257≤y):
  Calls Tryz.prog 118 #[.pointer (some ⟨k,0,none⟩),.pointer (some ⟨p,0,none⟩),.int .i64 (y:Nat)] w fun e w'=>CopA w' p s bs e (copP (ofBytes bs) dist c y)∧Kept (·=p) w w':=by
 have hlok:usedB dist=true→Lok dist:=hok.elim (fun h=>h.dist) (fun h=>h)
 obtain⟨W,hW⟩:∃W,W=w.alloc (.cells tok0 33):=⟨_,rfl⟩
 have hk0:Same w W:=by rw[hW];exact(Kept.refl _ w).alloc _
 have HK0:Hid (Kept (·=p) w W):=hid (hk0.mono (fun _ _ f=>f.elim))
 have HBK:Hid (Blk W w.heap.size tok0 33):=hid (by rw[hW];exact Blk.new w _ _)
 have hpw:p<w.heap.size:=hs.lt
 have hkw:k<w.heap.size:=World.block_lt_of_cell? w _ hcell
 have hcW:W.cell? ⟨k,1,none⟩=some dv:=hk0.cell hcell (fun f=>f)
 have HD:Hid (DistP W dv dist O):=hid (hD.kept hk0 (fun _ _ f=>f))
 have HS:Hid (St W p s bs c):=hid (hs.kept hk0 (fun _ _ f=>f))
 have HO:Hid (∀j,O j→¬Fp p s j):=hO
 have HLOK:Hid (usedB dist=true→Lok dist):=hlok
 have HP:Hid (∀j,Fp p s j→j<w.heap.size):=hid (fun j h=>hs.fp_lt h)
 have HLEN:Hid (bs.length≤100000000):=hlen
 have HC:Hid (c≤8*bs.length):=hc
 have HEQ:Hid (copP (ofBytes bs) dist c y=bindP (lenP (ofBytes bs) c y) (fun n c1=>bindP (dsyP dist (ofBytes bs) c1) (fun z c2=>bindP (numP (ofBytes bs) c2 z 2) (fun d c3=>.ok ((n,1+d),c3))))):=hid rfl
 have HLB:Hid (∀n c',lenP (ofBytes bs) c y=.ok (n,c')→3≤n∧n≤258):=hid (fun n c' h=>lenP_le (ofBytes_lt bs) hy h257 h)
 clear hs hD hO hok hlok hcell hk0 hlen hc
 by_cases hlt:y<285
 ·have hld:decide ((y:Int)<285)=true:=by simp;omega
  obtain⟨z,hz⟩:∃z,z=y-257:=⟨_,rfl⟩
  have hzI:(y:Int)-257=(z:Int):=by omega
  have hz29:z≤29:=by omega
  have HN:=pnum4_any W p c z s bs HS.out HC.out HLEN.out hz29
  have HLE:Hid (lenP (ofBytes bs) c y=bindP (numP (ofBytes bs) c z 4) (fun n c'=>.ok (3+n,c'))):=hid (by unfold lenP;rw[if_pos hlt,hz])
  clear hlt hz hy h257
  cases hn:numP (ofBytes bs) c z 4 with
  | error er=>
   rw[hn]at HN
   have HE:Hid (copP (ofBytes bs) dist c y=.error er):=hid (by rw[HEQ.out,HLE.out,hn];rfl)
   clear hn
   go_enter Tryz.func118,Tryz.ntmps118
   go_wp2_with fail
   rw[←hW]
   clear hW
   refine HN.mono ?_
   rintro e w2 ⟨hn2,hk2⟩
   obtain⟨rfl,her,hst⟩:=hn2.err
   clear hn2 HN
   have hed:((er:Int) != 0)=true:=by simp;omega
   have HER:Hid (er≠0):=her
   have HST:Hid (∃c',c'≤8*bs.length∧St w2 p s bs c'):=hst
   have HKE:Hid (Kept (·=p) w w2):=hid (HK0.out.trans hk2 (fun _ _ h=>h) (fun _ _ h=>h))
   have HBE:Hid (Blk w2 w.heap.size tok0 33):=hid (HBK.out.kept hk2 (by omega))
   have fz0:w2.frozen? ⟨w.heap.size,0,none⟩=false:=HBE.out.frozen 0
   have fz1:w2.frozen? ⟨w.heap.size,1,none⟩=false:=HBE.out.frozen 1
   have fz2:w2.frozen? ⟨w.heap.size,2,none⟩=false:=HBE.out.frozen 2
   have cz0:w2.cell? ⟨w.heap.size,0,none⟩=some (.int .u8 0):=HBE.out.cell 0
   have cz1:w2.cell? ⟨w.heap.size,1,none⟩=some (.int .i64 0):=HBE.out.cell 1
   have cz2:w2.cell? ⟨w.heap.size,2,none⟩=some (.int .i64 0):=HBE.out.cell 2
   clear her hst hk2
   go_wp2_with fail
   have HKF:Hid (Kept (·=w.heap.size) w2 (((w2.setCell ⟨w.heap.size,0,none⟩ (.int .u8 0)).setCell ⟨w.heap.size,1,none⟩ (.int .i64 0)).setCell ⟨w.heap.size,2,none⟩ (.int .i64 0))):=hid ((((Kept.refl (·=w.heap.size) w2).setCell ⟨w.heap.size,0,none⟩ _ (.inl rfl)).setCell ⟨w.heap.size,1,none⟩ _ (.inl rfl)).setCell ⟨w.heap.size,2,none⟩ _ (.inl rfl))
   refine bodyPost_ret (v:=.tuple #[.agg tok0,.int .i64 (er:Nat)]) (by simp[results,Tryz.results118,go_sem,cz0,cz1,cz2]) rfl ?_
   refine⟨?_,Kept.trans HKE.out HKF.out (fun _ _ h=>h) (fun j hj e=>by omega)⟩
   rw[HE.out]
   obtain⟨c9,h9,hs9⟩:=HST.out
   exact⟨rfl,HER.out,c9,h9,hs9.kept HKF.out (fun j h e=>by have:=HP.out j h;omega)⟩
  | ok x=>
   obtain⟨x,c2⟩:=x
   rw[hn]at HN
   have HLE2:Hid (lenP (ofBytes bs) c y=.ok (3+x,c2)):=hid (by rw[HLE.out,hn];rfl)
   have hx3:=(HLB.out _ _ HLE2.out).2
   obtain⟨n,hn3⟩:∃n,n=3+x:=⟨_,rfl⟩
   have hnI:(3:Int)+(x:Int)=(n:Int):=by omega
   have HEA:Hid (copP (ofBytes bs) dist c y=bindP (dsyP dist (ofBytes bs) c2) (fun z c2=>bindP (numP (ofBytes bs) c2 z 2) (fun d c3=>.ok ((n,1+d),c3)))):=hid (by rw[HEQ.out,bindP_is HLE2.out,hn3])
   clear hn hn3
   go_enter Tryz.func118,Tryz.ntmps118
   go_wp2_with fail
   rw[←hW]
   clear hW
   refine HN.mono ?_
   rintro e w2 ⟨hn2,hk2⟩
   obtain⟨rfl,hc2,hst⟩:=hn2.ok
   have HSA:Hid (St w2 p s bs c2):=hst
   have HCA:Hid (c2≤8*bs.length):=hc2
   have HKA:Hid (Kept (·=p) w w2):=hid (HK0.out.trans hk2 (fun _ _ h=>h) (fun _ _ h=>h))
   have HBA:Hid (Blk w2 w.heap.size tok0 33):=hid (HBK.out.kept hk2 (by omega))
   have HDA:Hid (DistP w2 dv dist O):=hid (HD.out.kept hk2 (fun j hj e=>HO.out j hj (.inl e)))
   have hcA:w2.cell? ⟨k,1,none⟩=some dv:=hk2.cell hcW hkp
   clear hn2 HN hst hc2 hk2 hcW HK0 HBK HD HS
   rcases HDA.out with⟨hu,rfl⟩ | ⟨hu,d,vc,vs,rfl,hdec,hOd⟩
   ·have HE:Hid (copP (ofBytes bs) dist c y=.error 53):=hid (by rw[HEA.out,bindP_no (e:=53) (by unfold dsyP;rw[if_pos hu])])
    have HSY:=psym_nil w2 (.pointer (some ⟨p,0,none⟩)) 29
    clear hu HEA HDA
    go_wp2_with fail
    refine HSY.mono ?_
    rintro e w3 ⟨rfl,hw3⟩
    obtain⟨er,herd⟩:∃er,er=53:=⟨_,rfl⟩
    have her:er≠0:=by omega
    have hst:∃c',c'≤8*bs.length∧St w3 p s bs c':=⟨c2,HCA.out,by rw[hw3];exact HSA.out⟩
    have hk2:Kept (·=p) w2 w3:=by rw[hw3];exact Kept.refl _ _
    clear hw3
    rw[←herd]at HE
    clear HSY
    have herI:(53:Int)=(er:Int):=by omega
    rw[herI]
    clear herd herI
    have hed:((er:Int) != 0)=true:=by simp;omega
    have HER:Hid (er≠0):=her
    have HST:Hid (∃c',c'≤8*bs.length∧St w3 p s bs c'):=hst
    have HKE:Hid (Kept (·=p) w w3):=hid (HKA.out.trans hk2 (fun _ _ h=>h) (fun _ _ h=>h))
    have HBE:Hid (Blk w3 w.heap.size tok0 33):=hid (HBA.out.kept hk2 (by omega))
    have fz0:w3.frozen? ⟨w.heap.size,0,none⟩=false:=HBE.out.frozen 0
    have fz1:w3.frozen? ⟨w.heap.size,1,none⟩=false:=HBE.out.frozen 1
    have fz2:w3.frozen? ⟨w.heap.size,2,none⟩=false:=HBE.out.frozen 2
    have cz0:w3.cell? ⟨w.heap.size,0,none⟩=some (.int .u8 0):=HBE.out.cell 0
    have cz1:w3.cell? ⟨w.heap.size,1,none⟩=some (.int .i64 0):=HBE.out.cell 1
    have cz2:w3.cell? ⟨w.heap.size,2,none⟩=some (.int .i64 0):=HBE.out.cell 2
    clear her hst hk2
    go_wp2_with fail
    have HKF:Hid (Kept (·=w.heap.size) w3 (((w3.setCell ⟨w.heap.size,0,none⟩ (.int .u8 0)).setCell ⟨w.heap.size,1,none⟩ (.int .i64 0)).setCell ⟨w.heap.size,2,none⟩ (.int .i64 0))):=hid ((((Kept.refl (·=w.heap.size) w3).setCell ⟨w.heap.size,0,none⟩ _ (.inl rfl)).setCell ⟨w.heap.size,1,none⟩ _ (.inl rfl)).setCell ⟨w.heap.size,2,none⟩ _ (.inl rfl))
    refine bodyPost_ret (v:=.tuple #[.agg tok0,.int .i64 (er:Nat)]) (by simp[results,Tryz.results118,go_sem,cz0,cz1,cz2]) rfl ?_
    refine⟨?_,Kept.trans HKE.out HKF.out (fun _ _ h=>h) (fun j hj e=>by omega)⟩
    rw[HE.out]
    obtain⟨c9,h9,hs9⟩:=HST.out
    exact⟨rfl,HER.out,c9,h9,hs9.kept HKF.out (fun j h e=>by have:=HP.out j h;omega)⟩
   ·have HSY:=psym_any w2 d vc vs dist p c2 29 s bs (HLOK.out hu) hdec HSA.out HCA.out HLEN.out (fun j hj=>HO.out j (hOd j hj))
    have HEB:Hid (copP (ofBytes bs) dist c y=bindP (syP dist (ofBytes bs) c2 29) (fun z c2=>bindP (numP (ofBytes bs) c2 z 2) (fun d c3=>.ok ((n,1+d),c3)))):=hid (by rw[HEA.out];unfold dsyP;rw[if_neg (by rw[hu];decide)])
    clear hu HEA hdec hOd
    cases hsy:syP dist (ofBytes bs) c2 29 with
    | error er=>
     rw[hsy]at HSY
     have HE:Hid (copP (ofBytes bs) dist c y=.error er):=hid (by rw[HEB.out,bindP_no hsy])
     clear hsy HEB
     go_wp2_with fail
     refine HSY.mono ?_
     rintro e w3 ⟨hn2,hk2⟩
     obtain⟨rfl,her,hst⟩:=hn2.err
     clear hn2 HSY
     have hed:((er:Int) != 0)=true:=by simp;omega
     have HER:Hid (er≠0):=her
     have HST:Hid (∃c',c'≤8*bs.length∧St w3 p s bs c'):=hst
     have HKE:Hid (Kept (·=p) w w3):=hid (HKA.out.trans hk2 (fun _ _ h=>h) (fun _ _ h=>h))
     have HBE:Hid (Blk w3 w.heap.size tok0 33):=hid (HBA.out.kept hk2 (by omega))
     have fz0:w3.frozen? ⟨w.heap.size,0,none⟩=false:=HBE.out.frozen 0
     have fz1:w3.frozen? ⟨w.heap.size,1,none⟩=false:=HBE.out.frozen 1
     have fz2:w3.frozen? ⟨w.heap.size,2,none⟩=false:=HBE.out.frozen 2
     have cz0:w3.cell? ⟨w.heap.size,0,none⟩=some (.int .u8 0):=HBE.out.cell 0
     have cz1:w3.cell? ⟨w.heap.size,1,none⟩=some (.int .i64 0):=HBE.out.cell 1
     have cz2:w3.cell? ⟨w.heap.size,2,none⟩=some (.int .i64 0):=HBE.out.cell 2
     clear her hst hk2
     go_wp2_with fail
     have HKF:Hid (Kept (·=w.heap.size) w3 (((w3.setCell ⟨w.heap.size,0,none⟩ (.int .u8 0)).setCell ⟨w.heap.size,1,none⟩ (.int .i64 0)).setCell ⟨w.heap.size,2,none⟩ (.int .i64 0))):=hid ((((Kept.refl (·=w.heap.size) w3).setCell ⟨w.heap.size,0,none⟩ _ (.inl rfl)).setCell ⟨w.heap.size,1,none⟩ _ (.inl rfl)).setCell ⟨w.heap.size,2,none⟩ _ (.inl rfl))
     refine bodyPost_ret (v:=.tuple #[.agg tok0,.int .i64 (er:Nat)]) (by simp[results,Tryz.results118,go_sem,cz0,cz1,cz2]) rfl ?_
     refine⟨?_,Kept.trans HKE.out HKF.out (fun _ _ h=>h) (fun j hj e=>by omega)⟩
     rw[HE.out]
     obtain⟨c9,h9,hs9⟩:=HST.out
     exact⟨rfl,HER.out,c9,h9,hs9.kept HKF.out (fun j h e=>by have:=HP.out j h;omega)⟩
    | ok z=>
     obtain⟨z,c3⟩:=z
     rw[hsy]at HSY
     have hz29:z≤29:=by
      rcases syP_cases hsy with⟨h1,_⟩ | ⟨h1,_⟩ | ⟨y1,k1,_,⟨_,h1⟩ | ⟨h29,h1⟩⟩
      ·cases h1
      ·cases h1
      ·cases h1
      ·simp only[Except.ok.injEq,Prod.mk.injEq]at h1;omega
     have HEC:Hid (copP (ofBytes bs) dist c y=bindP (numP (ofBytes bs) c3 z 2) (fun d c3=>.ok ((n,1+d),c3))):=hid (by rw[HEB.out,bindP_is hsy])
     clear hsy HEB
     go_wp2_with fail
     refine HSY.mono ?_
     rintro e w3 ⟨hn2,hk2⟩
     obtain⟨rfl,hc3,hst⟩:=hn2.ok
     have HNU:=pnum2_any w3 p c3 z s bs hst hc3 HLEN.out hz29
     have HKB:Hid (Kept (·=p) w w3):=hid (HKA.out.trans hk2 (fun _ _ h=>h) (fun _ _ h=>h))
     have HBB:Hid (Blk w3 w.heap.size tok0 33):=hid (HBA.out.kept hk2 (by omega))
     clear hn2 HSY hst hc3 hk2
     cases hnu:numP (ofBytes bs) c3 z 2 with
     | error er=>
      rw[hnu]at HNU
      have HE:Hid (copP (ofBytes bs) dist c y=.error er):=hid (by rw[HEC.out,bindP_no hnu])
      clear hnu HEC
      go_wp2_with fail
      refine HNU.mono ?_
      rintro e w4 ⟨hn2,hk2⟩
      obtain⟨rfl,her,hst⟩:=hn2.err
      clear hn2 HNU
      have hed:((er:Int) != 0)=true:=by simp;omega
      have HER:Hid (er≠0):=her
      have HST:Hid (∃c',c'≤8*bs.length∧St w4 p s bs c'):=hst
      have HKE:Hid (Kept (·=p) w w4):=hid (HKB.out.trans hk2 (fun _ _ h=>h) (fun _ _ h=>h))
      have HBE:Hid (Blk w4 w.heap.size tok0 33):=hid (HBB.out.kept hk2 (by omega))
      have fz0:w4.frozen? ⟨w.heap.size,0,none⟩=false:=HBE.out.frozen 0
      have fz1:w4.frozen? ⟨w.heap.size,1,none⟩=false:=HBE.out.frozen 1
      have fz2:w4.frozen? ⟨w.heap.size,2,none⟩=false:=HBE.out.frozen 2
      have cz0:w4.cell? ⟨w.heap.size,0,none⟩=some (.int .u8 0):=HBE.out.cell 0
      have cz1:w4.cell? ⟨w.heap.size,1,none⟩=some (.int .i64 0):=HBE.out.cell 1
      have cz2:w4.cell? ⟨w.heap.size,2,none⟩=some (.int .i64 0):=HBE.out.cell 2
      clear her hst hk2
      go_wp2_with fail
      have HKF:Hid (Kept (·=w.heap.size) w4 (((w4.setCell ⟨w.heap.size,0,none⟩ (.int .u8 0)).setCell ⟨w.heap.size,1,none⟩ (.int .i64 0)).setCell ⟨w.heap.size,2,none⟩ (.int .i64 0))):=hid ((((Kept.refl (·=w.heap.size) w4).setCell ⟨w.heap.size,0,none⟩ _ (.inl rfl)).setCell ⟨w.heap.size,1,none⟩ _ (.inl rfl)).setCell ⟨w.heap.size,2,none⟩ _ (.inl rfl))
      refine bodyPost_ret (v:=.tuple #[.agg tok0,.int .i64 (er:Nat)]) (by simp[results,Tryz.results118,go_sem,cz0,cz1,cz2]) rfl ?_
      refine⟨?_,Kept.trans HKE.out HKF.out (fun _ _ h=>h) (fun j hj e=>by omega)⟩
      rw[HE.out]
      obtain⟨c9,h9,hs9⟩:=HST.out
      exact⟨rfl,HER.out,c9,h9,hs9.kept HKF.out (fun j h e=>by have:=HP.out j h;omega)⟩
     | ok q=>
      obtain⟨q,c4⟩:=q
      have hq:=numP2_le (ofBytes_lt bs) hz29 hnu
      rw[hnu]at HNU
      obtain⟨far,hfar⟩:∃far,far=1+q:=⟨_,rfl⟩
      have hfarI:(1:Int)+(q:Int)=(far:Int):=by omega
      have hfl:far≤40000:=by omega
      have HE:Hid (copP (ofBytes bs) dist c y=.ok ((n,far),c4)):=hid (by rw[HEC.out,bindP_is hnu,hfar])
      clear hnu HEC hfar hq
      go_wp2_with fail
      refine HNU.mono ?_
      rintro e w4 ⟨hn2,hk2⟩
      obtain⟨rfl,hc4,hst⟩:=hn2.ok
      have HC4:Hid (c4≤8*bs.length):=hc4
      have HST:Hid (St w4 p s bs c4):=hst
      have HKE:Hid (Kept (·=p) w w4):=hid (HKB.out.trans hk2 (fun _ _ h=>h) (fun _ _ h=>h))
      have HBE:Hid (Blk w4 w.heap.size tok0 33):=hid (HBB.out.kept hk2 (by omega))
      have fz0:w4.frozen? ⟨w.heap.size,0,none⟩=false:=HBE.out.frozen 0
      have fz1:w4.frozen? ⟨w.heap.size,1,none⟩=false:=HBE.out.frozen 1
      have fz2:w4.frozen? ⟨w.heap.size,2,none⟩=false:=HBE.out.frozen 2
      have cz0:w4.cell? ⟨w.heap.size,0,none⟩=some (.int .u8 0):=HBE.out.cell 0
      have cz1:w4.cell? ⟨w.heap.size,1,none⟩=some (.int .i64 0):=HBE.out.cell 1
      have cz2:w4.cell? ⟨w.heap.size,2,none⟩=some (.int .i64 0):=HBE.out.cell 2
      clear hn2 HNU hc4 hst hk2
      go_wp2_with fail
      have HKF:Hid (Kept (·=w.heap.size) w4 (((w4.setCell ⟨w.heap.size,0,none⟩ (.int .u8 0)).setCell ⟨w.heap.size,1,none⟩ (.int .i64 (n:Nat))).setCell ⟨w.heap.size,2,none⟩ (.int .i64 (far:Nat)))):=hid ((((Kept.refl (·=w.heap.size) w4).setCell ⟨w.heap.size,0,none⟩ _ (.inl rfl)).setCell ⟨w.heap.size,1,none⟩ _ (.inl rfl)).setCell ⟨w.heap.size,2,none⟩ _ (.inl rfl))
      refine bodyPost_ret (v:=.tuple #[.agg #[.int .u8 0,.int .i64 (n:Nat),.int .i64 (far:Nat)],.int .i64 0]) (by simp[results,Tryz.results118,go_sem,cz0,cz1,cz2]) rfl ?_
      refine⟨?_,Kept.trans HKE.out HKF.out (fun _ _ h=>h) (fun j hj e=>by omega)⟩
      rw[HE.out]
      exact⟨rfl,HC4.out,HST.out.kept HKF.out (fun j h e=>by have:=HP.out j h;omega)⟩
 ·have hld:decide ((y:Int)<285)=false:=by simp;omega
  have HLE2:Hid (lenP (ofBytes bs) c y=.ok (258,c)):=hid (by unfold lenP;rw[if_neg hlt])
  obtain⟨n,hn3⟩:∃n,n=258:=⟨_,rfl⟩
  have HEA:Hid (copP (ofBytes bs) dist c y=bindP (dsyP dist (ofBytes bs) c) (fun z c2=>bindP (numP (ofBytes bs) c2 z 2) (fun d c3=>.ok ((n,1+d),c3)))):=hid (by rw[HEQ.out,bindP_is HLE2.out,hn3])
  subst hn3
  clear hlt hy h257 HLE2
  subst hW
  have hcA:(w.alloc (.cells #[.int .u8 0,.int .i64 0,.int .i64 0] 33)).cell? ⟨k,1,none⟩=some dv:=hcW
  clear hcW
  go_enter Tryz.func118,Tryz.ntmps118
  rcases HD.out with⟨hu,rfl⟩ | ⟨hu,d,vc,vs,rfl,hdec,hOd⟩
  ·have HE:Hid (copP (ofBytes bs) dist c y=.error 53):=hid (by rw[HEA.out,bindP_no (e:=53) (by unfold dsyP;rw[if_pos hu])])
   have HSY:=psym_nil (w.alloc (.cells #[.int .u8 0,.int .i64 0,.int .i64 0] 33)) (.pointer (some ⟨p,0,none⟩)) 29
   clear hu HEA HD
   go_wp2_with fail
   refine HSY.mono ?_
   rintro e w3 ⟨rfl,hw3⟩
   obtain⟨er,herd⟩:∃er,er=53:=⟨_,rfl⟩
   have her:er≠0:=by omega
   have hst:∃c',c'≤8*bs.length∧St w3 p s bs c':=⟨c,HC.out,by rw[hw3];exact HS.out⟩
   have hk2:Kept (·=p) (w.alloc (.cells #[.int .u8 0,.int .i64 0,.int .i64 0] 33)) w3:=by rw[hw3];exact Kept.refl _ _
   clear hw3
   rw[←herd]at HE
   clear HSY
   have herI:(53:Int)=(er:Int):=by omega
   rw[herI]
   clear herd herI
   have hed:((er:Int) != 0)=true:=by simp;omega
   have HER:Hid (er≠0):=her
   have HST:Hid (∃c',c'≤8*bs.length∧St w3 p s bs c'):=hst
   have HKE:Hid (Kept (·=p) w w3):=hid (HK0.out.trans hk2 (fun _ _ h=>h) (fun _ _ h=>h))
   have HBE:Hid (Blk w3 w.heap.size tok0 33):=hid (HBK.out.kept hk2 (by omega))
   have fz0:w3.frozen? ⟨w.heap.size,0,none⟩=false:=HBE.out.frozen 0
   have fz1:w3.frozen? ⟨w.heap.size,1,none⟩=false:=HBE.out.frozen 1
   have fz2:w3.frozen? ⟨w.heap.size,2,none⟩=false:=HBE.out.frozen 2
   have cz0:w3.cell? ⟨w.heap.size,0,none⟩=some (.int .u8 0):=HBE.out.cell 0
   have cz1:w3.cell? ⟨w.heap.size,1,none⟩=some (.int .i64 0):=HBE.out.cell 1
   have cz2:w3.cell? ⟨w.heap.size,2,none⟩=some (.int .i64 0):=HBE.out.cell 2
   clear her hst hk2
   go_wp2_with fail
   have HKF:Hid (Kept (·=w.heap.size) w3 (((w3.setCell ⟨w.heap.size,0,none⟩ (.int .u8 0)).setCell ⟨w.heap.size,1,none⟩ (.int .i64 0)).setCell ⟨w.heap.size,2,none⟩ (.int .i64 0))):=hid ((((Kept.refl (·=w.heap.size) w3).setCell ⟨w.heap.size,0,none⟩ _ (.inl rfl)).setCell ⟨w.heap.size,1,none⟩ _ (.inl rfl)).setCell ⟨w.heap.size,2,none⟩ _ (.inl rfl))
   refine bodyPost_ret (v:=.tuple #[.agg tok0,.int .i64 (er:Nat)]) (by simp[results,Tryz.results118,go_sem,cz0,cz1,cz2]) rfl ?_
   refine⟨?_,Kept.trans HKE.out HKF.out (fun _ _ h=>h) (fun j hj e=>by omega)⟩
   rw[HE.out]
   obtain⟨c9,h9,hs9⟩:=HST.out
   exact⟨rfl,HER.out,c9,h9,hs9.kept HKF.out (fun j h e=>by have:=HP.out j h;omega)⟩
  ·have HSY:=psym_any (w.alloc (.cells #[.int .u8 0,.int .i64 0,.int .i64 0] 33)) d vc vs dist p c 29 s bs (HLOK.out hu) hdec HS.out HC.out HLEN.out (fun j hj=>HO.out j (hOd j hj))
   have HEB:Hid (copP (ofBytes bs) dist c y=bindP (syP dist (ofBytes bs) c 29) (fun z c2=>bindP (numP (ofBytes bs) c2 z 2) (fun d c3=>.ok ((258,1+d),c3)))):=hid (by rw[HEA.out];unfold dsyP;rw[if_neg (by rw[hu];decide)])
   clear hu HEA hdec hOd
   cases hsy:syP dist (ofBytes bs) c 29 with
   | error er=>
    rw[hsy]at HSY
    have HE:Hid (copP (ofBytes bs) dist c y=.error er):=hid (by rw[HEB.out,bindP_no hsy])
    clear hsy HEB
    go_wp2_with fail
    refine HSY.mono ?_
    rintro e w3 ⟨hn2,hk2⟩
    obtain⟨rfl,her,hst⟩:=hn2.err
    clear hn2 HSY
    have hed:((er:Int) != 0)=true:=by simp;omega
    have HER:Hid (er≠0):=her
    have HST:Hid (∃c',c'≤8*bs.length∧St w3 p s bs c'):=hst
    have HKE:Hid (Kept (·=p) w w3):=hid (HK0.out.trans hk2 (fun _ _ h=>h) (fun _ _ h=>h))
    have HBE:Hid (Blk w3 w.heap.size tok0 33):=hid (HBK.out.kept hk2 (by omega))
    have fz0:w3.frozen? ⟨w.heap.size,0,none⟩=false:=HBE.out.frozen 0
    have fz1:w3.frozen? ⟨w.heap.size,1,none⟩=false:=HBE.out.frozen 1
    have fz2:w3.frozen? ⟨w.heap.size,2,none⟩=false:=HBE.out.frozen 2
    have cz0:w3.cell? ⟨w.heap.size,0,none⟩=some (.int .u8 0):=HBE.out.cell 0
    have cz1:w3.cell? ⟨w.heap.size,1,none⟩=some (.int .i64 0):=HBE.out.cell 1
    have cz2:w3.cell? ⟨w.heap.size,2,none⟩=some (.int .i64 0):=HBE.out.cell 2
    clear her hst hk2
    go_wp2_with fail
    have HKF:Hid (Kept (·=w.heap.size) w3 (((w3.setCell ⟨w.heap.size,0,none⟩ (.int .u8 0)).setCell ⟨w.heap.size,1,none⟩ (.int .i64 0)).setCell ⟨w.heap.size,2,none⟩ (.int .i64 0))):=hid ((((Kept.refl (·=w.heap.size) w3).setCell ⟨w.heap.size,0,none⟩ _ (.inl rfl)).setCell ⟨w.heap.size,1,none⟩ _ (.inl rfl)).setCell ⟨w.heap.size,2,none⟩ _ (.inl rfl))
    refine bodyPost_ret (v:=.tuple #[.agg tok0,.int .i64 (er:Nat)]) (by simp[results,Tryz.results118,go_sem,cz0,cz1,cz2]) rfl ?_
    refine⟨?_,Kept.trans HKE.out HKF.out (fun _ _ h=>h) (fun j hj e=>by omega)⟩
    rw[HE.out]
    obtain⟨c9,h9,hs9⟩:=HST.out
    exact⟨rfl,HER.out,c9,h9,hs9.kept HKF.out (fun j h e=>by have:=HP.out j h;omega)⟩
   | ok z=>
    obtain⟨z,c3⟩:=z
    rw[hsy]at HSY
    have hz29:z≤29:=by
     rcases syP_cases hsy with⟨h1,_⟩ | ⟨h1,_⟩ | ⟨y1,k1,_,⟨_,h1⟩ | ⟨h29,h1⟩⟩
     ·cases h1
     ·cases h1
     ·cases h1
     ·simp only[Except.ok.injEq,Prod.mk.injEq]at h1;omega
    have HEC:Hid (copP (ofBytes bs) dist c y=bindP (numP (ofBytes bs) c3 z 2) (fun d c3=>.ok ((258,1+d),c3))):=hid (by rw[HEB.out,bindP_is hsy])
    clear hsy HEB
    go_wp2_with fail
    refine HSY.mono ?_
    rintro e w3 ⟨hn2,hk2⟩
    obtain⟨rfl,hc3,hst⟩:=hn2.ok
    have HNU:=pnum2_any w3 p c3 z s bs hst hc3 HLEN.out hz29
    have HKB:Hid (Kept (·=p) w w3):=hid (HK0.out.trans hk2 (fun _ _ h=>h) (fun _ _ h=>h))
    have HBB:Hid (Blk w3 w.heap.size tok0 33):=hid (HBK.out.kept hk2 (by omega))
    clear hn2 HSY hst hc3 hk2
    cases hnu:numP (ofBytes bs) c3 z 2 with
    | error er=>
     rw[hnu]at HNU
     have HE:Hid (copP (ofBytes bs) dist c y=.error er):=hid (by rw[HEC.out,bindP_no hnu])
     clear hnu HEC
     go_wp2_with fail
     refine HNU.mono ?_
     rintro e w4 ⟨hn2,hk2⟩
     obtain⟨rfl,her,hst⟩:=hn2.err
     clear hn2 HNU
     have hed:((er:Int) != 0)=true:=by simp;omega
     have HER:Hid (er≠0):=her
     have HST:Hid (∃c',c'≤8*bs.length∧St w4 p s bs c'):=hst
     have HKE:Hid (Kept (·=p) w w4):=hid (HKB.out.trans hk2 (fun _ _ h=>h) (fun _ _ h=>h))
     have HBE:Hid (Blk w4 w.heap.size tok0 33):=hid (HBB.out.kept hk2 (by omega))
     have fz0:w4.frozen? ⟨w.heap.size,0,none⟩=false:=HBE.out.frozen 0
     have fz1:w4.frozen? ⟨w.heap.size,1,none⟩=false:=HBE.out.frozen 1
     have fz2:w4.frozen? ⟨w.heap.size,2,none⟩=false:=HBE.out.frozen 2
     have cz0:w4.cell? ⟨w.heap.size,0,none⟩=some (.int .u8 0):=HBE.out.cell 0
     have cz1:w4.cell? ⟨w.heap.size,1,none⟩=some (.int .i64 0):=HBE.out.cell 1
     have cz2:w4.cell? ⟨w.heap.size,2,none⟩=some (.int .i64 0):=HBE.out.cell 2
     clear her hst hk2
     go_wp2_with fail
     have HKF:Hid (Kept (·=w.heap.size) w4 (((w4.setCell ⟨w.heap.size,0,none⟩ (.int .u8 0)).setCell ⟨w.heap.size,1,none⟩ (.int .i64 0)).setCell ⟨w.heap.size,2,none⟩ (.int .i64 0))):=hid ((((Kept.refl (·=w.heap.size) w4).setCell ⟨w.heap.size,0,none⟩ _ (.inl rfl)).setCell ⟨w.heap.size,1,none⟩ _ (.inl rfl)).setCell ⟨w.heap.size,2,none⟩ _ (.inl rfl))
     refine bodyPost_ret (v:=.tuple #[.agg tok0,.int .i64 (er:Nat)]) (by simp[results,Tryz.results118,go_sem,cz0,cz1,cz2]) rfl ?_
     refine⟨?_,Kept.trans HKE.out HKF.out (fun _ _ h=>h) (fun j hj e=>by omega)⟩
     rw[HE.out]
     obtain⟨c9,h9,hs9⟩:=HST.out
     exact⟨rfl,HER.out,c9,h9,hs9.kept HKF.out (fun j h e=>by have:=HP.out j h;omega)⟩
    | ok q=>
     obtain⟨q,c4⟩:=q
     have hq:=numP2_le (ofBytes_lt bs) hz29 hnu
     rw[hnu]at HNU
     obtain⟨far,hfar⟩:∃far,far=1+q:=⟨_,rfl⟩
     have hfarI:(1:Int)+(q:Int)=(far:Int):=by omega
     have hfl:far≤40000:=by omega
     have HE:Hid (copP (ofBytes bs) dist c y=.ok ((258,far),c4)):=hid (by rw[HEC.out,bindP_is hnu,hfar])
     clear hnu HEC hfar hq
     go_wp2_with fail
     refine HNU.mono ?_
     rintro e w4 ⟨hn2,hk2⟩
     obtain⟨rfl,hc4,hst⟩:=hn2.ok
     have HC4:Hid (c4≤8*bs.length):=hc4
     have HST:Hid (St w4 p s bs c4):=hst
     have HKE:Hid (Kept (·=p) w w4):=hid (HKB.out.trans hk2 (fun _ _ h=>h) (fun _ _ h=>h))
     have HBE:Hid (Blk w4 w.heap.size tok0 33):=hid (HBB.out.kept hk2 (by omega))
     have fz0:w4.frozen? ⟨w.heap.size,0,none⟩=false:=HBE.out.frozen 0
     have fz1:w4.frozen? ⟨w.heap.size,1,none⟩=false:=HBE.out.frozen 1
     have fz2:w4.frozen? ⟨w.heap.size,2,none⟩=false:=HBE.out.frozen 2
     have cz0:w4.cell? ⟨w.heap.size,0,none⟩=some (.int .u8 0):=HBE.out.cell 0
     have cz1:w4.cell? ⟨w.heap.size,1,none⟩=some (.int .i64 0):=HBE.out.cell 1
     have cz2:w4.cell? ⟨w.heap.size,2,none⟩=some (.int .i64 0):=HBE.out.cell 2
     clear hn2 HNU hc4 hst hk2
     go_wp2_with fail
     have HKF:Hid (Kept (·=w.heap.size) w4 (((w4.setCell ⟨w.heap.size,0,none⟩ (.int .u8 0)).setCell ⟨w.heap.size,1,none⟩ (.int .i64 258)).setCell ⟨w.heap.size,2,none⟩ (.int .i64 (far:Nat)))):=hid ((((Kept.refl (·=w.heap.size) w4).setCell ⟨w.heap.size,0,none⟩ _ (.inl rfl)).setCell ⟨w.heap.size,1,none⟩ _ (.inl rfl)).setCell ⟨w.heap.size,2,none⟩ _ (.inl rfl))
     refine bodyPost_ret (v:=.tuple #[.agg #[.int .u8 0,.int .i64 258,.int .i64 (far:Nat)],.int .i64 0]) (by simp[results,Tryz.results118,go_sem,cz0,cz1,cz2]) rfl ?_
     refine⟨?_,Kept.trans HKE.out HKF.out (fun _ _ h=>h) (fun j hj e=>by omega)⟩
     rw[HE.out]
     exact⟨rfl,HC4.out,HST.out.kept HKF.out (fun j h e=>by have:=HP.out j h;omega)⟩

end Go.Proofs.YtggcbnhckcenmaaGreatDoor
