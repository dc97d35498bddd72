import Derived.Deep.RegionLaw
import Derived.Test.YtllcnlnbpikhdaaGreatDoorJ10
set_option maxHeartbeats 2000000
set_option maxRecDepth 100000
namespace Go.Proofs.YtllcnlnbpikhdaaGreatDoor
open Go.RowKit
theorem Kept.undrew{F:Nat->Prop}{w w':World}(h:Kept F w.drew w'):Kept F w w':=⟨h.os,h.tape,h.output,h.size,h.block⟩
theorem Ji(n:Nat)(hn:n≤1000000):∃ob:Obj,(∀W:World,(Instr.makeSlice 138 (.int .i64 (n:Nat)) (.int .i64 (n:Nat))).run Tryz.prog W=.ok (.slice (some ⟨W.heap.size,0,none⟩) n n) (W.alloc ob)) ∧
  ∀(W:World) (B:Nat),B<=W.heap.size->NRow B (W.alloc ob) (.slice (some ⟨W.heap.size,0,none⟩) n n) (List.replicate n 0):=by
 obtain⟨i0,hi,iq,iG,fW⟩:=info_parts Tryz.infoN;have hr:=λW:World=>run_make (P:=Tryz.prog) W 138 3 i0 (am 0) Tryz.underlying138 hi iq .i64 .i64 (n:Int) (n:Int) (by omega) (Int.le_refl _) (by rw[fW];omega) (by omega)
 refine⟨.cells (madeCells (am 0).cells (n*i0.size)) 3,λW=>by simpa using hr W,λW B hB=>?_⟩;obtain⟨w1,hr1,J2,rM⟩:=run_make_full (P:=Tryz.prog) W B 138 3 i0 (am 0) 1 Tryz.underlying138 hi iq iG .i64 .i64 n (by rw[fW];omega) (by simp only[maxLen];omega) hB;have h2:=hr W;rw[hr1]at h2;simp only[Result.ok.injEq]at h2;have h3:=h2.2;simp only[Int.toNat_natCast]at h3;rw[<-h3];have e:(am 0).cells=#[am 0]:=rfl;rw[e,Nat.mul_one,toList_madeCells_one]at J2;unfold NRow RowE;simpa using J2
theorem wD(w:World)(v:Value)(I:Nat→Prop)(zs:List Int)(ns:List Nat)(hs:SrcE bI w I v zs)(hg:Good zs ns)(hb:chk zs=0):
  Calls Tryz.prog 152 #[v] w λe w'=>(∃d vc vs,e=.returned (.tuple #[.pointer (some ⟨d,0,none⟩),.int .i64 0])/\Dec w' d vc vs ns/\∀k,DF d vc vs k->w.heap.size<=k)/\Same w w':=by
 obtain⟨ao,cap,rfl,fO,fX⟩:=id hs;clear fO fX;have HC:=km w _ I zs hs (by have:=hg.len;have:=hg.max;omega);rw[hb]at HC;have HG:Hid (Good zs ns):=hg;have HS:Hid (SrcE am w I (.slice ao zs.length cap) ns):=hid (hs.recode hg.eq);have HL:Hid (zs.length=ns.length):=hg.len.symm;have Kc:zs.length<=288:=by have:=hg.len;have:=hg.max;omega
 have rn:iu ns<=15:=xQ ns 15 hg.le;clear hs hg hb;generalize zs.length=n at *
 go_enter Tryz.func152,Tryz.ntmps152;go_wp2_with fail;refine HC.mono ?_;rintro e w2 ⟨rfl,hk⟩;have HK:Hid (Same w w2):=hk;clear hk HC;have HMX:=λwx (h:Same w wx)=>BK wx _ I ns (HS.out.same h) (by have:=HL.out;omega) HG.out.pos (λx hx=>by have:=HG.out.le x hx;omega)
 have HRI:∀wx,Same w wx->Calls Tryz.prog 141 #[.slice ao n cap] wx λe w'=>∃a4 n4 c4,e=.returned (.slice a4 n4 c4)/\Ld wx w' (.slice a4 n4 c4) (aD ns):=λwx h=>(lV wx _ I ns (HS.out.same h) (by have:=HL.out;omega)).mono (by
  rintro e w' ⟨v',rfl,hn⟩;obtain⟨a4,c4,rfl,_⟩:=hn.row.shape;exact⟨a4,_,c4,rfl,hn⟩)
 obtain⟨mx,LL⟩:∃mx,mx=iu ns:=⟨_,rfl⟩
 rw[<-LL]at HMX rn;have HME:Hid (mx=iu ns):=LL;clear LL;obtain⟨ob,rG,Kz⟩:=Ji mx (by omega);have HMR:Hid (∀(W:World) (B:Nat),B<=W.heap.size->NRow B (W.alloc ob) (.slice (some ⟨W.heap.size,0,none⟩) mx mx) (List.replicate mx 0)):=Kz;clear Kz;go_upto_region 4 with fail
 go_cut [5]from 13 to 19 (λz wx=>∃d vs gc,z=.pointer (some ⟨d,0,none⟩)/\Hid (Same w wx)/\Hid (wx.cell? ⟨d,0,none⟩=some (.slice (some ⟨gc,0,none⟩) mx mx)/\wx.cell? ⟨d,1,none⟩=some vs/\NRow w.heap.size wx (.slice (some ⟨gc,0,none⟩) mx mx) (List.replicate mx 0)/\NRow w.heap.size wx vs (aD ns)/\w.heap.size<=d/\w.heap.size<=gc/\gc≠d/\vs.ownBlock≠some gc/\vs.ownBlock≠some d))
 case first=>
  go_region_with (first | (go_at_call 182;refine(HMX _ (by first | exact HK.out | exact HK.out.drewN _ | exact HK.out.drew)).mono ?_;rintro e w3 ⟨rfl,rfl⟩) | (go_at_call 141;refine(HRI _ (by first | exact HK.out | exact HK.out.drewN _ | exact HK.out.drew | exact(HK.out.alloc _).drew)).mono ?_;rintro e w4 ⟨a4,n4,c4,rfl,hn4⟩))
  ·go_wp2_with fail;go_meet
   have cX:=HK.out.size;have on:w2.heap.size+1<=w4.heap.size:=(by have:=hn4.same.size;simpa using this);have k4:Same (w2.alloc ob) w4:=Kept.undrew hn4.same;have k5:Same w4 (w4.alloc (.cells #[.slice (some ⟨w2.heap.size,0,none⟩) mx mx,.slice a4 n4 c4] 264)):=(Kept.refl _ w4).alloc _;refine⟨w4.heap.size,_,w2.heap.size,rfl,hid (Same.trans (HK.out.alloc _) (Same.trans k4 k5)),hid ⟨by simp,by simp,RowE.same (RowE.same (HMR.out w2 w.heap.size cX) k4) k5,RowE.same (RowE.base hn4.row (by show w.heap.size<=(w2.alloc ob).heap.size;simp;omega)) k5,by omega,by omega,by omega,?_,?_⟩⟩
   ·intro e;have h:(w2.alloc ob).heap.size<=w2.heap.size:=hn4.row.ge e;rw[World.size_alloc]at h;omega
   ·intro e;have:=hn4.row.lt e;omega
  ·go_wp2_with fail;go_meet
   have cX:=HK.out.size;have on:w2.heap.size<=w4.heap.size:=hn4.same.size;have k4:Same w2 w4:=Kept.undrew hn4.same;have k5:Same w4 ((w4.alloc ob).alloc (.cells #[.slice (some ⟨w4.heap.size,0,none⟩) mx mx,.slice a4 n4 c4] 264)):=((Kept.refl _ w4).alloc _).alloc _;have k6:Same (w4.alloc ob) ((w4.alloc ob).alloc (.cells #[.slice (some ⟨w4.heap.size,0,none⟩) mx mx,.slice a4 n4 c4] 264)):=(Kept.refl _ _).alloc _;have hz:(w4.alloc ob).heap.size=w4.heap.size+1:=(by simp);refine⟨w4.heap.size+1,_,w4.heap.size,rfl,hid (Same.trans HK.out (Same.trans k4 k5)),hid ⟨?_,?_,RowE.same (HMR.out w4 w.heap.size (by omega)) k6,RowE.same (RowE.base hn4.row (by show w.heap.size<=w2.heap.size;omega)) k5,by omega,by omega,by omega,?_,?_⟩⟩
   ·rw[<-hz];simp
   ·rw[<-hz];simp
   ·intro e;have:=hn4.row.lt e;omega
   ·intro e;have:=hn4.row.lt e;omega
 case rest=>
  obtain⟨d,vs,gc,rfl,HKc,HFc⟩:=hcut;clear HK HMX HRI rG HMR;obtain⟨as',caps,OD,_⟩:=HFc.out.2.2.2.1.shape;subst OD;have c0:=HFc.out.1;have c1:=HFc.out.2.1;have xZ:(aD ns).length<=288:=Nat.le_trans (cI ns) (by have:=HL.out;omega);generalize uj:(aD ns).length=rl at *
  have HRL:Hid ((aD ns).length=rl):=uj;clear uj;go_wp2_with fail;go_loopg [25] rl (λq zk wr=>∃(k:Nat),rl-k<=q/\k<=rl/\zk=.int .i64 (k:Nat)/\Hid (NRow w.heap.size wr (.slice (some ⟨gc,0,none⟩) mx mx) (fN ns k))/\Hid (Kept (·=gc) wc wr))
  case atStart=>exact⟨0,by omega,by omega,rfl,hid (by rw[yS,<-HME.out];exact HFc.out.2.2.1),Kept.refl _ _⟩
  case round=>
   obtain⟨k,hq,hk,rfl,HR,HKr⟩:=hrel;have hf:=HFc.out;have d0:wr.cell? ⟨d,0,none⟩=some (.slice (some ⟨gc,0,none⟩) mx mx):=HKr.out.cell c0 (λe=>hf.2.2.2.2.2.2.1 e.symm);have d1:wr.cell? ⟨d,1,none⟩=some (.slice as' rl caps):=HKr.out.cell c1 (λe=>hf.2.2.2.2.2.2.1 e.symm);have PW:NRow w.heap.size wr (.slice as' rl caps) (aD ns):=hf.2.2.2.1.kept HKr.out (λj hj e=>hf.2.2.2.2.2.2.2.1 (by rw[hj,e]));by_cases hlt:k<rl
   ·have xU:k<(aD ns).length:=(by have:=HRL.out;omega);obtain⟨b4,o4,OY,e4,_,_,c4⟩:=(SrcE.ofRow PW).get k xU;simp only[Value.slice.injEq]at e4;obtain⟨rfl,jt,rfl⟩:=e4;clear jt;obtain⟨s,hs⟩:∃s,s=(aD ns)[k]:=⟨_,rfl⟩
    rw[<-hs]at c4;unfold am at c4;have hsr:s<ns.length/\key ns s≠0:=aU.1 (by rw[hs];exact List.getElem_mem _);have Ip:s<n:=(by have:=HL.out;omega);have hsrc:SrcE am wr (λj=>I j/\j<w.heap.size) (.slice ao n cap) ns:=SrcE.kept (SrcE.same HS.out.low HKc.out) HKr.out (λj hj _ e=>by have:=hf.2.2.2.2.2.1;omega);obtain⟨b,o,cap',e5,_,_,c5⟩:=hsrc.get s hsr.1;simp only[Value.slice.injEq]at e5;obtain⟨rfl,jt,rfl⟩:=e5;clear jt;rw[<-aY hsr.1]at c5;unfold am at c5;obtain⟨l,hl⟩:∃l,l=key ns s:=⟨_,rfl⟩
    rw[<-hl]at c5;have Oa:l<=mx:=(by rw[hl,HME.out];exact iZ ns s);have Rl:0<l:=(by omega);have ju:((l:Int)-1)=((l-1:Nat):Int):=(by omega);have Of:l-1<(fN ns k).length:=(by rw[tK,<-HME.out];omega);obtain⟨y,hy⟩:∃y,y=(fN ns k)[l-1]:=⟨_,rfl⟩
    have cy:wr.cell? ⟨gc,l-1,none⟩=some (.int .i64 (y:Nat)):=(by rw[hy];exact HR.out.cell (l-1) Of);have fy:=HR.out.frozen (l-1);have AF:y<=288:=(by rw[hy];simp only[fN,List.getElem_map,List.getElem_range];refine Nat.le_trans List.countP_le_length ?_;rw[List.length_take];have:=HRL.out;omega);have HR6:Hid (NRow w.heap.size (wr.setCell ⟨gc,l-1,none⟩ (.int .i64 ((y:Int)+1))) (.slice (some ⟨gc,0,none⟩) mx mx) (fN ns (k+1))):=hid (by
     have h:=HR.out.lay (l-1) (y+1);subst hl hs hy;rw[zD ns k xU Of]at h;exact h)
    clear hs hsr hsrc hl hy Of PW hf;go_wp2_with fail;go_region
    all_goals
     go_wp2_with fail;go_roundg (gk-1)
     case measure=>omega
     case rel=>exact⟨k+1,by omega,by omega,by go_num,HR6,(HKr.out.setCell ⟨gc,l-1,none⟩ _ (.inl rfl)).drew⟩
   ·have hk2:k=rl:=(by omega);subst hk2;have HD:Hid (Dec wr d (.slice (some ⟨gc,0,none⟩) mx mx) (.slice as' k caps) ns):=hid (by
     refine⟨d0,d1,?_,RowE.base PW (Nat.zero_le _)⟩;have h:=HR.out;rw[<-HRL.out,Dw]at h;exact RowE.base h (Nat.zero_le _))
    have HDF:Hid (∀j,DF d (.slice (some ⟨gc,0,none⟩) mx mx) (.slice as' k caps) j->w.heap.size<=j):=hid (by
     rintro j (rfl | h | h)
     ·exact hf.2.2.2.2.1
     ·simp[Value.ownBlock]at h;have:=hf.2.2.2.2.2.1;omega
     ·exact hf.2.2.2.1.ge h)
    have HKK:Hid (Same w wr):=hid (HKc.out.then HKr.out (λj hj e=>by have:=hf.2.2.2.2.2.1;omega));clear hf PW;go_wp2_with fail
    first
     | go_ret2
     | (go_quiet (fail);go_wp2_with fail;go_ret2)
    exact⟨⟨_,_,_,rfl,HD.out,HDF.out⟩,HKK.out⟩
end Go.Proofs.YtllcnlnbpikhdaaGreatDoor
