import Derived.Lib.AppendZerosOnto
import Derived.Lib.Walk
import Derived.Test.YtllcnlnbpikhdaaGreatDoorJ34
set_option maxHeartbeats 4000000
set_option maxRecDepth 100000
namespace Go.Proofs.YtllcnlnbpikhdaaGreatDoor
open Go.RowKit
theorem se(w:World)(n:Nat)(h1:1≤n)(hn:n≤1000000):
  Calls Tryz.prog 139 #[.slice none 0 0,.int .i64 (n:Nat)] w λe w'=>(∃G,e=.returned (.slice (some ⟨w.heap.size,0,none⟩) 0 G)/\NRow w.heap.size w' (.slice (some ⟨w.heap.size,0,none⟩) 0 G) [])/\Same w w':=by
 obtain⟨i0,hi,iq,iG,fW⟩:=info_parts Tryz.infoN;have ei:(0+n)*i0.bytes<=140737488355328:=by rw[fW];omega
 have hold:(Builtin.firstCells i0.size 0 (.slice none 0 0)).run Tryz.prog w.drew=.ok ([]:List Value).toArray w.drew:=run_firstCells_none w.drew i0.size 0 0 0;have JU:∀ty,(Builtin.append_ #[138,3] ty #[.slice none 0 0,.int .i64 (n:Nat)]).run Tryz.prog w =
   .ok (.slice (some ⟨w.heap.size,0,none⟩) (0+n) (grownCap w (0+n) 0 3)) (w.drew.alloc (.cells (([]:List Value).toArray++Builtin.zeroCells (am 0).cells n++Builtin.zeroCells (am 0).cells (grownCap w (0+n) 0 3-(0+n))) 3)):=λty=>
  Lib.run_append_grow_zeros w 138 3 ty 3 i0 _ .i64 .i64 Tryz.underlying138 Tryz.underlying3 hi iq none 0 0 [] hold n (by omega) (by omega) (by omega) (by omega) (by rw[fW];omega) (growslice_fits (by omega) ei)
 have ND:0+n<=grownCap w (0+n) 0 3:=grownCap_ge w _ _ _;have LT:grownCap w (0+n) 0 3<=maxLen:=grownCap_le_maxLen w _ _ _ (by unfold maxLen;omega);obtain⟨G,hG⟩:∃G,G=grownCap w (0+n) 0 3:=⟨_,rfl⟩
 rw[<-hG]at JU ND LT;rw[Nat.zero_add]at JU ND;obtain⟨cur,kU⟩:∃cur,cur=([]:List Value).toArray++Builtin.zeroCells (am 0).cells n++Builtin.zeroCells (am 0).cells (G-n):=⟨_,rfl⟩
 have eO:cur.size=G:=by rw[kU];have e:(am 0).cells.size=1:=rfl;simp[Builtin.zeroCells,e];omega
 rw[<-kU]at JU;have HROW:Hid (NRow w.heap.size (w.drew.alloc (.cells cur 3)) (.slice (some ⟨w.heap.size,0,none⟩) 0 G) []):=hid ⟨rfl,.inr ⟨w.heap.size,G,cur,rfl,Nat.le_refl _,Blk.new w.drew cur 3,Nat.zero_le _,LT,by rw[eO,Nat.mul_one],by simp⟩⟩;have HK:Hid (Same w (w.drew.alloc (.cells cur 3))):=hid (((Kept.refl _ w).drew).alloc _);clear hold ei hi iq iG fW hG kU eO LT;go_enter Tryz.func139,Tryz.ntmps139;go_wp2_with (at_builtin;refine Lib.wpList_append_run _ rfl _ _ _ _ rfl _ _ rfl rfl _ _ (JU _) ?_)
 all_goals
  go_ret;exact⟨⟨G,rfl,HROW.out⟩,HK.out⟩
theorem vY(w:World)(h la cA lb cB:Nat)(adA adB:Addr)(I J:Nat→Prop)(xs ys:List Int)(eH:w.cell? ⟨h,0,none⟩=some (.slice (some adA) la cA))(cm:w.cell? ⟨h,1,none⟩=some (.slice (some adB) lb cB))
  (hA:SrcE bI w I (.slice (some adA) la cA) xs) (hB:SrcE bI w J (.slice (some adB) lb cB) ys) (OZ:1<=la) (Rz:la<=1000) (rL:lb<=1000):
  Calls Tryz.prog 112 #[.slice (some ⟨h,0,none⟩) 2 2] w λe w'=>∃v',e=.returned v'/\oR w.heap.size w' v' (xs++ys)/\Same w w':=by
 have rF:=hA.at.1;have AF:=hB.at.1;have HA:Hid (SrcE bI w I (.slice (some adA) la cA) xs):=hA;have HB:Hid (SrcE bI w J (.slice (some adB) lb cB) ys):=hB;obtain⟨t,ht⟩:∃t,t=la+lb:=⟨_,rfl⟩
 have htI:(la:Int)+(lb:Int)=(t:Int):=by omega
 have QC:IntKind.i64.wrap (t:Int)=(t:Int):=by rw[IntKind.wrap_i64];omega
 have HGR:=se w t (by omega) (by omega);have HXL:Hid (la=xs.length/\lb=ys.length):=hid ⟨rF,AF⟩;clear hA hB ht rF AF;go_enter Tryz.func112,Tryz.ntmps112;go_wp2_with fail;refine wp_loop_rounds 3 ?_;rw[rounds_succ];go_wp2_with fail;rw[rounds_succ];go_wp2_with fail;rw[rounds_succ];go_wp2_with fail;refine HGR.mono ?_;rintro e w1 ⟨⟨G,rfl,hr1⟩,hk1⟩;have HR1:Hid (oR w.heap.size w1 (.slice (some ⟨w.heap.size,0,none⟩) 0 G) []):=hid (hr1.recode (enc':=bI) (ys:=[]) rfl);have HK1:Hid (Same w w1):=hk1;have c1:w1.cell? ⟨h,0,none⟩=some (.slice (some adA) la cA):=hk1.cell eH (λf=>f);have c2:w1.cell? ⟨h,1,none⟩=some (.slice (some adB) lb cB):=hk1.cell cm (λf=>f);have Hy:=hk1.size;clear hr1 hk1 HGR;go_wp2_with fail;refine wp_loop_rounds 3 ?_;rw[rounds_succ];go_wp2_with (at_builtin;refine bU _ bI mY w.heap.size 138 3 (bI 0) 8 Tryz.underlying138 Tryz.infoI rfl (by decide) rfl (.tmp 31) (.tmp 32) rfl _ [] rfl HR1.out _ (some adA) la cA xs rfl (HA.out.same HK1.out) (λe=>by cases e) (by have:=HXL.out;simp;omega) Hy ?_;intro v3 w3 hr3 jH;have HR3:Hid (oR w.heap.size w3 v3 xs):=hid (by simpa using hr3);have HK3:Hid (Same w w3):=hid (HK1.out.grown jH (λj e=>.inr (HR1.out.ge e)));have d2:w3.cell? ⟨h,1,none⟩=some (.slice (some adB) lb cB):=HK3.out.cell cm (λf=>f);clear hr3 jH);have ul:=HK3.out.size;rw[rounds_succ];go_wp2_with (at_builtin;refine bU _ bI mY w.heap.size 138 3 (bI 0) 8 Tryz.underlying138 Tryz.infoI rfl (by decide) rfl (.tmp 31) (.tmp 32) rfl _ xs rfl HR3.out _ (some adB) lb cB ys rfl (HB.out.same HK3.out) (λe=>by cases e) (by have:=HXL.out;omega) ul ?_;intro v4 w4 hr4 pv;have HR4:Hid (oR w.heap.size w4 v4 (xs++ys)):=hr4;have HK4:Hid (Same w w4):=hid (HK3.out.grown pv (λj e=>.inr (HR3.out.ge e)));clear hr4 pv);rw[rounds_succ];go_wp2_with fail;go_ret;exact⟨_,rfl,HR4.out,HK4.out⟩
theorem RowC.nat{B:Nat}{w:World}{v:Value}{xs:List Nat}(h:RowC B 3 1 fD w v xs):NRow B w v xs:=by unfold NRow RowE;unfold RowC at h;rw[so]at h;exact h
theorem i6(w:World)(y N:Nat)(hN:N≤1000):
  Calls Tryz.prog 153 #[.int .i64 (y:Nat),.int .i64 (N:Nat)] w λe w'=>∃g,e=.returned (.slice (some ⟨g,0,none⟩) N N)/\NRow w.heap.size w' (.slice (some ⟨g,0,none⟩) N N) (List.replicate N y)/\Same w w':=by
 have HR:=ic (w.alloc (.cells #[.int .i64 (y:Nat)] 3)) ⟨w.heap.size,0,none⟩ y N (bw w 3 (am y)) hN;go_enter Tryz.func153,Tryz.ntmps153;go_wp2_with fail;refine HR.mono ?_;rintro e w1 ⟨g,rfl,hr,hk⟩;have HR1:Hid (RowC (w.alloc (.cells #[.int .i64 (y:Nat)] 3)).heap.size 3 1 fD w1 (.slice (some ⟨g,0,none⟩) N N) (List.replicate N y)):=hr;have HK1:Hid (Same (w.alloc (.cells #[.int .i64 (y:Nat)] 3)) w1):=hk;clear hr hk HR;go_wp2_with fail;go_ret;exact⟨g,rfl,RowE.base HR1.out.nat (by simp),Same.trans ((Kept.refl _ w).alloc _) HK1.out⟩
theorem oE(w:World)(h:Nat)(la lb lc ld:Nat)(ga gb gc gd:Nat)(xa xb xc xd:List Nat)
  (re:w.cell? ⟨h,0,none⟩=some (.slice (some ⟨ga,0,none⟩) la la)) (eH:w.cell? ⟨h,1,none⟩=some (.slice (some ⟨gb,0,none⟩) lb lb)) (cm:w.cell? ⟨h,2,none⟩=some (.slice (some ⟨gc,0,none⟩) lc lc)) (rg:w.cell? ⟨h,3,none⟩=some (.slice (some ⟨gd,0,none⟩) ld ld))
  (hA:NRow 0 w (.slice (some ⟨ga,0,none⟩) la la) xa) (hB:NRow 0 w (.slice (some ⟨gb,0,none⟩) lb lb) xb) (hC:NRow 0 w (.slice (some ⟨gc,0,none⟩) lc lc) xc) (hD:NRow 0 w (.slice (some ⟨gd,0,none⟩) ld ld) xd) (h1:1<=la) (OZ:la<=1000) (rL:lb<=1000) (Of:lc<=1000) (BX:ld<=1000):
  Calls Tryz.prog 112 #[.slice (some ⟨h,0,none⟩) 4 4] w λe w'=>∃v',e=.returned v'/\NRow w.heap.size w' v' (xa++xb++xc++xd)/\Same w w':=by
 have HA:Hid (SrcE am w _ (.slice (some ⟨ga,0,none⟩) la la) xa):=hid (SrcE.ofRow hA);have HB:Hid (SrcE am w _ (.slice (some ⟨gb,0,none⟩) lb lb) xb):=hid (SrcE.ofRow hB);have HC:Hid (SrcE am w _ (.slice (some ⟨gc,0,none⟩) lc lc) xc):=hid (SrcE.ofRow hC);have HD:Hid (SrcE am w _ (.slice (some ⟨gd,0,none⟩) ld ld) xd):=hid (SrcE.ofRow hD);have HXL:Hid (xa.length=la/\xb.length=lb/\xc.length=lc/\xd.length=ld):=hid ⟨hA.len,hB.len,hC.len,hD.len⟩;obtain⟨t1,lX⟩:∃t,t=la+lb:=⟨_,rfl⟩
 obtain⟨t2,iE⟩:∃t,t=t1+lc:=⟨_,rfl⟩
 obtain⟨t3,mZ⟩:∃t,t=t2+ld:=⟨_,rfl⟩
 have hI1:(la:Int)+(lb:Int)=(t1:Int):=by omega
 have RT:(t1:Int)+(lc:Int)=(t2:Int):=by omega
 have Yy:(t2:Int)+(ld:Int)=(t3:Int):=by omega
 have hw1:IntKind.i64.wrap (t1:Int)=(t1:Int):=by rw[IntKind.wrap_i64];omega
 have hw2:IntKind.i64.wrap (t2:Int)=(t2:Int):=by rw[IntKind.wrap_i64];omega
 have hw3:IntKind.i64.wrap (t3:Int)=(t3:Int):=by rw[IntKind.wrap_i64];omega
 have HGR:=se w t3 (by omega) (by omega);have l6:t1<=2000:=by omega
 have ur:t2<=3000:=by omega
 have Ix:t3<=4000:=by omega
 clear hA hB hC hD lX iE mZ;go_enter Tryz.func112,Tryz.ntmps112;go_wp2_with fail;refine wp_loop_rounds 5 ?_;rw[rounds_succ];go_wp2_with fail;rw[rounds_succ];go_wp2_with fail;rw[rounds_succ];go_wp2_with fail;rw[rounds_succ];go_wp2_with fail;rw[rounds_succ];go_wp2_with fail;refine HGR.mono ?_;rintro e w1 ⟨⟨G,rfl,hr1⟩,hk1⟩;have HR1:Hid (NRow w.heap.size w1 (.slice (some ⟨w.heap.size,0,none⟩) 0 G) []):=hid hr1;have HK1:Hid (Same w w1):=hk1;have c0:=hk1.cell re (λf=>f);have Hy:=hk1.size;clear hr1 hk1 HGR;go_wp2_with fail;refine wp_loop_rounds 5 ?_;rw[rounds_succ];go_wp2_with (at_builtin;refine bU _ am dJ w.heap.size 138 3 (am 0) 8 Tryz.underlying138 Tryz.infoN rfl (by decide) rfl (.tmp 31) (.tmp 32) rfl _ [] rfl HR1.out _ (some ⟨ga,0,none⟩) la la xa rfl (HA.out.same HK1.out) (λe=>by cases e) (by have:=HXL.out;simp;omega) Hy ?_;intro v3 w3 hr3 jH;have HR3:Hid (NRow w.heap.size w3 v3 xa):=hid (by simpa using hr3);have HK3:Hid (Same w w3):=hid (HK1.out.grown jH (λj e=>.inr (HR1.out.ge e)));have d1:=HK3.out.cell eH (λf=>f);clear hr3 jH);have ul:=HK3.out.size;rw[rounds_succ];go_wp2_with (at_builtin;refine bU _ am dJ w.heap.size 138 3 (am 0) 8 Tryz.underlying138 Tryz.infoN rfl (by decide) rfl (.tmp 31) (.tmp 32) rfl _ xa rfl HR3.out _ (some ⟨gb,0,none⟩) lb lb xb rfl (HB.out.same HK3.out) (λe=>by cases e) (by have:=HXL.out;omega) ul ?_;intro v4 w4 hr4 pv;have HR4:Hid (NRow w.heap.size w4 v4 (xa++xb)):=hr4;have HK4:Hid (Same w w4):=hid (HK3.out.grown pv (λj e=>.inr (HR3.out.ge e)));have d2:=HK4.out.cell cm (λf=>f);clear hr4 pv);have D8:=HK4.out.size;rw[rounds_succ];go_wp2_with (at_builtin;refine bU _ am dJ w.heap.size 138 3 (am 0) 8 Tryz.underlying138 Tryz.infoN rfl (by decide) rfl (.tmp 31) (.tmp 32) rfl _ (xa++xb) rfl HR4.out _ (some ⟨gc,0,none⟩) lc lc xc rfl (HC.out.same HK4.out) (λe=>by cases e) (by have:=HXL.out;rw[List.length_append];omega) D8 ?_;intro v5 w5 hr5 d8;have HR5:Hid (NRow w.heap.size w5 v5 (xa++xb++xc)):=hr5;have HK5:Hid (Same w w5):=hid (HK4.out.grown d8 (λj e=>.inr (HR4.out.ge e)));have d3:=HK5.out.cell rg (λf=>f);clear hr5 d8);have JY:=HK5.out.size;rw[rounds_succ];go_wp2_with (at_builtin;refine bU _ am dJ w.heap.size 138 3 (am 0) 8 Tryz.underlying138 Tryz.infoN rfl (by decide) rfl (.tmp 31) (.tmp 32) rfl _ (xa++xb++xc) rfl HR5.out _ (some ⟨gd,0,none⟩) ld ld xd rfl (HD.out.same HK5.out) (λe=>by cases e) (by have:=HXL.out;rw[List.length_append,List.length_append];omega) JY ?_;intro v6 w6 hr6 Ky;have HR6:Hid (NRow w.heap.size w6 v6 (xa++xb++xc++xd)):=hr6;have HK6:Hid (Same w w6):=hid (HK5.out.grown Ky (λj e=>.inr (HR5.out.ge e)));clear hr6 Ky);rw[rounds_succ];go_wp2_with fail;go_ret;exact⟨_,rfl,HR6.out,HK6.out⟩
theorem vF(l:List Nat)(h0:0<l.length)(hl:l.length<=288)(h15:∀x∈l,x<=15):chk (l.map (fun(n:Nat)=>(n:Int)))=bm l:=by
 have hok:eC (l.map (fun(n:Nat)=>(n:Int))) 0 15=true:=by simp only[eC,List.length_map,Bool.and_eq_true,decide_eq_true_eq,Bool.not_eq_true',List.any_eq_false];refine⟨⟨by omega,by omega⟩,λz hz=>?_⟩;obtain⟨n,hn,rfl⟩:=List.mem_map.1 hz;have:=h15 n hn;simp[d7];omega
 unfold chk;rw[if_pos hok,List.map_map];have e:l.map (Int.toNat ∘ fun(n:Nat)=>(n:Int))=l:=by
  conv=>rhs;rw[<-List.map_id l]
  exact List.map_congr_left (λn _=>by simp)
 rw[e]
theorem mX(w:World)(v:Value)(I:Nat→Prop)(ns:List Nat)(hs:SrcE am w I v ns)(hg:Lok ns):
  Calls Tryz.prog 152 #[v] w λe w'=>(∃d vc vs,e=.returned (.tuple #[.pointer (some ⟨d,0,none⟩),.int .i64 0])/\Dec w' d vc vs ns/\∀k,DF d vc vs k->w.heap.size<=k)/\Same w w':=
 wD w v I _ ns (hs.recode hg.good.eq.symm) hg.good (by rw[vF ns hg.pos hg.max hg.le];exact hg.ok)
def AZ(a b k:Nat):Prop:=a<=k/\k<b
theorem Ab(w:World):
  Calls Tryz.prog 122 #[] w λe w'=>∃k,e=.returned (.pointer (some ⟨k,0,none⟩))/\CodesP w' k fixL fixD (AZ w.heap.size w'.heap.size)/\Same w w':=by
 have H1:=i6 w 8 144 (by decide);have H2:=λwx:World=>i6 wx 9 112 (by decide)
 have H3:=λwx:World=>i6 wx 7 24 (by decide)
 have H4:=λwx:World=>i6 wx 8 8 (by decide)
 have H5:=λwx:World=>i6 wx 5 32 (by decide)
 go_enter Tryz.func122,Tryz.ntmps122;go_wp2_with fail;refine H1.mono ?_;rintro e w1 ⟨g1,rfl,hr1,hk1⟩;have HR1:Hid (NRow w.heap.size w1 (.slice (some ⟨g1,0,none⟩) 144 144) (List.replicate 144 8)):=hr1;have HK1:Hid (Same w w1):=hk1;clear hr1 hk1 H1;go_wp2_with fail;refine(H2 w1).mono ?_;rintro e w2 ⟨g2,rfl,hr2,hk2⟩;have HR2:Hid (NRow w1.heap.size w2 (.slice (some ⟨g2,0,none⟩) 112 112) (List.replicate 112 9)):=hr2;have HK2:Hid (Same w1 w2):=hk2;clear hr2 hk2 H2;go_wp2_with fail;refine(H3 w2).mono ?_;rintro e w3 ⟨g3,rfl,hr3,hk3⟩;have HR3:Hid (NRow w2.heap.size w3 (.slice (some ⟨g3,0,none⟩) 24 24) (List.replicate 24 7)):=hr3;have HK3:Hid (Same w2 w3):=hk3;clear hr3 hk3 H3;go_wp2_with fail;refine(H4 w3).mono ?_;rintro e w4 ⟨g4,rfl,hr4,hk4⟩;have HR4:Hid (NRow w3.heap.size w4 (.slice (some ⟨g4,0,none⟩) 8 8) (List.replicate 8 8)):=hr4;have HK4:Hid (Same w3 w4):=hk4;clear hr4 hk4 H4;have HCC:Hid (∀W:World,Same w4 W→∀h,W.cell? ⟨h,0,none⟩=some (.slice (some ⟨g1,0,none⟩) 144 144)→W.cell? ⟨h,1,none⟩=some (.slice (some ⟨g2,0,none⟩) 112 112)→W.cell? ⟨h,2,none⟩=some (.slice (some ⟨g3,0,none⟩) 24 24)→W.cell? ⟨h,3,none⟩=some (.slice (some ⟨g4,0,none⟩) 8 8) →
   Calls Tryz.prog 112 #[.slice (some ⟨h,0,none⟩) 4 4] W λe w'=>∃v',e=.returned v'/\NRow W.heap.size w' v' fixL/\Same W w'):=hid (λW hW h h0 h1 h2 h3=>by
  have hB:=Same.trans HK4.out hW;have hC:=Same.trans HK3.out hB;have hD:=Same.trans HK2.out hC;exact oE W h 144 112 24 8 g1 g2 g3 g4 _ _ _ _ h0 h1 h2 h3 (RowE.base (HR1.out.same hD) (Nat.zero_le _)) (RowE.base (HR2.out.same hC) (Nat.zero_le _)) (RowE.base (HR3.out.same hB) (Nat.zero_le _)) (RowE.base (HR4.out.same hW) (Nat.zero_le _)) (by decide) (by decide) (by decide) (by decide) (by decide))
 have HK04:Hid (Same w w4):=hid (Same.trans HK1.out (Same.trans HK2.out (Same.trans HK3.out HK4.out)));clear HR1 HR2 HR3 HR4 HK1 HK2 HK3 HK4;go_wp2_with fail;refine(HCC.out _ ((Kept.refl _ w4).alloc _) w4.heap.size (by simp) (by simp) (by simp) (by simp)).mono ?_;rintro e w5 ⟨v5,rfl,hr5,hk5⟩;have yi:Same w4 w5:=Same.trans ((Kept.refl _ w4).alloc _) hk5;have HK5:Hid (Same w w5):=hid (Same.trans HK04.out yi);have HN1:=mX w5 v5 _ fixL (SrcE.ofRow hr5) fix_ok.lit;obtain⟨a5,jG,rfl,_⟩:=hr5.shape;clear hr5 hk5 HCC HK04 yi;go_wp2_with fail;refine HN1.mono ?_;rintro e w6 ⟨⟨d,vc,vs,rfl,fI,yc⟩,hk6⟩;have HDEC:Hid (Dec w6 d vc vs fixL):=fI;have HDF:Hid (∀k,DF d vc vs k->w.heap.size<=k):=hid (λk hk=>Nat.le_trans HK5.out.size (yc k hk));have HK6:Hid (Same w w6):=hid (Same.trans HK5.out hk6);clear fI yc hk6 HN1;go_wp2_with fail;refine(H5 w6).mono ?_;rintro e w7 ⟨g7,rfl,NN,dh⟩;have HN2:=mX w7 _ _ fixD (SrcE.ofRow NN) (fix_ok.dist (by decide));have HDEC7:Hid (Dec w7 d vc vs fixL):=hid (HDEC.out.kept dh (λ_ _ f=>f));have HK7:Hid (Same w w7):=hid (Same.trans HK6.out dh);clear NN dh H5 HDEC;go_wp2_with fail;refine HN2.mono ?_;rintro e w8 ⟨⟨d2,KM,Mg,rfl,fI,yc⟩,hk8⟩;have HD1:Hid (Dec w8 d vc vs fixL):=hid (HDEC7.out.kept hk8 (λ_ _ f=>f));have HD2:Hid (Dec w8 d2 KM Mg fixD):=fI;have HF2:Hid (∀k,DF d2 KM Mg k->w.heap.size<=k):=hid (λk hk=>Nat.le_trans HK7.out.size (yc k hk));have HK8:Hid (Same w w8):=hid (Same.trans HK7.out hk8);clear fI yc hk8 HN2;go_wp2_with fail;go_ret;have QV:Same w8 (w8.alloc (.cells #[.pointer (some ⟨d,0,none⟩),.pointer (some ⟨d2,0,none⟩)] 229)):=(Kept.refl _ w8).alloc _;have cX:(w8.alloc (.cells #[.pointer (some ⟨d,0,none⟩),.pointer (some ⟨d2,0,none⟩)] 229)).heap.size=w8.heap.size+1:=by simp
 refine⟨w8.heap.size,rfl,⟨d,vc,vs,_,Blk.new w8 _ _,HD1.out.kept QV (λ_ _ f=>f),λj hj=>⟨HDF.out j hj,?_⟩,.inr ⟨by decide,d2,KM,Mg,rfl,HD2.out.kept QV (λ_ _ f=>f),λj hj=>⟨HF2.out j hj,?_⟩⟩,⟨HK8.out.size,?_⟩⟩,Same.trans HK8.out QV⟩
 ·rw[cX];exact Nat.lt_succ_of_lt (HD1.out.lt hj)
 ·rw[cX];exact Nat.lt_succ_of_lt (HD2.out.lt hj)
 ·rw[cX];exact Nat.lt_succ_self _
abbrev Kr(bx fx:Nat):Value:=.func (.func 151) #[] #[.pointer (some ⟨bx,0,none⟩),.pointer (some ⟨fx,0,none⟩)]
def Onc(w:World)(bx fx:Nat)(O:Nat->Prop):Prop:=
 Blk w fx #[.func (.func 122) #[] #[]] 186/\(Blk w bx #[.pointer none] 193\/∃k,Blk w bx #[.pointer (some ⟨k,0,none⟩)] 193/\CodesP w k fixL fixD O)
theorem Onc.kept{F O:Nat->Prop}{w w':World}{bx fx:Nat}(h:Onc w bx fx O)(hk:Kept F w w')(hO:∀j,O j->¬F j)(hb:¬F bx)(hf:¬F fx):Onc w' bx fx O:=by
 refine⟨h.1.kept hk hf,?_⟩;rcases h.2 with h2 | ⟨k,h2,h3⟩
 ·exact .inl (h2.kept hk hb)
 ·exact .inr ⟨k,h2.kept hk hb,h3.kept hk hO⟩
theorem Onc.less{O O':Nat->Prop}{w:World}{bx fx:Nat}(h:Onc w bx fx O)(hO:∀j,O j->O' j):Onc w bx fx O':=by
 refine⟨h.1,?_⟩;rcases h.2 with h2 | ⟨k,h2,h3⟩
 ·exact .inl h2
 ·exact .inr ⟨k,h2,h3.less hO⟩
theorem Dz(w:World):
  Calls Tryz.prog 121 #[.func (.func 122) #[] #[]] w λe w'=>e=.returned (Kr (w.heap.size+1) w.heap.size)/\Onc w' (w.heap.size+1) w.heap.size (λ_=>False)/\Same w w'/\w'.heap.size=w.heap.size+2:=by
 go_enter Tryz.func121,Tryz.ntmps121;go_wp2_with fail;go_ret;refine⟨rfl,⟨?_,.inl ?_⟩,((Kept.refl _ w).alloc _).alloc _,by simp⟩
 ·exact(Blk.new w _ _).kept ((Kept.refl (λ_=>False) _).alloc _) (λf=>f)
 ·have:=Blk.new (w.alloc (.cells #[.func (.func 122) #[] #[]] 186)) #[.pointer none] 193;simpa using this
theorem zy(w:World)(bx fx:Nat)(O:Nat→Prop)(h:Onc w bx fx O)(JS:bx≠fx):
  Calls Tryz.prog 151 #[.pointer (some ⟨bx,0,none⟩),.pointer (some ⟨fx,0,none⟩)] w λe w'=>∃k O',e=.returned (.pointer (some ⟨k,0,none⟩))/\Onc w' bx fx O'/\CodesP w' k fixL fixD O'/\(∀j,O j->O' j)/\(∀j,O' j->O j\/AZ w.heap.size w'.heap.size j)/\Kept (·=bx) w w':=by
 obtain⟨hf,hb | ⟨k,hb,hc⟩⟩:=id h
 ·have HO:Hid (Onc w bx fx O):=h;have b0:=hb.cell 0;have f0:=hf.cell 0;have hbl:=hb.lt;simp at b0 f0;have HB:Hid (Blk w bx #[.pointer none] 193):=hb;have HF:Hid (Blk w fx #[.func (.func 122) #[] #[]] 186):=hf;have HP:=Ab w;clear h hf hb;go_enter Tryz.func151,Tryz.ntmps151;go_wp2_with fail;refine HP.mono ?_;rintro e w2 ⟨k,rfl,hc,hk⟩;have HB2:Hid (Blk w2 bx #[.pointer none] 193):=hid (HB.out.kept hk (λf=>f));have HF2:Hid (Blk w2 fx #[.func (.func 122) #[] #[]] 186):=hid (HF.out.kept hk (λf=>f));have c0:=HB2.out.cell 0;have z0:=HB2.out.frozen 0;simp at c0;have HC:Hid (CodesP w2 k fixL fixD (AZ w.heap.size w2.heap.size)):=hc;have HK:Hid (Same w w2):=hk;clear hc hk HP;go_wp2_with fail;go_ret;have hks:Kept (·=bx) w2 (w2.setCell ⟨bx,0,none⟩ (.pointer (some ⟨k,0,none⟩))):=(Kept.refl (·=bx) w2).setCell ⟨bx,0,none⟩ _ (.inl rfl);have cX:(w2.setCell ⟨bx,0,none⟩ (.pointer (some ⟨k,0,none⟩))).heap.size=w2.heap.size:=(by simp[World.setCell]);have U3:Blk (w2.setCell ⟨bx,0,none⟩ (.pointer (some ⟨k,0,none⟩))) bx #[.pointer (some ⟨k,0,none⟩)] 193:=by
   have:=HB2.out.set 0 (.pointer (some ⟨k,0,none⟩));simpa using this
  have Tg:CodesP (w2.setCell ⟨bx,0,none⟩ (.pointer (some ⟨k,0,none⟩))) k fixL fixD (λj=>O j\/AZ w.heap.size w2.heap.size j):=(HC.out.kept hks (λj hj e=>by have:=hj.1;omega)).less (λj hj=>.inr hj);refine⟨k,λj=>O j\/AZ w.heap.size w2.heap.size j,rfl,⟨HF2.out.kept hks (λe=>JS e.symm),.inr ⟨k,U3,Tg⟩⟩,Tg,λj hj=>.inl hj,λj hj=>?_,Kept.trans (HK.out.mono (λ_ _ f=>f.elim)) hks (λ_ _ f=>f) (λ_ _ f=>f)⟩;rw[cX];exact hj
 ·have HO:Hid (Onc w bx fx O):=h;have b0:=hb.cell 0;simp at b0;have HC:Hid (CodesP w k fixL fixD O):=hc;clear h hf hb hc;go_enter Tryz.func151,Tryz.ntmps151;go_wp2_with fail;go_ret;exact⟨k,O,rfl,HO.out,HC.out,λ_ h=>h,λ_ h=>.inl h,Kept.refl _ _⟩
end Go.Proofs.YtllcnlnbpikhdaaGreatDoor
