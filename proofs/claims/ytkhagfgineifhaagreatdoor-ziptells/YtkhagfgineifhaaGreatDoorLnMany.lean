import Derived.Test.YtkhagfgineifhaaGreatDoorLnIdx
import Derived.Test.YtkhagfgineifhaaGreatDoorLnRep
import Derived.Test.YtkhagfgineifhaaGreatDoorBlk
import Derived.Deep.RegionHeld3
set_option maxHeartbeats 2000000
set_option maxRecDepth 100000
namespace Go.Proofs.YtkhagfgineifhaaGreatDoor
open Go.RowKit
abbrev ke(pn po B:Nat)(k:Nat):Prop:=k=pn\/k=po\/B<=k
theorem RowC.slice{α:Type}{B t k:Nat}{enc:α->List Value}{w:World}{v:Value}{xs:List α}(h:RowC B t k enc w v xs):∃ao n cap,v=.slice ao n cap:=by obtain⟨ao,cap,hv,_⟩:=h.shape;exact⟨ao,_,cap,hv⟩
structure J6(w:World)(pn po B:Nat)(n:Nat)(vo:Value)(ss:List (Int×Int)):Prop where
 bn:Blk w pn #[.int .i64 (n:Nat)] 3
 bo:Blk w po #[vo] 180
 row:fN B w vo ss
theorem qr(w:World)(pn po B n:Nat)(vo:Value)(ss:List (Int×Int))(sym:Int)(lo hi:Nat)(lO:lo=b7 sym)(yR:hi=lo+2 ^ cI sym-1)(hst:J6 w pn po B n vo ss)(bm:pn≠po)(MP:pn<B)(U8:po<B)(hB:B≤w.heap.size)(I8:ss.length+n≤1000):
  Calls Tryz.prog 186 #[.int .i64 sym,.pointer (some ⟨pn,0,none⟩),.pointer (some ⟨po,0,none⟩)] w λe w'=>(∃v vo',e=.returned v/\J6 w' pn po B (bQ lo hi n) vo' (ss++cV sym lo hi n))/\Kept (ke pn po B) w w':=by
 have Cy:=oj sym;have kY:=nP sym;have HSH:=iQ w sym;rw[<-lO]at HSH kY;obtain⟨wd,my⟩:∃x,x=cI sym:=⟨_,rfl⟩
 rw[<-my]at HSH Cy yR;clear my lO;have A3:=t8 wd Cy;have yO:0<2 ^ wd:=Nat.two_pow_pos wd;have I1:∃pw:Nat,wrap64 ((2:Int) ^ wd)=(pw:Int)/\hi=lo+pw-1/\0<pw/\pw<=128:=by refine⟨2 ^ wd,?_,yR,yO,A3⟩;have:(2:Int) ^ wd=((2 ^ wd:Nat):Int):=(by simp);rw[this];unfold wrap64;omega
 clear yR A3 yO;obtain⟨pw,I1,yR,yO,A3⟩:=I1;obtain⟨s1,hs1⟩:∃x,x=lo+pw:=⟨_,rfl⟩
 have Xv:(lo:Int)+(pw:Int)=(s1:Int):=by omega
 have XJ:IntKind.i64.wrap (s1:Int)=(s1:Int):=by rw[IntKind.wrap_i64];omega
 have VG:(s1:Int)-1=(hi:Int):=by omega
 have VL:IntKind.i64.wrap (hi:Int)=(hi:Int):=by rw[IntKind.wrap_i64];omega
 have N1:lo<=hi:=by omega
 have Yh:hi<=200:=by omega
 have HS:Hid (J6 w pn po B n vo ss):=hst;have yp:1<=lo:=kY.1;clear hs1 yR hst;go_enter Tryz.func186,Tryz.ntmps186;go_wp2_with fail;refine HSH.mono ?_;rintro e w1 ⟨rfl,hw1⟩;subst hw1;clear HSH;go_wp2_with fail;rw[I1];clear I1;go_loopg [7] n (λq _ wr=>∃(k:Nat) (em:List (Int×Int)) (v:Value),k<=q/\k<=n/\Hid (cV sym lo hi n=em++cV sym lo hi k/\bQ lo hi n=bQ lo hi k/\em.length+k<=n)/\Hid (J6 wr pn po B k v (ss++em))/\Hid (Kept (ke pn po B) w1 wr))
 case atStart=>exact⟨n,[],vo,by omega,by omega,hid ⟨rfl,rfl,by simp⟩,hid (by simpa using HS.out),Kept.refl _ _⟩
 case round=>
  clear HS;obtain⟨k,em,v,hq,Rr,HZ,HS,HK⟩:=hrel;have dA:=HK.out.size;have c1:=HS.out.bn.cell 0;have c2:=HS.out.bo.cell 0;simp only[List.getElem?_toArray,List.getElem?_cons_zero]at c1 c2;by_cases hlk:lo<=k
  ·by_cases hkh:k<=hi
   ·have pA:min k hi=k:=(by omega);obtain⟨x,hx⟩:∃x,x=k-lo:=⟨_,rfl⟩
    have WL:(k:Int)-(lo:Int)=(x:Int):=(by omega);obtain⟨k2,hk2⟩:∃x,x=k-k:=⟨_,rfl⟩
    have SY:(k:Int)-(k:Int)=(k2:Int):=(by omega);have LC:IntKind.i64.wrap (x:Int)=(x:Int):=(by rw[IntKind.wrap_i64];omega);have Tn:IntKind.i64.wrap (k2:Int)=(k2:Int):=(by rw[IntKind.wrap_i64];omega);have SX:k2<k:=(by omega);have R5:Hid (cV sym lo hi n=(em++[(sym,(x:Int))])++cV sym lo hi k2/\bQ lo hi n=bQ lo hi k2/\(em++[(sym,(x:Int))]).length+k2<=n):=hid (by
     obtain⟨h1,h2,h3⟩:=HZ.out;refine⟨?_,?_,?_⟩
     ·rw[h1,fv yp N1 hlk,pA,<-hx,<-hk2];simp
     ·rw[h2,fq yp N1 hlk,pA,<-hk2]
     ·simp;omega)
    have ag:(ss++em).length+1<=1000000000:=(by have:=HZ.out.2.2;simp;omega);have Pn:decide ((lo:Int)<=(k:Int))=true:=(by simp;omega);clear hx hk2 pA;go_wp2_with (at_builtin;refine ea _ B rfl (.tmp 24) (.tmp 30) rfl v _ rfl (World.ownsRow.alloc HS.out.row _) ⟨wr.heap.size,0,none⟩ (sym,(x:Int)) rfl (kt _ _ _) ag (by simp;omega) ?_;intro v5 w5 hr5 ef;obtain⟨Jb,n5,ia,gt⟩:=RowC.slice hr5;subst gt;have HK5:Hid (Kept (λj=>v.ownBlock=some j) wr w5):=hid (((Kept.refl _ wr).alloc _).grown ef (λj e=>.inl e));have HOW:Hid (∀j,j<B->¬v.ownBlock=some j):=hid (λj hj e=>by have:=HS.out.row.ge e;omega);have HBN:Hid (Blk w5 pn #[.int .i64 (k:Nat)] 3):=hid (HS.out.bn.kept HK5.out (HOW.out pn MP));have HBO:Hid (Blk w5 po #[v] 180):=hid (HS.out.bo.kept HK5.out (HOW.out po U8));have HR5:Hid (fN B w5 (.slice Jb n5 ia) (ss++(em++[(sym,(x:Int))]))):=hid (by rw[<-List.append_assoc];exact hr5);have c3:w5.cell? ⟨pn,0,none⟩=some (.int .i64 (k:Nat)):=HBN.out.cell 0;have c4:w5.cell? ⟨po,0,none⟩=some v:=HBO.out.cell 0;have f3:w5.frozen? ⟨pn,0,none⟩=false:=HBN.out.frozen 0;have f4:w5.frozen? ⟨po,0,none⟩=false:=HBO.out.frozen 0;clear hr5 ef);go_roundg (gk-1)
    case measure=>omega
    case rel=>
     refine⟨k2,em++[(sym,(x:Int))],.slice Jb n5 ia,by omega,by omega,R5,hid ⟨?_,?_,?_⟩,hid ?_⟩
     ·exact(HBN.out.kept (Kept.setCell (Kept.refl (·=po) w5) ⟨po,0,none⟩ _ (.inl rfl)) bm).set 0 _
     ·exact(HBO.out.set 0 _).kept (Kept.setCell (Kept.refl (·=pn) _) ⟨pn,0,none⟩ _ (.inl rfl)) (λe=>bm e.symm)
     ·exact RowC.kept HR5.out (((Kept.refl (λj=>j=pn\/j=po) w5).setCell ⟨po,0,none⟩ _ (.inl (.inr rfl))).setCell ⟨pn,0,none⟩ _ (.inl (.inl rfl))) (λj e h=>by have:=HR5.out.ge e;omega)
     ·have h15:Kept (ke pn po B) w1 w5:=Kept.trans HK.out HK5.out (λ_ _ h=>h) (λj _ e=>.inr (.inr (HS.out.row.ge e)));exact(h15.setCell ⟨po,0,none⟩ _ (.inl (.inr (.inl rfl)))).setCell ⟨pn,0,none⟩ _ (.inl (.inl rfl))
   ·have pA:min k hi=hi:=(by omega);obtain⟨x,hx⟩:∃x,x=hi-lo:=⟨_,rfl⟩
    have WL:(hi:Int)-(lo:Int)=(x:Int):=(by omega);obtain⟨k2,hk2⟩:∃x,x=k-hi:=⟨_,rfl⟩
    have SY:(k:Int)-(hi:Int)=(k2:Int):=(by omega);have LC:IntKind.i64.wrap (x:Int)=(x:Int):=(by rw[IntKind.wrap_i64];omega);have Tn:IntKind.i64.wrap (k2:Int)=(k2:Int):=(by rw[IntKind.wrap_i64];omega);have SX:k2<k:=(by omega);have R5:Hid (cV sym lo hi n=(em++[(sym,(x:Int))])++cV sym lo hi k2/\bQ lo hi n=bQ lo hi k2/\(em++[(sym,(x:Int))]).length+k2<=n):=hid (by
     obtain⟨h1,h2,h3⟩:=HZ.out;refine⟨?_,?_,?_⟩
     ·rw[h1,fv yp N1 hlk,pA,<-hx,<-hk2];simp
     ·rw[h2,fq yp N1 hlk,pA,<-hk2]
     ·simp;omega)
    have ag:(ss++em).length+1<=1000000000:=(by have:=HZ.out.2.2;simp;omega);have Pn:decide ((lo:Int)<=(k:Int))=true:=(by simp;omega);clear hx hk2 pA;go_wp2_with (at_builtin;refine ea _ B rfl (.tmp 24) (.tmp 30) rfl v _ rfl (World.ownsRow.alloc HS.out.row _) ⟨wr.heap.size,0,none⟩ (sym,(x:Int)) rfl (kt _ _ _) ag (by simp;omega) ?_;intro v5 w5 hr5 ef;obtain⟨Jb,n5,ia,gt⟩:=RowC.slice hr5;subst gt;have HK5:Hid (Kept (λj=>v.ownBlock=some j) wr w5):=hid (((Kept.refl _ wr).alloc _).grown ef (λj e=>.inl e));have HOW:Hid (∀j,j<B->¬v.ownBlock=some j):=hid (λj hj e=>by have:=HS.out.row.ge e;omega);have HBN:Hid (Blk w5 pn #[.int .i64 (k:Nat)] 3):=hid (HS.out.bn.kept HK5.out (HOW.out pn MP));have HBO:Hid (Blk w5 po #[v] 180):=hid (HS.out.bo.kept HK5.out (HOW.out po U8));have HR5:Hid (fN B w5 (.slice Jb n5 ia) (ss++(em++[(sym,(x:Int))]))):=hid (by rw[<-List.append_assoc];exact hr5);have c3:w5.cell? ⟨pn,0,none⟩=some (.int .i64 (k:Nat)):=HBN.out.cell 0;have c4:w5.cell? ⟨po,0,none⟩=some v:=HBO.out.cell 0;have f3:w5.frozen? ⟨pn,0,none⟩=false:=HBN.out.frozen 0;have f4:w5.frozen? ⟨po,0,none⟩=false:=HBO.out.frozen 0;clear hr5 ef);go_roundg (gk-1)
    case measure=>omega
    case rel=>
     refine⟨k2,em++[(sym,(x:Int))],.slice Jb n5 ia,by omega,by omega,R5,hid ⟨?_,?_,?_⟩,hid ?_⟩
     ·exact(HBN.out.kept (Kept.setCell (Kept.refl (·=po) w5) ⟨po,0,none⟩ _ (.inl rfl)) bm).set 0 _
     ·exact(HBO.out.set 0 _).kept (Kept.setCell (Kept.refl (·=pn) _) ⟨pn,0,none⟩ _ (.inl rfl)) (λe=>bm e.symm)
     ·exact RowC.kept HR5.out (((Kept.refl (λj=>j=pn\/j=po) w5).setCell ⟨po,0,none⟩ _ (.inl (.inr rfl))).setCell ⟨pn,0,none⟩ _ (.inl (.inl rfl))) (λj e h=>by have:=HR5.out.ge e;omega)
     ·have h15:Kept (ke pn po B) w1 w5:=Kept.trans HK.out HK5.out (λ_ _ h=>h) (λj _ e=>.inr (.inr (HS.out.row.ge e)));exact(h15.setCell ⟨po,0,none⟩ _ (.inl (.inr (.inl rfl)))).setCell ⟨pn,0,none⟩ _ (.inl (.inl rfl))
  ·have Pn:decide ((lo:Int)<=(k:Int))=false:=(by simp;omega);have HE:Hid (bQ lo hi n=k/\cV sym lo hi n=em):=hid ⟨by rw[HZ.out.2.1,gE (by omega)],by rw[HZ.out.1,gu (by omega),List.append_nil]⟩;go_wp2_with fail;go_end0;exact⟨⟨_,v,rfl,by rw[HE.out.1,HE.out.2];exact HS.out⟩,HK.out⟩
theorem yj(w:World)(x n:Nat)(hn:n≤400)(hn1:1≤n):
  Calls Tryz.prog 157 #[.int .i64 (x:Nat),.int .i64 (n:Nat)] w λe w'=>∃v',e=.returned v'/\fN w.heap.size w' v' (eI x n)/\Same w w':=by
 obtain⟨W,hW⟩:∃W,W=(w.alloc (.cells #[.int .i64 (n:Nat)] 3)).alloc (.cells #[.slice none 0 0] 180):=⟨_,rfl⟩
 have LQ:W.heap.size=w.heap.size+2:=by rw[hW];simp
 have HK:Hid (Same w W):=hid (by rw[hW];exact((Kept.refl _ w).alloc _).alloc _);have hst:J6 W w.heap.size (w.heap.size+1) (w.heap.size+2) n (.slice none 0 0) []:=by have hb2:=Blk.new (w.alloc (.cells #[.int .i64 (n:Nat)] 3)) #[.slice none 0 0] 180;rw[World.size_alloc,<-hW]at hb2;exact⟨by rw[hW];exact(Blk.new w _ _).kept ((Kept.refl (λ_=>False) _).alloc _) (λh=>h),hb2,RowC.nil⟩
 by_cases hx:x=0
 ·subst hx;have H18:=qr W w.heap.size (w.heap.size+1) (w.heap.size+2) n (.slice none 0 0) [] 18 11 138 (by decide) (by decide) hst (by omega) (by omega) (by omega) (by omega) (by simp;omega);have HSAY:Hid (eI 0 n=cV 18 11 138 n++(cV 17 3 10 (bQ 11 138 n)++List.replicate (bQ 3 10 (bQ 11 138 n)) (0,0))):=hid (by unfold eI;rw[if_pos rfl,vy]);clear hst;go_enter Tryz.func157,Tryz.ntmps157;go_wp2_with fail;rw[<-hW];refine H18.mono ?_;rintro e W2 ⟨⟨v2,WD,rfl,hs2⟩,hk2⟩;have hm:=pH 18 11 138 n (by decide) (by decide);have H17:=qr W2 w.heap.size (w.heap.size+1) (w.heap.size+2) (bQ 11 138 n) WD _ 17 3 10 (by decide) (by decide) hs2 (by omega) (by omega) (by omega) (by have:=hk2.size;omega) (by simp;omega);have HK2:Hid (Kept (ke w.heap.size (w.heap.size+1) (w.heap.size+2)) W W2):=hk2;clear hs2 hk2 H18 hm;go_wp2_with fail;refine H17.mono ?_;rintro e W3 ⟨⟨v3,Wn,rfl,hs3⟩,hk3⟩;obtain⟨ao,n0,cap,rfl⟩:=RowC.slice hs3.row;obtain⟨k,hk⟩:∃k,k=bQ 3 10 (bQ 11 138 n):=⟨_,rfl⟩
  obtain⟨ss,I8⟩:∃ss,ss=[]++cV 18 11 138 n++cV 17 3 10 (bQ 11 138 n):=⟨_,rfl⟩
  rw[<-hk,<-I8]at hs3;have HS3:Hid (J6 W3 w.heap.size (w.heap.size+1) (w.heap.size+2) k (.slice ao n0 cap) ss):=hs3;have HK3:Hid (Kept (ke w.heap.size (w.heap.size+1) (w.heap.size+2)) W W3):=hid (Kept.trans HK2.out hk3 (λ_ _ h=>h) (λ_ _ h=>h));have HSS:Hid (ss=cV 18 11 138 n++cV 17 3 10 (bQ 11 138 n)):=hid (by rw[I8];simp);have HKK:Hid (k=bQ 3 10 (bQ 11 138 n)):=hk;have HLE:Hid (ss.length+k<=400):=hid (by
   have h1:=pH 18 11 138 n (by decide) (by decide);have h2:=pH 17 3 10 (bQ 11 138 n) (by decide) (by decide);rw[I8,hk];simp;omega)
  clear hs3 hk3 hk I8 H17 HK2;have HEND:Hid (eI 0 n=ss++List.replicate k (0,0)):=hid (by rw[HSS.out,HSAY.out,<-HKK.out,List.append_assoc]);have hk4:k<=401:=(by have:=HLE.out;omega);have Sl:ss.length+k<=401:=(by have:=HLE.out;omega);have HSZ:Hid (w.heap.size+2<=W3.heap.size):=hid (by have:=HK3.out.size;omega);have cN:W3.cell? ⟨w.heap.size,0,none⟩=some (.int .i64 (k:Nat)):=HS3.out.bn.cell 0;have cO:W3.cell? ⟨w.heap.size+1,0,none⟩=some (.slice ao n0 cap):=HS3.out.bo.cell 0;have HREP:Hid (∀W4:World,aS W4 ⟨W3.heap.size,0,none⟩ (km (0,0))->Calls Tryz.prog 187 #[.slice (some ⟨W3.heap.size,0,none⟩) 1 1,.int .i64 (k:Nat)] W4 λe w'=>∃g,e=.returned (.slice (some ⟨g,0,none⟩) k k)/\fN W4.heap.size w' (.slice (some ⟨g,0,none⟩) k k) (List.replicate k (0,0))/\Same W4 w'):=hid (λW4 h=>oM W4 _ (0,0) k h (by omega));have HOW:Hid (∀j,j<w.heap.size+2->¬(Value.slice ao n0 cap).ownBlock=some j):=hid (λj hj e=>by have:=HS3.out.row.ge e;omega);go_wp2_with fail;go_region_held3 (λw'=>w'.cell? ⟨w.heap.size,0,none⟩=some (.int .i64 (k:Nat))/\w'.cell? ⟨w.heap.size+1,0,none⟩=some (.slice ao n0 cap))
   (first
    | (go_split_ands;exact⟨hk5.cell (by assumption) (by unfold jd;simp),hk5.cell (by assumption) (by unfold jd;simp)⟩)
    | (go_split_ands;exact⟨hk4.cell (by assumption) (λf=>f),hk4.cell (by assumption) (λf=>f)⟩)
    | go_keep)
   (first
    | (go_at_call 187;refine(HREP.out _ ?_).mono ?_;exact kt _ _ _;rintro e w4 ⟨g,rfl,hr4,hk4⟩)
    | (have hw4:Same W3 w4:=Same.trans (((Kept.refl _ W3).drew).alloc _) hk4;refine iJ km 2 stC_ok (w.heap.size+2) 180 226 (.agg #[.int .i64 0,.int .i64 0]) 16 Tryz.underlying180 Tryz.infoSt rfl (by decide) (by rfl) (.tmp 23) (.tmp 28) (by rfl) (.slice ao n0 cap) ss (by rfl) (RowC.kept HS3.out.row hw4 (λ_ _ f=>f)) ⟨g,0,none⟩ k k (List.replicate k (0,0)) (by rfl) (by simp) (by have h:=hr4.raw.at (k*2);rw[List.take_of_length_le (by rw[aK stC_ok,List.length_replicate];exact Nat.le_refl _)]at h;exact h) (by simp;omega) (by have h:=hw4.size;have:=HSZ.out;omega) ?_;intro v5 w5 hr5 ef;have hk5:Kept (jd (w.heap.size+2)) w4 w5:=(Kept.refl _ w4).grown ef (λj e=>.inl (HS3.out.row.ge e));clear ef))
  all_goals
   go_wp2_with fail;go_ret;refine⟨v5,rfl,by rw[HEND.out];exact RowC.base hr5 (by omega),?_⟩;have h1:Same w W3:=Same.then HK.out HK3.out (λj hj e=>by unfold ke at e;omega);exact Same.then (Same.trans h1 (Same.trans (((Kept.refl _ W3).drew).alloc _) hk4)) hk5 (λj hj e=>by unfold jd at e;omega)
 ·obtain⟨m,hm⟩:∃m,m=n-1:=⟨_,rfl⟩
  have Tj:(n:Int)-1=(m:Int):=(by omega);have Vr:((x:Int)==0)=false:=(by simp;omega);have HSAY:Hid (eI x n=((x:Int),0)::(cV 16 3 6 m++List.replicate (bQ 3 6 m) ((x:Int),0))):=hid (by unfold eI;rw[if_neg hx,<-hm,xS]);have HC0:Hid (aS (W.alloc (.cells #[.int .i64 (x:Nat),.int .i64 0] 226)) ⟨w.heap.size+2,0,none⟩ ([((x:Int),0)].flatMap km)):=hid (by have h:=kt W x 0;rw[LQ]at h;exact h);have HST:Hid (J6 W w.heap.size (w.heap.size+1) (w.heap.size+2) n (.slice none 0 0) []):=hst;have HW:Hid (W=(w.alloc (.cells #[.int .i64 (n:Nat)] 3)).alloc (.cells #[.slice none 0 0] 180)):=hW;have Tg:m<=400:=(by omega);clear hst hm hx hW;go_enter Tryz.func157,Tryz.ntmps157;go_wp2_with (at_builtin;refine ea _ (w.heap.size+2) rfl (.tmp 14) (.tmp 17) rfl (.slice none 0 0) [] rfl RowC.nil ⟨w.heap.size+2,0,none⟩ ((x:Int),0) rfl (by have h:=HC0.out;rw[HW.out]at h;exact h) (by simp) (by simp) ?_;intro v5 w5 hr5 ef;rw[<-HW.out]at ef;obtain⟨Jb,n5,ia,gt⟩:=RowC.slice hr5;subst gt;have HK5:Hid (Same W w5):=hid (((Kept.refl _ W).alloc _).grown ef (λj e=>by cases e));have HBN:Hid (Blk w5 w.heap.size #[.int .i64 (n:Nat)] 3):=hid (HST.out.bn.kept HK5.out (λf=>f));have HBO:Hid (Blk w5 (w.heap.size+1) #[.slice none 0 0] 180):=hid (HST.out.bo.kept HK5.out (λf=>f));have HR5:Hid (fN (w.heap.size+2) w5 (.slice Jb n5 ia) [((x:Int),0)]):=hr5;have c3:w5.cell? ⟨w.heap.size,0,none⟩=some (.int .i64 (n:Nat)):=HBN.out.cell 0;have c4:w5.cell? ⟨w.heap.size+1,0,none⟩=some (.slice none 0 0):=HBO.out.cell 0;have f3:w5.frozen? ⟨w.heap.size,0,none⟩=false:=HBN.out.frozen 0;have f4:w5.frozen? ⟨w.heap.size+1,0,none⟩=false:=HBO.out.frozen 0;clear hr5 ef);obtain⟨W2,lN⟩:∃W2,W2=(w5.setCell ⟨w.heap.size+1,0,none⟩ (.slice Jb n5 ia)).setCell ⟨w.heap.size,0,none⟩ (.int .i64 (m:Nat)):=⟨_,rfl⟩
  rw[<-lN];have uZ:J6 W2 w.heap.size (w.heap.size+1) (w.heap.size+2) m (.slice Jb n5 ia) [((x:Int),0)]:=by
   rw[lN];refine⟨?_,?_,?_⟩
   ·exact(HBN.out.kept (Kept.setCell (Kept.refl (·=w.heap.size+1) w5) ⟨w.heap.size+1,0,none⟩ _ (.inl rfl)) (by omega)).set 0 _
   ·exact(HBO.out.set 0 _).kept (Kept.setCell (Kept.refl (·=w.heap.size) _) ⟨w.heap.size,0,none⟩ _ (.inl rfl)) (by omega)
   ·exact RowC.kept HR5.out (((Kept.refl (λj=>j=w.heap.size\/j=w.heap.size+1) w5).setCell ⟨w.heap.size+1,0,none⟩ _ (.inl (.inr rfl))).setCell ⟨w.heap.size,0,none⟩ _ (.inl (.inl rfl))) (λj e h=>by have:=HR5.out.ge e;omega)
  have hk2:Kept (ke w.heap.size (w.heap.size+1) (w.heap.size+2)) W W2:=(by rw[lN];exact((HK5.out.mono (λ_ _ f=>f.elim)).setCell ⟨w.heap.size+1,0,none⟩ _ (.inl (.inr (.inl rfl)))).setCell ⟨w.heap.size,0,none⟩ _ (.inl (.inl rfl)));have H16:=qr W2 w.heap.size (w.heap.size+1) (w.heap.size+2) m (.slice Jb n5 ia) [((x:Int),0)] 16 3 6 (by decide) (by decide) uZ (by omega) (by omega) (by omega) (by have:=hk2.size;omega) (by simp;omega);have HK2:Hid (Kept (ke w.heap.size (w.heap.size+1) (w.heap.size+2)) W W2):=hk2;clear uZ hk2 lN HBN HBO HR5 c3 c4 f3 f4 HK5;refine H16.mono ?_;rintro e W3 ⟨⟨v3,Wn,rfl,hs3⟩,hk3⟩;obtain⟨ao,n0,cap,rfl⟩:=RowC.slice hs3.row;obtain⟨k,hk⟩:∃k,k=bQ 3 6 m:=⟨_,rfl⟩
  obtain⟨ss,I8⟩:∃ss,ss=[((x:Int),(0:Int))]++cV 16 3 6 m:=⟨_,rfl⟩
  rw[<-hk,<-I8]at hs3;have HS3:Hid (J6 W3 w.heap.size (w.heap.size+1) (w.heap.size+2) k (.slice ao n0 cap) ss):=hs3;have HK3:Hid (Kept (ke w.heap.size (w.heap.size+1) (w.heap.size+2)) W W3):=hid (Kept.trans HK2.out hk3 (λ_ _ h=>h) (λ_ _ h=>h));have HSS:Hid (ss=[((x:Int),(0:Int))]++cV 16 3 6 m):=I8;have HKK:Hid (k=bQ 3 6 m):=hk;have HLE:Hid (ss.length+k<=401):=hid (by
   have h1:=pH 16 3 6 m (by decide) (by decide);rw[I8,hk];simp;omega)
  clear hs3 hk3 hk I8 H16 HK2;have HEND:Hid (eI x n=ss++List.replicate k ((x:Int),0)):=hid (by rw[HSS.out,HSAY.out,HKK.out];simp);have hk4:k<=401:=(by have:=HLE.out;omega);have Sl:ss.length+k<=401:=(by have:=HLE.out;omega);have HSZ:Hid (w.heap.size+2<=W3.heap.size):=hid (by have:=HK3.out.size;omega);have cN:W3.cell? ⟨w.heap.size,0,none⟩=some (.int .i64 (k:Nat)):=HS3.out.bn.cell 0;have cO:W3.cell? ⟨w.heap.size+1,0,none⟩=some (.slice ao n0 cap):=HS3.out.bo.cell 0;have HREP:Hid (∀W4:World,aS W4 ⟨W3.heap.size,0,none⟩ (km ((x:Int),0))->Calls Tryz.prog 187 #[.slice (some ⟨W3.heap.size,0,none⟩) 1 1,.int .i64 (k:Nat)] W4 λe w'=>∃g,e=.returned (.slice (some ⟨g,0,none⟩) k k)/\fN W4.heap.size w' (.slice (some ⟨g,0,none⟩) k k) (List.replicate k ((x:Int),0))/\Same W4 w'):=hid (λW4 h=>oM W4 _ ((x:Int),0) k h (by omega));have HOW:Hid (∀j,j<w.heap.size+2->¬(Value.slice ao n0 cap).ownBlock=some j):=hid (λj hj e=>by have:=HS3.out.row.ge e;omega);go_wp2_with fail;go_region_held3 (λw'=>w'.cell? ⟨w.heap.size,0,none⟩=some (.int .i64 (k:Nat))/\w'.cell? ⟨w.heap.size+1,0,none⟩=some (.slice ao n0 cap))
   (first
    | (go_split_ands;exact⟨hk5.cell (by assumption) (by unfold jd;simp),hk5.cell (by assumption) (by unfold jd;simp)⟩)
    | (go_split_ands;exact⟨hk4.cell (by assumption) (λf=>f),hk4.cell (by assumption) (λf=>f)⟩)
    | go_keep)
   (first
    | (go_at_call 187;refine(HREP.out _ ?_).mono ?_;exact kt _ _ _;rintro e w4 ⟨g,rfl,hr4,hk4⟩)
    | (have hw4:Same W3 w4:=Same.trans (((Kept.refl _ W3).drew).alloc _) hk4;refine iJ km 2 stC_ok (w.heap.size+2) 180 226 (.agg #[.int .i64 0,.int .i64 0]) 16 Tryz.underlying180 Tryz.infoSt rfl (by decide) (by rfl) (.tmp 23) (.tmp 28) (by rfl) (.slice ao n0 cap) ss (by rfl) (RowC.kept HS3.out.row hw4 (λ_ _ f=>f)) ⟨g,0,none⟩ k k (List.replicate k ((x:Int),0)) (by rfl) (by simp) (by have h:=hr4.raw.at (k*2);rw[List.take_of_length_le (by rw[aK stC_ok,List.length_replicate];exact Nat.le_refl _)]at h;exact h) (by simp;omega) (by have h:=hw4.size;have:=HSZ.out;omega) ?_;intro v5 w5 hr5 ef;have hk5:Kept (jd (w.heap.size+2)) w4 w5:=(Kept.refl _ w4).grown ef (λj e=>.inl (HS3.out.row.ge e));clear ef))
  all_goals
   go_wp2_with fail;go_ret;refine⟨v5,rfl,by rw[HEND.out];exact RowC.base hr5 (by omega),?_⟩;have h1:Same w W3:=Same.then HK.out HK3.out (λj hj e=>by unfold ke at e;omega);exact Same.then (Same.trans h1 (Same.trans (((Kept.refl _ W3).drew).alloc _) hk4)) hk5 (λj hj e=>by unfold jd at e;omega)
end Go.Proofs.YtkhagfgineifhaaGreatDoor
