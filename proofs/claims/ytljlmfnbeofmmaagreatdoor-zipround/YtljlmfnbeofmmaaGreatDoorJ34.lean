import Derived.Deep.RegionHeld3
import Derived.Test.YtljlmfnbeofmmaaGreatDoorJ33
set_option maxHeartbeats 2000000
set_option maxRecDepth 100000
namespace Go.Proofs.YtljlmfnbeofmmaaGreatDoor
open Go.RowKit
abbrev kt(pn po B:Nat)(k:Nat):Prop:=k=pn\/k=po\/B<=k
theorem RowC.slice{α:Type}{B t k:Nat}{enc:α->List Value}{w:World}{v:Value}{xs:List α}(h:RowC B t k enc w v xs):∃ao n cap,v=.slice ao n cap:=by obtain⟨ao,cap,hv,_⟩:=h.shape;exact⟨ao,_,cap,hv⟩
structure JG(w:World)(pn po B:Nat)(n:Nat)(vo:Value)(ss:List (Int×Int)):Prop where
 bn:Blk w pn #[.int .i64 (n:Nat)] 3
 bo:Blk w po #[vo] 172
 row:fP B w vo ss
theorem rA(w:World)(pn po B n:Nat)(vo:Value)(ss:List (Int×Int))(sym:Int)(lo hi:Nat)(kg:lo=ce sym)(yT:hi=lo+2 ^ cK sym-1)(hst:JG w pn po B n vo ss)(bw:pn≠po)(MO:pn<B)(TF:po<B)(hB:B≤w.heap.size)(Jq:ss.length+n≤1000):
  Calls Tryz.prog 195 #[.int .i64 sym,.pointer (some ⟨pn,0,none⟩),.pointer (some ⟨po,0,none⟩)] w λe w'=>(∃v vo',e=.returned v/\JG w' pn po B (bT lo hi n) vo' (ss++dg sym lo hi n))/\Kept (kt pn po B) w w':=by
 have uX:=oG sym;have lz:=nX sym;have HSH:=je w sym;rw[<-kg]at HSH lz;obtain⟨wd,mN⟩:∃x,x=cK sym:=⟨_,rfl⟩
 rw[<-mN]at HSH uX yT;clear mN kg;have A0:=ul wd uX;have yR:0<2 ^ wd:=Nat.two_pow_pos wd;have Ie:∃pw:Nat,wrap64 ((2:Int) ^ wd)=(pw:Int)/\hi=lo+pw-1/\0<pw/\pw<=128:=by refine⟨2 ^ wd,?_,yT,yR,A0⟩;have:(2:Int) ^ wd=((2 ^ wd:Nat):Int):=(by simp);rw[this];unfold wrap64;omega
 clear yT A0 yR;obtain⟨pw,Ie,yT,yR,A0⟩:=Ie;obtain⟨s1,hs1⟩:∃x,x=lo+pw:=⟨_,rfl⟩
 have XR:(lo:Int)+(pw:Int)=(s1:Int):=by omega
 have WG:IntKind.i64.wrap (s1:Int)=(s1:Int):=by rw[IntKind.wrap_i64];omega
 have X5:(s1:Int)-1=(hi:Int):=by omega
 have Xg:IntKind.i64.wrap (hi:Int)=(hi:Int):=by rw[IntKind.wrap_i64];omega
 have NO:lo<=hi:=by omega
 have Xx:hi<=200:=by omega
 have HS:Hid (JG w pn po B n vo ss):=hst;have yt:1<=lo:=lz.1;clear hs1 yT hst;go_enter Tryz.func195,Tryz.ntmps195;go_wp2_with fail;refine HSH.mono ?_;rintro e w1 ⟨rfl,hw1⟩;subst hw1;clear HSH;go_wp2_with fail;rw[Ie];clear Ie;go_loopg [7] n (λq _ wr=>∃(k:Nat) (em:List (Int×Int)) (v:Value),k<=q/\k<=n/\Hid (dg sym lo hi n=em++dg sym lo hi k/\bT lo hi n=bT lo hi k/\em.length+k<=n)/\Hid (JG wr pn po B k v (ss++em))/\Hid (Kept (kt pn po B) w1 wr))
 case atStart=>exact⟨n,[],vo,by omega,by omega,hid ⟨rfl,rfl,by simp⟩,hid (by simpa using HS.out),Kept.refl _ _⟩
 case round=>
  clear HS;obtain⟨k,em,v,hq,SC,HZ,HS,HK⟩:=hrel;have cZ:=HK.out.size;have c1:=HS.out.bn.cell 0;have c2:=HS.out.bo.cell 0;simp only[List.getElem?_toArray,List.getElem?_cons_zero]at c1 c2;by_cases hlk:lo<=k
  ·by_cases hkh:k<=hi
   ·have pB:min k hi=k:=(by omega);obtain⟨x,hx⟩:∃x,x=k-lo:=⟨_,rfl⟩
    have V0:(k:Int)-(lo:Int)=(x:Int):=(by omega);obtain⟨k2,hk2⟩:∃x,x=k-k:=⟨_,rfl⟩
    have Sf:(k:Int)-(k:Int)=(k2:Int):=(by omega);have LR:IntKind.i64.wrap (x:Int)=(x:Int):=(by rw[IntKind.wrap_i64];omega);have RL:IntKind.i64.wrap (k2:Int)=(k2:Int):=(by rw[IntKind.wrap_i64];omega);have Rm:k2<k:=(by omega);have Rt:Hid (dg sym lo hi n=(em++[(sym,(x:Int))])++dg sym lo hi k2/\bT lo hi n=bT lo hi k2/\(em++[(sym,(x:Int))]).length+k2<=n):=hid (by
     obtain⟨h1,h2,h3⟩:=HZ.out;refine⟨?_,?_,?_⟩
     ·rw[h1,fz yt NO hlk,pB,<-hx,<-hk2];simp
     ·rw[h2,fi yt NO hlk,pB,<-hk2]
     ·simp;omega)
    have ag:(ss++em).length+1<=1000000000:=(by have:=HZ.out.2.2;simp;omega);have OL:decide ((lo:Int)<=(k:Int))=true:=(by simp;omega);clear hx hk2 pB;go_wp2_with (at_builtin;refine eh _ B rfl (.tmp 24) (.tmp 30) rfl v _ rfl (World.ownsRow.alloc HS.out.row _) ⟨wr.heap.size,0,none⟩ (sym,(x:Int)) rfl (kC _ _ _) ag (by simp;omega) ?_;intro v5 w5 hr5 ej;obtain⟨Ji,n5,iq,gC⟩:=RowC.slice hr5;subst gC;have HK5:Hid (Kept (λj=>v.ownBlock=some j) wr w5):=hid (((Kept.refl _ wr).alloc _).grown ej (λj e=>.inl e));have HOW:Hid (∀j,j<B->¬v.ownBlock=some j):=hid (λj hj e=>by have:=HS.out.row.ge e;omega);have HBN:Hid (Blk w5 pn #[.int .i64 (k:Nat)] 3):=hid (HS.out.bn.kept HK5.out (HOW.out pn MO));have HBO:Hid (Blk w5 po #[v] 172):=hid (HS.out.bo.kept HK5.out (HOW.out po TF));have HR5:Hid (fP B w5 (.slice Ji n5 iq) (ss++(em++[(sym,(x:Int))]))):=hid (by rw[<-List.append_assoc];exact hr5);have c3:w5.cell? ⟨pn,0,none⟩=some (.int .i64 (k:Nat)):=HBN.out.cell 0;have c4:w5.cell? ⟨po,0,none⟩=some v:=HBO.out.cell 0;have f3:w5.frozen? ⟨pn,0,none⟩=false:=HBN.out.frozen 0;have f4:w5.frozen? ⟨po,0,none⟩=false:=HBO.out.frozen 0;clear hr5 ej);go_roundg (gk-1)
    case measure=>omega
    case rel=>
     refine⟨k2,em++[(sym,(x:Int))],.slice Ji n5 iq,by omega,by omega,Rt,hid ⟨?_,?_,?_⟩,hid ?_⟩
     ·exact(HBN.out.kept (Kept.setCell (Kept.refl (·=po) w5) ⟨po,0,none⟩ _ (.inl rfl)) bw).set 0 _
     ·exact(HBO.out.set 0 _).kept (Kept.setCell (Kept.refl (·=pn) _) ⟨pn,0,none⟩ _ (.inl rfl)) (λe=>bw e.symm)
     ·exact RowC.kept HR5.out (((Kept.refl (λj=>j=pn\/j=po) w5).setCell ⟨po,0,none⟩ _ (.inl (.inr rfl))).setCell ⟨pn,0,none⟩ _ (.inl (.inl rfl))) (λj e h=>by have:=HR5.out.ge e;omega)
     ·have h15:Kept (kt pn po B) w1 w5:=Kept.trans HK.out HK5.out (λ_ _ h=>h) (λj _ e=>.inr (.inr (HS.out.row.ge e)));exact(h15.setCell ⟨po,0,none⟩ _ (.inl (.inr (.inl rfl)))).setCell ⟨pn,0,none⟩ _ (.inl (.inl rfl))
   ·have pB:min k hi=hi:=(by omega);obtain⟨x,hx⟩:∃x,x=hi-lo:=⟨_,rfl⟩
    have V0:(hi:Int)-(lo:Int)=(x:Int):=(by omega);obtain⟨k2,hk2⟩:∃x,x=k-hi:=⟨_,rfl⟩
    have Sf:(k:Int)-(hi:Int)=(k2:Int):=(by omega);have LR:IntKind.i64.wrap (x:Int)=(x:Int):=(by rw[IntKind.wrap_i64];omega);have RL:IntKind.i64.wrap (k2:Int)=(k2:Int):=(by rw[IntKind.wrap_i64];omega);have Rm:k2<k:=(by omega);have Rt:Hid (dg sym lo hi n=(em++[(sym,(x:Int))])++dg sym lo hi k2/\bT lo hi n=bT lo hi k2/\(em++[(sym,(x:Int))]).length+k2<=n):=hid (by
     obtain⟨h1,h2,h3⟩:=HZ.out;refine⟨?_,?_,?_⟩
     ·rw[h1,fz yt NO hlk,pB,<-hx,<-hk2];simp
     ·rw[h2,fi yt NO hlk,pB,<-hk2]
     ·simp;omega)
    have ag:(ss++em).length+1<=1000000000:=(by have:=HZ.out.2.2;simp;omega);have OL:decide ((lo:Int)<=(k:Int))=true:=(by simp;omega);clear hx hk2 pB;go_wp2_with (at_builtin;refine eh _ B rfl (.tmp 24) (.tmp 30) rfl v _ rfl (World.ownsRow.alloc HS.out.row _) ⟨wr.heap.size,0,none⟩ (sym,(x:Int)) rfl (kC _ _ _) ag (by simp;omega) ?_;intro v5 w5 hr5 ej;obtain⟨Ji,n5,iq,gC⟩:=RowC.slice hr5;subst gC;have HK5:Hid (Kept (λj=>v.ownBlock=some j) wr w5):=hid (((Kept.refl _ wr).alloc _).grown ej (λj e=>.inl e));have HOW:Hid (∀j,j<B->¬v.ownBlock=some j):=hid (λj hj e=>by have:=HS.out.row.ge e;omega);have HBN:Hid (Blk w5 pn #[.int .i64 (k:Nat)] 3):=hid (HS.out.bn.kept HK5.out (HOW.out pn MO));have HBO:Hid (Blk w5 po #[v] 172):=hid (HS.out.bo.kept HK5.out (HOW.out po TF));have HR5:Hid (fP B w5 (.slice Ji n5 iq) (ss++(em++[(sym,(x:Int))]))):=hid (by rw[<-List.append_assoc];exact hr5);have c3:w5.cell? ⟨pn,0,none⟩=some (.int .i64 (k:Nat)):=HBN.out.cell 0;have c4:w5.cell? ⟨po,0,none⟩=some v:=HBO.out.cell 0;have f3:w5.frozen? ⟨pn,0,none⟩=false:=HBN.out.frozen 0;have f4:w5.frozen? ⟨po,0,none⟩=false:=HBO.out.frozen 0;clear hr5 ej);go_roundg (gk-1)
    case measure=>omega
    case rel=>
     refine⟨k2,em++[(sym,(x:Int))],.slice Ji n5 iq,by omega,by omega,Rt,hid ⟨?_,?_,?_⟩,hid ?_⟩
     ·exact(HBN.out.kept (Kept.setCell (Kept.refl (·=po) w5) ⟨po,0,none⟩ _ (.inl rfl)) bw).set 0 _
     ·exact(HBO.out.set 0 _).kept (Kept.setCell (Kept.refl (·=pn) _) ⟨pn,0,none⟩ _ (.inl rfl)) (λe=>bw e.symm)
     ·exact RowC.kept HR5.out (((Kept.refl (λj=>j=pn\/j=po) w5).setCell ⟨po,0,none⟩ _ (.inl (.inr rfl))).setCell ⟨pn,0,none⟩ _ (.inl (.inl rfl))) (λj e h=>by have:=HR5.out.ge e;omega)
     ·have h15:Kept (kt pn po B) w1 w5:=Kept.trans HK.out HK5.out (λ_ _ h=>h) (λj _ e=>.inr (.inr (HS.out.row.ge e)));exact(h15.setCell ⟨po,0,none⟩ _ (.inl (.inr (.inl rfl)))).setCell ⟨pn,0,none⟩ _ (.inl (.inl rfl))
  ·have OL:decide ((lo:Int)<=(k:Int))=false:=(by simp;omega);have HE:Hid (bT lo hi n=k/\dg sym lo hi n=em):=hid ⟨by rw[HZ.out.2.1,gH (by omega)],by rw[HZ.out.1,gG (by omega),List.append_nil]⟩;go_wp2_with fail;go_end0;exact⟨⟨_,v,rfl,by rw[HE.out.1,HE.out.2];exact HS.out⟩,HK.out⟩
theorem wm(w:World)(x n:Nat)(hn:n≤400)(hn1:1≤n):
  Calls Tryz.prog 163 #[.int .i64 (x:Nat),.int .i64 (n:Nat)] w λe w'=>∃v',e=.returned v'/\fP w.heap.size w' v' (eO x n)/\Same w w':=by
 obtain⟨W,hW⟩:∃W,W=(w.alloc (.cells #[.int .i64 (n:Nat)] 3)).alloc (.cells #[.slice none 0 0] 172):=⟨_,rfl⟩
 have LF:W.heap.size=w.heap.size+2:=by rw[hW];simp
 have HK:Hid (Same w W):=hid (by rw[hW];exact((Kept.refl _ w).alloc _).alloc _);have hst:JG W w.heap.size (w.heap.size+1) (w.heap.size+2) n (.slice none 0 0) []:=by have hb2:=Blk.new (w.alloc (.cells #[.int .i64 (n:Nat)] 3)) #[.slice none 0 0] 172;rw[World.size_alloc,<-hW]at hb2;exact⟨by rw[hW];exact(Blk.new w _ _).kept ((Kept.refl (λ_=>False) _).alloc _) (λh=>h),hb2,RowC.nil⟩
 by_cases hx:x=0
 ·subst hx;have H18:=rA W w.heap.size (w.heap.size+1) (w.heap.size+2) n (.slice none 0 0) [] 18 11 138 (by decide) (by decide) hst (by omega) (by omega) (by omega) (by omega) (by simp;omega);have HSAY:Hid (eO 0 n=dg 18 11 138 n++(dg 17 3 10 (bT 11 138 n)++List.replicate (bT 3 10 (bT 11 138 n)) (0,0))):=hid (by unfold eO;rw[if_pos rfl,vE]);clear hst;go_enter Tryz.func163,Tryz.ntmps163;go_wp2_with fail;rw[<-hW];refine H18.mono ?_;rintro e W2 ⟨⟨v2,Xi,rfl,hs2⟩,hk2⟩;have hm:=pI 18 11 138 n (by decide) (by decide);have H17:=rA W2 w.heap.size (w.heap.size+1) (w.heap.size+2) (bT 11 138 n) Xi _ 17 3 10 (by decide) (by decide) hs2 (by omega) (by omega) (by omega) (by have:=hk2.size;omega) (by simp;omega);have HK2:Hid (Kept (kt w.heap.size (w.heap.size+1) (w.heap.size+2)) W W2):=hk2;clear hs2 hk2 H18 hm;go_wp2_with fail;refine H17.mono ?_;rintro e W3 ⟨⟨v3,Wq,rfl,hs3⟩,hk3⟩;obtain⟨ao,n0,cap,rfl⟩:=RowC.slice hs3.row;obtain⟨k,hk⟩:∃k,k=bT 3 10 (bT 11 138 n):=⟨_,rfl⟩
  obtain⟨ss,Jq⟩:∃ss,ss=[]++dg 18 11 138 n++dg 17 3 10 (bT 11 138 n):=⟨_,rfl⟩
  rw[<-hk,<-Jq]at hs3;have HS3:Hid (JG W3 w.heap.size (w.heap.size+1) (w.heap.size+2) k (.slice ao n0 cap) ss):=hs3;have HK3:Hid (Kept (kt w.heap.size (w.heap.size+1) (w.heap.size+2)) W W3):=hid (Kept.trans HK2.out hk3 (λ_ _ h=>h) (λ_ _ h=>h));have HSS:Hid (ss=dg 18 11 138 n++dg 17 3 10 (bT 11 138 n)):=hid (by rw[Jq];simp);have HKK:Hid (k=bT 3 10 (bT 11 138 n)):=hk;have HLE:Hid (ss.length+k<=400):=hid (by
   have h1:=pI 18 11 138 n (by decide) (by decide);have h2:=pI 17 3 10 (bT 11 138 n) (by decide) (by decide);rw[Jq,hk];simp;omega)
  clear hs3 hk3 hk Jq H17 HK2;have HEND:Hid (eO 0 n=ss++List.replicate k (0,0)):=hid (by rw[HSS.out,HSAY.out,<-HKK.out,List.append_assoc]);have hk4:k<=401:=(by have:=HLE.out;omega);have SS:ss.length+k<=401:=(by have:=HLE.out;omega);have HSZ:Hid (w.heap.size+2<=W3.heap.size):=hid (by have:=HK3.out.size;omega);have cN:W3.cell? ⟨w.heap.size,0,none⟩=some (.int .i64 (k:Nat)):=HS3.out.bn.cell 0;have cO:W3.cell? ⟨w.heap.size+1,0,none⟩=some (.slice ao n0 cap):=HS3.out.bo.cell 0;have HREP:Hid (∀W4:World,aV W4 ⟨W3.heap.size,0,none⟩ (km (0,0))->Calls Tryz.prog 196 #[.slice (some ⟨W3.heap.size,0,none⟩) 1 1,.int .i64 (k:Nat)] W4 λe w'=>∃g,e=.returned (.slice (some ⟨g,0,none⟩) k k)/\fP W4.heap.size w' (.slice (some ⟨g,0,none⟩) k k) (List.replicate k (0,0))/\Same W4 w'):=hid (λW4 h=>oW W4 _ (0,0) k h (by omega));have HOW:Hid (∀j,j<w.heap.size+2->¬(Value.slice ao n0 cap).ownBlock=some j):=hid (λj hj e=>by have:=HS3.out.row.ge e;omega);go_wp2_with fail;go_region_held3 (λw'=>w'.cell? ⟨w.heap.size,0,none⟩=some (.int .i64 (k:Nat))/\w'.cell? ⟨w.heap.size+1,0,none⟩=some (.slice ao n0 cap))
   (first
    | (go_split_ands;exact⟨hk5.cell (by assumption) (by unfold ja;simp),hk5.cell (by assumption) (by unfold ja;simp)⟩)
    | (go_split_ands;exact⟨hk4.cell (by assumption) (λf=>f),hk4.cell (by assumption) (λf=>f)⟩)
    | go_keep)
   (first
    | (go_at_call 196;refine(HREP.out _ ?_).mono ?_;exact kC _ _ _;rintro e w4 ⟨g,rfl,hr4,hk4⟩)
    | (have hw4:Same W3 w4:=Same.trans (((Kept.refl _ W3).drew).alloc _) hk4;refine iV km 2 stC_ok (w.heap.size+2) 172 220 (.agg #[.int .i64 0,.int .i64 0]) 16 Tryz.underlying172 Tryz.infoSt rfl (by decide) (by rfl) (.tmp 23) (.tmp 28) (by rfl) (.slice ao n0 cap) ss (by rfl) (RowC.kept HS3.out.row hw4 (λ_ _ f=>f)) ⟨g,0,none⟩ k k (List.replicate k (0,0)) (by rfl) (by simp) (by have h:=hr4.raw.at (k*2);rw[List.take_of_length_le (by rw[aM stC_ok,List.length_replicate];exact Nat.le_refl _)]at h;exact h) (by simp;omega) (by have h:=hw4.size;have:=HSZ.out;omega) ?_;intro v5 w5 hr5 ej;have hk5:Kept (ja (w.heap.size+2)) w4 w5:=(Kept.refl _ w4).grown ej (λj e=>.inl (HS3.out.row.ge e));clear ej))
  all_goals
   go_wp2_with fail;go_ret;refine⟨v5,rfl,by rw[HEND.out];exact RowC.base hr5 (by omega),?_⟩;have h1:Same w W3:=Same.then HK.out HK3.out (λj hj e=>by unfold kt at e;omega);exact Same.then (Same.trans h1 (Same.trans (((Kept.refl _ W3).drew).alloc _) hk4)) hk5 (λj hj e=>by unfold ja at e;omega)
 ·obtain⟨m,hm⟩:∃m,m=n-1:=⟨_,rfl⟩
  have Su:(n:Int)-1=(m:Int):=(by omega);have Xo:((x:Int)==0)=false:=(by simp;omega);have HSAY:Hid (eO x n=((x:Int),0)::(dg 16 3 6 m++List.replicate (bT 3 6 m) ((x:Int),0))):=hid (by unfold eO;rw[if_neg hx,<-hm,vx]);have HC0:Hid (aV (W.alloc (.cells #[.int .i64 (x:Nat),.int .i64 0] 220)) ⟨w.heap.size+2,0,none⟩ ([((x:Int),0)].flatMap km)):=hid (by have h:=kC W x 0;rw[LF]at h;exact h);have HST:Hid (JG W w.heap.size (w.heap.size+1) (w.heap.size+2) n (.slice none 0 0) []):=hst;have HW:Hid (W=(w.alloc (.cells #[.int .i64 (n:Nat)] 3)).alloc (.cells #[.slice none 0 0] 172)):=hW;have Ss:m<=400:=(by omega);clear hst hm hx hW;go_enter Tryz.func163,Tryz.ntmps163;go_wp2_with (at_builtin;refine eh _ (w.heap.size+2) rfl (.tmp 14) (.tmp 17) rfl (.slice none 0 0) [] rfl RowC.nil ⟨w.heap.size+2,0,none⟩ ((x:Int),0) rfl (by have h:=HC0.out;rw[HW.out]at h;exact h) (by simp) (by simp) ?_;intro v5 w5 hr5 ej;rw[<-HW.out]at ej;obtain⟨Ji,n5,iq,gC⟩:=RowC.slice hr5;subst gC;have HK5:Hid (Same W w5):=hid (((Kept.refl _ W).alloc _).grown ej (λj e=>by cases e));have HBN:Hid (Blk w5 w.heap.size #[.int .i64 (n:Nat)] 3):=hid (HST.out.bn.kept HK5.out (λf=>f));have HBO:Hid (Blk w5 (w.heap.size+1) #[.slice none 0 0] 172):=hid (HST.out.bo.kept HK5.out (λf=>f));have HR5:Hid (fP (w.heap.size+2) w5 (.slice Ji n5 iq) [((x:Int),0)]):=hr5;have c3:w5.cell? ⟨w.heap.size,0,none⟩=some (.int .i64 (n:Nat)):=HBN.out.cell 0;have c4:w5.cell? ⟨w.heap.size+1,0,none⟩=some (.slice none 0 0):=HBO.out.cell 0;have f3:w5.frozen? ⟨w.heap.size,0,none⟩=false:=HBN.out.frozen 0;have f4:w5.frozen? ⟨w.heap.size+1,0,none⟩=false:=HBO.out.frozen 0;clear hr5 ej);obtain⟨W2,l9⟩:∃W2,W2=(w5.setCell ⟨w.heap.size+1,0,none⟩ (.slice Ji n5 iq)).setCell ⟨w.heap.size,0,none⟩ (.int .i64 (m:Nat)):=⟨_,rfl⟩
  rw[<-l9];have uL:JG W2 w.heap.size (w.heap.size+1) (w.heap.size+2) m (.slice Ji n5 iq) [((x:Int),0)]:=by
   rw[l9];refine⟨?_,?_,?_⟩
   ·exact(HBN.out.kept (Kept.setCell (Kept.refl (·=w.heap.size+1) w5) ⟨w.heap.size+1,0,none⟩ _ (.inl rfl)) (by omega)).set 0 _
   ·exact(HBO.out.set 0 _).kept (Kept.setCell (Kept.refl (·=w.heap.size) _) ⟨w.heap.size,0,none⟩ _ (.inl rfl)) (by omega)
   ·exact RowC.kept HR5.out (((Kept.refl (λj=>j=w.heap.size\/j=w.heap.size+1) w5).setCell ⟨w.heap.size+1,0,none⟩ _ (.inl (.inr rfl))).setCell ⟨w.heap.size,0,none⟩ _ (.inl (.inl rfl))) (λj e h=>by have:=HR5.out.ge e;omega)
  have hk2:Kept (kt w.heap.size (w.heap.size+1) (w.heap.size+2)) W W2:=(by rw[l9];exact((HK5.out.mono (λ_ _ f=>f.elim)).setCell ⟨w.heap.size+1,0,none⟩ _ (.inl (.inr (.inl rfl)))).setCell ⟨w.heap.size,0,none⟩ _ (.inl (.inl rfl)));have H16:=rA W2 w.heap.size (w.heap.size+1) (w.heap.size+2) m (.slice Ji n5 iq) [((x:Int),0)] 16 3 6 (by decide) (by decide) uL (by omega) (by omega) (by omega) (by have:=hk2.size;omega) (by simp;omega);have HK2:Hid (Kept (kt w.heap.size (w.heap.size+1) (w.heap.size+2)) W W2):=hk2;clear uL hk2 l9 HBN HBO HR5 c3 c4 f3 f4 HK5;refine H16.mono ?_;rintro e W3 ⟨⟨v3,Wq,rfl,hs3⟩,hk3⟩;obtain⟨ao,n0,cap,rfl⟩:=RowC.slice hs3.row;obtain⟨k,hk⟩:∃k,k=bT 3 6 m:=⟨_,rfl⟩
  obtain⟨ss,Jq⟩:∃ss,ss=[((x:Int),(0:Int))]++dg 16 3 6 m:=⟨_,rfl⟩
  rw[<-hk,<-Jq]at hs3;have HS3:Hid (JG W3 w.heap.size (w.heap.size+1) (w.heap.size+2) k (.slice ao n0 cap) ss):=hs3;have HK3:Hid (Kept (kt w.heap.size (w.heap.size+1) (w.heap.size+2)) W W3):=hid (Kept.trans HK2.out hk3 (λ_ _ h=>h) (λ_ _ h=>h));have HSS:Hid (ss=[((x:Int),(0:Int))]++dg 16 3 6 m):=Jq;have HKK:Hid (k=bT 3 6 m):=hk;have HLE:Hid (ss.length+k<=401):=hid (by
   have h1:=pI 16 3 6 m (by decide) (by decide);rw[Jq,hk];simp;omega)
  clear hs3 hk3 hk Jq H16 HK2;have HEND:Hid (eO x n=ss++List.replicate k ((x:Int),0)):=hid (by rw[HSS.out,HSAY.out,HKK.out];simp);have hk4:k<=401:=(by have:=HLE.out;omega);have SS:ss.length+k<=401:=(by have:=HLE.out;omega);have HSZ:Hid (w.heap.size+2<=W3.heap.size):=hid (by have:=HK3.out.size;omega);have cN:W3.cell? ⟨w.heap.size,0,none⟩=some (.int .i64 (k:Nat)):=HS3.out.bn.cell 0;have cO:W3.cell? ⟨w.heap.size+1,0,none⟩=some (.slice ao n0 cap):=HS3.out.bo.cell 0;have HREP:Hid (∀W4:World,aV W4 ⟨W3.heap.size,0,none⟩ (km ((x:Int),0))->Calls Tryz.prog 196 #[.slice (some ⟨W3.heap.size,0,none⟩) 1 1,.int .i64 (k:Nat)] W4 λe w'=>∃g,e=.returned (.slice (some ⟨g,0,none⟩) k k)/\fP W4.heap.size w' (.slice (some ⟨g,0,none⟩) k k) (List.replicate k ((x:Int),0))/\Same W4 w'):=hid (λW4 h=>oW W4 _ ((x:Int),0) k h (by omega));have HOW:Hid (∀j,j<w.heap.size+2->¬(Value.slice ao n0 cap).ownBlock=some j):=hid (λj hj e=>by have:=HS3.out.row.ge e;omega);go_wp2_with fail;go_region_held3 (λw'=>w'.cell? ⟨w.heap.size,0,none⟩=some (.int .i64 (k:Nat))/\w'.cell? ⟨w.heap.size+1,0,none⟩=some (.slice ao n0 cap))
   (first
    | (go_split_ands;exact⟨hk5.cell (by assumption) (by unfold ja;simp),hk5.cell (by assumption) (by unfold ja;simp)⟩)
    | (go_split_ands;exact⟨hk4.cell (by assumption) (λf=>f),hk4.cell (by assumption) (λf=>f)⟩)
    | go_keep)
   (first
    | (go_at_call 196;refine(HREP.out _ ?_).mono ?_;exact kC _ _ _;rintro e w4 ⟨g,rfl,hr4,hk4⟩)
    | (have hw4:Same W3 w4:=Same.trans (((Kept.refl _ W3).drew).alloc _) hk4;refine iV km 2 stC_ok (w.heap.size+2) 172 220 (.agg #[.int .i64 0,.int .i64 0]) 16 Tryz.underlying172 Tryz.infoSt rfl (by decide) (by rfl) (.tmp 23) (.tmp 28) (by rfl) (.slice ao n0 cap) ss (by rfl) (RowC.kept HS3.out.row hw4 (λ_ _ f=>f)) ⟨g,0,none⟩ k k (List.replicate k ((x:Int),0)) (by rfl) (by simp) (by have h:=hr4.raw.at (k*2);rw[List.take_of_length_le (by rw[aM stC_ok,List.length_replicate];exact Nat.le_refl _)]at h;exact h) (by simp;omega) (by have h:=hw4.size;have:=HSZ.out;omega) ?_;intro v5 w5 hr5 ej;have hk5:Kept (ja (w.heap.size+2)) w4 w5:=(Kept.refl _ w4).grown ej (λj e=>.inl (HS3.out.row.ge e));clear ej))
  all_goals
   go_wp2_with fail;go_ret;refine⟨v5,rfl,by rw[HEND.out];exact RowC.base hr5 (by omega),?_⟩;have h1:Same w W3:=Same.then HK.out HK3.out (λj hj e=>by unfold kt at e;omega);exact Same.then (Same.trans h1 (Same.trans (((Kept.refl _ W3).drew).alloc _) hk4)) hk5 (λj hj e=>by unfold ja at e;omega)
theorem Bu(v n:Nat)(h:1<=n):eO v n≠[]:=by
 unfold eO;split
 ·by_cases QA:11<=n
  ·rw[gS n QA];simp
  ·by_cases h3:3<=n
   ·rw[ia n (by omega) h3];simp
   ·rw[gM n (by omega)];cases n with
    | zero=>omega
    | succ n=>simp[List.replicate_succ]
 ·simp
theorem SrcE.tail2{w:World}{I:Nat→Prop}{b o cap:Nat}{l:List Nat}(h:SrcE am w I (.slice (some ⟨b,o,none⟩) l.length cap) l)(k:Nat)(hk:k≤l.length):
  SrcE am w I (.slice (if cap=k then some ⟨b,o,none⟩else some ⟨b,o+k,none⟩) (l.length-k) (cap-k)) (l.drop k):=by
 obtain⟨ao,cap',e,hc,_⟩:=id h;simp only[Value.slice.injEq]at e;obtain⟨_,_,rfl⟩:=e;split
 ·exact h.tail k o hk (λh2=>by omega)
 ·exact h.tail k (o+k) hk (λ_=>rfl)
theorem RowC.at{α:Type}{B t k:Nat}{enc:α->List Value}(ok:dN enc k){w:World}{g n cap:Nat}{xs:List α}(h:RowC B t k enc w (.slice (some ⟨g,0,none⟩) n cap) xs):aV w ⟨g,0,none⟩ (xs.flatMap enc):=by
 have hl:=h.len;subst hl;intro j u hu;have hj:j<(xs.flatMap enc).length:=(List.getElem?_eq_some_iff.1 hu).1;rw[aM ok]at hj;have e:(⟨g,0,none⟩:Addr).add j=⟨g,j,none⟩:=by unfold Addr.add;split<;>simp_all
 rw[e,h.cellAt j hj,hu]
theorem zc(w:World)(v:Value)(I:Nat→Prop)(zs:List Int)(ns:List Nat)(hs:SrcE bM w I v zs)(hl:zs.length≤316)(hok:cI zs=true)(hns:ns=zs.map Int.toNat):
  Calls Tryz.prog 128 #[v] w λe w'=>∃v',e=.returned (.tuple #[v',.int .i64 0])/\fP w.heap.size w' v' (be ns)/\Same w w':=by
 have hb:=(fw zs).1 hok;have eN:ns.map am=zs.map bM:=by rw[hns,List.map_map];refine List.map_congr_left (λz hz=>?_);simp only[Function.comp,am,bM];rw[Int.toNat_of_nonneg (hb z hz).1]
 obtain⟨ao,cap,rfl,ip,f8⟩:=id hs;clear ip f8;have HCT:=lZ w _ I zs hs (by omega);rw[hok]at HCT;have HS:Hid (SrcE am w I (.slice ao zs.length cap) ns):=hid (hs.recode eN);have rM:zs.length=ns.length:=by rw[hns];simp
 obtain⟨L,hL⟩:∃L,L=zs.length:=⟨_,rfl⟩
 rw[<-hL]at HCT HS hl ⊢;have HL:Hid (L=ns.length):=hid (by omega);have b1:decide ((316:Int)<(L:Int))=false:=by simp;omega
 clear hs hb hok hns eN rM hL;go_enter Tryz.func128,Tryz.ntmps128;go_wp2_with fail;refine HCT.mono ?_;rintro e w1 ⟨rfl,hw1⟩;subst hw1;clear HCT;go_wp2_with fail;clear b1;go_loopg [0,5,6] L (λq zl zo _ wr=>∃(i d:Nat) (a2:Option Addr) (c2:Nat) (ss:List (Int×Int)),d<=q/\i+d=L/\zl=.slice a2 d c2/\Hid (SrcE am w1 I (.slice a2 d c2) (ns.drop i))/\Hid (be ns=ss++be (ns.drop i)/\ss.length<=i)/\Hid (fP w1.heap.size wr zo ss)/\Hid (Same w1 wr))
 case atStart=>exact⟨0,L,ao,cap,[],by omega,by omega,rfl,hid (by simpa using HS.out),hid ⟨by simp,by simp⟩,RowC.nil,Kept.refl _ _⟩
 case round=>
  clear HS;obtain⟨i,d,a2,c2,ss,hq,hi,rfl,HS,HP,HO,HK⟩:=hrel;by_cases hlt:0<d
  ·have yA:i<ns.length:=(by have:=HL.out;omega);have N2:ns.drop i=ns[i]::ns.drop (i+1):=List.drop_eq_getElem_cons yA;obtain⟨y,hy⟩:∃y,y=ns[i]:=⟨_,rfl⟩
   rw[<-hy]at N2;obtain⟨r,hr⟩:∃r,r=ns.drop (i+1):=⟨_,rfl⟩
   rw[<-hr]at N2;have ag:(y::r).length=d:=(by rw[<-N2,List.length_drop];have:=HL.out;omega);have hS2:=HS.out;rw[N2]at hS2;obtain⟨b,o,cap',e,_,_,cx⟩:=hS2.get 0 (by simp);simp only[Value.slice.injEq]at e;obtain⟨rfl,jO,rfl⟩:=e;clear jO;have Si:wr.cell? ⟨b,o,none⟩=some (.int .i64 (y:Nat)):=HK.out.cell cx (λf=>f);rw[<-ag]at hS2;have HAL:=CD wr b o c2 I y r (hS2.same HK.out) (by omega);have hf:=kN y r;obtain⟨n,hn⟩:∃n,n=1+bK y r:=⟨_,rfl⟩
   have hn1:1<=n:=(by omega);have rM:n<=d:=(by simp at ag;omega);have HT2:Hid (SrcE am w1 I (.slice (if c2=n then some ⟨b,o,none⟩else some ⟨b,o+n,none⟩) (d-n) (c2-n)) (ns.drop (i+n))):=hid (by
    have h:=hS2.tail2 n (by omega);rw[ag,<-N2,List.drop_drop]at h;exact h)
   have HP2:Hid (be ns=ss++(eO y n++be (ns.drop (i+n)))):=hid (by
    rw[HP.out.1];have h:=zM ns i n yA (by rw[<-hy,<-hr];exact hn);rw[<-hy]at h;rw[h])
   have HSL:Hid ((eO y n).length<=n/\eO y n≠[]):=hid ⟨xe y n hn1,Bu y n hn1⟩;rw[<-hn,ag]at HAL;clear ag N2 hy hr hS2 cx hn hf;go_wp2_with fail;refine HAL.mono ?_;rintro e w2 ⟨rfl,hk2⟩;have HK2:Hid (Same wr w2):=hk2;have WV:w2.cell? ⟨b,o,none⟩=some (.int .i64 (y:Nat)):=hk2.cell Si (λf=>f);have HPR:=wm w2 y n (by omega) hn1;clear hk2 HAL Si;go_wp2_with fail;refine HPR.mono ?_;rintro e w3 ⟨v3,rfl,hr3,hk3⟩;obtain⟨Za,lM,sf,ke,_⟩:=hr3.shape;obtain⟨g3,rfl⟩:=ke HSL.out.2;subst sf;obtain⟨m3,hm3⟩:∃m,m=(eO y n).length:=⟨_,rfl⟩
   rw[<-hm3]at hr3 ⊢;have HR3:Hid (fP w2.heap.size w3 (.slice (some ⟨g3,0,none⟩) m3 lM) (eO y n)):=hr3;have HK3:Hid (Same wr w3):=hid (Same.trans HK2.out hk3);have HC3:Hid (aV w3 ⟨g3,0,none⟩ ((eO y n).flatMap km)):=hid (RowC.at stC_ok hr3);have HM3:Hid ((eO y n).length=m3):=hid hm3.symm;have Ty:ss.length+(eO y n).length<=1000:=(by have h1:=HP.out.2;have h2:=HSL.out.1;omega);have uT:w1.heap.size<=w3.heap.size:=(by have h1:=HK.out.size;have h2:=HK3.out.size;omega);clear hr3 hk3 HPR hm3 ke WV;have nP:(0:Int)<=(n:Int):=(by omega);go_wp2_with (at_builtin;refine ea _ km 2 stC_ok (by decide) w1.heap.size 172 220 (.agg #[.int .i64 0,.int .i64 0]) 16 Tryz.underlying172 Tryz.infoSt rfl (by decide) rfl (.tmp 20) (.tmp 25) rfl u5 ss rfl (RowC.kept HO.out HK3.out (λ_ _ f=>f)) ⟨g3,0,none⟩ m3 lM (eO y n) rfl HM3.out HC3.out (by omega) uT ?_;intro v5 w5 hr5 ej;have HR5:Hid (fP w1.heap.size w5 v5 (ss++eO y n)):=hr5;have HK5:Hid (Same w1 w5):=hid ((Same.trans HK.out HK3.out).grown ej (λj e=>.inr (HO.out.ge e)));clear hr5 ej)
   all_goals
    go_roundg (gk-1)
    case measure=>omega
    case rel=>exact⟨i+n,d-n,_,_,ss++eO y n,by omega,by omega,rfl,hid (by first | simpa using HT2.out | simpa[*]using HT2.out),hid ⟨by rw[HP2.out,List.append_assoc],by have h1:=HP.out.2;have h2:=HSL.out.1;simp;omega⟩,HR5,HK5⟩
  ·have ET:d=0:=(by omega);have HE:Hid (be ns=ss):=hid (by rw[HP.out.1,List.drop_eq_nil_of_le (by have:=HL.out;omega)];simp[be]);subst ET;clear hlt;go_wp2_with fail;go_ret2;exact⟨_,rfl,by rw[HE.out];exact HO.out,HK.out⟩
theorem Dn(w:World)(v:Value)(I:Nat→Prop)(zs:List Int)(hs:SrcE bM w I v zs)(hn:zs.length≤10000000)(hb:316<zs.length∨cI zs=false):
  Calls Tryz.prog 128 #[v] w λe w'=>e=.returned (.tuple #[.slice none 0 0,.int .i64 1])/\Same w w':=by
 obtain⟨ao,cap,rfl,ip,f8⟩:=id hs;clear ip f8;have HCT:=lZ w _ I zs hs hn;clear hs;by_cases hl:316<zs.length
 ·have b1:decide ((316:Int)<(zs.length:Int))=true:=(by simp;omega);clear hb hl;go_enter Tryz.func128,Tryz.ntmps128;go_wp2_with fail;go_ret2;exact⟨rfl,Kept.refl _ _⟩
 ·have b1:decide ((316:Int)<(zs.length:Int))=false:=(by simp;omega);have hok:cI zs=false:=by rcases hb with h | h;omega;exact h
  rw[hok]at HCT;clear hb hl hok;go_enter Tryz.func128,Tryz.ntmps128;go_wp2_with fail;refine HCT.mono ?_;rintro e w1 ⟨rfl,hw1⟩;subst hw1;clear HCT;go_wp2_with fail;go_ret2;exact⟨rfl,Kept.refl _ _⟩
theorem DH(w:World)(v:Value)(I:Nat→Prop)(zs:List Int)(hs:SrcE bM w I v zs)(hn:zs.length≤10000000):
  Calls Tryz.prog 128 #[v] w λe w'=>Oe w w' e (sZ zs):=by
 by_cases hb:316<zs.length\/cI zs=false
 ·rw[CM hb];exact Dn w v I zs hs hn hb
 ·have h2:cI zs=true:=by
   cases h:cI zs with
   | true=>rfl
   | false=>exact absurd (.inr h) hb
  have h1:zs.length<=316:=Nat.le_of_not_lt (λh=>hb (.inl h));rw[rB h1 h2];exact zc w v I zs _ hs h1 h2 rfl
end Go.Proofs.YtljlmfnbeofmmaaGreatDoor
