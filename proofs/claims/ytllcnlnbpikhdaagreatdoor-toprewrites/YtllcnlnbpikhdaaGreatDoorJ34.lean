import Derived.Deep.RegionHeld3
import Derived.Test.YtllcnlnbpikhdaaGreatDoorJ33
set_option maxHeartbeats 2000000
set_option maxRecDepth 100000
namespace Go.Proofs.YtllcnlnbpikhdaaGreatDoor
open Go.RowKit
abbrev jM(pn po B:Nat)(k:Nat):Prop:=k=pn\/k=po\/B<=k
theorem RowC.slice{α:Type}{B t k:Nat}{enc:α->List Value}{w:World}{v:Value}{xs:List α}(h:RowC B t k enc w v xs):∃ao n cap,v=.slice ao n cap:=by obtain⟨ao,cap,hv,_⟩:=h.shape;exact⟨ao,_,cap,hv⟩
structure I2(w:World)(pn po B:Nat)(n:Nat)(vo:Value)(ss:List (Int×Int)):Prop where
 bn:Blk w pn #[.int .i64 (n:Nat)] 3
 bo:Blk w po #[vo] 176
 row:fC B w vo ss
theorem pB(w:World)(pn po B n:Nat)(vo:Value)(ss:List (Int×Int))(sym:Int)(lo hi:Nat)(lB:lo=bY sym)(yp:hi=lo+2 ^ cF sym-1)(hst:I2 w pn po B n vo ss)(bh:pn≠po)(Lx:pn<B)(Sq:po<B)(hB:B≤w.heap.size)(IC:ss.length+n≤1000):
  Calls Tryz.prog 180 #[.int .i64 sym,.pointer (some ⟨pn,0,none⟩),.pointer (some ⟨po,0,none⟩)] w λe w'=>(∃v vo',e=.returned v/\I2 w' pn po B (bQ lo hi n) vo' (ss++cT sym lo hi n))/\Kept (jM pn po B) w w':=by
 have B8:=nn sym;have l6:=nK sym;have HSH:=iM w sym;rw[<-lB]at HSH l6;obtain⟨wd,mc⟩:∃x,x=cF sym:=⟨_,rfl⟩
 rw[<-mc]at HSH B8 yp;clear mc lB;have AD:=tR wd B8;have yn:0<2 ^ wd:=Nat.two_pow_pos wd;have GV:∃pw:Nat,wrap64 ((2:Int) ^ wd)=(pw:Int)/\hi=lo+pw-1/\0<pw/\pw<=128:=by refine⟨2 ^ wd,?_,yp,yn,AD⟩;have:(2:Int) ^ wd=((2 ^ wd:Nat):Int):=(by simp);rw[this];unfold wrap64;omega
 clear yp AD yn;obtain⟨pw,GV,yp,yn,AD⟩:=GV;obtain⟨s1,hs1⟩:∃x,x=lo+pw:=⟨_,rfl⟩
 have V2:(lo:Int)+(pw:Int)=(s1:Int):=by omega
 have Vb:IntKind.i64.wrap (s1:Int)=(s1:Int):=by rw[IntKind.wrap_i64];omega
 have Un:(s1:Int)-1=(hi:Int):=by omega
 have Ws:IntKind.i64.wrap (hi:Int)=(hi:Int):=by rw[IntKind.wrap_i64];omega
 have MI:lo<=hi:=by omega
 have WO:hi<=200:=by omega
 have HS:Hid (I2 w pn po B n vo ss):=hst;have yf:1<=lo:=l6.1;clear hs1 yp hst;go_enter Tryz.func180,Tryz.ntmps180;go_wp2_with fail;refine HSH.mono ?_;rintro e w1 ⟨rfl,hw1⟩;subst hw1;clear HSH;go_wp2_with fail;rw[GV];clear GV;go_loopg [7] n (λq _ wr=>∃(k:Nat) (em:List (Int×Int)) (v:Value),k<=q/\k<=n/\Hid (cT sym lo hi n=em++cT sym lo hi k/\bQ lo hi n=bQ lo hi k/\em.length+k<=n)/\Hid (I2 wr pn po B k v (ss++em))/\Hid (Kept (jM pn po B) w1 wr))
 case atStart=>exact⟨n,[],vo,by omega,by omega,hid ⟨rfl,rfl,by simp⟩,hid (by simpa using HS.out),Kept.refl _ _⟩
 case round=>
  clear HS;obtain⟨k,em,v,hq,Si,HZ,HS,HK⟩:=hrel;have cX:=HK.out.size;have c1:=HS.out.bn.cell 0;have c2:=HS.out.bo.cell 0;simp only[List.getElem?_toArray,List.getElem?_cons_zero]at c1 c2;by_cases hlk:lo<=k
  ·by_cases hkh:k<=hi
   ·have o7:min k hi=k:=(by omega);obtain⟨x,hx⟩:∃x,x=k-lo:=⟨_,rfl⟩
    have V7:(k:Int)-(lo:Int)=(x:Int):=(by omega);obtain⟨k2,hk2⟩:∃x,x=k-k:=⟨_,rfl⟩
    have QH:(k:Int)-(k:Int)=(k2:Int):=(by omega);have KL:IntKind.i64.wrap (x:Int)=(x:Int):=(by rw[IntKind.wrap_i64];omega);have Q9:IntKind.i64.wrap (k2:Int)=(k2:Int):=(by rw[IntKind.wrap_i64];omega);have Rs:k2<k:=(by omega);have Sa:Hid (cT sym lo hi n=(em++[(sym,(x:Int))])++cT sym lo hi k2/\bQ lo hi n=bQ lo hi k2/\(em++[(sym,(x:Int))]).length+k2<=n):=hid (by
     obtain⟨h1,h2,h3⟩:=HZ.out;refine⟨?_,?_,?_⟩
     ·rw[h1,eP yf MI hlk,o7,<-hx,<-hk2];simp
     ·rw[h2,eX yf MI hlk,o7,<-hk2]
     ·simp;omega)
    have ag:(ss++em).length+1<=1000000000:=(by have:=HZ.out.2.2;simp;omega);have Ok:decide ((lo:Int)<=(k:Int))=true:=(by simp;omega);clear hx hk2 o7;go_wp2_with (at_builtin;refine dV _ B rfl (.tmp 24) (.tmp 30) rfl v _ rfl (World.ownsRow.alloc HS.out.row _) ⟨wr.heap.size,0,none⟩ (sym,(x:Int)) rfl (jV _ _ _) ag (by simp;omega) ?_;intro v5 w5 hr5 d8;obtain⟨Iv,n5,gV,fJ⟩:=RowC.slice hr5;subst fJ;have HK5:Hid (Kept (λj=>v.ownBlock=some j) wr w5):=hid (((Kept.refl _ wr).alloc _).grown d8 (λj e=>.inl e));have HOW:Hid (∀j,j<B->¬v.ownBlock=some j):=hid (λj hj e=>by have:=HS.out.row.ge e;omega);have HBN:Hid (Blk w5 pn #[.int .i64 (k:Nat)] 3):=hid (HS.out.bn.kept HK5.out (HOW.out pn Lx));have HBO:Hid (Blk w5 po #[v] 176):=hid (HS.out.bo.kept HK5.out (HOW.out po Sq));have HR5:Hid (fC B w5 (.slice Iv n5 gV) (ss++(em++[(sym,(x:Int))]))):=hid (by rw[<-List.append_assoc];exact hr5);have c3:w5.cell? ⟨pn,0,none⟩=some (.int .i64 (k:Nat)):=HBN.out.cell 0;have c4:w5.cell? ⟨po,0,none⟩=some v:=HBO.out.cell 0;have f3:w5.frozen? ⟨pn,0,none⟩=false:=HBN.out.frozen 0;have f4:w5.frozen? ⟨po,0,none⟩=false:=HBO.out.frozen 0;clear hr5 d8);go_roundg (gk-1)
    case measure=>omega
    case rel=>
     refine⟨k2,em++[(sym,(x:Int))],.slice Iv n5 gV,by omega,by omega,Sa,hid ⟨?_,?_,?_⟩,hid ?_⟩
     ·exact(HBN.out.kept (Kept.setCell (Kept.refl (·=po) w5) ⟨po,0,none⟩ _ (.inl rfl)) bh).set 0 _
     ·exact(HBO.out.set 0 _).kept (Kept.setCell (Kept.refl (·=pn) _) ⟨pn,0,none⟩ _ (.inl rfl)) (λe=>bh e.symm)
     ·exact RowC.kept HR5.out (((Kept.refl (λj=>j=pn\/j=po) w5).setCell ⟨po,0,none⟩ _ (.inl (.inr rfl))).setCell ⟨pn,0,none⟩ _ (.inl (.inl rfl))) (λj e h=>by have:=HR5.out.ge e;omega)
     ·have h15:Kept (jM pn po B) w1 w5:=Kept.trans HK.out HK5.out (λ_ _ h=>h) (λj _ e=>.inr (.inr (HS.out.row.ge e)));exact(h15.setCell ⟨po,0,none⟩ _ (.inl (.inr (.inl rfl)))).setCell ⟨pn,0,none⟩ _ (.inl (.inl rfl))
   ·have o7:min k hi=hi:=(by omega);obtain⟨x,hx⟩:∃x,x=hi-lo:=⟨_,rfl⟩
    have V7:(hi:Int)-(lo:Int)=(x:Int):=(by omega);obtain⟨k2,hk2⟩:∃x,x=k-hi:=⟨_,rfl⟩
    have QH:(k:Int)-(hi:Int)=(k2:Int):=(by omega);have KL:IntKind.i64.wrap (x:Int)=(x:Int):=(by rw[IntKind.wrap_i64];omega);have Q9:IntKind.i64.wrap (k2:Int)=(k2:Int):=(by rw[IntKind.wrap_i64];omega);have Rs:k2<k:=(by omega);have Sa:Hid (cT sym lo hi n=(em++[(sym,(x:Int))])++cT sym lo hi k2/\bQ lo hi n=bQ lo hi k2/\(em++[(sym,(x:Int))]).length+k2<=n):=hid (by
     obtain⟨h1,h2,h3⟩:=HZ.out;refine⟨?_,?_,?_⟩
     ·rw[h1,eP yf MI hlk,o7,<-hx,<-hk2];simp
     ·rw[h2,eX yf MI hlk,o7,<-hk2]
     ·simp;omega)
    have ag:(ss++em).length+1<=1000000000:=(by have:=HZ.out.2.2;simp;omega);have Ok:decide ((lo:Int)<=(k:Int))=true:=(by simp;omega);clear hx hk2 o7;go_wp2_with (at_builtin;refine dV _ B rfl (.tmp 24) (.tmp 30) rfl v _ rfl (World.ownsRow.alloc HS.out.row _) ⟨wr.heap.size,0,none⟩ (sym,(x:Int)) rfl (jV _ _ _) ag (by simp;omega) ?_;intro v5 w5 hr5 d8;obtain⟨Iv,n5,gV,fJ⟩:=RowC.slice hr5;subst fJ;have HK5:Hid (Kept (λj=>v.ownBlock=some j) wr w5):=hid (((Kept.refl _ wr).alloc _).grown d8 (λj e=>.inl e));have HOW:Hid (∀j,j<B->¬v.ownBlock=some j):=hid (λj hj e=>by have:=HS.out.row.ge e;omega);have HBN:Hid (Blk w5 pn #[.int .i64 (k:Nat)] 3):=hid (HS.out.bn.kept HK5.out (HOW.out pn Lx));have HBO:Hid (Blk w5 po #[v] 176):=hid (HS.out.bo.kept HK5.out (HOW.out po Sq));have HR5:Hid (fC B w5 (.slice Iv n5 gV) (ss++(em++[(sym,(x:Int))]))):=hid (by rw[<-List.append_assoc];exact hr5);have c3:w5.cell? ⟨pn,0,none⟩=some (.int .i64 (k:Nat)):=HBN.out.cell 0;have c4:w5.cell? ⟨po,0,none⟩=some v:=HBO.out.cell 0;have f3:w5.frozen? ⟨pn,0,none⟩=false:=HBN.out.frozen 0;have f4:w5.frozen? ⟨po,0,none⟩=false:=HBO.out.frozen 0;clear hr5 d8);go_roundg (gk-1)
    case measure=>omega
    case rel=>
     refine⟨k2,em++[(sym,(x:Int))],.slice Iv n5 gV,by omega,by omega,Sa,hid ⟨?_,?_,?_⟩,hid ?_⟩
     ·exact(HBN.out.kept (Kept.setCell (Kept.refl (·=po) w5) ⟨po,0,none⟩ _ (.inl rfl)) bh).set 0 _
     ·exact(HBO.out.set 0 _).kept (Kept.setCell (Kept.refl (·=pn) _) ⟨pn,0,none⟩ _ (.inl rfl)) (λe=>bh e.symm)
     ·exact RowC.kept HR5.out (((Kept.refl (λj=>j=pn\/j=po) w5).setCell ⟨po,0,none⟩ _ (.inl (.inr rfl))).setCell ⟨pn,0,none⟩ _ (.inl (.inl rfl))) (λj e h=>by have:=HR5.out.ge e;omega)
     ·have h15:Kept (jM pn po B) w1 w5:=Kept.trans HK.out HK5.out (λ_ _ h=>h) (λj _ e=>.inr (.inr (HS.out.row.ge e)));exact(h15.setCell ⟨po,0,none⟩ _ (.inl (.inr (.inl rfl)))).setCell ⟨pn,0,none⟩ _ (.inl (.inl rfl))
  ·have Ok:decide ((lo:Int)<=(k:Int))=false:=(by simp;omega);have HE:Hid (bQ lo hi n=k/\cT sym lo hi n=em):=hid ⟨by rw[HZ.out.2.1,f9 (by omega)],by rw[HZ.out.1,gg (by omega),List.append_nil]⟩;go_wp2_with fail;go_end0;exact⟨⟨_,v,rfl,by rw[HE.out.1,HE.out.2];exact HS.out⟩,HK.out⟩
theorem uF(w:World)(x n:Nat)(hn:n≤400)(hn1:1≤n):
  Calls Tryz.prog 147 #[.int .i64 (x:Nat),.int .i64 (n:Nat)] w λe w'=>∃v',e=.returned v'/\fC w.heap.size w' v' (ej x n)/\Same w w':=by
 obtain⟨W,hW⟩:∃W,W=(w.alloc (.cells #[.int .i64 (n:Nat)] 3)).alloc (.cells #[.slice none 0 0] 176):=⟨_,rfl⟩
 have KK:W.heap.size=w.heap.size+2:=by rw[hW];simp
 have HK:Hid (Same w W):=hid (by rw[hW];exact((Kept.refl _ w).alloc _).alloc _);have hst:I2 W w.heap.size (w.heap.size+1) (w.heap.size+2) n (.slice none 0 0) []:=by have hb2:=Blk.new (w.alloc (.cells #[.int .i64 (n:Nat)] 3)) #[.slice none 0 0] 176;rw[World.size_alloc,<-hW]at hb2;exact⟨by rw[hW];exact(Blk.new w _ _).kept ((Kept.refl (λ_=>False) _).alloc _) (λh=>h),hb2,RowC.nil⟩
 by_cases hx:x=0
 ·subst hx;have H18:=pB W w.heap.size (w.heap.size+1) (w.heap.size+2) n (.slice none 0 0) [] 18 11 138 (by decide) (by decide) hst (by omega) (by omega) (by omega) (by omega) (by simp;omega);have HSAY:Hid (ej 0 n=cT 18 11 138 n++(cT 17 3 10 (bQ 11 138 n)++List.replicate (bQ 3 10 (bQ 11 138 n)) (0,0))):=hid (by unfold ej;rw[if_pos rfl,xB]);clear hst;go_enter Tryz.func147,Tryz.ntmps147;go_wp2_with fail;rw[<-hW];refine H18.mono ?_;rintro e W2 ⟨⟨v2,Wq,rfl,hs2⟩,hk2⟩;have hm:=pi 18 11 138 n (by decide) (by decide);have H17:=pB W2 w.heap.size (w.heap.size+1) (w.heap.size+2) (bQ 11 138 n) Wq _ 17 3 10 (by decide) (by decide) hs2 (by omega) (by omega) (by omega) (by have:=hk2.size;omega) (by simp;omega);have HK2:Hid (Kept (jM w.heap.size (w.heap.size+1) (w.heap.size+2)) W W2):=hk2;clear hs2 hk2 H18 hm;go_wp2_with fail;refine H17.mono ?_;rintro e W3 ⟨⟨v3,V5,rfl,hs3⟩,hk3⟩;obtain⟨ao,n0,cap,rfl⟩:=RowC.slice hs3.row;obtain⟨k,hk⟩:∃k,k=bQ 3 10 (bQ 11 138 n):=⟨_,rfl⟩
  obtain⟨ss,IC⟩:∃ss,ss=[]++cT 18 11 138 n++cT 17 3 10 (bQ 11 138 n):=⟨_,rfl⟩
  rw[<-hk,<-IC]at hs3;have HS3:Hid (I2 W3 w.heap.size (w.heap.size+1) (w.heap.size+2) k (.slice ao n0 cap) ss):=hs3;have HK3:Hid (Kept (jM w.heap.size (w.heap.size+1) (w.heap.size+2)) W W3):=hid (Kept.trans HK2.out hk3 (λ_ _ h=>h) (λ_ _ h=>h));have HSS:Hid (ss=cT 18 11 138 n++cT 17 3 10 (bQ 11 138 n)):=hid (by rw[IC];simp);have HKK:Hid (k=bQ 3 10 (bQ 11 138 n)):=hk;have HLE:Hid (ss.length+k<=400):=hid (by
   have h1:=pi 18 11 138 n (by decide) (by decide);have h2:=pi 17 3 10 (bQ 11 138 n) (by decide) (by decide);rw[IC,hk];simp;omega)
  clear hs3 hk3 hk IC H17 HK2;have HEND:Hid (ej 0 n=ss++List.replicate k (0,0)):=hid (by rw[HSS.out,HSAY.out,<-HKK.out,List.append_assoc]);have hk4:k<=401:=(by have:=HLE.out;omega);have QR:ss.length+k<=401:=(by have:=HLE.out;omega);have HSZ:Hid (w.heap.size+2<=W3.heap.size):=hid (by have:=HK3.out.size;omega);have cN:W3.cell? ⟨w.heap.size,0,none⟩=some (.int .i64 (k:Nat)):=HS3.out.bn.cell 0;have cO:W3.cell? ⟨w.heap.size+1,0,none⟩=some (.slice ao n0 cap):=HS3.out.bo.cell 0;have HREP:Hid (∀W4:World,aR W4 ⟨W3.heap.size,0,none⟩ (j7 (0,0))->Calls Tryz.prog 181 #[.slice (some ⟨W3.heap.size,0,none⟩) 1 1,.int .i64 (k:Nat)] W4 λe w'=>∃g,e=.returned (.slice (some ⟨g,0,none⟩) k k)/\fC W4.heap.size w' (.slice (some ⟨g,0,none⟩) k k) (List.replicate k (0,0))/\Same W4 w'):=hid (λW4 h=>oz W4 _ (0,0) k h (by omega));have HOW:Hid (∀j,j<w.heap.size+2->¬(Value.slice ao n0 cap).ownBlock=some j):=hid (λj hj e=>by have:=HS3.out.row.ge e;omega);go_wp2_with fail;go_region_held3 (λw'=>w'.cell? ⟨w.heap.size,0,none⟩=some (.int .i64 (k:Nat))/\w'.cell? ⟨w.heap.size+1,0,none⟩=some (.slice ao n0 cap))
   (first
    | (go_split_ands;exact⟨hk5.cell (by assumption) (by unfold iK;simp),hk5.cell (by assumption) (by unfold iK;simp)⟩)
    | (go_split_ands;exact⟨hk4.cell (by assumption) (λf=>f),hk4.cell (by assumption) (λf=>f)⟩)
    | go_keep)
   (first
    | (go_at_call 181;refine(HREP.out _ ?_).mono ?_;exact jV _ _ _;rintro e w4 ⟨g,rfl,hr4,hk4⟩)
    | (have hw4:Same W3 w4:=Same.trans (((Kept.refl _ W3).drew).alloc _) hk4;refine ix j7 2 stC_ok (w.heap.size+2) 176 220 (.agg #[.int .i64 0,.int .i64 0]) 16 Tryz.underlying176 Tryz.infoSt rfl (by decide) (by rfl) (.tmp 23) (.tmp 28) (by rfl) (.slice ao n0 cap) ss (by rfl) (RowC.kept HS3.out.row hw4 (λ_ _ f=>f)) ⟨g,0,none⟩ k k (List.replicate k (0,0)) (by rfl) (by simp) (by have h:=hr4.raw.at (k*2);rw[List.take_of_length_le (by rw[aK stC_ok,List.length_replicate];exact Nat.le_refl _)]at h;exact h) (by simp;omega) (by have h:=hw4.size;have:=HSZ.out;omega) ?_;intro v5 w5 hr5 d8;have hk5:Kept (iK (w.heap.size+2)) w4 w5:=(Kept.refl _ w4).grown d8 (λj e=>.inl (HS3.out.row.ge e));clear d8))
  all_goals
   go_wp2_with fail;go_ret;refine⟨v5,rfl,by rw[HEND.out];exact RowC.base hr5 (by omega),?_⟩;have h1:Same w W3:=Same.then HK.out HK3.out (λj hj e=>by unfold jM at e;omega);exact Same.then (Same.trans h1 (Same.trans (((Kept.refl _ W3).drew).alloc _) hk4)) hk5 (λj hj e=>by unfold iK at e;omega)
 ·obtain⟨m,hm⟩:∃m,m=n-1:=⟨_,rfl⟩
  have R4:(n:Int)-1=(m:Int):=(by omega);have VK:((x:Int)==0)=false:=(by simp;omega);have HSAY:Hid (ej x n=((x:Int),0)::(cT 16 3 6 m++List.replicate (bQ 3 6 m) ((x:Int),0))):=hid (by unfold ej;rw[if_neg hx,<-hm,vP]);have HC0:Hid (aR (W.alloc (.cells #[.int .i64 (x:Nat),.int .i64 0] 220)) ⟨w.heap.size+2,0,none⟩ ([((x:Int),0)].flatMap j7)):=hid (by have h:=jV W x 0;rw[KK]at h;exact h);have HST:Hid (I2 W w.heap.size (w.heap.size+1) (w.heap.size+2) n (.slice none 0 0) []):=hst;have HW:Hid (W=(w.alloc (.cells #[.int .i64 (n:Nat)] 3)).alloc (.cells #[.slice none 0 0] 176)):=hW;have Rm:m<=400:=(by omega);clear hst hm hx hW;go_enter Tryz.func147,Tryz.ntmps147;go_wp2_with (at_builtin;refine dV _ (w.heap.size+2) rfl (.tmp 14) (.tmp 17) rfl (.slice none 0 0) [] rfl RowC.nil ⟨w.heap.size+2,0,none⟩ ((x:Int),0) rfl (by have h:=HC0.out;rw[HW.out]at h;exact h) (by simp) (by simp) ?_;intro v5 w5 hr5 d8;rw[<-HW.out]at d8;obtain⟨Iv,n5,gV,fJ⟩:=RowC.slice hr5;subst fJ;have HK5:Hid (Same W w5):=hid (((Kept.refl _ W).alloc _).grown d8 (λj e=>by cases e));have HBN:Hid (Blk w5 w.heap.size #[.int .i64 (n:Nat)] 3):=hid (HST.out.bn.kept HK5.out (λf=>f));have HBO:Hid (Blk w5 (w.heap.size+1) #[.slice none 0 0] 176):=hid (HST.out.bo.kept HK5.out (λf=>f));have HR5:Hid (fC (w.heap.size+2) w5 (.slice Iv n5 gV) [((x:Int),0)]):=hr5;have c3:w5.cell? ⟨w.heap.size,0,none⟩=some (.int .i64 (n:Nat)):=HBN.out.cell 0;have c4:w5.cell? ⟨w.heap.size+1,0,none⟩=some (.slice none 0 0):=HBO.out.cell 0;have f3:w5.frozen? ⟨w.heap.size,0,none⟩=false:=HBN.out.frozen 0;have f4:w5.frozen? ⟨w.heap.size+1,0,none⟩=false:=HBO.out.frozen 0;clear hr5 d8);obtain⟨W2,oh⟩:∃W2,W2=(w5.setCell ⟨w.heap.size+1,0,none⟩ (.slice Iv n5 gV)).setCell ⟨w.heap.size,0,none⟩ (.int .i64 (m:Nat)):=⟨_,rfl⟩
  rw[<-oh];have uv:I2 W2 w.heap.size (w.heap.size+1) (w.heap.size+2) m (.slice Iv n5 gV) [((x:Int),0)]:=by
   rw[oh];refine⟨?_,?_,?_⟩
   ·exact(HBN.out.kept (Kept.setCell (Kept.refl (·=w.heap.size+1) w5) ⟨w.heap.size+1,0,none⟩ _ (.inl rfl)) (by omega)).set 0 _
   ·exact(HBO.out.set 0 _).kept (Kept.setCell (Kept.refl (·=w.heap.size) _) ⟨w.heap.size,0,none⟩ _ (.inl rfl)) (by omega)
   ·exact RowC.kept HR5.out (((Kept.refl (λj=>j=w.heap.size\/j=w.heap.size+1) w5).setCell ⟨w.heap.size+1,0,none⟩ _ (.inl (.inr rfl))).setCell ⟨w.heap.size,0,none⟩ _ (.inl (.inl rfl))) (λj e h=>by have:=HR5.out.ge e;omega)
  have hk2:Kept (jM w.heap.size (w.heap.size+1) (w.heap.size+2)) W W2:=(by rw[oh];exact((HK5.out.mono (λ_ _ f=>f.elim)).setCell ⟨w.heap.size+1,0,none⟩ _ (.inl (.inr (.inl rfl)))).setCell ⟨w.heap.size,0,none⟩ _ (.inl (.inl rfl)));have H16:=pB W2 w.heap.size (w.heap.size+1) (w.heap.size+2) m (.slice Iv n5 gV) [((x:Int),0)] 16 3 6 (by decide) (by decide) uv (by omega) (by omega) (by omega) (by have:=hk2.size;omega) (by simp;omega);have HK2:Hid (Kept (jM w.heap.size (w.heap.size+1) (w.heap.size+2)) W W2):=hk2;clear uv hk2 oh HBN HBO HR5 c3 c4 f3 f4 HK5;refine H16.mono ?_;rintro e W3 ⟨⟨v3,V5,rfl,hs3⟩,hk3⟩;obtain⟨ao,n0,cap,rfl⟩:=RowC.slice hs3.row;obtain⟨k,hk⟩:∃k,k=bQ 3 6 m:=⟨_,rfl⟩
  obtain⟨ss,IC⟩:∃ss,ss=[((x:Int),(0:Int))]++cT 16 3 6 m:=⟨_,rfl⟩
  rw[<-hk,<-IC]at hs3;have HS3:Hid (I2 W3 w.heap.size (w.heap.size+1) (w.heap.size+2) k (.slice ao n0 cap) ss):=hs3;have HK3:Hid (Kept (jM w.heap.size (w.heap.size+1) (w.heap.size+2)) W W3):=hid (Kept.trans HK2.out hk3 (λ_ _ h=>h) (λ_ _ h=>h));have HSS:Hid (ss=[((x:Int),(0:Int))]++cT 16 3 6 m):=IC;have HKK:Hid (k=bQ 3 6 m):=hk;have HLE:Hid (ss.length+k<=401):=hid (by
   have h1:=pi 16 3 6 m (by decide) (by decide);rw[IC,hk];simp;omega)
  clear hs3 hk3 hk IC H16 HK2;have HEND:Hid (ej x n=ss++List.replicate k ((x:Int),0)):=hid (by rw[HSS.out,HSAY.out,HKK.out];simp);have hk4:k<=401:=(by have:=HLE.out;omega);have QR:ss.length+k<=401:=(by have:=HLE.out;omega);have HSZ:Hid (w.heap.size+2<=W3.heap.size):=hid (by have:=HK3.out.size;omega);have cN:W3.cell? ⟨w.heap.size,0,none⟩=some (.int .i64 (k:Nat)):=HS3.out.bn.cell 0;have cO:W3.cell? ⟨w.heap.size+1,0,none⟩=some (.slice ao n0 cap):=HS3.out.bo.cell 0;have HREP:Hid (∀W4:World,aR W4 ⟨W3.heap.size,0,none⟩ (j7 ((x:Int),0))->Calls Tryz.prog 181 #[.slice (some ⟨W3.heap.size,0,none⟩) 1 1,.int .i64 (k:Nat)] W4 λe w'=>∃g,e=.returned (.slice (some ⟨g,0,none⟩) k k)/\fC W4.heap.size w' (.slice (some ⟨g,0,none⟩) k k) (List.replicate k ((x:Int),0))/\Same W4 w'):=hid (λW4 h=>oz W4 _ ((x:Int),0) k h (by omega));have HOW:Hid (∀j,j<w.heap.size+2->¬(Value.slice ao n0 cap).ownBlock=some j):=hid (λj hj e=>by have:=HS3.out.row.ge e;omega);go_wp2_with fail;go_region_held3 (λw'=>w'.cell? ⟨w.heap.size,0,none⟩=some (.int .i64 (k:Nat))/\w'.cell? ⟨w.heap.size+1,0,none⟩=some (.slice ao n0 cap))
   (first
    | (go_split_ands;exact⟨hk5.cell (by assumption) (by unfold iK;simp),hk5.cell (by assumption) (by unfold iK;simp)⟩)
    | (go_split_ands;exact⟨hk4.cell (by assumption) (λf=>f),hk4.cell (by assumption) (λf=>f)⟩)
    | go_keep)
   (first
    | (go_at_call 181;refine(HREP.out _ ?_).mono ?_;exact jV _ _ _;rintro e w4 ⟨g,rfl,hr4,hk4⟩)
    | (have hw4:Same W3 w4:=Same.trans (((Kept.refl _ W3).drew).alloc _) hk4;refine ix j7 2 stC_ok (w.heap.size+2) 176 220 (.agg #[.int .i64 0,.int .i64 0]) 16 Tryz.underlying176 Tryz.infoSt rfl (by decide) (by rfl) (.tmp 23) (.tmp 28) (by rfl) (.slice ao n0 cap) ss (by rfl) (RowC.kept HS3.out.row hw4 (λ_ _ f=>f)) ⟨g,0,none⟩ k k (List.replicate k ((x:Int),0)) (by rfl) (by simp) (by have h:=hr4.raw.at (k*2);rw[List.take_of_length_le (by rw[aK stC_ok,List.length_replicate];exact Nat.le_refl _)]at h;exact h) (by simp;omega) (by have h:=hw4.size;have:=HSZ.out;omega) ?_;intro v5 w5 hr5 d8;have hk5:Kept (iK (w.heap.size+2)) w4 w5:=(Kept.refl _ w4).grown d8 (λj e=>.inl (HS3.out.row.ge e));clear d8))
  all_goals
   go_wp2_with fail;go_ret;refine⟨v5,rfl,by rw[HEND.out];exact RowC.base hr5 (by omega),?_⟩;have h1:Same w W3:=Same.then HK.out HK3.out (λj hj e=>by unfold jM at e;omega);exact Same.then (Same.trans h1 (Same.trans (((Kept.refl _ W3).drew).alloc _) hk4)) hk5 (λj hj e=>by unfold iK at e;omega)
theorem AV(v n:Nat)(h:1<=n):ej v n≠[]:=by
 unfold ej;split
 ·by_cases PH:11<=n
  ·rw[gt n PH];simp
  ·by_cases h3:3<=n
   ·rw[gQ n (by omega) h3];simp
   ·rw[gC n (by omega)];cases n with
    | zero=>omega
    | succ n=>simp[List.replicate_succ]
 ·simp
theorem SrcE.tail2{w:World}{I:Nat→Prop}{b o cap:Nat}{l:List Nat}(h:SrcE am w I (.slice (some ⟨b,o,none⟩) l.length cap) l)(k:Nat)(hk:k≤l.length):
  SrcE am w I (.slice (if cap=k then some ⟨b,o,none⟩else some ⟨b,o+k,none⟩) (l.length-k) (cap-k)) (l.drop k):=by
 obtain⟨ao,cap',e,hc,_⟩:=id h;simp only[Value.slice.injEq]at e;obtain⟨_,_,rfl⟩:=e;split
 ·exact h.tail k o hk (λh2=>by omega)
 ·exact h.tail k (o+k) hk (λ_=>rfl)
theorem RowC.at{α:Type}{B t k:Nat}{enc:α->List Value}(ok:dI enc k){w:World}{g n cap:Nat}{xs:List α}(h:RowC B t k enc w (.slice (some ⟨g,0,none⟩) n cap) xs):aR w ⟨g,0,none⟩ (xs.flatMap enc):=by
 have hl:=h.len;subst hl;intro j u hu;have hj:j<(xs.flatMap enc).length:=(List.getElem?_eq_some_iff.1 hu).1;rw[aK ok]at hj;have e:(⟨g,0,none⟩:Addr).add j=⟨g,j,none⟩:=by unfold Addr.add;split<;>simp_all
 rw[e,h.cellAt j hj,hu]
theorem zM(w:World)(v:Value)(I:Nat→Prop)(zs:List Int)(ns:List Nat)(hs:SrcE bI w I v zs)(hl:zs.length≤316)(hok:cH zs=true)(hns:ns=zs.map Int.toNat):
  Calls Tryz.prog 115 #[v] w λe w'=>∃v',e=.returned (.tuple #[v',.int .i64 0])/\fC w.heap.size w' v' (aZ ns)/\Same w w':=by
 have hb:=(eQ zs).1 hok;have eN:ns.map am=zs.map bI:=by rw[hns,List.map_map];refine List.map_congr_left (λz hz=>?_);simp only[Function.comp,am,bI];rw[Int.toNat_of_nonneg (hb z hz).1]
 obtain⟨ao,cap,rfl,fO,fX⟩:=id hs;clear fO fX;have HCT:=lh w _ I zs hs (by omega);rw[hok]at HCT;have HS:Hid (SrcE am w I (.slice ao zs.length cap) ns):=hid (hs.recode eN);have ri:zs.length=ns.length:=by rw[hns];simp
 obtain⟨L,hL⟩:∃L,L=zs.length:=⟨_,rfl⟩
 rw[<-hL]at HCT HS hl ⊢;have HL:Hid (L=ns.length):=hid (by omega);have b1:decide ((316:Int)<(L:Int))=false:=by simp;omega
 clear hs hb hok hns eN ri hL;go_enter Tryz.func115,Tryz.ntmps115;go_wp2_with fail;refine HCT.mono ?_;rintro e w1 ⟨rfl,hw1⟩;subst hw1;clear HCT;go_wp2_with fail;clear b1;go_loopg [0,5,6] L (λq zl zo _ wr=>∃(i d:Nat) (a2:Option Addr) (c2:Nat) (ss:List (Int×Int)),d<=q/\i+d=L/\zl=.slice a2 d c2/\Hid (SrcE am w1 I (.slice a2 d c2) (ns.drop i))/\Hid (aZ ns=ss++aZ (ns.drop i)/\ss.length<=i)/\Hid (fC w1.heap.size wr zo ss)/\Hid (Same w1 wr))
 case atStart=>exact⟨0,L,ao,cap,[],by omega,by omega,rfl,hid (by simpa using HS.out),hid ⟨by simp,by simp⟩,RowC.nil,Kept.refl _ _⟩
 case round=>
  clear HS;obtain⟨i,d,a2,c2,ss,hq,hi,rfl,HS,HP,HO,HK⟩:=hrel;by_cases hlt:0<d
  ·have ye:i<ns.length:=(by have:=HL.out;omega);have Nd:ns.drop i=ns[i]::ns.drop (i+1):=List.drop_eq_getElem_cons ye;obtain⟨y,hy⟩:∃y,y=ns[i]:=⟨_,rfl⟩
   rw[<-hy]at Nd;obtain⟨r,hr⟩:∃r,r=ns.drop (i+1):=⟨_,rfl⟩
   rw[<-hr]at Nd;have ag:(y::r).length=d:=(by rw[<-Nd,List.length_drop];have:=HL.out;omega);have hS2:=HS.out;rw[Nd]at hS2;obtain⟨b,o,cap',e,_,_,cx⟩:=hS2.get 0 (by simp);simp only[Value.slice.injEq]at e;obtain⟨rfl,jt,rfl⟩:=e;clear jt;have Sf:wr.cell? ⟨b,o,none⟩=some (.int .i64 (y:Nat)):=HK.out.cell cx (λf=>f);rw[<-ag]at hS2;have HAL:=D4 wr b o c2 I y r (hS2.same HK.out) (by omega);have hf:=ks y r;obtain⟨n,hn⟩:∃n,n=1+bG y r:=⟨_,rfl⟩
   have hn1:1<=n:=(by omega);have ri:n<=d:=(by simp at ag;omega);have HT2:Hid (SrcE am w1 I (.slice (if c2=n then some ⟨b,o,none⟩else some ⟨b,o+n,none⟩) (d-n) (c2-n)) (ns.drop (i+n))):=hid (by
    have h:=hS2.tail2 n (by omega);rw[ag,<-Nd,List.drop_drop]at h;exact h)
   have HP2:Hid (aZ ns=ss++(ej y n++aZ (ns.drop (i+n)))):=hid (by
    rw[HP.out.1];have h:=zE ns i n ye (by rw[<-hy,<-hr];exact hn);rw[<-hy]at h;rw[h])
   have HSL:Hid ((ej y n).length<=n/\ej y n≠[]):=hid ⟨wX y n hn1,AV y n hn1⟩;rw[<-hn,ag]at HAL;clear ag Nd hy hr hS2 cx hn hf;go_wp2_with fail;refine HAL.mono ?_;rintro e w2 ⟨rfl,hk2⟩;have HK2:Hid (Same wr w2):=hk2;have Vm:w2.cell? ⟨b,o,none⟩=some (.int .i64 (y:Nat)):=hk2.cell Sf (λf=>f);have HPR:=uF w2 y n (by omega) hn1;clear hk2 HAL Sf;go_wp2_with fail;refine HPR.mono ?_;rintro e w3 ⟨v3,rfl,hr3,hk3⟩;obtain⟨XI,kR,pc,jH,_⟩:=hr3.shape;obtain⟨g3,rfl⟩:=jH HSL.out.2;subst pc;obtain⟨m3,hm3⟩:∃m,m=(ej y n).length:=⟨_,rfl⟩
   rw[<-hm3]at hr3 ⊢;have HR3:Hid (fC w2.heap.size w3 (.slice (some ⟨g3,0,none⟩) m3 kR) (ej y n)):=hr3;have HK3:Hid (Same wr w3):=hid (Same.trans HK2.out hk3);have HC3:Hid (aR w3 ⟨g3,0,none⟩ ((ej y n).flatMap j7)):=hid (RowC.at stC_ok hr3);have HM3:Hid ((ej y n).length=m3):=hid hm3.symm;have TC:ss.length+(ej y n).length<=1000:=(by have h1:=HP.out.2;have h2:=HSL.out.1;omega);have ul:w1.heap.size<=w3.heap.size:=(by have h1:=HK.out.size;have h2:=HK3.out.size;omega);clear hr3 hk3 HPR hm3 jH Vm;have m6:(0:Int)<=(n:Int):=(by omega);go_wp2_with (at_builtin;refine dR _ j7 2 stC_ok (by decide) w1.heap.size 176 220 (.agg #[.int .i64 0,.int .i64 0]) 16 Tryz.underlying176 Tryz.infoSt rfl (by decide) rfl (.tmp 20) (.tmp 25) rfl u5 ss rfl (RowC.kept HO.out HK3.out (λ_ _ f=>f)) ⟨g3,0,none⟩ m3 kR (ej y n) rfl HM3.out HC3.out (by omega) ul ?_;intro v5 w5 hr5 d8;have HR5:Hid (fC w1.heap.size w5 v5 (ss++ej y n)):=hr5;have HK5:Hid (Same w1 w5):=hid ((Same.trans HK.out HK3.out).grown d8 (λj e=>.inr (HO.out.ge e)));clear hr5 d8)
   all_goals
    go_roundg (gk-1)
    case measure=>omega
    case rel=>exact⟨i+n,d-n,_,_,ss++ej y n,by omega,by omega,rfl,hid (by first | simpa using HT2.out | simpa[*]using HT2.out),hid ⟨by rw[HP2.out,List.append_assoc],by have h1:=HP.out.2;have h2:=HSL.out.1;simp;omega⟩,HR5,HK5⟩
  ·have yk:d=0:=(by omega);have HE:Hid (aZ ns=ss):=hid (by rw[HP.out.1,List.drop_eq_nil_of_le (by have:=HL.out;omega)];simp[aZ]);subst yk;clear hlt;go_wp2_with fail;go_ret2;exact⟨_,rfl,by rw[HE.out];exact HO.out,HK.out⟩
theorem DP(w:World)(v:Value)(I:Nat→Prop)(zs:List Int)(hs:SrcE bI w I v zs)(hn:zs.length≤10000000)(hb:316<zs.length∨cH zs=false):
  Calls Tryz.prog 115 #[v] w λe w'=>e=.returned (.tuple #[.slice none 0 0,.int .i64 1])/\Same w w':=by
 obtain⟨ao,cap,rfl,fO,fX⟩:=id hs;clear fO fX;have HCT:=lh w _ I zs hs hn;clear hs;by_cases hl:316<zs.length
 ·have b1:decide ((316:Int)<(zs.length:Int))=true:=(by simp;omega);clear hb hl;go_enter Tryz.func115,Tryz.ntmps115;go_wp2_with fail;go_ret2;exact⟨rfl,Kept.refl _ _⟩
 ·have b1:decide ((316:Int)<(zs.length:Int))=false:=(by simp;omega);have hok:cH zs=false:=by rcases hb with h | h;omega;exact h
  rw[hok]at HCT;clear hb hl hok;go_enter Tryz.func115,Tryz.ntmps115;go_wp2_with fail;refine HCT.mono ?_;rintro e w1 ⟨rfl,hw1⟩;subst hw1;clear HCT;go_wp2_with fail;go_ret2;exact⟨rfl,Kept.refl _ _⟩
theorem CL(w:World)(v:Value)(I:Nat→Prop)(zs:List Int)(hs:SrcE bI w I v zs)(hn:zs.length≤10000000):
  Calls Tryz.prog 115 #[v] w λe w'=>Nf w w' e (sK zs):=by
 by_cases hb:316<zs.length\/cH zs=false
 ·rw[Ct hb];exact DP w v I zs hs hn hb
 ·have h2:cH zs=true:=by
   cases h:cH zs with
   | true=>rfl
   | false=>exact absurd (.inr h) hb
  have h1:zs.length<=316:=Nat.le_of_not_lt (λh=>hb (.inl h));rw[qO h1 h2];exact zM w v I zs _ hs h1 h2 rfl
end Go.Proofs.YtllcnlnbpikhdaaGreatDoor
