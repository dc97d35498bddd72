import Derived.Test.YtkhagfgineifhaaGreatDoorLnPgM
import Derived.Test.YtkhagfgineifhaaGreatDoorLnRef
import Derived.Test.YtkhagfgineifhaaGreatDoorRowX
set_option maxHeartbeats 2000000
set_option maxRecDepth 100000
namespace Go.Proofs.YtkhagfgineifhaaGreatDoor
open Go.RowKit
def AP(n lo hi:Int):Bool:=decide (lo<=n) && decide (n<=hi)
theorem gL(w:World)(n lo hi:Int):
  Calls Tryz.prog 124 #[.int .i64 n,.int .i64 lo,.int .i64 hi] w λe w'=>e=.returned (.bool (AP n lo hi))/\w'=w:=by
 go_enter Tryz.func124,Tryz.ntmps124;by_cases h:lo<=n
 ·go_wp2_with fail;go_ret;exact⟨by simp only[AP,h,decide_true,Bool.true_and];rfl,rfl⟩
 ·go_wp2_with fail;go_ret;have hd:decide (lo<=n)=false:=(by simp;omega);exact⟨by simp only[AP,hd,Bool.false_and];rfl,rfl⟩
theorem iQ(w:World)(s:Int):
  Calls Tryz.prog 158 #[.int .i64 s] w λe w'=>e=.returned (.tuple #[.int .i64 (b7 s:Nat),.int .i64 (cI s:Nat)])/\w'=w:=by
 by_cases sA:s=16
 ·subst sA;go_enter Tryz.func158,Tryz.ntmps158;go_wp2_with fail;go_ret2;exact⟨rfl,rfl⟩
 ·by_cases Mz:s=17
  ·subst Mz;go_enter Tryz.func158,Tryz.ntmps158;go_wp2_with fail;go_ret2;exact⟨rfl,rfl⟩
  ·by_cases Co:s=18
   ·subst Co;go_enter Tryz.func158,Tryz.ntmps158;go_wp2_with fail;go_ret2;exact⟨rfl,rfl⟩
   ·have NT:(s==16)=false:=(by simp;omega);have Px:(s==17)=false:=(by simp;omega);have OP:(s==18)=false:=(by simp;omega);have HE:Hid (b7 s=1/\cI s=0):=hid ⟨by unfold b7;rw[if_neg sA,if_neg Mz,if_neg Co],by unfold cI;rw[if_neg sA,if_neg Mz,if_neg Co]⟩;clear sA Mz Co;go_enter Tryz.func158,Tryz.ntmps158;go_wp2_with fail;go_ret2;exact⟨by rw[HE.out.1,HE.out.2];rfl,rfl⟩
theorem t8(n:Nat)(h:n<=7):(2:Nat) ^ n<=128:=by have:=Nat.pow_le_pow_right (show 0<2 by decide) h;simpa using this
def MayR(e:Ending)(s:Int×Int)(said n:Nat):Prop:=∃r:Bool,e=.returned (.bool r)/\(r=true↔i9 s said n)
theorem MayR.no{e:Ending}{s:Int×Int}{said n:Nat}(h:MayR e s said n)(hm:¬i9 s said n):e=.returned (.bool false):=by
 obtain⟨r,rfl,hr⟩:=h;cases r with
 | false=>rfl
 | true=>exact absurd (hr.1 rfl) hm
theorem MayR.yes{e:Ending}{s:Int×Int}{said n:Nat}(h:MayR e s said n)(hm:i9 s said n):e=.returned (.bool true):=by obtain⟨r,rfl,hr⟩:=h;rw[hr.2 hm]
theorem ud(w:World)(a b:Int)(said n:Nat)(hs:said≤1000000):
  Calls Tryz.prog 210 #[.agg #[.int .i64 a,.int .i64 b],.int .i64 (said:Nat),.int .i64 (n:Nat)] w λe w'=>MayR e (a,b) said n/\Same w w':=by
 have Cy:=oj a;have kY:=nP a;have HSH:=iQ (w.alloc (.cells #[.int .i64 a,.int .i64 b] 226)) a;obtain⟨wd,my⟩:∃x,x=cI a:=⟨_,rfl⟩
 obtain⟨ls,yw⟩:∃x,x=b7 a:=⟨_,rfl⟩
 rw[<-my]at HSH Cy;rw[<-yw]at HSH kY;have HM:Hid (i9 (a,b) said n↔(0<=a/\a<=18/\0<=b/\b<2 ^ wd/\¬(a=16/\said=0)/\(said+ls:Nat)+b<=n)):=hid (by rw[my,yw];exact Iff.rfl);clear my yw;have A3:=t8 wd Cy;have yO:0<2 ^ wd:=Nat.two_pow_pos wd;obtain⟨pw,ml⟩:∃x,x=2 ^ wd:=⟨_,rfl⟩
 obtain⟨pm,VN⟩:∃x:Nat,x=pw-1:=⟨_,rfl⟩
 rw[<-ml]at A3 yO;have HM2:Hid (i9 (a,b) said n↔(AP a 0 18=true/\AP b 0 (pm:Int)=true/\¬(a=16/\said=0)/\(said+ls:Nat)+b<=n)):=hid (by
  rw[HM.out];have:(2:Int) ^ wd=(pw:Int):=(by rw[ml];simp);rw[this];simp only[AP,Bool.and_eq_true,decide_eq_true_eq];omega)
 have I1:wrap64 ((2:Int) ^ wd)=(pw:Int):=by have:(2:Int) ^ wd=(pw:Int):=(by rw[ml];simp);rw[this];unfold wrap64;omega
 have jE:(pw:Int)-1=(pm:Int):=by omega
 have HW1:=λq=>gL ((w.alloc (.cells #[.int .i64 a,.int .i64 b] 226)).drewN q) a 0 18
 have HW2:=λq=>gL ((w.alloc (.cells #[.int .i64 a,.int .i64 b] 226)).drewN q) b 0 (pm:Int)
 clear HM ml;have Wi:pm<=127:=by omega
 clear VN;go_enter Tryz.func210,Tryz.ntmps210;go_wp2_with fail;refine HSH.mono ?_;rintro e w1 ⟨rfl,rfl⟩;clear HSH;have HK0:Hid (Same w (w.alloc (.cells #[.int .i64 a,.int .i64 b] 226))):=hid ((Kept.refl _ w).alloc _);have cB:(w.alloc (.cells #[.int .i64 a,.int .i64 b] 226)).cell? ⟨w.heap.size,1,none⟩=some (.int .i64 b):=by simp
 have cA:(w.alloc (.cells #[.int .i64 a,.int .i64 b] 226)).cell? ⟨w.heap.size,0,none⟩=some (.int .i64 a):=by simp
 generalize w.alloc (.cells #[.int .i64 a,.int .i64 b] 226)=W at *
 cases h1:AP a 0 18 with
 | false=>
  have HE:Hid (¬i9 (a,b) said n):=hid (λh=>by have:=(HM2.out.1 h).1;rw[h1]at this;cases this);rw[h1]at HW1;clear h1;go_wp2_with fail;go_quiet ((go_at_call 124;exact Calls.quiet_of_same (HW1 _)));go_wp2_with fail;go_ret;exact⟨⟨false,rfl,by simp[HE.out]⟩,HK0.out.drewN _⟩
 | true=>
  rw[h1]at HW1;cases h2:AP b 0 (pm:Int) with
  | false=>
   have HE:Hid (¬i9 (a,b) said n):=hid (λh=>by have:=(HM2.out.1 h).2.1;rw[h2]at this;cases this);rw[h2]at HW2;clear h1 h2;go_wp2_with fail;go_quiet ((go_at_call 124;first | (with_reducible exact Calls.quiet_of_same (HW1 _)) | (with_reducible exact Calls.quiet_of_same (HW2 _))));go_wp2_with fail;go_ret;exact⟨⟨false,rfl,by simp[HE.out]⟩,HK0.out.drewN _⟩
  | true=>
   rw[h2]at HW2;have hb:0<=b/\b<=(pm:Int):=(by simpa[AP]using h2);have HM3:Hid (i9 (a,b) said n↔(¬(a=16/\said=0)/\(said+ls:Nat)+b<=n)):=hid (by rw[HM2.out,h1,h2];simp);obtain⟨bn,rfl⟩:∃x:Nat,b=(x:Int):=⟨b.toNat,by omega⟩
   have YB:bn<=127:=(by omega);obtain⟨t,ht⟩:∃t,t=said+ls:=⟨_,rfl⟩
   have htI:(said:Int)+(ls:Int)=(t:Int):=(by omega);have S8:IntKind.i64.wrap (t:Int)=(t:Int):=(by rw[IntKind.wrap_i64];omega);obtain⟨u,hu⟩:∃u,u=t+bn:=⟨_,rfl⟩
   have YT:(t:Int)+(bn:Int)=(u:Int):=(by omega);have Y9:IntKind.i64.wrap (u:Int)=(u:Int):=(by rw[IntKind.wrap_i64];omega);have HM4:Hid (i9 (a,(bn:Int)) said n↔(¬(a=16/\said=0)/\u<=n)):=hid (by
    rw[HM3.out];have:((said+ls:Nat):Int)+(bn:Int)<=(n:Int)↔u<=n:=(by omega);rw[this])
   clear h1 h2 hb HM3 HM2 ht hu;go_wp2_with fail;go_quiet ((go_at_call 124;first | (with_reducible exact Calls.quiet_of_same (HW1 _)) | (with_reducible exact Calls.quiet_of_same (HW2 _))));by_cases sA:a=16
   ·subst sA;by_cases h0:said=0
    ·have HE:Hid (¬i9 (16,(bn:Int)) 0 n):=hid (λh=>(HM4.out.1 (by rw[h0];exact h)).1 ⟨rfl,h0⟩);have SF:((said:Int)==0)=true:=(by simp[h0]);go_wp2_with fail;go_ret;exact⟨⟨false,rfl,by simp[HE.out]⟩,HK0.out.drewN _⟩
    ·have SF:((said:Int)==0)=false:=(by simp[h0]);have HE:Hid (i9 (16,(bn:Int)) said n↔u<=n):=hid (by rw[HM4.out];simp[h0]);clear h0;go_wp2_with fail;go_ret;exact⟨⟨_,rfl,by rw[HE.out];simp⟩,HK0.out.drewN _⟩
   ·have X8:(a==16)=false:=(by simp[sA]);have HE:Hid (i9 (a,(bn:Int)) said n↔u<=n):=hid (by rw[HM4.out];simp[sA]);clear sA;go_wp2_with fail;go_ret;exact⟨⟨_,rfl,by rw[HE.out];simp⟩,HK0.out.drewN _⟩
theorem Ka(w:World)(B:Nat)(v:Value)(l:List Nat)(a b:Int)(n:Nat)(hr:NRow B w v l)(hB:B≤w.heap.size)(hl:l.length≤1000000)(hm:i9 (a,b) l.length n):
  Calls Tryz.prog 211 #[v,.agg #[.int .i64 a,.int .i64 b]] w λe w'=>∃v',e=.returned v'/\NRow B w' v' (l++List.replicate (b7 a+b.toNat) (nh a l))/\Kept (jd B) w w':=by
 obtain⟨ao,cap,rfl,Lk,_⟩:=hr.shape;obtain⟨h1,h2,h3,h4,h5,h6⟩:=hm;simp only at h1 h2 h3 h4 h5 h6;have Cy:=oj a;have kY:=nP a;have A3:=t8 _ Cy;have YA:b<128:=by have:((2 ^ cI a:Nat):Int)=2 ^ cI a:=(by simp);omega
 obtain⟨bn,rfl⟩:∃x:Nat,b=(x:Int):=⟨b.toNat,by omega⟩
 obtain⟨an,rfl⟩:∃x:Nat,a=(x:Int):=⟨a.toNat,by omega⟩
 obtain⟨ls,yw⟩:∃x,x=b7 (an:Int):=⟨_,rfl⟩
 have HSH:=iQ (w.alloc (.cells #[.int .i64 (an:Int),.int .i64 (bn:Int)] 226)) (an:Int);rw[<-yw]at HSH kY ⊢;rw[Int.toNat_natCast];obtain⟨k,hk⟩:∃k,k=ls+bn:=⟨_,rfl⟩
 have KF:(ls:Int)+(bn:Int)=(k:Int):=by omega
 have uQ:IntKind.i64.wrap (k:Int)=(k:Int):=by rw[IntKind.wrap_i64];omega
 rw[<-hk];have UC:k<=138:=by omega
 obtain⟨x,hx⟩:∃x,x=nh (an:Int) l:=⟨_,rfl⟩
 rw[<-hx];have HR:Hid (NRow B (w.alloc (.cells #[.int .i64 (an:Int),.int .i64 (bn:Int)] 226)) (.slice ao l.length cap) l):=hid (World.ownsRow.alloc hr _);have HK0:Hid (Kept (jd B) w (w.alloc (.cells #[.int .i64 (an:Int),.int .i64 (bn:Int)] 226))):=hid ((Kept.refl _ w).alloc _);have cB:(w.alloc (.cells #[.int .i64 (an:Int),.int .i64 (bn:Int)] 226)).cell? ⟨w.heap.size,1,none⟩=some (.int .i64 (bn:Int)):=by simp
 have cA:(w.alloc (.cells #[.int .i64 (an:Int),.int .i64 (bn:Int)] 226)).cell? ⟨w.heap.size,0,none⟩=some (.int .i64 (an:Int)):=by simp
 have dA:B<=(w.alloc (.cells #[.int .i64 (an:Int),.int .i64 (bn:Int)] 226)).heap.size:=by simp;omega
 have O0:∀W:World,W=w.alloc (.cells #[.int .i64 (an:Int),.int .i64 (bn:Int)] 226)->True:=λ_ _=>trivial
 clear O0;obtain⟨L,hL⟩:∃L,L=l.length:=⟨_,rfl⟩
 have HL:Hid (L=l.length):=hL;have Zg:Hid (l≠[]->∃g,ao=some ⟨g,0,none⟩):=Lk;have H5:Hid (¬((an:Int)=16/\l.length=0)):=h5;have HX:Hid (x=nh (an:Int) l):=hx;rw[<-hL]at HR hl ⊢;clear hr yw hk hx hL h3 h4 h5 h6 Cy A3 YA Lk h1;go_enter Tryz.func211,Tryz.ntmps211;go_wp2_with fail;refine HSH.mono ?_;rintro e w1 ⟨rfl,hw1⟩;subst hw1;clear HSH;generalize w.alloc (.cells #[.int .i64 (an:Int),.int .i64 (bn:Int)] 226)=W at *
 by_cases sA:an=16
 ·subst sA;have W7:0<L:=(by have:=HL.out;have:=H5.out;omega);have Sv:0<l.length:=(by have:=HL.out;omega);obtain⟨b2,o2,eS,e2,_,_,c2⟩:=(SrcE.ofRow HR.out).get (l.length-1) (by omega);simp only[Value.slice.injEq]at e2;obtain⟨rfl,jC,rfl⟩:=e2;clear jC;have mr:l[l.length-1]=x:=(by rw[HX.out];simp[nh,j8,List.getD,show l.length-1<l.length by omega]);rw[mr,<-HL.out]at c2;unfold am at c2;obtain⟨m,hm⟩:∃m,m=L-1:=⟨_,rfl⟩
  rw[<-hm]at c2;have Tj:(L:Int)-1=(m:Int):=(by omega);have Qu:m<L:=(by omega);have YK:IntKind.i64.wrap (m:Int)=(m:Int):=(by rw[IntKind.wrap_i64];omega);clear hm mr Sv W7;go_wp2_with fail;go_loopg [0,32] k (λq zv zi wr=>∃(i:Nat),k-i<=q/\i<=k/\zi=.int .i64 (i:Nat)/\Hid (NRow B wr zv (l++List.replicate i x))/\Hid (Kept (jd B) w wr))
  case atStart=>exact⟨0,by omega,by omega,rfl,hid (by simpa using HR.out),HK0⟩
  case round=>
   clear HR HK0 cA cB;obtain⟨i,hq,hi,rfl,HV,HK⟩:=hrel;by_cases hlt:i<k
   ·have lr:=HK.out.size;have HLN:Hid ((l++List.replicate i x).length+[x].length<=1000000000):=hid (by have:=HL.out;simp;omega);go_wp2_with (at_builtin;refine aY _ am dK B 143 3 (am 0) 8 Tryz.underlying143 Tryz.infoN rfl (by decide) rfl (.tmp 34) (.tmp 36) rfl u0 (l++List.replicate i x) rfl (World.ownsRow.alloc HV.out _) ⟨wr.heap.size,0,none⟩ 1 1 [x] rfl rfl (bA _ _ _) HLN.out (by simp;omega) ?_;intro v5 w5 hr5 ef);have HV5:Hid (NRow B w5 v5 (l++List.replicate (i+1) x)):=hid (by rw[List.replicate_succ',<-List.append_assoc];exact hr5);have HK5:Hid (Kept (jd B) w w5):=hid ((HK.out.alloc _).grown ef (λj e=>.inl (HV.out.ge e)));clear hr5 ef;go_wp2_with fail;go_roundg (gk-1)
    case measure=>omega
    case rel=>exact⟨i+1,by omega,by omega,by go_num,HV5,HK5⟩
   ·have Ik:i=k:=(by omega);subst Ik;go_wp2_with fail;go_ret;exact⟨_,rfl,HV.out,HK.out⟩
 ·have NT:((an:Int)==16)=false:=(by simp;omega);by_cases Mz:an=17
  ·subst Mz;have yH:x=0:=(by rw[HX.out];simp[nh]);subst yH;go_wp2_with fail;go_loopg [0,32] k (λq zv zi wr=>∃(i:Nat),k-i<=q/\i<=k/\zi=.int .i64 (i:Nat)/\Hid (NRow B wr zv (l++List.replicate i 0))/\Hid (Kept (jd B) w wr))
   case atStart=>exact⟨0,by omega,by omega,rfl,hid (by simpa using HR.out),HK0⟩
   case round=>
    clear HR HK0 cA cB;obtain⟨i,hq,hi,rfl,HV,HK⟩:=hrel;by_cases hlt:i<k
    ·have lr:=HK.out.size;have HLN:Hid ((l++List.replicate i 0).length+[0].length<=1000000000):=hid (by have:=HL.out;simp;omega);go_wp2_with (at_builtin;refine aY _ am dK B 143 3 (am 0) 8 Tryz.underlying143 Tryz.infoN rfl (by decide) rfl (.tmp 34) (.tmp 36) rfl u0 (l++List.replicate i 0) rfl (World.ownsRow.alloc HV.out _) ⟨wr.heap.size,0,none⟩ 1 1 [0] rfl rfl (bA _ _ _) HLN.out (by simp;omega) ?_;intro v5 w5 hr5 ef);have HV5:Hid (NRow B w5 v5 (l++List.replicate (i+1) 0)):=hid (by rw[List.replicate_succ',<-List.append_assoc];exact hr5);have HK5:Hid (Kept (jd B) w w5):=hid ((HK.out.alloc _).grown ef (λj e=>.inl (HV.out.ge e)));clear hr5 ef;go_wp2_with fail;go_roundg (gk-1)
     case measure=>omega
     case rel=>exact⟨i+1,by omega,by omega,by go_num,HV5,HK5⟩
    ·have Ik:i=k:=(by omega);subst Ik;go_wp2_with fail;go_ret;exact⟨_,rfl,HV.out,HK.out⟩
  ·have Px:((an:Int)==17)=false:=(by simp;omega);by_cases Co:an=18
   ·subst Co;have yH:x=0:=(by rw[HX.out];simp[nh]);subst yH;go_wp2_with fail;go_loopg [0,32] k (λq zv zi wr=>∃(i:Nat),k-i<=q/\i<=k/\zi=.int .i64 (i:Nat)/\Hid (NRow B wr zv (l++List.replicate i 0))/\Hid (Kept (jd B) w wr))
    case atStart=>exact⟨0,by omega,by omega,rfl,hid (by simpa using HR.out),HK0⟩
    case round=>
     clear HR HK0 cA cB;obtain⟨i,hq,hi,rfl,HV,HK⟩:=hrel;by_cases hlt:i<k
     ·have lr:=HK.out.size;have HLN:Hid ((l++List.replicate i 0).length+[0].length<=1000000000):=hid (by have:=HL.out;simp;omega);go_wp2_with (at_builtin;refine aY _ am dK B 143 3 (am 0) 8 Tryz.underlying143 Tryz.infoN rfl (by decide) rfl (.tmp 34) (.tmp 36) rfl u0 (l++List.replicate i 0) rfl (World.ownsRow.alloc HV.out _) ⟨wr.heap.size,0,none⟩ 1 1 [0] rfl rfl (bA _ _ _) HLN.out (by simp;omega) ?_;intro v5 w5 hr5 ef);have HV5:Hid (NRow B w5 v5 (l++List.replicate (i+1) 0)):=hid (by rw[List.replicate_succ',<-List.append_assoc];exact hr5);have HK5:Hid (Kept (jd B) w w5):=hid ((HK.out.alloc _).grown ef (λj e=>.inl (HV.out.ge e)));clear hr5 ef;go_wp2_with fail;go_roundg (gk-1)
      case measure=>omega
      case rel=>exact⟨i+1,by omega,by omega,by go_num,HV5,HK5⟩
     ·have Ik:i=k:=(by omega);subst Ik;go_wp2_with fail;go_ret;exact⟨_,rfl,HV.out,HK.out⟩
   ·have OP:((an:Int)==18)=false:=(by simp;omega);have yH:x=an:=(by rw[HX.out];unfold nh;rw[if_neg (by omega),if_neg (by omega)];simp);clear sA Mz Co;subst yH;go_wp2_with fail;go_loopg [0,32] k (λq zv zi wr=>∃(i:Nat),k-i<=q/\i<=k/\zi=.int .i64 (i:Nat)/\Hid (NRow B wr zv (l++List.replicate i x))/\Hid (Kept (jd B) w wr))
    case atStart=>exact⟨0,by omega,by omega,rfl,hid (by simpa using HR.out),HK0⟩
    case round=>
     clear HR HK0 cA cB;obtain⟨i,hq,hi,rfl,HV,HK⟩:=hrel;by_cases hlt:i<k
     ·have lr:=HK.out.size;have HLN:Hid ((l++List.replicate i x).length+[x].length<=1000000000):=hid (by have:=HL.out;simp;omega);go_wp2_with (at_builtin;refine aY _ am dK B 143 3 (am 0) 8 Tryz.underlying143 Tryz.infoN rfl (by decide) rfl (.tmp 34) (.tmp 36) rfl u0 (l++List.replicate i x) rfl (World.ownsRow.alloc HV.out _) ⟨wr.heap.size,0,none⟩ 1 1 [x] rfl rfl (bA _ _ _) HLN.out (by simp;omega) ?_;intro v5 w5 hr5 ef);have HV5:Hid (NRow B w5 v5 (l++List.replicate (i+1) x)):=hid (by rw[List.replicate_succ',<-List.append_assoc];exact hr5);have HK5:Hid (Kept (jd B) w w5):=hid ((HK.out.alloc _).grown ef (λj e=>.inl (HV.out.ge e)));clear hr5 ef;go_wp2_with fail;go_roundg (gk-1)
      case measure=>omega
      case rel=>exact⟨i+1,by omega,by omega,by go_num,HV5,HK5⟩
     ·have Ik:i=k:=(by omega);subst Ik;go_wp2_with fail;go_ret;exact⟨_,rfl,HV.out,HK.out⟩
end Go.Proofs.YtkhagfgineifhaaGreatDoor
