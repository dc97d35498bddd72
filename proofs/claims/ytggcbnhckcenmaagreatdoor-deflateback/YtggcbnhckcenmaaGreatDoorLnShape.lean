import Derived.Test.YtggcbnhckcenmaaGreatDoorLnPgM
import Derived.Test.YtggcbnhckcenmaaGreatDoorLnRef
import Derived.Test.YtggcbnhckcenmaaGreatDoorRowX
namespace Go.Proofs.YtggcbnhckcenmaaGreatDoor
open Go.RowKit

def inB(n lo hi:Int):Bool:=decide (lo≤n) && decide (n≤hi)

set_option maxHeartbeats 1000000 in
theorem within_any(w:World)(n lo hi:Int):
  Calls Tryz.prog 93 #[.int .i64 n,.int .i64 lo,.int .i64 hi] w fun e w'=>e=.returned (.bool (inB n lo hi))∧w'=w:=by
 go_enter Tryz.func93,Tryz.ntmps93
 by_cases h:lo≤n
 ·go_wp2_with fail
  go_ret
  exact⟨by simp only[inB,h,decide_true,Bool.true_and];rfl,rfl⟩
 ·go_wp2_with fail
  go_ret
  have hd:decide (lo≤n)=false:=by simp;omega
  exact⟨by simp only[inB,hd,Bool.false_and];rfl,rfl⟩

set_option maxHeartbeats 1000000 in
theorem shape_any(w:World)(s:Int):
  Calls Tryz.prog 132 #[.int .i64 s] w fun e w'=>e=.returned (.tuple #[.int .i64 (leastM s:Nat),.int .i64 (widthM s:Nat)])∧w'=w:=by
 by_cases h16:s=16
 ·subst h16
  go_enter Tryz.func132,Tryz.ntmps132
  go_wp2_with fail
  go_ret2
  exact⟨rfl,rfl⟩
 ·by_cases h17:s=17
  ·subst h17
   go_enter Tryz.func132,Tryz.ntmps132
   go_wp2_with fail
   go_ret2
   exact⟨rfl,rfl⟩
  ·by_cases h18:s=18
   ·subst h18
    go_enter Tryz.func132,Tryz.ntmps132
    go_wp2_with fail
    go_ret2
    exact⟨rfl,rfl⟩
   ·have e16:(s==16)=false:=by simp;omega
    have e17:(s==17)=false:=by simp;omega
    have e18:(s==18)=false:=by simp;omega
    have HE:Hid (leastM s=1∧widthM s=0):=hid ⟨by unfold leastM;rw[if_neg h16,if_neg h17,if_neg h18],by unfold widthM;rw[if_neg h16,if_neg h17,if_neg h18]⟩
    clear h16 h17 h18
    go_enter Tryz.func132,Tryz.ntmps132
    go_wp2_with fail
    go_ret2
    exact⟨by rw[HE.out.1,HE.out.2];rfl,rfl⟩

theorem pow_le7(n:Nat)(h:n≤7):(2:Nat) ^ n≤128:=by
 have:=Nat.pow_le_pow_right (show 0<2 by decide) h
 simpa using this

def MayR(e:Ending)(s:Int×Int)(said n:Nat):Prop:=∃r:Bool,e=.returned (.bool r)∧(r=true↔mayB s said n)

theorem MayR.no{e:Ending}{s:Int×Int}{said n:Nat}(h:MayR e s said n)(hm:¬mayB s said n):e=.returned (.bool false):=by
 obtain⟨r,rfl,hr⟩:=h
 cases r with
 | false=>rfl
 | true=>exact absurd (hr.1 rfl) hm

theorem MayR.yes{e:Ending}{s:Int×Int}{said n:Nat}(h:MayR e s said n)(hm:mayB s said n):e=.returned (.bool true):=by
 obtain⟨r,rfl,hr⟩:=h
 rw[hr.2 hm]

set_option maxRecDepth 100000 in
set_option maxHeartbeats 2000000 in
theorem mayStand_any(w:World)(a b:Int)(said n:Nat)(hs:said≤1000000):
  Calls Tryz.prog 183 #[.agg #[.int .i64 a,.int .i64 b],.int .i64 (said:Nat),.int .i64 (n:Nat)] w fun e w'=>MayR e (a,b) said n∧Same w w':=by
 have hw7:=widthM_le a
 have hl1:=leastM_le a
 have HSH:=shape_any (w.alloc (.cells #[.int .i64 a,.int .i64 b] 171)) a
 obtain⟨wd,hwd⟩:∃x,x=widthM a:=⟨_,rfl⟩
 obtain⟨ls,hls⟩:∃x,x=leastM a:=⟨_,rfl⟩
 rw[←hwd]at HSH hw7
 rw[←hls]at HSH hl1
 have HM:Hid (mayB (a,b) said n↔(0≤a∧a≤18∧0≤b∧b<2 ^ wd∧¬(a=16∧said=0)∧(said+ls:Nat)+b≤n)):=hid (by rw[hwd,hls];exact Iff.rfl)
 clear hwd hls
 have hp7:=pow_le7 wd hw7
 have hp0:0<2 ^ wd:=Nat.two_pow_pos wd
 obtain⟨pw,hpw⟩:∃x,x=2 ^ wd:=⟨_,rfl⟩
 obtain⟨pm,hpm⟩:∃x:Nat,x=pw-1:=⟨_,rfl⟩
 rw[←hpw]at hp7 hp0
 have HM2:Hid (mayB (a,b) said n↔(inB a 0 18=true∧inB b 0 (pm:Int)=true∧¬(a=16∧said=0)∧(said+ls:Nat)+b≤n)):=hid (by
  rw[HM.out]
  have:(2:Int) ^ wd=(pw:Int):=by rw[hpw];simp
  rw[this]
  simp only[inB,Bool.and_eq_true,decide_eq_true_eq]
  omega)
 have hshl:wrap64 ((2:Int) ^ wd)=(pw:Int):=by
  have:(2:Int) ^ wd=(pw:Int):=by rw[hpw];simp
  rw[this];unfold wrap64;omega
 have hsub:(pw:Int)-1=(pm:Int):=by omega
 have HW1:=fun q=>within_any ((w.alloc (.cells #[.int .i64 a,.int .i64 b] 171)).drewN q) a 0 18
 have HW2:=fun q=>within_any ((w.alloc (.cells #[.int .i64 a,.int .i64 b] 171)).drewN q) b 0 (pm:Int)
 clear HM hpw
 have hpm':pm≤127:=by omega
 clear hpm
 go_enter Tryz.func183,Tryz.ntmps183
 go_wp2_with fail
 refine HSH.mono ?_
 rintro e w1 ⟨rfl,rfl⟩
 clear HSH
 have HK0:Hid (Same w (w.alloc (.cells #[.int .i64 a,.int .i64 b] 171))):=hid ((Kept.refl _ w).alloc _)
 have cB:(w.alloc (.cells #[.int .i64 a,.int .i64 b] 171)).cell? ⟨w.heap.size,1,none⟩=some (.int .i64 b):=by simp
 have cA:(w.alloc (.cells #[.int .i64 a,.int .i64 b] 171)).cell? ⟨w.heap.size,0,none⟩=some (.int .i64 a):=by simp
 generalize w.alloc (.cells #[.int .i64 a,.int .i64 b] 171)=W at *
 cases h1:inB a 0 18 with
 | false=>
  have HE:Hid (¬mayB (a,b) said n):=hid (fun h=>by have:=(HM2.out.1 h).1;rw[h1]at this;cases this)
  rw[h1]at HW1
  clear h1
  go_wp2_with fail
  go_quiet ((go_at_call 93;exact Calls.quiet_of_same (HW1 _)))
  go_wp2_with fail
  go_ret
  exact⟨⟨false,rfl,by simp[HE.out]⟩,HK0.out.drewN _⟩
 | true=>
  rw[h1]at HW1
  cases h2:inB b 0 (pm:Int) with
  | false=>
   have HE:Hid (¬mayB (a,b) said n):=hid (fun h=>by have:=(HM2.out.1 h).2.1;rw[h2]at this;cases this)
   rw[h2]at HW2
   clear h1 h2
   go_wp2_with fail
   go_quiet ((go_at_call 93;first | (with_reducible exact Calls.quiet_of_same (HW1 _)) | (with_reducible exact Calls.quiet_of_same (HW2 _))))
   go_wp2_with fail
   go_ret
   exact⟨⟨false,rfl,by simp[HE.out]⟩,HK0.out.drewN _⟩
  | true=>
   rw[h2]at HW2
   have hb:0≤b∧b≤(pm:Int):=by simpa[inB]using h2
   have HM3:Hid (mayB (a,b) said n↔(¬(a=16∧said=0)∧(said+ls:Nat)+b≤n)):=hid (by rw[HM2.out,h1,h2];simp)
   obtain⟨bn,rfl⟩:∃x:Nat,b=(x:Int):=⟨b.toNat,by omega⟩
   have hbn:bn≤127:=by omega
   obtain⟨t,ht⟩:∃t,t=said+ls:=⟨_,rfl⟩
   have htI:(said:Int)+(ls:Int)=(t:Int):=by omega
   have htw:IntKind.i64.wrap (t:Int)=(t:Int):=by rw[IntKind.wrap_i64];omega
   obtain⟨u,hu⟩:∃u,u=t+bn:=⟨_,rfl⟩
   have huI:(t:Int)+(bn:Int)=(u:Int):=by omega
   have huw:IntKind.i64.wrap (u:Int)=(u:Int):=by rw[IntKind.wrap_i64];omega
   have HM4:Hid (mayB (a,(bn:Int)) said n↔(¬(a=16∧said=0)∧u≤n)):=hid (by
    rw[HM3.out]
    have:((said+ls:Nat):Int)+(bn:Int)≤(n:Int)↔u≤n:=by omega
    rw[this])
   clear h1 h2 hb HM3 HM2 ht hu
   go_wp2_with fail
   go_quiet ((go_at_call 93;first | (with_reducible exact Calls.quiet_of_same (HW1 _)) | (with_reducible exact Calls.quiet_of_same (HW2 _))))
   by_cases h16:a=16
   ·subst h16
    by_cases h0:said=0
    ·have HE:Hid (¬mayB (16,(bn:Int)) 0 n):=hid (fun h=>(HM4.out.1 (by rw[h0];exact h)).1 ⟨rfl,h0⟩)
     have hsd:((said:Int)==0)=true:=by simp[h0]
     go_wp2_with fail
     go_ret
     exact⟨⟨false,rfl,by simp[HE.out]⟩,HK0.out.drewN _⟩
    ·have hsd:((said:Int)==0)=false:=by simp[h0]
     have HE:Hid (mayB (16,(bn:Int)) said n↔u≤n):=hid (by rw[HM4.out];simp[h0])
     clear h0
     go_wp2_with fail
     go_ret
     exact⟨⟨_,rfl,by rw[HE.out];simp⟩,HK0.out.drewN _⟩
   ·have h16':(a==16)=false:=by simp[h16]
    have HE:Hid (mayB (a,(bn:Int)) said n↔u≤n):=hid (by rw[HM4.out];simp[h16])
    clear h16
    go_wp2_with fail
    go_ret
    exact⟨⟨_,rfl,by rw[HE.out];simp⟩,HK0.out.drewN _⟩

set_option maxRecDepth 100000 in
set_option maxHeartbeats 2000000 in
theorem say_any(w:World)(B:Nat)(v:Value)(l:List Nat)(a b:Int)(n:Nat)(hr:NRow B w v l)(hB:B≤w.heap.size)(hl:l.length≤1000000)(hm:mayB (a,b) l.length n):
  Calls Tryz.prog 184 #[v,.agg #[.int .i64 a,.int .i64 b]] w fun e w'=>∃v',e=.returned v'∧NRow B w' v' (l++List.replicate (leastM a+b.toNat) (sayV a l))∧Kept (Over B) w w':=by
 obtain⟨ao,cap,rfl,hao,_⟩:=hr.shape
 obtain⟨h1,h2,h3,h4,h5,h6⟩:=hm
 simp only at h1 h2 h3 h4 h5 h6
 have hw7:=widthM_le a
 have hl1:=leastM_le a
 have hp7:=pow_le7 _ hw7
 have hb7:b<128:=by
  have:((2 ^ widthM a:Nat):Int)=2 ^ widthM a:=by simp
  omega
 obtain⟨bn,rfl⟩:∃x:Nat,b=(x:Int):=⟨b.toNat,by omega⟩
 obtain⟨an,rfl⟩:∃x:Nat,a=(x:Int):=⟨a.toNat,by omega⟩
 obtain⟨ls,hls⟩:∃x,x=leastM (an:Int):=⟨_,rfl⟩
 have HSH:=shape_any (w.alloc (.cells #[.int .i64 (an:Int),.int .i64 (bn:Int)] 171)) (an:Int)
 rw[←hls]at HSH hl1 ⊢
 rw[Int.toNat_natCast]
 obtain⟨k,hk⟩:∃k,k=ls+bn:=⟨_,rfl⟩
 have hkI:(ls:Int)+(bn:Int)=(k:Int):=by omega
 have hkw:IntKind.i64.wrap (k:Int)=(k:Int):=by rw[IntKind.wrap_i64];omega
 rw[←hk]
 have hk138:k≤138:=by omega
 obtain⟨x,hx⟩:∃x,x=sayV (an:Int) l:=⟨_,rfl⟩
 rw[←hx]
 have HR:Hid (NRow B (w.alloc (.cells #[.int .i64 (an:Int),.int .i64 (bn:Int)] 171)) (.slice ao l.length cap) l):=hid (World.ownsRow.alloc hr _)
 have HK0:Hid (Kept (Over B) w (w.alloc (.cells #[.int .i64 (an:Int),.int .i64 (bn:Int)] 171))):=hid ((Kept.refl _ w).alloc _)
 have cB:(w.alloc (.cells #[.int .i64 (an:Int),.int .i64 (bn:Int)] 171)).cell? ⟨w.heap.size,1,none⟩=some (.int .i64 (bn:Int)):=by simp
 have cA:(w.alloc (.cells #[.int .i64 (an:Int),.int .i64 (bn:Int)] 171)).cell? ⟨w.heap.size,0,none⟩=some (.int .i64 (an:Int)):=by simp
 have hsz:B≤(w.alloc (.cells #[.int .i64 (an:Int),.int .i64 (bn:Int)] 171)).heap.size:=by simp;omega
 have HLOOP:∀W:World,W=w.alloc (.cells #[.int .i64 (an:Int),.int .i64 (bn:Int)] 171)→True:=fun _ _=>trivial
 clear HLOOP
 obtain⟨L,hL⟩:∃L,L=l.length:=⟨_,rfl⟩
 have HL:Hid (L=l.length):=hL
 have HAO:Hid (l≠[]→∃g,ao=some ⟨g,0,none⟩):=hao
 have H5:Hid (¬((an:Int)=16∧l.length=0)):=h5
 have HX:Hid (x=sayV (an:Int) l):=hx
 rw[←hL]at HR hl ⊢
 clear hr hls hk hx hL h3 h4 h5 h6 hw7 hp7 hb7 hao h1
 go_enter Tryz.func184,Tryz.ntmps184
 go_wp2_with fail
 refine HSH.mono ?_
 rintro e w1 ⟨rfl,hw1⟩
 subst hw1
 clear HSH
 generalize w.alloc (.cells #[.int .i64 (an:Int),.int .i64 (bn:Int)] 171)=W at *
 by_cases h16:an=16
 ·subst h16
  have hL0:0<L:=by have:=HL.out;have:=H5.out;omega
  have hl0:0<l.length:=by have:=HL.out;omega
  obtain⟨b2,o2,cap2,e2,_,_,c2⟩:=(SrcE.ofRow HR.out).get (l.length-1) (by omega)
  simp only[Value.slice.injEq]at e2
  obtain⟨rfl,hxe,rfl⟩:=e2
  clear hxe
  have hle:l[l.length-1]=x:=by rw[HX.out];simp[sayV,lastN,List.getD,show l.length-1<l.length by omega]
  rw[hle,←HL.out]at c2
  unfold natV at c2
  obtain⟨m,hm⟩:∃m,m=L-1:=⟨_,rfl⟩
  rw[←hm]at c2
  have hmI:(L:Int)-1=(m:Int):=by omega
  have hmL:m<L:=by omega
  have hwm:IntKind.i64.wrap (m:Int)=(m:Int):=by rw[IntKind.wrap_i64];omega
  clear hm hle hl0 hL0
  go_wp2_with fail
  go_loopg [0,32] k (fun q zv zi wr=>∃(i:Nat),k-i≤q∧i≤k∧zi=.int .i64 (i:Nat)∧Hid (NRow B wr zv (l++List.replicate i x))∧Hid (Kept (Over B) w wr))
  case atStart=>exact⟨0,by omega,by omega,rfl,hid (by simpa using HR.out),HK0⟩
  case round=>
   clear HR HK0 cA cB
   obtain⟨i,hq,hi,rfl,HV,HK⟩:=hrel
   by_cases hlt:i<k
   ·have hsz2:=HK.out.size
    have HLN:Hid ((l++List.replicate i x).length+[x].length≤1000000000):=hid (by have:=HL.out;simp;omega)
    go_wp2_with (at_builtin;refine wpList_append_e _ natV natV_one B 45 3 (natV 0) 8 Tryz.underlying45 Tryz.infoN rfl (by decide) rfl (.tmp 34) (.tmp 36) rfl u0 (l++List.replicate i x) rfl (World.ownsRow.alloc HV.out _) ⟨wr.heap.size,0,none⟩ 1 1 [x] rfl rfl (cellsAt_new _ _ _) HLN.out (by simp;omega) ?_;intro v5 w5 hr5 hg5)
    have HV5:Hid (NRow B w5 v5 (l++List.replicate (i+1) x)):=hid (by rw[List.replicate_succ',←List.append_assoc];exact hr5)
    have HK5:Hid (Kept (Over B) w w5):=hid ((HK.out.alloc _).grown hg5 (fun j e=>.inl (HV.out.ge e)))
    clear hr5 hg5
    go_wp2_with fail
    go_roundg (gk-1)
    case measure=>omega
    case rel=>exact⟨i+1,by omega,by omega,by go_num,HV5,HK5⟩
   ·have hik:i=k:=by omega
    subst hik
    go_wp2_with fail
    go_ret
    exact⟨_,rfl,HV.out,HK.out⟩
 ·have e16:((an:Int)==16)=false:=by simp;omega
  by_cases h17:an=17
  ·subst h17
   have hx0:x=0:=by rw[HX.out];simp[sayV]
   subst hx0
   go_wp2_with fail
   go_loopg [0,32] k (fun q zv zi wr=>∃(i:Nat),k-i≤q∧i≤k∧zi=.int .i64 (i:Nat)∧Hid (NRow B wr zv (l++List.replicate i 0))∧Hid (Kept (Over B) w wr))
   case atStart=>exact⟨0,by omega,by omega,rfl,hid (by simpa using HR.out),HK0⟩
   case round=>
    clear HR HK0 cA cB
    obtain⟨i,hq,hi,rfl,HV,HK⟩:=hrel
    by_cases hlt:i<k
    ·have hsz2:=HK.out.size
     have HLN:Hid ((l++List.replicate i 0).length+[0].length≤1000000000):=hid (by have:=HL.out;simp;omega)
     go_wp2_with (at_builtin;refine wpList_append_e _ natV natV_one B 45 3 (natV 0) 8 Tryz.underlying45 Tryz.infoN rfl (by decide) rfl (.tmp 34) (.tmp 36) rfl u0 (l++List.replicate i 0) rfl (World.ownsRow.alloc HV.out _) ⟨wr.heap.size,0,none⟩ 1 1 [0] rfl rfl (cellsAt_new _ _ _) HLN.out (by simp;omega) ?_;intro v5 w5 hr5 hg5)
     have HV5:Hid (NRow B w5 v5 (l++List.replicate (i+1) 0)):=hid (by rw[List.replicate_succ',←List.append_assoc];exact hr5)
     have HK5:Hid (Kept (Over B) w w5):=hid ((HK.out.alloc _).grown hg5 (fun j e=>.inl (HV.out.ge e)))
     clear hr5 hg5
     go_wp2_with fail
     go_roundg (gk-1)
     case measure=>omega
     case rel=>exact⟨i+1,by omega,by omega,by go_num,HV5,HK5⟩
    ·have hik:i=k:=by omega
     subst hik
     go_wp2_with fail
     go_ret
     exact⟨_,rfl,HV.out,HK.out⟩
  ·have e17:((an:Int)==17)=false:=by simp;omega
   by_cases h18:an=18
   ·subst h18
    have hx0:x=0:=by rw[HX.out];simp[sayV]
    subst hx0
    go_wp2_with fail
    go_loopg [0,32] k (fun q zv zi wr=>∃(i:Nat),k-i≤q∧i≤k∧zi=.int .i64 (i:Nat)∧Hid (NRow B wr zv (l++List.replicate i 0))∧Hid (Kept (Over B) w wr))
    case atStart=>exact⟨0,by omega,by omega,rfl,hid (by simpa using HR.out),HK0⟩
    case round=>
     clear HR HK0 cA cB
     obtain⟨i,hq,hi,rfl,HV,HK⟩:=hrel
     by_cases hlt:i<k
     ·have hsz2:=HK.out.size
      have HLN:Hid ((l++List.replicate i 0).length+[0].length≤1000000000):=hid (by have:=HL.out;simp;omega)
      go_wp2_with (at_builtin;refine wpList_append_e _ natV natV_one B 45 3 (natV 0) 8 Tryz.underlying45 Tryz.infoN rfl (by decide) rfl (.tmp 34) (.tmp 36) rfl u0 (l++List.replicate i 0) rfl (World.ownsRow.alloc HV.out _) ⟨wr.heap.size,0,none⟩ 1 1 [0] rfl rfl (cellsAt_new _ _ _) HLN.out (by simp;omega) ?_;intro v5 w5 hr5 hg5)
      have HV5:Hid (NRow B w5 v5 (l++List.replicate (i+1) 0)):=hid (by rw[List.replicate_succ',←List.append_assoc];exact hr5)
      have HK5:Hid (Kept (Over B) w w5):=hid ((HK.out.alloc _).grown hg5 (fun j e=>.inl (HV.out.ge e)))
      clear hr5 hg5
      go_wp2_with fail
      go_roundg (gk-1)
      case measure=>omega
      case rel=>exact⟨i+1,by omega,by omega,by go_num,HV5,HK5⟩
     ·have hik:i=k:=by omega
      subst hik
      go_wp2_with fail
      go_ret
      exact⟨_,rfl,HV.out,HK.out⟩
   ·have e18:((an:Int)==18)=false:=by simp;omega
    have hx0:x=an:=by rw[HX.out];unfold sayV;rw[if_neg (by omega),if_neg (by omega)];simp
    clear h16 h17 h18
    subst hx0
    go_wp2_with fail
    go_loopg [0,32] k (fun q zv zi wr=>∃(i:Nat),k-i≤q∧i≤k∧zi=.int .i64 (i:Nat)∧Hid (NRow B wr zv (l++List.replicate i x))∧Hid (Kept (Over B) w wr))
    case atStart=>exact⟨0,by omega,by omega,rfl,hid (by simpa using HR.out),HK0⟩
    case round=>
     clear HR HK0 cA cB
     obtain⟨i,hq,hi,rfl,HV,HK⟩:=hrel
     by_cases hlt:i<k
     ·have hsz2:=HK.out.size
      have HLN:Hid ((l++List.replicate i x).length+[x].length≤1000000000):=hid (by have:=HL.out;simp;omega)
      go_wp2_with (at_builtin;refine wpList_append_e _ natV natV_one B 45 3 (natV 0) 8 Tryz.underlying45 Tryz.infoN rfl (by decide) rfl (.tmp 34) (.tmp 36) rfl u0 (l++List.replicate i x) rfl (World.ownsRow.alloc HV.out _) ⟨wr.heap.size,0,none⟩ 1 1 [x] rfl rfl (cellsAt_new _ _ _) HLN.out (by simp;omega) ?_;intro v5 w5 hr5 hg5)
      have HV5:Hid (NRow B w5 v5 (l++List.replicate (i+1) x)):=hid (by rw[List.replicate_succ',←List.append_assoc];exact hr5)
      have HK5:Hid (Kept (Over B) w w5):=hid ((HK.out.alloc _).grown hg5 (fun j e=>.inl (HV.out.ge e)))
      clear hr5 hg5
      go_wp2_with fail
      go_roundg (gk-1)
      case measure=>omega
      case rel=>exact⟨i+1,by omega,by omega,by go_num,HV5,HK5⟩
     ·have hik:i=k:=by omega
      subst hik
      go_wp2_with fail
      go_ret
      exact⟨_,rfl,HV.out,HK.out⟩

end Go.Proofs.YtggcbnhckcenmaaGreatDoor
