import Derived.Test.YtkhagfgineifhaaGreatDoorInPs2
import Derived.Test.YtkhagfgineifhaaGreatDoorLnCat
import Derived.Test.YtkhagfgineifhaaGreatDoorHNew
set_option maxHeartbeats 4000000
set_option maxRecDepth 100000
namespace Go.Proofs.YtkhagfgineifhaaGreatDoor
open Go.RowKit
theorem RowC.nat{B:Nat}{w:World}{v:Value}{xs:List Nat}(h:RowC B 3 1 fL w v xs):NRow B w v xs:=by unfold NRow RowE;unfold RowC at h;rw[sM]at h;exact h
theorem iV(w:World)(y N:Nat)(hN:N≤1000):
  Calls Tryz.prog 164 #[.int .i64 (y:Nat),.int .i64 (N:Nat)] w λe w'=>∃g,e=.returned (.slice (some ⟨g,0,none⟩) N N)/\NRow w.heap.size w' (.slice (some ⟨g,0,none⟩) N N) (List.replicate N y)/\Same w w':=by
 have HR:=iv (w.alloc (.cells #[.int .i64 (y:Nat)] 3)) ⟨w.heap.size,0,none⟩ y N (bA w 3 (am y)) hN;go_enter Tryz.func164,Tryz.ntmps164;go_wp2_with fail;refine HR.mono ?_;rintro e w1 ⟨g,rfl,hr,hk⟩;have HR1:Hid (RowC (w.alloc (.cells #[.int .i64 (y:Nat)] 3)).heap.size 3 1 fL w1 (.slice (some ⟨g,0,none⟩) N N) (List.replicate N y)):=hr;have HK1:Hid (Same (w.alloc (.cells #[.int .i64 (y:Nat)] 3)) w1):=hk;clear hr hk HR;go_wp2_with fail;go_ret;exact⟨g,rfl,RowE.base HR1.out.nat (by simp),Same.trans ((Kept.refl _ w).alloc _) HK1.out⟩
theorem oQ(w:World)(h:Nat)(la lb lc ld:Nat)(ga gb gc gd:Nat)(xa xb xc xd:List Nat)
  (mj:w.cell? ⟨h,0,none⟩=some (.slice (some ⟨ga,0,none⟩) la la)) (fF:w.cell? ⟨h,1,none⟩=some (.slice (some ⟨gb,0,none⟩) lb lb)) (cS:w.cell? ⟨h,2,none⟩=some (.slice (some ⟨gc,0,none⟩) lc lc)) (ve:w.cell? ⟨h,3,none⟩=some (.slice (some ⟨gd,0,none⟩) ld ld))
  (hA:NRow 0 w (.slice (some ⟨ga,0,none⟩) la la) xa) (hB:NRow 0 w (.slice (some ⟨gb,0,none⟩) lb lb) xb) (hC:NRow 0 w (.slice (some ⟨gc,0,none⟩) lc lc) xc) (hD:NRow 0 w (.slice (some ⟨gd,0,none⟩) ld ld) xd) (h1:1<=la) (O7:la<=1000) (pK:lb<=1000) (OC:lc<=1000) (Ck:ld<=1000):
  Calls Tryz.prog 122 #[.slice (some ⟨h,0,none⟩) 4 4] w λe w'=>∃v',e=.returned v'/\NRow w.heap.size w' v' (xa++xb++xc++xd)/\Same w w':=by
 have HA:Hid (SrcE am w _ (.slice (some ⟨ga,0,none⟩) la la) xa):=hid (SrcE.ofRow hA);have HB:Hid (SrcE am w _ (.slice (some ⟨gb,0,none⟩) lb lb) xb):=hid (SrcE.ofRow hB);have HC:Hid (SrcE am w _ (.slice (some ⟨gc,0,none⟩) lc lc) xc):=hid (SrcE.ofRow hC);have HD:Hid (SrcE am w _ (.slice (some ⟨gd,0,none⟩) ld ld) xd):=hid (SrcE.ofRow hD);have HXL:Hid (xa.length=la/\xb.length=lb/\xc.length=lc/\xd.length=ld):=hid ⟨hA.len,hB.len,hC.len,hD.len⟩;obtain⟨t1,mn⟩:∃t,t=la+lb:=⟨_,rfl⟩
 obtain⟨t2,iP⟩:∃t,t=t1+lc:=⟨_,rfl⟩
 obtain⟨t3,nJ⟩:∃t,t=t2+ld:=⟨_,rfl⟩
 have hI1:(la:Int)+(lb:Int)=(t1:Int):=by omega
 have Ru:(t1:Int)+(lc:Int)=(t2:Int):=by omega
 have ZM:(t2:Int)+(ld:Int)=(t3:Int):=by omega
 have hw1:IntKind.i64.wrap (t1:Int)=(t1:Int):=by rw[IntKind.wrap_i64];omega
 have hw2:IntKind.i64.wrap (t2:Int)=(t2:Int):=by rw[IntKind.wrap_i64];omega
 have hw3:IntKind.i64.wrap (t3:Int)=(t3:Int):=by rw[IntKind.wrap_i64];omega
 have HGR:=tG w t3 (by omega) (by omega);have kY:t1<=2000:=by omega
 have vf:t2<=3000:=by omega
 have Ja:t3<=4000:=by omega
 clear hA hB hC hD mn iP nJ;go_enter Tryz.func122,Tryz.ntmps122;go_wp2_with fail;refine wp_loop_rounds 5 ?_;rw[rounds_succ];go_wp2_with fail;rw[rounds_succ];go_wp2_with fail;rw[rounds_succ];go_wp2_with fail;rw[rounds_succ];go_wp2_with fail;rw[rounds_succ];go_wp2_with fail;refine HGR.mono ?_;rintro e w1 ⟨⟨G,rfl,hr1⟩,hk1⟩;have HR1:Hid (NRow w.heap.size w1 (.slice (some ⟨w.heap.size,0,none⟩) 0 G) []):=hid hr1;have HK1:Hid (Same w w1):=hk1;have c0:=hk1.cell mj (λf=>f);have Ix:=hk1.size;clear hr1 hk1 HGR;go_wp2_with fail;refine wp_loop_rounds 5 ?_;rw[rounds_succ];go_wp2_with (at_builtin;refine bU _ am dK w.heap.size 143 3 (am 0) 8 Tryz.underlying143 Tryz.infoN rfl (by decide) rfl (.tmp 31) (.tmp 32) rfl _ [] rfl HR1.out _ (some ⟨ga,0,none⟩) la la xa rfl (HA.out.same HK1.out) (λe=>by cases e) (by have:=HXL.out;simp;omega) Ix ?_;intro v3 w3 hr3 jW;have HR3:Hid (NRow w.heap.size w3 v3 xa):=hid (by simpa using hr3);have HK3:Hid (Same w w3):=hid (HK1.out.grown jW (λj e=>.inr (HR1.out.ge e)));have d1:=HK3.out.cell fF (λf=>f);clear hr3 jW);have uV:=HK3.out.size;rw[rounds_succ];go_wp2_with (at_builtin;refine bU _ am dK w.heap.size 143 3 (am 0) 8 Tryz.underlying143 Tryz.infoN rfl (by decide) rfl (.tmp 31) (.tmp 32) rfl _ xa rfl HR3.out _ (some ⟨gb,0,none⟩) lb lb xb rfl (HB.out.same HK3.out) (λe=>by cases e) (by have:=HXL.out;omega) uV ?_;intro v4 w4 hr4 pO;have HR4:Hid (NRow w.heap.size w4 v4 (xa++xb)):=hr4;have HK4:Hid (Same w w4):=hid (HK3.out.grown pO (λj e=>.inr (HR3.out.ge e)));have d2:=HK4.out.cell cS (λf=>f);clear hr4 pO);have ES:=HK4.out.size;rw[rounds_succ];go_wp2_with (at_builtin;refine bU _ am dK w.heap.size 143 3 (am 0) 8 Tryz.underlying143 Tryz.infoN rfl (by decide) rfl (.tmp 31) (.tmp 32) rfl _ (xa++xb) rfl HR4.out _ (some ⟨gc,0,none⟩) lc lc xc rfl (HC.out.same HK4.out) (λe=>by cases e) (by have:=HXL.out;rw[List.length_append];omega) ES ?_;intro v5 w5 hr5 ef;have HR5:Hid (NRow w.heap.size w5 v5 (xa++xb++xc)):=hr5;have HK5:Hid (Same w w5):=hid (HK4.out.grown ef (λj e=>.inr (HR4.out.ge e)));have d3:=HK5.out.cell ve (λf=>f);clear hr5 ef);have KG:=HK5.out.size;rw[rounds_succ];go_wp2_with (at_builtin;refine bU _ am dK w.heap.size 143 3 (am 0) 8 Tryz.underlying143 Tryz.infoN rfl (by decide) rfl (.tmp 31) (.tmp 32) rfl _ (xa++xb++xc) rfl HR5.out _ (some ⟨gd,0,none⟩) ld ld xd rfl (HD.out.same HK5.out) (λe=>by cases e) (by have:=HXL.out;rw[List.length_append,List.length_append];omega) KG ?_;intro v6 w6 hr6 LO;have HR6:Hid (NRow w.heap.size w6 v6 (xa++xb++xc++xd)):=hr6;have HK6:Hid (Same w w6):=hid (HK5.out.grown LO (λj e=>.inr (HR5.out.ge e)));clear hr6 LO);rw[rounds_succ];go_wp2_with fail;go_ret;exact⟨_,rfl,HR6.out,HK6.out⟩
end Go.Proofs.YtkhagfgineifhaaGreatDoor
