import Derived.Test.YtggcbnhckcenmaaGreatDoorDfAbc
import Derived.Test.YtggcbnhckcenmaaGreatDoorInAx
import Derived.Test.YtggcbnhckcenmaaGreatDoorInFx
import Derived.Test.YtggcbnhckcenmaaGreatDoorMtK
namespace Go.Proofs.YtggcbnhckcenmaaGreatDoor
open Go.RowKit

theorem store_abc:storeB [97,98,99]=[1,3,0,252,255,97,98,99]:=by decide

set_option maxRecDepth 100000 in
set_option maxHeartbeats 400000 in
theorem dawake_any(w:World)(hT:Tab w):Calls Tryz.prog 12 #[] w fun x w'=>x=.returned (.bool true)∧Same w w':=by
 have HT:Hid (Tab w):=hT
 have kc:=fun(w:World) (C:Array Value) (n c:Nat)=>Lib.run_convert_bytes_const (P:=Tryz.prog) w 22 5 C n c Tryz.underlying22 Tryz.underlying5
 have H1:=dstored_any _ _ _ _ (msrc_mark w [97,98,99] 3 (3,4) rfl) (by decide) (fun n c e=>by cases e) (by decide)
 rw[store_abc]at H1
 clear hT
 go_enter Tryz.func12,Tryz.ntmps12
 go_wp2_with fail
 refine H1.mono ?_
 rintro x w1 ⟨v1,rfl,hn1⟩
 have HK1:Hid (Same w w1):=hid (Same.trans ((Kept.refl _ w).alloc _) hn1.same)
 have HR1:Hid (Row w1 v1 [1,3,0,252,255,97,98,99]):=hid hn1.row
 obtain⟨a1,c1,rfl,_⟩:=HR1.out.shape
 have H2:=dfixed_any _ _ _ _ (tlit_src w1 exT 2 rfl) (by decide) (by decide)
 rw[exT_ok]at H2
 clear hn1 H1
 go_wp2_with fail
 refine H2.mono ?_
 rintro x w2 ⟨v2,bs2,rfl,hn2,hp2⟩
 obtain rfl:=exT_is hp2
 have hk12:Same w1 w2:=Same.trans ((Kept.refl _ w1).alloc _) hn2.same
 have HK2:Hid (Same w w2):=hid (Same.trans HK1.out hk12)
 have HR12:Hid (Row w2 (.slice a1 8 c1) [1,3,0,252,255,97,98,99]):=hid (HR1.out.kept hk12 (fun _ _ f=>f))
 have HR2:Hid (Row w2 v2 [75,132,0,0]):=hid hn2.row
 obtain⟨a2,c2,rfl,_⟩:=HR2.out.shape
 have H3:=dfixed_any _ _ _ _ (tlit_src w2 [⟨0,3,1⟩] 1 rfl) (by decide) (by decide)
 rw[show measT 16384 [⟨0,3,1⟩] 0=.error 60 from rfl]at H3
 clear hn2 hp2 hk12 H2 HR1
 go_wp2_with fail
 refine H3.mono ?_
 rintro x w3 ⟨rfl,hk3⟩
 have hk23:Same w2 w3:=Same.trans ((Kept.refl _ w2).alloc _) hk3
 have HK3:Hid (Same w w3):=hid (Same.trans HK2.out hk23)
 have HR13:Hid (Row w3 (.slice a1 8 c1) [1,3,0,252,255,97,98,99]):=hid (HR12.out.kept hk23 (fun _ _ f=>f))
 have HR23:Hid (Row w3 (.slice a2 4 c2) [75,132,0,0]):=hid (HR2.out.kept hk23 (fun _ _ f=>f))
 have H4:=dnew_any w3
 clear hk3 hk23 H3 HR12 HR2
 go_wp2_with fail
 refine H4.mono ?_
 rintro x w4 ⟨rfl,hs4,hk4⟩
 have hk4a:Same w4 (w4.alloc (.cells ([97,98,99].map byteV).toArray 5 (3,4))):=(Kept.refl _ w4).alloc _
 have H5:=dfeed_good _ _ _ _ (hs4.kept hk4a (fun f=>f) (fun _ _ f=>f)) _ _ _ (msrc_mark w4 [97,98,99] 3 (3,4) rfl) (by decide) (fun n c e=>by cases e) (by decide)
 have HK4:Hid (Same w3 w4):=hk4
 clear hs4 hk4 hk4a H4
 go_wp2_with fail
 refine H5.mono ?_
 rintro x w5 ⟨rfl,hk5,v5,hs5,ho5⟩
 have HK5:Hid (Same w3 w5):=hid (Same.then (Same.trans HK4.out ((Kept.refl _ w4).alloc _)) hk5 (fun k hk f=>by
  rcases f with f | f
  ·omega
  ·cases f))
 have H6:=dclose_good w5 w3.heap.size v5 _ hs5 (by decide) (HT.out.kept (Same.trans HK3.out HK5.out) (fun f=>f))
 clear hk5 hs5 ho5 H5 HK4
 go_wp2_with fail
 refine H6.mono ?_
 rintro x w6 ⟨v6,y,rfl,hr6,hb6,hv6,hp6,hk6,hs6⟩
 have HK6:Hid (Same w3 w6):=hid (Same.then HK5.out hk6 (fun k hk f=>by omega))
 have H7:=dclose_shut w6 w3.heap.size _ _ hs6
 have HR6:Hid (Row w6 v6 y∧(∀b∈y,b<256)∧PDef [97,98,99] y):=hid ⟨hr6,hb6,hp6⟩
 have hyl:=hp6.short.1
 obtain⟨a6,c6,hv6e,_⟩:=hr6.shape
 obtain⟨m,hm⟩:∃m,m=y.length:=⟨_,rfl⟩
 rw[←hm]at hv6e hyl
 subst hv6e
 have HYL:Hid (m=y.length):=hm
 clear hr6 hb6 hv6 hp6 hk6 hs6 H6 HK5 hm
 simp at hyl
 go_wp2_with fail
 refine H7.mono ?_
 rintro x w7 ⟨rfl,hw7⟩
 subst hw7
 clear H7
 go_wp2_with (at_builtin;refine wpList_append_any _ rfl (.tmp 58) (.tmp 59) rfl _ [] rfl (nil_row7 _) _ _ y rfl (Row.nil5 HR6.out.1) (Src.ofRow HR6.out.1) (by simp;have:=HYL.out;omega) ?_)
 intro v8 w8 hr8 hg8 ho8
 have hk8:Same w7 w8:=(Kept.refl _ w7).grown hg8 (fun k e=>by cases e)
 have hyy:y=[75,76,74,6,0]:=abc_def HR6.out.2.2
 have H9:=rinfl_abc w8 v8 _ (by rw[←hyy];exact Src.ofRow hr8)
 have HK8:Hid (Same w3 w8):=hid (Same.trans HK6.out hk8)
 obtain⟨a8,c8,hv8,_⟩:=hr8.shape
 rw[←HYL.out]at hv8
 subst hv8
 clear hr8 hg8 ho8 hk8 hyy HK6
 go_wp2_with fail
 refine H9.mono ?_
 rintro x w9 ⟨v9,rfl,hr9,hk9⟩
 have HK9:Hid (Same w3 w9):=hid (Same.trans HK8.out hk9)
 have HR9:Hid (Row w9 v9 [97,98,99]):=hr9
 obtain⟨a9,c9,rfl,_⟩:=HR9.out.shape
 have hrA:Row w9 (.slice a1 8 c1) [1,3,0,252,255,97,98,99]:=HR13.out.kept HK9.out (fun _ _ f=>f)
 have hrB:Row w9 (.slice a2 4 c2) [75,132,0,0]:=HR23.out.kept HK9.out (fun _ _ f=>f)
 have HRB:Hid (Row w9 (.slice a2 4 c2) [75,132,0,0]):=hrB
 have hka:Same w9 (w9.alloc (.cells ([1,3,0,252,255,97,98,99].map byteV).toArray 5)):=(Kept.refl _ w9).alloc _
 have H10:=keepBytes_any _ (.slice (some ⟨w9.heap.size,0,none⟩) 8 8) _ _ [1,3,0,252,255,97,98,99] [1,3,0,252,255,97,98,99] _ (Src.ofRow (hrA.kept hka (fun _ _ f=>f))) (Src.ofRow (lit_row w9 [1,3,0,252,255,97,98,99] 8 rfl (by decide))) (by decide) (by decide)
 clear hr9 hk9 H9 HR13 HR23 hrA hrB hka HK8 HR6
 go_wp2_with fail
 refine H10.mono ?_
 rintro x w10 ⟨rfl,m10,hw10⟩
 have hk10:Same w9 w10:=by rw[hw10];exact((Kept.refl _ w9).alloc _).drewN m10
 have HK10:Hid (Same w3 w10):=hid (Same.trans HK9.out hk10)
 have HR10:Hid (Row w10 (.slice a9 3 c9) [97,98,99]):=hid (HR9.out.kept hk10 (fun _ _ f=>f))
 have hrB:Row w10 (.slice a2 4 c2) [75,132,0,0]:=HRB.out.kept hk10 (fun _ _ f=>f)
 have hka:Same w10 (w10.alloc (.cells ([75,132,0,0].map byteV).toArray 5)):=(Kept.refl _ w10).alloc _
 have H11:=keepBytes_any _ (.slice (some ⟨w10.heap.size,0,none⟩) 4 4) _ _ [75,132,0,0] [75,132,0,0] _ (Src.ofRow (hrB.kept hka (fun _ _ f=>f))) (Src.ofRow (lit_row w10 [75,132,0,0] 4 rfl (by decide))) (by decide) (by decide)
 clear hw10 hk10 hrB hka H10 HK9 HRB HR9
 go_wp2_with fail
 refine H11.mono ?_
 rintro x w11 ⟨rfl,m11,hw11⟩
 have hk11:Same w10 w11:=by rw[hw11];exact((Kept.refl _ w10).alloc _).drewN m11
 have HK11:Hid (Same w w11):=hid (Same.trans HK3.out (Same.trans HK10.out hk11))
 have HR11:Hid (Row w11 (.slice a9 3 c9) [97,98,99]):=hid (HR10.out.kept hk11 (fun _ _ f=>f))
 obtain⟨g9,rfl⟩:=HR11.out.addr (by decide)
 have gs:=str_of HR11.out rfl
 rw[show strOfNums ([97,98,99].map (fun b=>((b:Nat):Int)))=⟨#[97,98,99]⟩from rfl]at gs
 clear hw11 hk11 H11 HK10 HR10
 go_wp2_with fail
 go_ret
 exact⟨rfl,HK11.out⟩

end Go.Proofs.YtggcbnhckcenmaaGreatDoor
