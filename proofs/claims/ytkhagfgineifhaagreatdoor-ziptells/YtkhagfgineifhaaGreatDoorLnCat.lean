import Derived.Test.YtkhagfgineifhaaGreatDoorLnPk
import Derived.Lib.AppendZerosOnto
import Derived.Lib.Walk
set_option maxHeartbeats 2000000
set_option maxRecDepth 100000
namespace Go.Proofs.YtkhagfgineifhaaGreatDoor
open Go.RowKit
theorem tG(w:World)(n:Nat)(h1:1≤n)(hn:n≤1000000):
  Calls Tryz.prog 149 #[.slice none 0 0,.int .i64 (n:Nat)] w λe w'=>(∃G,e=.returned (.slice (some ⟨w.heap.size,0,none⟩) 0 G)/\NRow w.heap.size w' (.slice (some ⟨w.heap.size,0,none⟩) 0 G) [])/\Same w w':=by
 obtain⟨i0,hi,fG,iN,gj⟩:=info_parts Tryz.infoN;have fz:(0+n)*i0.bytes<=140737488355328:=by rw[gj];omega
 have hold:(Builtin.firstCells i0.size 0 (.slice none 0 0)).run Tryz.prog w.drew=.ok ([]:List Value).toArray w.drew:=run_firstCells_none w.drew i0.size 0 0 0;have KZ:∀ty,(Builtin.append_ #[143,3] ty #[.slice none 0 0,.int .i64 (n:Nat)]).run Tryz.prog w =
   .ok (.slice (some ⟨w.heap.size,0,none⟩) (0+n) (grownCap w (0+n) 0 3)) (w.drew.alloc (.cells (([]:List Value).toArray++Builtin.zeroCells (am 0).cells n++Builtin.zeroCells (am 0).cells (grownCap w (0+n) 0 3-(0+n))) 3)):=λty=>
  Lib.run_append_grow_zeros w 143 3 ty 3 i0 _ .i64 .i64 Tryz.underlying143 Tryz.underlying3 hi fG none 0 0 [] hold n (by omega) (by omega) (by omega) (by omega) (by rw[gj];omega) (growslice_fits (by omega) fz)
 have Ov:0+n<=grownCap w (0+n) 0 3:=grownCap_ge w _ _ _;have Nz:grownCap w (0+n) 0 3<=maxLen:=grownCap_le_maxLen w _ _ _ (by unfold maxLen;omega);obtain⟨G,hG⟩:∃G,G=grownCap w (0+n) 0 3:=⟨_,rfl⟩
 rw[<-hG]at KZ Ov Nz;rw[Nat.zero_add]at KZ Ov;obtain⟨cur,lq⟩:∃cur,cur=([]:List Value).toArray++Builtin.zeroCells (am 0).cells n++Builtin.zeroCells (am 0).cells (G-n):=⟨_,rfl⟩
 have eY:cur.size=G:=by rw[lq];have e:(am 0).cells.size=1:=rfl;simp[Builtin.zeroCells,e];omega
 rw[<-lq]at KZ;have HROW:Hid (NRow w.heap.size (w.drew.alloc (.cells cur 3)) (.slice (some ⟨w.heap.size,0,none⟩) 0 G) []):=hid ⟨rfl,.inr ⟨w.heap.size,G,cur,rfl,Nat.le_refl _,Blk.new w.drew cur 3,Nat.zero_le _,Nz,by rw[eY,Nat.mul_one],by simp⟩⟩;have HK:Hid (Same w (w.drew.alloc (.cells cur 3))):=hid (((Kept.refl _ w).drew).alloc _);clear hold fz hi fG iN gj hG lq eY Nz;go_enter Tryz.func149,Tryz.ntmps149;go_wp2_with (at_builtin;refine Lib.wpList_append_run _ rfl _ _ _ _ rfl _ _ rfl rfl _ _ (KZ _) ?_)
 all_goals
  go_ret;exact⟨⟨G,rfl,HROW.out⟩,HK.out⟩
theorem xJ(w:World)(h la cA lb cB:Nat)(adA adB:Addr)(I J:Nat→Prop)(xs ys:List Int)(fF:w.cell? ⟨h,0,none⟩=some (.slice (some adA) la cA))(cS:w.cell? ⟨h,1,none⟩=some (.slice (some adB) lb cB))
  (hA:SrcE bI w I (.slice (some adA) la cA) xs) (hB:SrcE bI w J (.slice (some adB) lb cB) ys) (O7:1<=la) (S6:la<=1000) (pK:lb<=1000):
  Calls Tryz.prog 122 #[.slice (some ⟨h,0,none⟩) 2 2] w λe w'=>∃v',e=.returned v'/\pu w.heap.size w' v' (xs++ys)/\Same w w':=by
 have sq:=hA.at.1;have vn:=hB.at.1;have HA:Hid (SrcE bI w I (.slice (some adA) la cA) xs):=hA;have HB:Hid (SrcE bI w J (.slice (some adB) lb cB) ys):=hB;obtain⟨t,ht⟩:∃t,t=la+lb:=⟨_,rfl⟩
 have htI:(la:Int)+(lb:Int)=(t:Int):=by omega
 have S8:IntKind.i64.wrap (t:Int)=(t:Int):=by rw[IntKind.wrap_i64];omega
 have HGR:=tG w t (by omega) (by omega);have HXL:Hid (la=xs.length/\lb=ys.length):=hid ⟨sq,vn⟩;clear hA hB ht sq vn;go_enter Tryz.func122,Tryz.ntmps122;go_wp2_with fail;refine wp_loop_rounds 3 ?_;rw[rounds_succ];go_wp2_with fail;rw[rounds_succ];go_wp2_with fail;rw[rounds_succ];go_wp2_with fail;refine HGR.mono ?_;rintro e w1 ⟨⟨G,rfl,hr1⟩,hk1⟩;have HR1:Hid (pu w.heap.size w1 (.slice (some ⟨w.heap.size,0,none⟩) 0 G) []):=hid (hr1.recode (enc':=bI) (ys:=[]) rfl);have HK1:Hid (Same w w1):=hk1;have c1:w1.cell? ⟨h,0,none⟩=some (.slice (some adA) la cA):=hk1.cell fF (λf=>f);have c2:w1.cell? ⟨h,1,none⟩=some (.slice (some adB) lb cB):=hk1.cell cS (λf=>f);have Ix:=hk1.size;clear hr1 hk1 HGR;go_wp2_with fail;refine wp_loop_rounds 3 ?_;rw[rounds_succ];go_wp2_with (at_builtin;refine bU _ bI mQ w.heap.size 143 3 (bI 0) 8 Tryz.underlying143 Tryz.infoI rfl (by decide) rfl (.tmp 31) (.tmp 32) rfl _ [] rfl HR1.out _ (some adA) la cA xs rfl (HA.out.same HK1.out) (λe=>by cases e) (by have:=HXL.out;simp;omega) Ix ?_;intro v3 w3 hr3 jW;have HR3:Hid (pu w.heap.size w3 v3 xs):=hid (by simpa using hr3);have HK3:Hid (Same w w3):=hid (HK1.out.grown jW (λj e=>.inr (HR1.out.ge e)));have d2:w3.cell? ⟨h,1,none⟩=some (.slice (some adB) lb cB):=HK3.out.cell cS (λf=>f);clear hr3 jW);have uV:=HK3.out.size;rw[rounds_succ];go_wp2_with (at_builtin;refine bU _ bI mQ w.heap.size 143 3 (bI 0) 8 Tryz.underlying143 Tryz.infoI rfl (by decide) rfl (.tmp 31) (.tmp 32) rfl _ xs rfl HR3.out _ (some adB) lb cB ys rfl (HB.out.same HK3.out) (λe=>by cases e) (by have:=HXL.out;omega) uV ?_;intro v4 w4 hr4 pO;have HR4:Hid (pu w.heap.size w4 v4 (xs++ys)):=hr4;have HK4:Hid (Same w w4):=hid (HK3.out.grown pO (λj e=>.inr (HR3.out.ge e)));clear hr4 pO);rw[rounds_succ];go_wp2_with fail;go_ret;exact⟨_,rfl,HR4.out,HK4.out⟩
end Go.Proofs.YtkhagfgineifhaaGreatDoor
