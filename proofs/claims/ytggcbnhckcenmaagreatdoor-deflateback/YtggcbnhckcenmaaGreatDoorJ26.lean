/-
  Of the proof: parts LnCat, InPf, InPg.
-/
import Derived.Lib.AppendZerosOnto
import Derived.Lib.Walk
import Derived.Test.YtggcbnhckcenmaaGreatDoorJ25
import Derived.Test.YtggcbnhckcenmaaGreatDoorJ24
import Derived.Test.YtggcbnhckcenmaaGreatDoorJ22

namespace Go.Proofs.YtggcbnhckcenmaaGreatDoor
open Go.RowKit

set_option maxRecDepth 100000 in
set_option maxHeartbeats 2000000 in
theorem lgrow_any(w:World)(n:Nat)(h1:1≤n)(hn:n≤1000000):
  Calls Tryz.prog 123 #[.slice none 0 0,.int .i64 (n:Nat)] w fun e w'=>(∃G,e=.returned (.slice (some ⟨w.heap.size,0,none⟩) 0 G)∧NRow w.heap.size w' (.slice (some ⟨w.heap.size,0,none⟩) 0 G) [])∧Same w w':=by
 obtain⟨i0,hi,hz0,hz1,hz2⟩:=info_parts Tryz.infoN
 have hbig:(0+n)*i0.bytes≤140737488355328:=by rw[hz2];omega
 have hold:(Builtin.firstCells i0.size 0 (.slice none 0 0)).run Tryz.prog w.drew=.ok ([]:List Value).toArray w.drew:=run_firstCells_none w.drew i0.size 0 0 0
 have hrz:∀ty,(Builtin.append_ #[45,3] ty #[.slice none 0 0,.int .i64 (n:Nat)]).run Tryz.prog w =
   .ok (.slice (some ⟨w.heap.size,0,none⟩) (0+n) (grownCap w (0+n) 0 3)) (w.drew.alloc (.cells (([]:List Value).toArray++Builtin.zeroCells (natV 0).cells n++Builtin.zeroCells (natV 0).cells (grownCap w (0+n) 0 3-(0+n))) 3)):=fun ty=>
  Lib.run_append_grow_zeros w 45 3 ty 3 i0 _ .i64 .i64 Tryz.underlying45 Tryz.underlying3 hi hz0 none 0 0 [] hold n (by omega) (by omega) (by omega) (by omega) (by rw[hz2];omega) (growslice_fits (by omega) hbig)
 have hGn:0+n≤grownCap w (0+n) 0 3:=grownCap_ge w _ _ _
 have hGm:grownCap w (0+n) 0 3≤maxLen:=grownCap_le_maxLen w _ _ _ (by unfold maxLen;omega)
 obtain⟨G,hG⟩:∃G,G=grownCap w (0+n) 0 3:=⟨_,rfl⟩
 rw[←hG]at hrz hGn hGm
 rw[Nat.zero_add]at hrz hGn
 obtain⟨cur,hcur⟩:∃cur,cur=([]:List Value).toArray++Builtin.zeroCells (natV 0).cells n++Builtin.zeroCells (natV 0).cells (G-n):=⟨_,rfl⟩
 have hcs:cur.size=G:=by
  rw[hcur]
  have e:(natV 0).cells.size=1:=rfl
  simp[Builtin.zeroCells,e]
  omega
 rw[←hcur]at hrz
 have HROW:Hid (NRow w.heap.size (w.drew.alloc (.cells cur 3)) (.slice (some ⟨w.heap.size,0,none⟩) 0 G) []):=hid ⟨rfl,.inr ⟨w.heap.size,G,cur,rfl,Nat.le_refl _,Blk.new w.drew cur 3,Nat.zero_le _,hGm,by rw[hcs,Nat.mul_one],by simp⟩⟩
 have HK:Hid (Same w (w.drew.alloc (.cells cur 3))):=hid (((Kept.refl _ w).drew).alloc _)
 clear hold hbig hi hz0 hz1 hz2 hG hcur hcs hGm
 go_enter Tryz.func123,Tryz.ntmps123
 go_wp2_with (at_builtin;refine Lib.wpList_append_run _ rfl _ _ _ _ rfl _ _ rfl rfl _ _ (hrz _) ?_)
 all_goals
  go_ret
  exact⟨⟨G,rfl,HROW.out⟩,HK.out⟩

set_option maxRecDepth 100000 in
set_option maxHeartbeats 2000000 in
theorem lconcat_any(w:World)(h la cA lb cB:Nat)(adA adB:Addr)(I J:Nat→Prop)(xs ys:List Int)(hc1:w.cell? ⟨h,0,none⟩=some (.slice (some adA) la cA))(hc2:w.cell? ⟨h,1,none⟩=some (.slice (some adB) lb cB))
  (hA:SrcE intV w I (.slice (some adA) la cA) xs) (hB:SrcE intV w J (.slice (some adB) lb cB) ys) (hla:1≤la) (hla2:la≤1000) (hlb:lb≤1000):
  Calls Tryz.prog 91 #[.slice (some ⟨h,0,none⟩) 2 2] w fun e w'=>∃v',e=.returned v'∧IRow w.heap.size w' v' (xs++ys)∧Same w w':=by
 have hxl:=hA.at.1
 have hyl:=hB.at.1
 have HA:Hid (SrcE intV w I (.slice (some adA) la cA) xs):=hA
 have HB:Hid (SrcE intV w J (.slice (some adB) lb cB) ys):=hB
 obtain⟨t,ht⟩:∃t,t=la+lb:=⟨_,rfl⟩
 have htI:(la:Int)+(lb:Int)=(t:Int):=by omega
 have htw:IntKind.i64.wrap (t:Int)=(t:Int):=by rw[IntKind.wrap_i64];omega
 have HGR:=lgrow_any w t (by omega) (by omega)
 have HXL:Hid (la=xs.length∧lb=ys.length):=hid ⟨hxl,hyl⟩
 clear hA hB ht hxl hyl
 go_enter Tryz.func91,Tryz.ntmps91
 go_wp2_with fail
 refine wp_loop_rounds 3 ?_
 rw[rounds_succ]
 go_wp2_with fail
 rw[rounds_succ]
 go_wp2_with fail
 rw[rounds_succ]
 go_wp2_with fail
 refine HGR.mono ?_
 rintro e w1 ⟨⟨G,rfl,hr1⟩,hk1⟩
 have HR1:Hid (IRow w.heap.size w1 (.slice (some ⟨w.heap.size,0,none⟩) 0 G) []):=hid (hr1.recode (enc':=intV) (ys:=[]) rfl)
 have HK1:Hid (Same w w1):=hk1
 have c1:w1.cell? ⟨h,0,none⟩=some (.slice (some adA) la cA):=hk1.cell hc1 (fun f=>f)
 have c2:w1.cell? ⟨h,1,none⟩=some (.slice (some adB) lb cB):=hk1.cell hc2 (fun f=>f)
 have hsz1:=hk1.size
 clear hr1 hk1 HGR
 go_wp2_with fail
 refine wp_loop_rounds 3 ?_
 rw[rounds_succ]
 go_wp2_with (at_builtin;refine wpList_append_x _ intV intV_one w.heap.size 45 3 (intV 0) 8 Tryz.underlying45 Tryz.infoI rfl (by decide) rfl (.tmp 31) (.tmp 32) rfl _ [] rfl HR1.out _ (some adA) la cA xs rfl (HA.out.same HK1.out) (fun e=>by cases e) (by have:=HXL.out;simp;omega) hsz1 ?_;intro v3 w3 hr3 hg3;have HR3:Hid (IRow w.heap.size w3 v3 xs):=hid (by simpa using hr3);have HK3:Hid (Same w w3):=hid (HK1.out.grown hg3 (fun j e=>.inr (HR1.out.ge e)));have d2:w3.cell? ⟨h,1,none⟩=some (.slice (some adB) lb cB):=HK3.out.cell hc2 (fun f=>f);clear hr3 hg3)
 have hsz3:=HK3.out.size
 rw[rounds_succ]
 go_wp2_with (at_builtin;refine wpList_append_x _ intV intV_one w.heap.size 45 3 (intV 0) 8 Tryz.underlying45 Tryz.infoI rfl (by decide) rfl (.tmp 31) (.tmp 32) rfl _ xs rfl HR3.out _ (some adB) lb cB ys rfl (HB.out.same HK3.out) (fun e=>by cases e) (by have:=HXL.out;omega) hsz3 ?_;intro v4 w4 hr4 hg4;have HR4:Hid (IRow w.heap.size w4 v4 (xs++ys)):=hr4;have HK4:Hid (Same w w4):=hid (HK3.out.grown hg4 (fun j e=>.inr (HR3.out.ge e)));clear hr4 hg4)
 rw[rounds_succ]
 go_wp2_with fail
 go_ret
 exact⟨_,rfl,HR4.out,HK4.out⟩

end Go.Proofs.YtggcbnhckcenmaaGreatDoor

namespace Go.Proofs.YtggcbnhckcenmaaGreatDoor
open Go.RowKit

theorem RowC.nat{B:Nat}{w:World}{v:Value}{xs:List Nat}(h:RowC B 3 1 natL w v xs):NRow B w v xs:=by
 unfold NRow RowE
 unfold RowC at h
 rw[natL_flat]at h
 exact h

set_option maxRecDepth 100000 in
set_option maxHeartbeats 1000000 in
theorem psame_any(w:World)(y N:Nat)(hN:N≤1000):
  Calls Tryz.prog 112 #[.int .i64 (y:Nat),.int .i64 (N:Nat)] w fun e w'=>∃g,e=.returned (.slice (some ⟨g,0,none⟩) N N)∧NRow w.heap.size w' (.slice (some ⟨g,0,none⟩) N N) (List.replicate N y)∧Same w w':=by
 have HR:=repeatN_any (w.alloc (.cells #[.int .i64 (y:Nat)] 3)) ⟨w.heap.size,0,none⟩ y N (cellsAt_new w 3 (natV y)) hN
 go_enter Tryz.func112,Tryz.ntmps112
 go_wp2_with fail
 refine HR.mono ?_
 rintro e w1 ⟨g,rfl,hr,hk⟩
 have HR1:Hid (RowC (w.alloc (.cells #[.int .i64 (y:Nat)] 3)).heap.size 3 1 natL w1 (.slice (some ⟨g,0,none⟩) N N) (List.replicate N y)):=hr
 have HK1:Hid (Same (w.alloc (.cells #[.int .i64 (y:Nat)] 3)) w1):=hk
 clear hr hk HR
 go_wp2_with fail
 go_ret
 exact⟨g,rfl,RowE.base HR1.out.nat (by simp),Same.trans ((Kept.refl _ w).alloc _) HK1.out⟩

set_option maxRecDepth 100000 in
set_option maxHeartbeats 4000000 in
theorem pconcat_any(w:World)(h:Nat)(la lb lc ld:Nat)(ga gb gc gd:Nat)(xa xb xc xd:List Nat)
  (hc0:w.cell? ⟨h,0,none⟩=some (.slice (some ⟨ga,0,none⟩) la la)) (hc1:w.cell? ⟨h,1,none⟩=some (.slice (some ⟨gb,0,none⟩) lb lb)) (hc2:w.cell? ⟨h,2,none⟩=some (.slice (some ⟨gc,0,none⟩) lc lc)) (hc3:w.cell? ⟨h,3,none⟩=some (.slice (some ⟨gd,0,none⟩) ld ld))
  (hA:NRow 0 w (.slice (some ⟨ga,0,none⟩) la la) xa) (hB:NRow 0 w (.slice (some ⟨gb,0,none⟩) lb lb) xb) (hC:NRow 0 w (.slice (some ⟨gc,0,none⟩) lc lc) xc) (hD:NRow 0 w (.slice (some ⟨gd,0,none⟩) ld ld) xd) (h1:1≤la) (hla:la≤1000) (hlb:lb≤1000) (hlc:lc≤1000) (hld:ld≤1000):
  Calls Tryz.prog 91 #[.slice (some ⟨h,0,none⟩) 4 4] w fun e w'=>∃v',e=.returned v'∧NRow w.heap.size w' v' (xa++xb++xc++xd)∧Same w w':=by
 have HA:Hid (SrcE natV w _ (.slice (some ⟨ga,0,none⟩) la la) xa):=hid (SrcE.ofRow hA)
 have HB:Hid (SrcE natV w _ (.slice (some ⟨gb,0,none⟩) lb lb) xb):=hid (SrcE.ofRow hB)
 have HC:Hid (SrcE natV w _ (.slice (some ⟨gc,0,none⟩) lc lc) xc):=hid (SrcE.ofRow hC)
 have HD:Hid (SrcE natV w _ (.slice (some ⟨gd,0,none⟩) ld ld) xd):=hid (SrcE.ofRow hD)
 have HXL:Hid (xa.length=la∧xb.length=lb∧xc.length=lc∧xd.length=ld):=hid ⟨hA.len,hB.len,hC.len,hD.len⟩
 obtain⟨t1,ht1⟩:∃t,t=la+lb:=⟨_,rfl⟩
 obtain⟨t2,ht2⟩:∃t,t=t1+lc:=⟨_,rfl⟩
 obtain⟨t3,ht3⟩:∃t,t=t2+ld:=⟨_,rfl⟩
 have hI1:(la:Int)+(lb:Int)=(t1:Int):=by omega
 have hI2:(t1:Int)+(lc:Int)=(t2:Int):=by omega
 have hI3:(t2:Int)+(ld:Int)=(t3:Int):=by omega
 have hw1:IntKind.i64.wrap (t1:Int)=(t1:Int):=by rw[IntKind.wrap_i64];omega
 have hw2:IntKind.i64.wrap (t2:Int)=(t2:Int):=by rw[IntKind.wrap_i64];omega
 have hw3:IntKind.i64.wrap (t3:Int)=(t3:Int):=by rw[IntKind.wrap_i64];omega
 have HGR:=lgrow_any w t3 (by omega) (by omega)
 have hl1:t1≤2000:=by omega
 have hl2:t2≤3000:=by omega
 have hl3:t3≤4000:=by omega
 clear hA hB hC hD ht1 ht2 ht3
 go_enter Tryz.func91,Tryz.ntmps91
 go_wp2_with fail
 refine wp_loop_rounds 5 ?_
 rw[rounds_succ]
 go_wp2_with fail
 rw[rounds_succ]
 go_wp2_with fail
 rw[rounds_succ]
 go_wp2_with fail
 rw[rounds_succ]
 go_wp2_with fail
 rw[rounds_succ]
 go_wp2_with fail
 refine HGR.mono ?_
 rintro e w1 ⟨⟨G,rfl,hr1⟩,hk1⟩
 have HR1:Hid (NRow w.heap.size w1 (.slice (some ⟨w.heap.size,0,none⟩) 0 G) []):=hid hr1
 have HK1:Hid (Same w w1):=hk1
 have c0:=hk1.cell hc0 (fun f=>f)
 have hsz1:=hk1.size
 clear hr1 hk1 HGR
 go_wp2_with fail
 refine wp_loop_rounds 5 ?_
 rw[rounds_succ]
 go_wp2_with (at_builtin;refine wpList_append_x _ natV natV_one w.heap.size 45 3 (natV 0) 8 Tryz.underlying45 Tryz.infoN rfl (by decide) rfl (.tmp 31) (.tmp 32) rfl _ [] rfl HR1.out _ (some ⟨ga,0,none⟩) la la xa rfl (HA.out.same HK1.out) (fun e=>by cases e) (by have:=HXL.out;simp;omega) hsz1 ?_;intro v3 w3 hr3 hg3;have HR3:Hid (NRow w.heap.size w3 v3 xa):=hid (by simpa using hr3);have HK3:Hid (Same w w3):=hid (HK1.out.grown hg3 (fun j e=>.inr (HR1.out.ge e)));have d1:=HK3.out.cell hc1 (fun f=>f);clear hr3 hg3)
 have hsz3:=HK3.out.size
 rw[rounds_succ]
 go_wp2_with (at_builtin;refine wpList_append_x _ natV natV_one w.heap.size 45 3 (natV 0) 8 Tryz.underlying45 Tryz.infoN rfl (by decide) rfl (.tmp 31) (.tmp 32) rfl _ xa rfl HR3.out _ (some ⟨gb,0,none⟩) lb lb xb rfl (HB.out.same HK3.out) (fun e=>by cases e) (by have:=HXL.out;omega) hsz3 ?_;intro v4 w4 hr4 hg4;have HR4:Hid (NRow w.heap.size w4 v4 (xa++xb)):=hr4;have HK4:Hid (Same w w4):=hid (HK3.out.grown hg4 (fun j e=>.inr (HR3.out.ge e)));have d2:=HK4.out.cell hc2 (fun f=>f);clear hr4 hg4)
 have hsz4:=HK4.out.size
 rw[rounds_succ]
 go_wp2_with (at_builtin;refine wpList_append_x _ natV natV_one w.heap.size 45 3 (natV 0) 8 Tryz.underlying45 Tryz.infoN rfl (by decide) rfl (.tmp 31) (.tmp 32) rfl _ (xa++xb) rfl HR4.out _ (some ⟨gc,0,none⟩) lc lc xc rfl (HC.out.same HK4.out) (fun e=>by cases e) (by have:=HXL.out;rw[List.length_append];omega) hsz4 ?_;intro v5 w5 hr5 hg5;have HR5:Hid (NRow w.heap.size w5 v5 (xa++xb++xc)):=hr5;have HK5:Hid (Same w w5):=hid (HK4.out.grown hg5 (fun j e=>.inr (HR4.out.ge e)));have d3:=HK5.out.cell hc3 (fun f=>f);clear hr5 hg5)
 have hsz5:=HK5.out.size
 rw[rounds_succ]
 go_wp2_with (at_builtin;refine wpList_append_x _ natV natV_one w.heap.size 45 3 (natV 0) 8 Tryz.underlying45 Tryz.infoN rfl (by decide) rfl (.tmp 31) (.tmp 32) rfl _ (xa++xb++xc) rfl HR5.out _ (some ⟨gd,0,none⟩) ld ld xd rfl (HD.out.same HK5.out) (fun e=>by cases e) (by have:=HXL.out;rw[List.length_append,List.length_append];omega) hsz5 ?_;intro v6 w6 hr6 hg6;have HR6:Hid (NRow w.heap.size w6 v6 (xa++xb++xc++xd)):=hr6;have HK6:Hid (Same w w6):=hid (HK5.out.grown hg6 (fun j e=>.inr (HR5.out.ge e)));clear hr6 hg6)
 rw[rounds_succ]
 go_wp2_with fail
 go_ret
 exact⟨_,rfl,HR6.out,HK6.out⟩

end Go.Proofs.YtggcbnhckcenmaaGreatDoor

namespace Go.Proofs.YtggcbnhckcenmaaGreatDoor
open Go.RowKit

theorem chk_list(l:List Nat)(h0:0<l.length)(hl:l.length≤288)(h15:∀x∈l,x≤15):chk (l.map (fun(n:Nat)=>(n:Int)))=chkN l:=by
 have hok:okAll (l.map (fun(n:Nat)=>(n:Int))) 0 15=true:=by
  simp only[okAll,List.length_map,Bool.and_eq_true,decide_eq_true_eq,Bool.not_eq_true',List.any_eq_false]
  refine⟨⟨by omega,by omega⟩,fun z hz=>?_⟩
  obtain⟨n,hn,rfl⟩:=List.mem_map.1 hz
  have:=h15 n hn
  simp[badI];omega
 unfold chk
 rw[if_pos hok,List.map_map]
 have e:l.map (Int.toNat ∘ fun(n:Nat)=>(n:Int))=l:=by
  conv=>rhs;rw[←List.map_id l]
  exact List.map_congr_left (fun n _=>by simp)
 rw[e]

theorem pnew_any(w:World)(v:Value)(I:Nat→Prop)(ns:List Nat)(hs:SrcE natV w I v ns)(hg:Lok ns):
  Calls Tryz.prog 111 #[v] w fun e w'=>(∃d vc vs,e=.returned (.tuple #[.pointer (some ⟨d,0,none⟩),.int .i64 0])∧Dec w' d vc vs ns∧∀k,DF d vc vs k→w.heap.size≤k)∧Same w w':=
 new_good w v I _ ns (hs.recode hg.good.eq.symm) hg.good (by rw[chk_list ns hg.pos hg.max hg.le];exact hg.ok)

def Bet(a b k:Nat):Prop:=a≤k∧k<b

set_option maxRecDepth 100000 in
set_option maxHeartbeats 4000000 in
theorem pfixed_any(w:World):
  Calls Tryz.prog 72 #[] w fun e w'=>∃k,e=.returned (.pointer (some ⟨k,0,none⟩))∧CodesP w' k fixL fixD (Bet w.heap.size w'.heap.size)∧Same w w':=by
 have H1:=psame_any w 8 144 (by decide)
 have H2:=fun wx:World=>psame_any wx 9 112 (by decide)
 have H3:=fun wx:World=>psame_any wx 7 24 (by decide)
 have H4:=fun wx:World=>psame_any wx 8 8 (by decide)
 have H5:=fun wx:World=>psame_any wx 5 32 (by decide)
 go_enter Tryz.func72,Tryz.ntmps72
 go_wp2_with fail
 refine H1.mono ?_
 rintro e w1 ⟨g1,rfl,hr1,hk1⟩
 have HR1:Hid (NRow w.heap.size w1 (.slice (some ⟨g1,0,none⟩) 144 144) (List.replicate 144 8)):=hr1
 have HK1:Hid (Same w w1):=hk1
 clear hr1 hk1 H1
 go_wp2_with fail
 refine(H2 w1).mono ?_
 rintro e w2 ⟨g2,rfl,hr2,hk2⟩
 have HR2:Hid (NRow w1.heap.size w2 (.slice (some ⟨g2,0,none⟩) 112 112) (List.replicate 112 9)):=hr2
 have HK2:Hid (Same w1 w2):=hk2
 clear hr2 hk2 H2
 go_wp2_with fail
 refine(H3 w2).mono ?_
 rintro e w3 ⟨g3,rfl,hr3,hk3⟩
 have HR3:Hid (NRow w2.heap.size w3 (.slice (some ⟨g3,0,none⟩) 24 24) (List.replicate 24 7)):=hr3
 have HK3:Hid (Same w2 w3):=hk3
 clear hr3 hk3 H3
 go_wp2_with fail
 refine(H4 w3).mono ?_
 rintro e w4 ⟨g4,rfl,hr4,hk4⟩
 have HR4:Hid (NRow w3.heap.size w4 (.slice (some ⟨g4,0,none⟩) 8 8) (List.replicate 8 8)):=hr4
 have HK4:Hid (Same w3 w4):=hk4
 clear hr4 hk4 H4
 have HCC:Hid (∀W:World,Same w4 W→∀h,W.cell? ⟨h,0,none⟩=some (.slice (some ⟨g1,0,none⟩) 144 144)→W.cell? ⟨h,1,none⟩=some (.slice (some ⟨g2,0,none⟩) 112 112)→W.cell? ⟨h,2,none⟩=some (.slice (some ⟨g3,0,none⟩) 24 24)→W.cell? ⟨h,3,none⟩=some (.slice (some ⟨g4,0,none⟩) 8 8) →
   Calls Tryz.prog 91 #[.slice (some ⟨h,0,none⟩) 4 4] W fun e w'=>∃v',e=.returned v'∧NRow W.heap.size w' v' fixL∧Same W w'):=hid (fun W hW h h0 h1 h2 h3=>by
  have hB:=Same.trans HK4.out hW
  have hC:=Same.trans HK3.out hB
  have hD:=Same.trans HK2.out hC
  exact pconcat_any W h 144 112 24 8 g1 g2 g3 g4 _ _ _ _ h0 h1 h2 h3 (RowE.base (HR1.out.same hD) (Nat.zero_le _)) (RowE.base (HR2.out.same hC) (Nat.zero_le _)) (RowE.base (HR3.out.same hB) (Nat.zero_le _)) (RowE.base (HR4.out.same hW) (Nat.zero_le _)) (by decide) (by decide) (by decide) (by decide) (by decide))
 have HK04:Hid (Same w w4):=hid (Same.trans HK1.out (Same.trans HK2.out (Same.trans HK3.out HK4.out)))
 clear HR1 HR2 HR3 HR4 HK1 HK2 HK3 HK4
 go_wp2_with fail
 refine(HCC.out _ ((Kept.refl _ w4).alloc _) w4.heap.size (by simp) (by simp) (by simp) (by simp)).mono ?_
 rintro e w5 ⟨v5,rfl,hr5,hk5⟩
 have hka:Same w4 w5:=Same.trans ((Kept.refl _ w4).alloc _) hk5
 have HK5:Hid (Same w w5):=hid (Same.trans HK04.out hka)
 have HN1:=pnew_any w5 v5 _ fixL (SrcE.ofRow hr5) fix_ok.lit
 obtain⟨a5,cp5,rfl,_⟩:=hr5.shape
 clear hr5 hk5 HCC HK04 hka
 go_wp2_with fail
 refine HN1.mono ?_
 rintro e w6 ⟨⟨d,vc,vs,rfl,hdec,hdf⟩,hk6⟩
 have HDEC:Hid (Dec w6 d vc vs fixL):=hdec
 have HDF:Hid (∀k,DF d vc vs k→w.heap.size≤k):=hid (fun k hk=>Nat.le_trans HK5.out.size (hdf k hk))
 have HK6:Hid (Same w w6):=hid (Same.trans HK5.out hk6)
 clear hdec hdf hk6 HN1
 go_wp2_with fail
 refine(H5 w6).mono ?_
 rintro e w7 ⟨g7,rfl,hr7,hk7⟩
 have HN2:=pnew_any w7 _ _ fixD (SrcE.ofRow hr7) (fix_ok.dist (by decide))
 have HDEC7:Hid (Dec w7 d vc vs fixL):=hid (HDEC.out.kept hk7 (fun _ _ f=>f))
 have HK7:Hid (Same w w7):=hid (Same.trans HK6.out hk7)
 clear hr7 hk7 H5 HDEC
 go_wp2_with fail
 refine HN2.mono ?_
 rintro e w8 ⟨⟨d2,vc2,vs2,rfl,hdec,hdf⟩,hk8⟩
 have HD1:Hid (Dec w8 d vc vs fixL):=hid (HDEC7.out.kept hk8 (fun _ _ f=>f))
 have HD2:Hid (Dec w8 d2 vc2 vs2 fixD):=hdec
 have HF2:Hid (∀k,DF d2 vc2 vs2 k→w.heap.size≤k):=hid (fun k hk=>Nat.le_trans HK7.out.size (hdf k hk))
 have HK8:Hid (Same w w8):=hid (Same.trans HK7.out hk8)
 clear hdec hdf hk8 HN2
 go_wp2_with fail
 go_ret
 have hkL:Same w8 (w8.alloc (.cells #[.pointer (some ⟨d,0,none⟩),.pointer (some ⟨d2,0,none⟩)] 147)):=(Kept.refl _ w8).alloc _
 have hsz:(w8.alloc (.cells #[.pointer (some ⟨d,0,none⟩),.pointer (some ⟨d2,0,none⟩)] 147)).heap.size=w8.heap.size+1:=by simp
 refine⟨w8.heap.size,rfl,⟨d,vc,vs,_,Blk.new w8 _ _,HD1.out.kept hkL (fun _ _ f=>f),fun j hj=>⟨HDF.out j hj,?_⟩,.inr ⟨by decide,d2,vc2,vs2,rfl,HD2.out.kept hkL (fun _ _ f=>f),fun j hj=>⟨HF2.out j hj,?_⟩⟩,⟨HK8.out.size,?_⟩⟩,Same.trans HK8.out hkL⟩
 ·rw[hsz];exact Nat.lt_succ_of_lt (HD1.out.lt hj)
 ·rw[hsz];exact Nat.lt_succ_of_lt (HD2.out.lt hj)
 ·rw[hsz];exact Nat.lt_succ_self _

abbrev onceV(bx fx:Nat):Value:=.func (.func 110) #[] #[.pointer (some ⟨bx,0,none⟩),.pointer (some ⟨fx,0,none⟩)]

def Onc(w:World)(bx fx:Nat)(O:Nat→Prop):Prop:=
 Blk w fx #[.func (.func 72) #[] #[]] 98∧(Blk w bx #[.pointer none] 105∨∃k,Blk w bx #[.pointer (some ⟨k,0,none⟩)] 105∧CodesP w k fixL fixD O)

theorem Onc.kept{F O:Nat→Prop}{w w':World}{bx fx:Nat}(h:Onc w bx fx O)(hk:Kept F w w')(hO:∀j,O j→¬F j)(hb:¬F bx)(hf:¬F fx):Onc w' bx fx O:=by
 refine⟨h.1.kept hk hf,?_⟩
 rcases h.2 with h2 | ⟨k,h2,h3⟩
 ·exact .inl (h2.kept hk hb)
 ·exact .inr ⟨k,h2.kept hk hb,h3.kept hk hO⟩

theorem Onc.less{O O':Nat→Prop}{w:World}{bx fx:Nat}(h:Onc w bx fx O)(hO:∀j,O j→O' j):Onc w bx fx O':=by
 refine⟨h.1,?_⟩
 rcases h.2 with h2 | ⟨k,h2,h3⟩
 ·exact .inl h2
 ·exact .inr ⟨k,h2,h3.less hO⟩

set_option maxHeartbeats 1000000 in
theorem ponce_any(w:World):
  Calls Tryz.prog 71 #[.func (.func 72) #[] #[]] w fun e w'=>e=.returned (onceV (w.heap.size+1) w.heap.size)∧Onc w' (w.heap.size+1) w.heap.size (fun _=>False)∧Same w w'∧w'.heap.size=w.heap.size+2:=by
 go_enter Tryz.func71,Tryz.ntmps71
 go_wp2_with fail
 go_ret
 refine⟨rfl,⟨?_,.inl ?_⟩,((Kept.refl _ w).alloc _).alloc _,by simp⟩
 ·exact(Blk.new w _ _).kept ((Kept.refl (fun _=>False) _).alloc _) (fun f=>f)
 ·have:=Blk.new (w.alloc (.cells #[.func (.func 72) #[] #[]] 98)) #[.pointer none] 105
  simpa using this

set_option maxRecDepth 100000 in
set_option maxHeartbeats 1000000 in
theorem ponce1_any(w:World)(bx fx:Nat)(O:Nat→Prop)(h:Onc w bx fx O)(hbf:bx≠fx):
  Calls Tryz.prog 110 #[.pointer (some ⟨bx,0,none⟩),.pointer (some ⟨fx,0,none⟩)] w fun e w'=>∃k O',e=.returned (.pointer (some ⟨k,0,none⟩))∧Onc w' bx fx O'∧CodesP w' k fixL fixD O'∧(∀j,O j→O' j)∧(∀j,O' j→O j∨Bet w.heap.size w'.heap.size j)∧Kept (·=bx) w w':=by
 obtain⟨hf,hb | ⟨k,hb,hc⟩⟩:=id h
 ·have HO:Hid (Onc w bx fx O):=h
  have b0:=hb.cell 0
  have f0:=hf.cell 0
  have hbl:=hb.lt
  simp at b0 f0
  have HB:Hid (Blk w bx #[.pointer none] 105):=hb
  have HF:Hid (Blk w fx #[.func (.func 72) #[] #[]] 98):=hf
  have HP:=pfixed_any w
  clear h hf hb
  go_enter Tryz.func110,Tryz.ntmps110
  go_wp2_with fail
  refine HP.mono ?_
  rintro e w2 ⟨k,rfl,hc,hk⟩
  have HB2:Hid (Blk w2 bx #[.pointer none] 105):=hid (HB.out.kept hk (fun f=>f))
  have HF2:Hid (Blk w2 fx #[.func (.func 72) #[] #[]] 98):=hid (HF.out.kept hk (fun f=>f))
  have c0:=HB2.out.cell 0
  have z0:=HB2.out.frozen 0
  simp at c0
  have HC:Hid (CodesP w2 k fixL fixD (Bet w.heap.size w2.heap.size)):=hc
  have HK:Hid (Same w w2):=hk
  clear hc hk HP
  go_wp2_with fail
  go_ret
  have hks:Kept (·=bx) w2 (w2.setCell ⟨bx,0,none⟩ (.pointer (some ⟨k,0,none⟩))):=(Kept.refl (·=bx) w2).setCell ⟨bx,0,none⟩ _ (.inl rfl)
  have hsz:(w2.setCell ⟨bx,0,none⟩ (.pointer (some ⟨k,0,none⟩))).heap.size=w2.heap.size:=by simp[World.setCell]
  have hB3:Blk (w2.setCell ⟨bx,0,none⟩ (.pointer (some ⟨k,0,none⟩))) bx #[.pointer (some ⟨k,0,none⟩)] 105:=by
   have:=HB2.out.set 0 (.pointer (some ⟨k,0,none⟩))
   simpa using this
  have hC3:CodesP (w2.setCell ⟨bx,0,none⟩ (.pointer (some ⟨k,0,none⟩))) k fixL fixD (fun j=>O j∨Bet w.heap.size w2.heap.size j):=(HC.out.kept hks (fun j hj e=>by have:=hj.1;omega)).less (fun j hj=>.inr hj)
  refine⟨k,fun j=>O j∨Bet w.heap.size w2.heap.size j,rfl,⟨HF2.out.kept hks (fun e=>hbf e.symm),.inr ⟨k,hB3,hC3⟩⟩,hC3,fun j hj=>.inl hj,fun j hj=>?_,Kept.trans (HK.out.mono (fun _ _ f=>f.elim)) hks (fun _ _ f=>f) (fun _ _ f=>f)⟩
  rw[hsz]
  exact hj
 ·have HO:Hid (Onc w bx fx O):=h
  have b0:=hb.cell 0
  simp at b0
  have HC:Hid (CodesP w k fixL fixD O):=hc
  clear h hf hb hc
  go_enter Tryz.func110,Tryz.ntmps110
  go_wp2_with fail
  go_ret
  exact⟨k,O,rfl,HO.out,HC.out,fun _ h=>h,fun _ h=>.inl h,Kept.refl _ _⟩

end Go.Proofs.YtggcbnhckcenmaaGreatDoor
