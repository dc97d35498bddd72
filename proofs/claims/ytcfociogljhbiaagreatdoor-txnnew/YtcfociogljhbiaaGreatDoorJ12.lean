/-
  Of the proof: parts ChShS, ChC.
-/
import Derived.Shelf.SlGeneric
import Derived.Shelf.SlSorted.Search
import Derived.Ground.SlsoProg
import Derived.BigQuiet
import Derived.Test.YtcfociogljhbiaaGreatDoorProg
import Derived.Test.YtcfociogljhbiaaGreatDoorJ4

namespace Go.Proofs.YtcfociogljhbiaaGreatDoor
open Go.Shelf
def Tryz.search12_ren:Go.Shelf.Ren:=⟨fun | 16=>151 | n=>n,fun | 3=>3 | 35=>196 | 4=>4 | 38=>224 | n=>n,fun | n=>n⟩
theorem Tryz.search12:Go.Proofs.SlLaysO.n16 Tryz.prog Tryz.search12_ren:={
 mixed:=by kernel_rfl
 f16:=Tryz.func151.trans (congrArg some (by kernel_rfl))
 t3:=Tryz.underlying3
 a3:=Tryz.isAgg3
 z3:=Tryz.sizeOf3
 v3:=Tryz.zeroValue3
 t4:=Tryz.underlying4
 a4:=Tryz.isAgg4
 z4:=Tryz.sizeOf4
 v4:=Tryz.zeroValue4
 t35:=Tryz.underlying196
 a35:=Tryz.isAgg196
 z35:=Tryz.sizeOf196
 v35:=Tryz.zeroValue196
 t38:=Tryz.underlying224
 a38:=Tryz.isAgg224
 z38:=Tryz.sizeOf224
 v38:=Tryz.zeroValue224}
end Go.Proofs.YtcfociogljhbiaaGreatDoor

namespace Go.Proofs.YtcfociogljhbiaaGreatDoor
open Go.RowKit Go.Maps Go.Sort

set_option maxHeartbeats 400000 in
theorem cclo_any(W:World)(b1 b2 c g n cap i:Nat)(t x:Int)(h1:W.cell? ⟨b1,0,none⟩=some (.pointer (some ⟨c,0,none⟩)))(h2:W.cell? ⟨b2,0,none⟩=some (.int .i64 t))(h3:W.cell? ⟨c,0,none⟩=some (.slice (some ⟨g,0,none⟩) n cap))(hi:i<n)(hx:W.cell? ⟨g,i*3,none⟩=some (.int .i64 x)):
  Calls Tryz.prog 152 (#[.int .i64 (i:Nat)] ++ #[.pointer (some ⟨b1,0,none⟩),.pointer (some ⟨b2,0,none⟩)]) W fun e w'=>e=.returned (.bool (decide (t<x)))∧∃q,w'=W.drewN q:=by
 have hiz:(i:Int)<(n:Int):=by omega
 go_enter Tryz.func152,Tryz.ntmps152
 go_wp2
 go_quiet (fail)
 all_goals go_wp2
 all_goals go_ret
 all_goals exact⟨by first | rfl | simp,_,rfl⟩

set_option maxHeartbeats 1000000 in
theorem upTo_any{N:Nat}{w:World}{ρ:Nat→Nat}{c:Nat}{l:List Ver}(h:ChAt N w ρ c l)(hr:RisV l)(hl:l.length≤100000)(t:Int):
  Calls Tryz.prog 121 #[.pointer (some ⟨c,0,none⟩),.int .i64 t] w fun e w'=>e=.returned (.int .i64 (upV l t:Nat))∧Same w w':=by
 obtain⟨v,hb,hrow,_⟩:=h
 obtain⟨W0,hW0⟩:∃W0,W0=(w.alloc (.cells #[.pointer (some ⟨c,0,none⟩)] 143)).alloc (.cells #[.int .i64 t] 3):=⟨_,rfl⟩
 have hsame:Same w W0:=by rw[hW0];exact((Kept.refl _ w).alloc _).alloc _
 have B1:Blk W0 w.heap.size #[.pointer (some ⟨c,0,none⟩)] 143:=by
  rw[hW0]
  exact(Blk.new w _ _).kept (F:=fun _=>False) ((Kept.refl _ _).alloc _) (fun f=>f)
 have B2:Blk W0 (w.heap.size+1) #[.int .i64 t] 3:=by
  rw[hW0]
  have:=Blk.new (w.alloc (.cells #[.pointer (some ⟨c,0,none⟩)] 143)) #[.int .i64 t] 3
  rwa [World.size_alloc]at this
 obtain⟨ao,cap,hv,hg,_⟩:=hrow.shape
 have hbc:w.cell? ⟨c,0,none⟩=some (.slice ao l.length cap):=by rw[hb.cell 0,←hv];rfl
 have hS:=Any.sort_Search (P:=Tryz.prog) Tryz.search12 152 #[.pointer (some ⟨w.heap.size,0,none⟩),.pointer (some ⟨w.heap.size+1,0,none⟩)] l.length (fun i=>decide (t<(l.getD i ver0).t)) W0 (enters_of Tryz.func152 (by kernel_rfl) rfl) (by omega)
  (fun m os i hi=>by
   obtain⟨g,rfl⟩:=hg (by intro e;rw[e]at hi;simp at hi)
   have hk:=same_grow W0 m os
   have hgd:l.getD i ver0=l[i]:=by simp[List.getD,hi]
   have hx:w.cell? ⟨g,i*3,none⟩=some (.int .i64 (l.getD i ver0).t):=by
    rw[hgd]
    have h9:=RowC.cell verE_ok (show RowC N 147 3 verE w (.slice (some ⟨g,0,none⟩) l.length cap) l by rw[←hv];exact hrow) i 0 hi (by decide)
    rw[Nat.add_zero]at h9
    exact h9
   exact(cclo_any _ w.heap.size (w.heap.size+1) c g l.length cap i t _ (hk.cell (B1.cell 0) (fun f=>f)) (hk.cell (B2.cell 0) (fun f=>f)) (hk.cell (hsame.cell hbc (fun f=>f)) (fun f=>f)) hi (hk.cell (hsame.cell hx (fun f=>f)) (fun f=>f))).mono
    fun _ _ ⟨he,q,hq⟩=>⟨he,q,#[],by rw[hq,grow_empty]⟩)
  (fun a b hab hb2 ha=>by
   simp only[decide_eq_true_eq]at ha ⊢
   have e1:l.getD a ver0=l[a]:=by simp[List.getD,show a<l.length by omega]
   have e2:l.getD b ver0=l[b]:=by simp[List.getD,hb2]
   rw[e1]at ha
   rw[e2]
   rcases Nat.lt_or_eq_of_le hab with h | h
   ·have:=List.pairwise_iff_getElem.1 hr a b (by omega) hb2 h
    omega
   ·subst h;exact ha)
 rw[upV_range hr]at hS
 obtain⟨r,hrr⟩:∃r,r=upV l t:=⟨_,rfl⟩
 obtain⟨n,hn⟩:∃n,n=l.length:=⟨_,rfl⟩
 rw[←hrr]at hS ⊢
 rw[←hn]at hS hbc
 have HS:Calls Tryz.prog 151 #[.int .i64 (n:Nat),.func (.func 152) #[] #[.pointer (some ⟨w.heap.size,0,none⟩),.pointer (some ⟨w.heap.size+1,0,none⟩)]] W0 fun e w'=>e=.returned (.int .i64 (r:Nat))∧∃q os,w'=grow (W0.drewN q) os:=hS
 have HW:Hid (W0=(w.alloc (.cells #[.pointer (some ⟨c,0,none⟩)] 143)).alloc (.cells #[.int .i64 t] 3)):=hW0
 have HK:Hid (Same w W0):=hsame
 have q0:((w.alloc (.cells #[.pointer (some ⟨c,0,none⟩)] 143)).alloc (.cells #[.int .i64 t] 3)).cell? ⟨c,0,none⟩=some (.slice ao n cap):=by rw[←HW.out];exact hsame.cell hbc (fun f=>f)
 clear hS B1 B2 hv hg hrr hn hr hl hrow hb hW0 hsame
 go_enter Tryz.func121,Tryz.ntmps121
 go_wp2_with fail
 rw[←HW.out]
 refine HS.mono ?_
 rintro e w1 ⟨rfl,q,os,rfl⟩
 go_wp2_with fail
 go_ret
 exact⟨rfl,HK.out.trans (same_grow W0 q os)⟩

def verV(v:Ver):Value:=.agg #[.int .i64 v.t,.bool v.there,.string v.data]

set_option maxHeartbeats 1000000 in
theorem newest_any{N:Nat}{w:World}{ρ:Nat→Nat}{c:Nat}{l:List Ver}(h:ChAt N w ρ c l)(hr:RisV l)(hl:l.length≤100000)(t:Int):
  Calls Tryz.prog 144 #[.pointer (some ⟨c,0,none⟩),.int .i64 t] w fun e w'=>e=.returned (verV (newV l t))∧Same w w':=by
 obtain⟨wA,hwA⟩:∃W,W=w.alloc (.cells #[.int .i64 0,.bool false,.string ⟨#[]⟩] 147):=⟨_,rfl⟩
 have hka:Same w wA:=by rw[hwA];exact(Kept.refl _ w).alloc _
 have BA:Blk wA w.heap.size #[.int .i64 0,.bool false,.string ⟨#[]⟩] 147:=by rw[hwA];exact Blk.new w _ _
 have hA:ChAt N wA ρ c l:=by
  obtain⟨v,h1,h2,h3⟩:=h
  exact⟨v,h1.kept hka (fun f=>f),h2.kept hka (fun _ _ f=>f),h3⟩
 have HU:=upTo_any hA hr hl t
 have hle:=upV_le l t
 have HN:Hid (newV l t=if upV l t=0 then ver0 else l.getD (upV l t-1) ver0):=hid rfl
 obtain⟨u,hu⟩:∃u,u=upV l t:=⟨_,rfl⟩
 rw[←hu]at HU HN hle
 obtain⟨v,hb,hrow,_⟩:=hA
 obtain⟨ao,cap,hv,hg,_,hcap,_⟩:=hrow.shape
 have HB:Hid (Blk wA c #[v] 202∧RowC N 147 3 verE wA v l):=hid ⟨hb,hrow⟩
 have HV:Hid (v=.slice ao l.length cap∧(l≠[]→∃g,ao=some ⟨g,0,none⟩)):=hid ⟨hv,hg⟩
 have HWA:Hid (wA=w.alloc (.cells #[.int .i64 0,.bool false,.string ⟨#[]⟩] 147)):=hwA
 have HBA:Hid (Blk wA w.heap.size #[.int .i64 0,.bool false,.string ⟨#[]⟩] 147∧Same w wA):=hid ⟨BA,hka⟩
 have HLL:Hid (u≤l.length∧l.length≤100000):=hid ⟨hle,hl⟩
 obtain⟨xb,hxb⟩:∃x,x=w.heap.size:=⟨_,rfl⟩
 have HXB:Hid (xb=w.heap.size):=hxb
 clear hb hrow hv hg hwA BA hka hle hl hr hu h hcap hxb
 by_cases h0:u=0
 ·subst h0
  have HE:Hid (newV l t=ver0):=hid (by rw[HN.out,if_pos rfl])
  go_enter Tryz.func144,Tryz.ntmps144
  go_wp2_with fail
  rw[←HWA.out,←HXB.out]
  refine HU.mono ?_
  rintro e w1 ⟨rfl,hk⟩
  have b1:Blk w1 xb #[.int .i64 0,.bool false,.string ⟨#[]⟩] 147:=by rw[HXB.out];exact HBA.out.1.kept hk (fun f=>f)
  have c0:=b1.cell 0
  have c1:=b1.cell 1
  have c2:=b1.cell 2
  have z0:=b1.frozen 0
  have z1:=b1.frozen 1
  have z2:=b1.frozen 2
  have HK:Hid (Same wA w1):=hk
  simp at c0 c1 c2
  have hb3:=((b1.set 0 (.int .i64 0)).set 1 (.bool false)).set 2 (.string ⟨#[]⟩)
  have d0:=hb3.cell 0
  have d1:=hb3.cell 1
  have d2:=hb3.cell 2
  simp at d0 d1 d2
  have HD:=hid (And.intro d0 (And.intro d1 d2))
  clear hk b1 hb3 d0 d1 d2
  go_wp2_with fail
  refine bodyPost_ret (v:=verV ver0) (by rw[results_cellC rfl];simp[go_sem,HD.out.1,HD.out.2.1,HD.out.2.2,verV,ver0]) rfl ?_
  refine⟨by rw[HE.out],?_⟩
  have hk2:Same w w1:=HBA.out.2.trans HK.out
  exact((hk2.setCell _ _ (.inr (by rw[HXB.out];exact Nat.le_refl _))).setCell _ _ (.inr (by rw[HXB.out];exact Nat.le_refl _))).setCell _ _ (.inr (by rw[HXB.out];exact Nat.le_refl _))
 ·have hl0:l≠[]:=by intro e;have:=HLL.out;rw[e]at this;simp at this;omega
  obtain⟨g,hg⟩:=HV.out.2 hl0
  obtain⟨x,hx⟩:∃x,x=l.getD (u-1) ver0:=⟨_,rfl⟩
  have HE:Hid (newV l t=x):=hid (by rw[HN.out,if_neg h0,hx])
  have hgd:l.getD (u-1) ver0=l[u-1]'(by have:=HLL.out;omega):=by have:=HLL.out;simp[List.getD,show u-1<l.length by omega]
  obtain⟨m,hm⟩:∃m,u=m+1:=⟨u-1,by omega⟩
  subst hm
  have hrw:RowC N 147 3 verE wA (.slice (some ⟨g,0,none⟩) l.length cap) l:=by rw[←hg,←HV.out.1];exact HB.out.2
  have hm1:m<l.length:=by have:=HLL.out;omega
  have e0:=RowC.cell verE_ok hrw m 0 hm1 (by decide)
  have e1:=RowC.cell verE_ok hrw m 1 hm1 (by decide)
  have e2:=RowC.cell verE_ok hrw m 2 hm1 (by decide)
  have hx2:l[m]=x:=by rw[hx,hgd];rfl
  rw[hx2]at e0 e1 e2
  obtain⟨n,hn⟩:∃n,n=l.length:=⟨_,rfl⟩
  have hcc:wA.cell? ⟨c,0,none⟩=some (.slice (some ⟨g,0,none⟩) n cap):=by rw[HB.out.1.cell 0,HV.out.1,hg,hn];rfl
  rw[←hn]at hm1
  have hmi:(m:Int)<(n:Int):=by omega
  have HCE:Hid (wA.cell? ⟨g,m*3+0,none⟩=some (.int .i64 x.t)∧wA.cell? ⟨g,m*3+1,none⟩=some (.bool x.there)∧wA.cell? ⟨g,m*3+2,none⟩=some (.string x.data)):=hid ⟨e0,e1,e2⟩
  have hn1:n≤100000:=by rw[hn];exact HLL.out.2
  have q1:((m+1:Nat):Int)-1=(m:Int):=by omega
  have q1w:IntKind.i64.wrap (m:Int)=(m:Int):=by rw[IntKind.wrap_i64];omega
  have HCC:=hid hcc
  clear e0 e1 e2 hx hgd hx2 hrw hn hg hl0 HV HB HN hcc
  go_enter Tryz.func144,Tryz.ntmps144
  go_wp2_with fail
  rw[←HWA.out,←HXB.out]
  refine HU.mono ?_
  rintro e w1 ⟨rfl,hk⟩
  have b1:Blk w1 xb #[.int .i64 0,.bool false,.string ⟨#[]⟩] 147:=by rw[HXB.out];exact HBA.out.1.kept hk (fun f=>f)
  have c0:=b1.cell 0
  have c1:=b1.cell 1
  have c2:=b1.cell 2
  have z0:=b1.frozen 0
  have z1:=b1.frozen 1
  have z2:=b1.frozen 2
  have HK:Hid (Same wA w1):=hk
  simp at c0 c1 c2
  have hb3:=((b1.set 0 (.int .i64 x.t)).set 1 (.bool x.there)).set 2 (.string x.data)
  have d0:=hb3.cell 0
  have d1:=hb3.cell 1
  have d2:=hb3.cell 2
  simp at d0 d1 d2
  have HD:=hid (And.intro d0 (And.intro d1 d2))
  have hc:=hk.cell HCC.out (fun f=>f)
  have y0:=hk.cell HCE.out.1 (fun f=>f)
  have y1:=hk.cell HCE.out.2.1 (fun f=>f)
  have y2:=hk.cell HCE.out.2.2 (fun f=>f)
  rw[Nat.add_zero]at y0
  clear hk b1 hb3 d0 d1 d2
  go_wp2_with fail
  refine bodyPost_ret (v:=verV x) (by rw[results_cellC rfl];simp[go_sem,HD.out.1,HD.out.2.1,HD.out.2.2,verV]) rfl ?_
  refine⟨by rw[HE.out],?_⟩
  have hk2:Same w w1:=HBA.out.2.trans HK.out
  exact((hk2.setCell _ _ (.inr (by rw[HXB.out];exact Nat.le_refl _))).setCell _ _ (.inr (by rw[HXB.out];exact Nat.le_refl _))).setCell _ _ (.inr (by rw[HXB.out];exact Nat.le_refl _))

end Go.Proofs.YtcfociogljhbiaaGreatDoor
