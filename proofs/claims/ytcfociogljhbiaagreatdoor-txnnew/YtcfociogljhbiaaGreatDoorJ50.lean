/-
  Of the proof: parts UdX.
-/
import Derived.Test.YtcfociogljhbiaaGreatDoorJ47

namespace Go.Proofs.YtcfociogljhbiaaGreatDoor
open Go.RowKit Go.Maps Go.Sort Go.Shelf Go.Lib

set_option maxRecDepth 100000 in
set_option maxHeartbeats 8000000 in
theorem new14(w:World)(hx:Mxl w)(ao:Option Addr)(n c:Nat)(As:List Ad)(hA:ArcI w (fun k=>k<w.heap.size) (.slice ao n c) As)(t:Int)(o:Ot)(hb:n≤1152921504606846976∧∀x∈As,x.n≤1152921504606846976)(hd:o.dt.size≤4611686018427379712):
  Calls Tryz.prog 3 #[.slice ao n c,.int .i64 t,.agg (otE o).toArray] w fun e w'=>e=.returned (.bool true)∧Same w w':=by
 obtain⟨W1,hW1⟩:∃W,W=w.alloc (.cells #[.int .i64 o.kind,.int .i64 o.num,.string o.tn,.string o.ar,.string o.en,.string o.dt] 24):=⟨_,rfl⟩
 obtain⟨xb,hxb⟩:∃b,b=w.heap.size:=⟨_,rfl⟩
 have HK0:Hid (Same w W1):=hid (by rw[hW1];exact(Kept.refl _ w).alloc _)
 have HO:Hid (Blk W1 xb #[.int .i64 o.kind,.int .i64 o.num,.string o.tn,.string o.ar,.string o.en,.string o.dt] 24):=hid (by rw[hW1,hxb];exact Blk.new w _ _)
 have HX:Hid (Mxl W1):=hid (hx.kept HK0.out (fun f=>f))
 have HA:Hid (ArcI W1 (fun k=>k<W1.heap.size) (.slice ao n c) As):=hid (arc_same hA HK0.out)
 have HD:=hid hd
 have HL:=hid (largeL14 W1 ao n c As HA.out none 0 0 ⟨hb.1,by decide,hb.2⟩)
 show Calls Tryz.prog 3 #[.slice ao n c,.int .i64 t,.agg #[.int .i64 o.kind,.int .i64 o.num,.string o.tn,.string o.ar,.string o.en,.string o.dt]] w _
 clear hx hA hd hb
 go_enter Tryz.func3,Tryz.ntmps3
 go_upto_region 1 with fail
 rw[←hW1,←hxb]
 clear hW1 hxb
 go_wp2_with fail
 refine HL.out.mono ?_
 rintro e w1 ⟨⟨b,rfl,hb⟩,hk1⟩
 have HK1:=hid hk1
 have HB:=hid hb
 clear hk1 hb HL
 cases b
 case true=>
  have HW:=hid (awake14 w1 (HX.out.kept HK1.out (fun f=>f)))
  go_wp2_with fail
  refine HW.out.mono ?_
  rintro e w2 ⟨rfl,hk2⟩
  have HK2:=hid (HK0.out.trans (Same.trans HK1.out hk2))
  clear hk2 HW
  go_wp2_with fail
  go_ret
  exact⟨rfl,HK2.out⟩
 case false=>
  have HN:Hid (n+(wrsOf14 As).length≤4096):=hid (by have:=HB.out rfl;omega)
  by_cases hc:0≤t∧t≤1000000000∧ckL bx0 0 0 As=0
  case neg=>
   have hbad:t<0∨1000000000<t∨ckL bx0 0 0 As≠0:=by
    by_cases h1:ckL bx0 0 0 As=0
    ·rcases Int.lt_or_le t 0 with q | q
     ·exact .inl q
     ·rcases Int.lt_or_le 1000000000 t with q2 | q2
      ·exact .inr (.inl q2)
      ·exact absurd ⟨q,q2,h1⟩ hc
    ·exact .inr (.inr h1)
   have HC:=hid hbad
   have HT:=hid (tnew_bad w1 ao n c As t (arc_same HA.out HK1.out) (HX.out.kept HK1.out (fun f=>f)) (by have:=HN.out;omega) hbad)
   clear hc hbad
   go_wp2_with fail
   refine HT.out.mono ?_
   rintro e w2 ⟨rfl,hk2⟩
   have HK2:=hid (Same.trans HK1.out hk2)
   have HR:=hid (rnew14_bad w2 ao n c As t (arc_same HA.out HK2.out) (by have:=HN.out;omega) (fun e=>ck_ents14 e) HC.out)
   clear hk2 HT
   go_wp2_with fail
   refine HR.out.mono ?_
   rintro e w3 ⟨rfl,hk3⟩
   have HK3:=hid (Same.trans HK2.out hk3)
   have HW:=hid (awake14 w3 (HX.out.kept HK3.out (fun f=>f)))
   clear hk3
   go_wp2_with fail
   refine HW.out.mono ?_
   rintro e w4 ⟨rfl,hk4⟩
   have HK4:=hid (HK0.out.trans (Same.trans HK3.out hk4))
   clear hk4
   go_wp2_with fail
   go_ret
   exact⟨rfl,HK4.out⟩
  case pos=>
   have HT:=hid (init14 HX.out HK1.out ao n c As t HA.out (by have:=HN.out;omega) ⟨hc.1,hc.2.1⟩ hc.2.2 (by have:=HN.out;omega))
   clear hc
   go_wp2_with fail
   refine HT.out.mono ?_
   rintro e w2 ⟨p,rfl,hk2,hn2⟩
   have HR:=hid (hn2 w2 (Kept.refl _ _))
   clear hk2 hn2 HT
   go_wp2_with fail
   refine HR.out.mono ?_
   rintro e w3 ⟨r,rfl,hb3⟩
   have HB3:=hid hb3
   obtain⟨W,hW⟩:∃x,x=(wrsOf14 As).length:=⟨_,rfl⟩
   rw[←hW]at HB3 HN
   clear hb3 hW
   have HW:=hid (awake14 w3 (HX.out.kept HB3.out.sm (fun f=>f)))
   go_wp2_with fail
   refine HW.out.mono ?_
   rintro e w6 ⟨rfl,hk6⟩
   have HB6:=hid (HB3.out.same hk6)
   clear hk6
   go_wp2_with fail
   refine(end14 HB6.out (by have:=HN.out;omega) HX.out).mono ?_
   rintro e w7 ⟨rfl,hb7⟩
   have HB7:=hid hb7
   obtain⟨c0,c1,c2,c3,c4,c5⟩:=(HO.out.kept hb7.sm (fun f=>f)).c6w
   clear hb7
   have HC:Hid (Calls Tryz.prog 12 #[.pointer (some ⟨p,0,none⟩),.pointer (some ⟨r,0,none⟩),.agg #[.int .i64 o.kind,.int .i64 o.num,.string o.tn,.string o.ar,.string o.en,.string o.dt]] w7 fun e w'=>e=.returned (.bool true)∧Bth W1 p r (W+1+1) w'):=hid (step14 HB7.out (by have:=HN.out;omega) HX.out o HD.out)
   go_wp2_with fail
   refine HC.out.mono ?_
   rintro e w8 ⟨rfl,hb8⟩
   have HB8:=hid hb8
   clear hb8 c0 c1 c2 c3 c4 c5
   go_wp2_with fail
   refine(end1014 HB8.out (by have:=HN.out;omega) HX.out).mono ?_
   rintro e w9 ⟨rfl,hb9⟩
   have HB9:=hid (HK0.out.trans hb9.sm)
   clear hb9
   go_wp2_with fail
   go_ret
   exact⟨rfl,HB9.out⟩

theorem txnNew_all(a0:Option Addr)(len0 cap0:Nat)(As:List Ad)(t:Int)(o:Ot)(W:World)(hl0:ArcI W (fun j=>j<W.heap.size) (.slice a0 len0 cap0) As)(hn0:len0≤reachBytes)(hd0:∀x∈As,x.n≤reachBytes)(_ht:(Lit.int .i64 t).wf=true)(ho:o.dt.size≤reachBytes)(hT:Mxl W):
  Calls Tryz.prog 3 #[.slice a0 len0 cap0,.int .i64 t,.agg (otE o).toArray] W fun e W'=>e=.returned (.bool true)∧Below W.heap.size W W':=
 (new14 W hT a0 len0 cap0 As hl0 t o ⟨Nat.le_trans hn0 (by decide),fun x hx=>Nat.le_trans (hd0 x hx) (by decide)⟩ (Nat.le_trans ho (by decide))).mono fun _ _ ⟨he,hk⟩=>⟨he,Kept.below hk (Nat.le_refl _) (fun _ _ f=>f)⟩

end Go.Proofs.YtcfociogljhbiaaGreatDoor
