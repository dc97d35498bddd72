import Derived.Test.YtkhagfgineifhaaGreatDoorZpE
import Derived.Test.YtkhagfgineifhaaGreatDoorZpF
import Derived.Laws.StructEq
import Derived.Lib.Strings
import Derived.Deep.RegionHeld3
import Derived.RegionDies
set_option maxHeartbeats 400000
set_option maxRecDepth 100000
namespace Go.Proofs.YtkhagfgineifhaaGreatDoor
open Go.RowKit
theorem uB(a b:List Nat)(ha:∀x∈a,x<256)(hb:∀x∈b,x<256):((bH a).toList==(bH b).toList)=decide (a=b):=by
 rw[Lib.toList_data,Lib.toList_data];by_cases h:a=b
 ·subst h;simp
 ·simp only[h,decide_false];refine beq_eq_false_iff_ne.2 (λe=>h (JR ha hb ?_));cases ht:bH a;cases hu:bH b;rw[ht,hu]at e;simp only at e;rw[Array.toList_inj]at e;rw[e]
def jr(m:Mk)(v:Value):Array Value:=#[.int .u16 (m.way:Nat),.int .u32 (m.sum:Nat),.int .u32 (m.packed:Nat),.int .u32 (m.size:Nat),.string (bH m.name),v]
theorem C7(w:World)(m q:Mk)(v:Value)(g:Nat)(hg:w.cell? ⟨g,4,none⟩=some (.string (bH q.name)))(ha:∀b∈m.name,b<256)(hb:∀b∈q.name,b<256):
  Calls Tryz.prog 73 #[.agg (jr m v),.pointer (some ⟨g,0,none⟩)] w λe w'=>e=.returned (.bool (decide (m.name=q.name)))/\Same w w':=by
 have Uk:∀o,(w.alloc o).cell? ⟨g,4,none⟩=some (.string (bH q.name)):=λo=>(show Same w (w.alloc o) from(Kept.refl _ w).alloc o).cell hg (λf=>f)
 have hq:=uB m.name q.name ha hb;obtain⟨B,hB⟩:∃B,B=decide (m.name=q.name):=⟨_,rfl⟩
 rw[<-hB]at hq ⊢;clear hB;unfold jr;go_enter Tryz.func73,Tryz.ntmps73;go_wp2_with fail;go_ret;exact⟨rfl,(Kept.refl _ w).alloc _⟩
theorem lJ{fn:Func}{p:Tmp}{ty:TypeId}(h:fn.results=#[.cell p ty])(tmps:Array Value)(P:Program)(w:World):
  (results fn tmps).run P w=((asAddr (tmps.getD p undef)).run P w).andThen λa w1=>(loadVar ty a).run P w1:=by
 simp only[results,h];simp[Sem.run_bind,Result.andThen]
def PieA(N:Nat)(w w':World)(c:Nat)(m:Mk)(r:List Nat)(e:Ending):Prop:=
 (∀b y,kq m r=some (b,y)->∃v a' cap',e=.returned (.agg (jr m v))/\Tkn N w' v m.packed b/\Cur N w' c y a' cap'/\Kept (·=c) w w')/\(kq m r=none->e=aG 81/\Kept (·=c) w w')
theorem PieA.good{N:Nat}{w w':World}{c:Nat}{m:Mk}{r b y:List Nat}{e:Ending}(ht:kq m r=some (b,y)){v:Value}{a':Option Addr}{cap':Nat}(he:e=.returned (.agg (jr m v)))(h1:Tkn N w' v m.packed b)(h2:Cur N w' c y a' cap')(h3:Kept (·=c) w w'):PieA N w w' c m r e:=
 ⟨λb' y' h=>by rw[ht]at h;simp only[Option.some.injEq,Prod.mk.injEq]at h;obtain⟨rfl,rfl⟩:=h;exact⟨v,a',cap',he,h1,h2,h3⟩,λh=>by rw[ht]at h;cases h⟩
theorem PieA.bad{N:Nat}{w w':World}{c:Nat}{m:Mk}{r:List Nat}{e:Ending}(ht:kq m r=none)(he:e=aG 81)(h3:Kept (·=c) w w'):PieA N w w' c m r e:=
 ⟨λb' y' h=>(by rw[ht]at h;cases h),λ_=>⟨he,h3⟩⟩
theorem kM{m:Mk}{r:List Nat}(h:o0 m r=none):kq m r=none:=by unfold kq;rw[h];rfl
theorem Km(N:Nat)(w:World)(c:Nat)(m:Mk)(r:List Nat)(a:Option Addr)(cap:Nat)(h:Cur N w c r a cap)(hm:gN m)(vk:∀b∈m.name,b<256)(Bg:m.packed≤16384):
  Calls Tryz.prog 45 #[.pointer (some ⟨c,0,none⟩),.agg (lA m)] w λe w'=>PieA N w w' c m r e:=by
 obtain⟨w0,lQ⟩:∃W,W=(w.alloc (.cells #[.int .u16 (m.way:Nat),.int .u32 (m.sum:Nat),.int .u32 (m.packed:Nat),.int .u32 (m.size:Nat),.string (bH m.name)] 49)).alloc (.cells #[.int .u16 0,.int .u32 0,.int .u32 0,.int .u32 0,.string ⟨#[]⟩,.slice none 0 0] 60):=⟨_,rfl⟩
 obtain⟨mb,lu⟩:∃b,b=w.heap.size:=⟨_,rfl⟩
 obtain⟨ib,Pg⟩:∃b,b=w.heap.size+1:=⟨_,rfl⟩
 have HMB:Hid (c<mb/\mb=w.heap.size/\ib=w.heap.size+1):=hid ⟨by have:=h.blk.lt;omega,lu,Pg⟩;have hk0:Same w w0:=by rw[lQ];exact((Kept.refl _ w).alloc _).alloc _
 have HKp1:Hid (Kept (·=c) w w0):=hid hk0.k8;have HM0:Hid (Blk w0 mb #[.int .u16 (m.way:Nat),.int .u32 (m.sum:Nat),.int .u32 (m.packed:Nat),.int .u32 (m.size:Nat),.string (bH m.name)] 49):=hid (by rw[lQ,lu];exact(Blk.new w _ _).kept (show Same _ _ from(Kept.refl _ _).alloc _) (λf=>f));have HI0:Hid (Blk w0 ib #[.int .u16 0,.int .u32 0,.int .u32 0,.int .u32 0,.string ⟨#[]⟩,.slice none 0 0] 60):=hid (by rw[lQ,Pg];have h9:=Blk.new (w.alloc (.cells #[.int .u16 (m.way:Nat),.int .u32 (m.sum:Nat),.int .u32 (m.packed:Nat),.int .u32 (m.size:Nat),.string (bH m.name)] 49)) #[.int .u16 0,.int .u32 0,.int .u32 0,.int .u32 0,.string ⟨#[]⟩,.slice none 0 0] 60;rw[World.size_alloc]at h9;exact h9);have Vo:Hid (w0.heap.size=w.heap.size+2):=hid (by rw[lQ,World.size_alloc,World.size_alloc]);have HC0:Hid (Cur N w0 c r a cap):=hid (h.kept hk0 (λf=>f) (λ_ _ f=>f));have H1:=nY N w0 c r a cap 67324752 HC0.out (by decide);have HMK:Hid (gN m/\(∀b∈m.name,b<256)):=hid ⟨hm,vk⟩;clear h hk0 hm vk;unfold lA;go_enter Tryz.func45,Tryz.ntmps45;go_wp2_with fail;rw[<-lQ,<-Pg,<-lu];clear lQ lu Pg;refine H1.mono ?_;intro e w1 h1;cases mn:eX 4 67324752 r with
 | none=>
  obtain⟨rfl,hk⟩:=h1.2 mn;have HKb:Hid (Kept (·=c) w w1):=hid (HKp1.out.k8 hk);have HEb:Hid (eX 4 67324752 r=none):=mn;clear h1 hk mn H1;unfold aG;go_wp2_with fail;exact⟨rfl,PieA.bad (kM (by simp only[o0,HEb.out,bG])) rfl HKb.out⟩
 | some r1=>
  obtain⟨a1,A2,rfl,hcu1,hk1⟩:=h1.1 _ mn;have E1:Hid (eX 4 67324752 r=some r1):=mn;have HKp2:Hid (Kept (·=c) w w1):=hid (HKp1.out.k8 hk1);have HM1:Hid (Blk w1 mb #[.int .u16 (m.way:Nat),.int .u32 (m.sum:Nat),.int .u32 (m.packed:Nat),.int .u32 (m.size:Nat),.string (bH m.name)] 49):=hid (HM0.out.kept hk1 (λe=>by have:=HMB.out;omega));have HI1:Hid (Blk w1 ib #[.int .u16 0,.int .u32 0,.int .u32 0,.int .u32 0,.string ⟨#[]⟩,.slice none 0 0] 60):=hid (HI0.out.kept hk1 (λe=>by have:=HMB.out;omega));have H2:=Bt N w1 c r1 a1 A2 hcu1;clear h1 mn hcu1 hk1 H1 HKp1 HM0 HI0 HC0;go_wp2_with fail;refine H2.mono ?_;intro e w2 h2;cases iP:fH r1 with
  | none=>
   obtain⟨rfl,hk⟩:=h2.2 iP;have HKb:Hid (Kept (·=c) w w2):=hid (HKp2.out.k8 hk);have HEb:Hid (fH r1=none):=iP;clear h2 hk iP H2;unfold aG;go_wp2_with fail;exact⟨rfl,PieA.bad (kM (by simp only[o0,E1.out,ak,HEb.out,bG])) rfl HKb.out⟩
  | some p2=>
   obtain⟨⟨q,lng⟩,r2⟩:=p2;obtain⟨a2,eS,rfl,Ry,SL,KQ,hcu2,hk2⟩:=h2.1 q lng r2 iP;have E2:Hid (fH r1=some ((q,lng),r2)):=iP;have HLG:Hid (lng<65536):=KQ;obtain⟨wt,QR⟩:∃W,W=w2.alloc (.cells #[.int .u16 (q.way:Nat),.int .u32 (q.sum:Nat),.int .u32 (q.packed:Nat),.int .u32 (q.size:Nat),.string (bH q.name)] 49):=⟨_,rfl⟩
   have hst:Same w2 wt:=(by rw[QR];exact(Kept.refl _ w2).alloc _);obtain⟨tb,Sx⟩:∃b,b=w2.heap.size:=⟨_,rfl⟩
   have HTB:Hid (ib<tb/\mb<tb/\c<tb):=hid (by have h9:=hk2.size;have:=HKp2.out.size;have:=HMB.out;have:=HI1.out.lt;omega);have HTt:Hid (Blk wt tb #[.int .u16 (q.way:Nat),.int .u32 (q.sum:Nat),.int .u32 (q.packed:Nat),.int .u32 (q.size:Nat),.string (bH q.name)] 49):=hid (by rw[QR,Sx];exact Blk.new w2 _ _);have HKp3:Hid (Kept (·=c) w wt):=hid ((HKp2.out.k8 hk2).k8 hst.k8);have HM2:Hid (Blk wt mb #[.int .u16 (m.way:Nat),.int .u32 (m.sum:Nat),.int .u32 (m.packed:Nat),.int .u32 (m.size:Nat),.string (bH m.name)] 49):=hid ((HM1.out.kept hk2 (λe=>by have:=HMB.out;omega)).kept hst (λf=>f));have HI2:Hid (Blk wt ib #[.int .u16 0,.int .u32 0,.int .u32 0,.int .u32 0,.string ⟨#[]⟩,.slice none 0 0] 60):=hid ((HI1.out.kept hk2 (λe=>by have:=HMB.out;omega)).kept hst (λf=>f));have H3:=eE N wt c r2 a2 eS lng (hcu2.kept hst (λf=>f) (λ_ _ f=>f)) (by omega);clear h2 iP hcu2 hk2 H2 HKp2 HM1 HI1 hst Ry SL;unfold lA;go_wp2_with fail;rw[<-QR,<-Sx];clear QR Sx;refine H3.mono ?_;intro e w3 h3;cases nJ:fi lng r2 with
   | none=>
    obtain⟨rfl,hk⟩:=h3.2 nJ;have HKb:Hid (Kept (·=c) w w3):=hid (HKp3.out.k8 hk.k8);have HEb:Hid (fi lng r2=none):=nJ;clear h3 hk nJ H3;unfold aG;go_wp2_with fail;exact⟨rfl,PieA.bad (kM (by simp only[o0,E1.out,ak,E2.out,HEb.out,bG])) rfl HKb.out⟩
   | some p3=>
    obtain⟨x3,r3⟩:=p3;obtain⟨v3,a3,lp,rfl,htk3,hcu3,hk3⟩:=h3.1 x3 r3 nJ;have E3:Hid (fi lng r2=some (x3,r3)):=nJ;have HX3:Hid (∀b∈x3,b<256):=hid htk3.byte;have HT3:Hid (Blk w3 tb #[.int .u16 (q.way:Nat),.int .u32 (q.sum:Nat),.int .u32 (q.packed:Nat),.int .u32 (q.size:Nat),.string (bH q.name)] 49):=hid (HTt.out.kept hk3 (λe=>by have:=HTB.out;omega));have HM3:Hid (Blk w3 mb #[.int .u16 (m.way:Nat),.int .u32 (m.sum:Nat),.int .u32 (m.packed:Nat),.int .u32 (m.size:Nat),.string (bH m.name)] 49):=hid (HM2.out.kept hk3 (λe=>by have:=HMB.out;omega));have HI3:Hid (Blk w3 ib #[.int .u16 0,.int .u32 0,.int .u32 0,.int .u32 0,.string ⟨#[]⟩,.slice none 0 0] 60):=hid (HI2.out.kept hk3 (λe=>by have:=HMB.out;omega));obtain⟨Zl,Zb,sk⟩:=htk3.shp;subst sk;have gs:=GX htk3.src htk3.len;have t4:=HT3.out.cell 4;have TN:=HT3.out.frozen 4;simp at t4;obtain⟨w4,hw4⟩:∃W,W=w3.setCell ⟨tb,4,none⟩ (.string (bH x3)):=⟨_,rfl⟩
    have oF:Kept (·=tb) w3 w4:=(by rw[hw4];exact(Kept.refl (·=tb) w3).setCell _ _ (.inl rfl));have HT4:Hid (Blk w4 tb #[.int .u16 (q.way:Nat),.int .u32 (q.sum:Nat),.int .u32 (q.packed:Nat),.int .u32 (q.size:Nat),.string (bH x3)] 49):=hid (by rw[hw4];have:=HT3.out.set 4 (.string (bH x3));simpa using this);have HM4:Hid (Blk w4 mb #[.int .u16 (m.way:Nat),.int .u32 (m.sum:Nat),.int .u32 (m.packed:Nat),.int .u32 (m.size:Nat),.string (bH m.name)] 49):=hid (HM3.out.kept oF (λe=>by have:=HTB.out;omega));have HI4:Hid (Blk w4 ib #[.int .u16 0,.int .u32 0,.int .u32 0,.int .u32 0,.string ⟨#[]⟩,.slice none 0 0] 60):=hid (HI3.out.kept oF (λe=>by have:=HTB.out;omega));have HC4:Hid (Cur N w4 c r3 a3 lp):=hid (hcu3.kept oF (λe=>by have:=HTB.out;omega) (λk hk e=>by have:=HTB.out;have:=hcu3.new;omega));have HK4:Hid (Kept (·=c) w w4):=hid ((HKp3.out.k8 hk3).trans oF (λ_ _ e=>e) (λk hk e=>by have:=HTB.out;have:=HMB.out;omega));have NL:=HT4.out.cell 0;have NM:=HT4.out.cell 1;have NZ:=HT4.out.cell 2;have ND:=HT4.out.cell 3;have QW:=HT4.out.cell 4;have QZ:=HM4.out.cell 0;have QL:=HM4.out.cell 1;have QK:=HM4.out.cell 2;have Qq:=HM4.out.cell 3;have Ra:=HM4.out.cell 4;simp at NL NM NZ ND QW QZ QL QK Qq Ra;rw[hw4]at NL NM NZ ND QW QZ QL QK Qq Ra;have QT:=uB x3 m.name HX3.out HMK.out.2;have HHD:Hid (o0 m r=if q.named x3=m then some r3 else none):=hid (by simp only[o0,E1.out,ak,E2.out,E3.out]);clear h3 nJ htk3 hcu3 hk3 H3 HKp3 HM2 HI2 HTt HT3 HM3 HI3 oF;by_cases ji:q.named x3=m
    ·have e1:q.way=m.way:=(by rw[<-ji];rfl);have e2:q.sum=m.sum:=(by rw[<-ji];rfl);have e3:q.packed=m.packed:=(by rw[<-ji];rfl);have e4:q.size=m.size:=(by rw[<-ji];rfl);have e5:x3=m.name:=(by rw[<-ji];rfl);rw[e1]at NL;rw[e2]at NM;rw[e3]at NZ;rw[e4]at ND;rw[decide_eq_true e5]at QT;have HHD2:Hid (o0 m r=some r3):=hid (by rw[HHD.out,if_pos ji]);have HO:=bh w4 (.int .i64 81);have HTK:Hid (∀W2,Same w4 W2->Calls Tryz.prog 71 #[.pointer (some ⟨c,0,none⟩),.int .i64 (m.packed:Nat)] W2 λe w'=>TakZ N W2 w' c m.packed r3 e):=hid (λW2 hk=>eE N W2 c r3 a3 lp m.packed (HC4.out.kept hk (λf=>f) (λ_ _ f=>f)) (by omega));clear e1 e2 e3 e4 e5 ji HHD;go_wp2_with fail;rw[<-hw4];refine HO.mono ?_;rintro e w5 ⟨rfl,jU⟩;subst jU;clear HO NL NM NZ ND QW QZ QL QK Qq Ra QT t4 TN gs hw4;have c0:=HM4.out.cell 0;have c1:=HM4.out.cell 1;have c2:=HM4.out.cell 2;have c3:=HM4.out.cell 3;have c4:=HM4.out.cell 4;simp at c0 c1 c2 c3 c4;have HCM:Hid (¬mb=c):=hid (by have:=HMB.out;omega);have HCI:Hid (¬ib=c):=hid (by have:=HMB.out;omega);have ml:IntKind.i64.wrap (m.packed:Int)=(m.packed:Int):=(by rw[IntKind.wrap_i64];omega);cases ht5:fi m.packed r3 with
     | none=>
      have HEb:Hid (fi m.packed r3=none):=ht5;clear ht5;go_wp2_with fail;go_region_dies
      all_goals
       refine(HTK.out _ ((Kept.refl _ w5).drew)).mono ?_;intro e w6 h6;obtain⟨rfl,hk6⟩:=h6.2 HEb.out;exact⟨rfl,PieA.bad (by unfold kq;rw[aA HHD2.out];exact HEb.out) rfl (HK4.out.k8 (Same.trans ((Kept.refl _ w5).drew) hk6).k8)⟩
     | some p5=>
      obtain⟨x5,r5⟩:=p5;have E5:Hid (fi m.packed r3=some (x5,r5)):=ht5;have HALL:Hid (∀W6,Kept (·=c) w5.drew W6->W6.cell? ⟨mb,0,none⟩=some (.int .u16 (m.way:Nat))/\W6.cell? ⟨mb,1,none⟩=some (.int .u32 (m.sum:Nat))/\W6.cell? ⟨mb,2,none⟩=some (.int .u32 (m.packed:Nat))/\W6.cell? ⟨mb,3,none⟩=some (.int .u32 (m.size:Nat))/\W6.cell? ⟨mb,4,none⟩=some (.string (bH m.name))/\W6.cell? ⟨ib,0,none⟩=some (.int .u16 0)/\W6.cell? ⟨ib,1,none⟩=some (.int .u32 0)/\W6.cell? ⟨ib,2,none⟩=some (.int .u32 0)/\W6.cell? ⟨ib,3,none⟩=some (.int .u32 0)/\W6.cell? ⟨ib,4,none⟩=some (.string ⟨#[]⟩)/\W6.cell? ⟨ib,5,none⟩=some (.slice none 0 0)/\W6.frozen? ⟨ib,0,none⟩=false/\W6.frozen? ⟨ib,1,none⟩=false/\W6.frozen? ⟨ib,2,none⟩=false/\W6.frozen? ⟨ib,3,none⟩=false/\W6.frozen? ⟨ib,4,none⟩=false/\W6.frozen? ⟨ib,5,none⟩=false):=hid (λW6 hk=>by
       have hm9:=(HM4.out.kept (show Same w5 w5.drew from(Kept.refl _ w5).drew) (λf=>f)).kept hk HCM.out;have hi9:=(HI4.out.kept (show Same w5 w5.drew from(Kept.refl _ w5).drew) (λf=>f)).kept hk HCI.out;refine⟨?_,?_,?_,?_,?_,?_,?_,?_,?_,?_,?_,hi9.frozen 0,hi9.frozen 1,hi9.frozen 2,hi9.frozen 3,hi9.frozen 4,hi9.frozen 5⟩
       ·have:=hm9.cell 0;simpa using this
       ·have:=hm9.cell 1;simpa using this
       ·have:=hm9.cell 2;simpa using this
       ·have:=hm9.cell 3;simpa using this
       ·have:=hm9.cell 4;simpa using this
       ·have:=hi9.cell 0;simpa using this
       ·have:=hi9.cell 1;simpa using this
       ·have:=hi9.cell 2;simpa using this
       ·have:=hi9.cell 3;simpa using this
       ·have:=hi9.cell 4;simpa using this
       ·have:=hi9.cell 5;simpa using this)
      clear ht5;go_wp2_with fail;go_region_with (go_at_call 71;refine(HTK.out _ ((Kept.refl _ w5).drew)).mono ?_;intro e w6 h6;obtain⟨v6,a6,EF,rfl,htk6,hcu6,hk6⟩:=h6.1 x5 r5 E5.out;obtain⟨KI,QY,rI⟩:=htk6.shp;subst rI;obtain⟨q0,q1,q2,q3,q4,q5,q6,q7,q8,q9,Y7,ZE,Zd,Y1,ZY,ZF,Zs⟩:=HALL.out w6 hk6)
      all_goals
       go_wp2_with fail;have hi6:=(HI4.out.kept (show Same w5 w5.drew from(Kept.refl _ w5).drew) (λf=>f)).kept hk6 HCI.out;obtain⟨wz,oW⟩:∃W,W=(((((w6.setCell ⟨ib,0,none⟩ (.int .u16 (m.way:Nat))).setCell ⟨ib,1,none⟩ (.int .u32 (m.sum:Nat))).setCell ⟨ib,2,none⟩ (.int .u32 (m.packed:Nat))).setCell ⟨ib,3,none⟩ (.int .u32 (m.size:Nat))).setCell ⟨ib,4,none⟩ (.string (bH m.name))).setCell ⟨ib,5,none⟩ (.slice KI m.packed QY):=⟨_,rfl⟩
       have A4:Kept (·=ib) w6 wz:=(by rw[oW];exact(((((((Kept.refl (·=ib) w6).setCell _ _ (.inl rfl)).setCell _ _ (.inl rfl)).setCell _ _ (.inl rfl)).setCell _ _ (.inl rfl)).setCell _ _ (.inl rfl)).setCell _ _ (.inl rfl)));have hbz:Blk wz ib #[.int .u16 (m.way:Nat),.int .u32 (m.sum:Nat),.int .u32 (m.packed:Nat),.int .u32 (m.size:Nat),.string (bH m.name),.slice KI m.packed QY] 60:=(by rw[oW];have:=(((((hi6.set 0 (.int .u16 (m.way:Nat))).set 1 (.int .u32 (m.sum:Nat))).set 2 (.int .u32 (m.packed:Nat))).set 3 (.int .u32 (m.size:Nat))).set 4 (.string (bH m.name))).set 5 (.slice KI m.packed QY);simpa using this);have z0:=hbz.cell 0;have z1:=hbz.cell 1;have z2:=hbz.cell 2;have z3:=hbz.cell 3;have z4:=hbz.cell 4;have z5:=hbz.cell 5;simp at z0 z1 z2 z3 z4 z5;rw[<-oW];refine bodyPost_ret (v:=.agg (jr m (.slice KI m.packed QY))) (by rw[lJ rfl];simp[go_sem,z0,z1,z2,z3,z4,z5,jr]) rfl ?_;exact PieA.good (by unfold kq;rw[aA HHD2.out];exact E5.out) rfl (htk6.kept A4 (λk hk e=>by have:=HMB.out;have:=HC4.out.new;omega)) (hcu6.kept A4 (λe=>by have:=HMB.out;omega) (λk hk e=>by have:=HMB.out;have:=HC4.out.new;omega)) ((HK4.out.k8 ((show Same w5 w5.drew from(Kept.refl _ w5).drew).k8.k8 hk6)).trans A4 (λ_ _ e=>e) (λk hk e=>by have:=HMB.out;omega))
    ·have bm:((q.way:Int)==(m.way:Int))=false∨(q.way=m.way∧((q.sum:Int)==(m.sum:Int))=false)∨(q.way=m.way∧q.sum=m.sum∧((q.packed:Int)==(m.packed:Int))=false)∨(q.way=m.way∧q.sum=m.sum∧q.packed=m.packed∧((q.size:Int)==(m.size:Int))=false)∨(q.way=m.way∧q.sum=m.sum∧q.packed=m.packed∧q.size=m.size∧((bH x3).toList==(bH m.name).toList)=false):=by
      by_cases g1:q.way=m.way
      ·by_cases g2:q.sum=m.sum
       ·by_cases g3:q.packed=m.packed
        ·by_cases g4:q.size=m.size
         ·have g5:¬x3=m.name:=λe=>ji (by unfold Mk.named;rw[g1,g2,g3,g4,e])
          exact .inr (.inr (.inr (.inr ⟨g1,g2,g3,g4,by rw[QT];simp[g5]⟩)))
         ·exact .inr (.inr (.inr (.inl ⟨g1,g2,g3,by simp;omega⟩)))
        ·exact .inr (.inr (.inl ⟨g1,g2,by simp;omega⟩))
       ·exact .inr (.inl ⟨g1,by simp;omega⟩)
      ·exact .inl (by simp;omega)
     have HBD:Hid (kq m r=none):=hid (kM (by rw[HHD.out,if_neg ji]));have HO:=aL w4 81;clear QT ji HHD;rcases bm with g | ⟨e1,g⟩ | ⟨e1,e2,g⟩ | ⟨e1,e2,e3,g⟩ | ⟨e1,e2,e3,e4,g⟩
     all_goals
      try
       rw[e1]at NL;clear e1
      try
       rw[e2]at NM;clear e2
      try
       rw[e3]at NZ;clear e3
      try
       rw[e4]at ND;clear e4
      go_wp2_with fail;rw[<-hw4];refine HO.mono ?_;rintro e w5 ⟨rfl,jU⟩;subst jU;unfold aG;clear HO NL NM NZ ND QW QZ QL QK Qq Ra t4 TN gs hw4;go_wp2_with fail;exact⟨rfl,PieA.bad HBD.out rfl HK4.out⟩
end Go.Proofs.YtkhagfgineifhaaGreatDoor
