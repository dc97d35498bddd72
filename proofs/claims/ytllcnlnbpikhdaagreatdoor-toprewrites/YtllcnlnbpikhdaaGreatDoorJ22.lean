import Derived.Laws.StructEq
import Derived.Lib.Strings
import Derived.Deep.RegionHeld3
import Derived.RegionDies
import Derived.Test.YtllcnlnbpikhdaaGreatDoorJ21
set_option maxHeartbeats 400000
set_option maxRecDepth 100000
namespace Go.Proofs.YtllcnlnbpikhdaaGreatDoor
open Go.RowKit
theorem Bb(a b:List Nat)(ha:∀x∈a,x<256)(hb:∀x∈b,x<256):((bF a).toList==(bF b).toList)=decide (a=b):=by
 rw[Lib.toList_data,Lib.toList_data];by_cases h:a=b
 ·subst h;simp
 ·simp only[h,decide_false];refine beq_eq_false_iff_ne.2 (λe=>h (AJ ha hb ?_));cases ht:bF a;cases hu:bF b;rw[ht,hu]at e;simp only at e;rw[Array.toList_inj]at e;rw[e]
def jE(m:Mk)(v:Value):Array Value:=#[.int .u16 (m.way:Nat),.int .u32 (m.sum:Nat),.int .u32 (m.packed:Nat),.int .u32 (m.size:Nat),.string (bF m.name),v]
theorem CJ(w:World)(m q:Mk)(v:Value)(g:Nat)(hg:w.cell? ⟨g,4,none⟩=some (.string (bF q.name)))(ha:∀b∈m.name,b<256)(hb:∀b∈q.name,b<256):
  Calls Tryz.prog 45 #[.agg (jE m v),.pointer (some ⟨g,0,none⟩)] w λe w'=>e=.returned (.bool (decide (m.name=q.name)))/\Same w w':=by
 have U9:∀o,(w.alloc o).cell? ⟨g,4,none⟩=some (.string (bF q.name)):=λo=>(show Same w (w.alloc o) from(Kept.refl _ w).alloc o).cell hg (λf=>f)
 have hq:=Bb m.name q.name ha hb;obtain⟨B,hB⟩:∃B,B=decide (m.name=q.name):=⟨_,rfl⟩
 rw[<-hB]at hq ⊢;clear hB;unfold jE;go_enter Tryz.func45,Tryz.ntmps45;go_wp2_with fail;go_ret;exact⟨rfl,(Kept.refl _ w).alloc _⟩
theorem lk{fn:Func}{p:Tmp}{ty:TypeId}(h:fn.results=#[.cell p ty])(tmps:Array Value)(P:Program)(w:World):
  (results fn tmps).run P w=((asAddr (tmps.getD p undef)).run P w).andThen λa w1=>(loadVar ty a).run P w1:=by
 simp only[results,h];simp[Sem.run_bind,Result.andThen]
def PieA(N:Nat)(w w':World)(c:Nat)(m:Mk)(r:List Nat)(e:Ending):Prop:=
 (∀b y,iC m r=some (b,y)->∃v a' cap',e=.returned (.agg (jE m v))/\Tkn N w' v m.packed b/\Cur N w' c y a' cap'/\Kept (·=c) w w')/\(iC m r=none->e=aG 81/\Kept (·=c) w w')
theorem PieA.good{N:Nat}{w w':World}{c:Nat}{m:Mk}{r b y:List Nat}{e:Ending}(ht:iC m r=some (b,y)){v:Value}{a':Option Addr}{cap':Nat}(he:e=.returned (.agg (jE m v)))(h1:Tkn N w' v m.packed b)(h2:Cur N w' c y a' cap')(h3:Kept (·=c) w w'):PieA N w w' c m r e:=
 ⟨λb' y' h=>by rw[ht]at h;simp only[Option.some.injEq,Prod.mk.injEq]at h;obtain⟨rfl,rfl⟩:=h;exact⟨v,a',cap',he,h1,h2,h3⟩,λh=>by rw[ht]at h;cases h⟩
theorem PieA.bad{N:Nat}{w w':World}{c:Nat}{m:Mk}{r:List Nat}{e:Ending}(ht:iC m r=none)(he:e=aG 81)(h3:Kept (·=c) w w'):PieA N w w' c m r e:=
 ⟨λb' y' h=>(by rw[ht]at h;cases h),λ_=>⟨he,h3⟩⟩
theorem ku{m:Mk}{r:List Nat}(h:oO m r=none):iC m r=none:=by unfold iC;rw[h];rfl
theorem JJ(N:Nat)(w:World)(c:Nat)(m:Mk)(r:List Nat)(a:Option Addr)(cap:Nat)(h:Cur N w c r a cap)(hm:gE m)(Eq:∀b∈m.name,b<256)(LM:m.packed≤16384):
  Calls Tryz.prog 27 #[.pointer (some ⟨c,0,none⟩),.agg (k7 m)] w λe w'=>PieA N w w' c m r e:=by
 obtain⟨w0,ly⟩:∃W,W=(w.alloc (.cells #[.int .u16 (m.way:Nat),.int .u32 (m.sum:Nat),.int .u32 (m.packed:Nat),.int .u32 (m.size:Nat),.string (bF m.name)] 47)).alloc (.cells #[.int .u16 0,.int .u32 0,.int .u32 0,.int .u32 0,.string ⟨#[]⟩,.slice none 0 0] 49):=⟨_,rfl⟩
 obtain⟨mb,lZ⟩:∃b,b=w.heap.size:=⟨_,rfl⟩
 obtain⟨ib,NX⟩:∃b,b=w.heap.size+1:=⟨_,rfl⟩
 have HMB:Hid (c<mb/\mb=w.heap.size/\ib=w.heap.size+1):=hid ⟨by have:=h.blk.lt;omega,lZ,NX⟩;have hk0:Same w w0:=by rw[ly];exact((Kept.refl _ w).alloc _).alloc _
 have HKp1:Hid (Kept (·=c) w w0):=hid hk0.k8;have HM0:Hid (Blk w0 mb #[.int .u16 (m.way:Nat),.int .u32 (m.sum:Nat),.int .u32 (m.packed:Nat),.int .u32 (m.size:Nat),.string (bF m.name)] 47):=hid (by rw[ly,lZ];exact(Blk.new w _ _).kept (show Same _ _ from(Kept.refl _ _).alloc _) (λf=>f));have HI0:Hid (Blk w0 ib #[.int .u16 0,.int .u32 0,.int .u32 0,.int .u32 0,.string ⟨#[]⟩,.slice none 0 0] 49):=hid (by rw[ly,NX];have h9:=Blk.new (w.alloc (.cells #[.int .u16 (m.way:Nat),.int .u32 (m.sum:Nat),.int .u32 (m.packed:Nat),.int .u32 (m.size:Nat),.string (bF m.name)] 47)) #[.int .u16 0,.int .u32 0,.int .u32 0,.int .u32 0,.string ⟨#[]⟩,.slice none 0 0] 49;rw[World.size_alloc]at h9;exact h9);have UL:Hid (w0.heap.size=w.heap.size+2):=hid (by rw[ly,World.size_alloc,World.size_alloc]);have HC0:Hid (Cur N w0 c r a cap):=hid (h.kept hk0 (λf=>f) (λ_ _ f=>f));have H1:=nP N w0 c r a cap 67324752 HC0.out (by decide);have HMK:Hid (gE m/\(∀b∈m.name,b<256)):=hid ⟨hm,Eq⟩;clear h hk0 hm Eq;unfold k7;go_enter Tryz.func27,Tryz.ntmps27;go_wp2_with fail;rw[<-ly,<-NX,<-lZ];clear ly lZ NX;refine H1.mono ?_;intro e w1 h1;cases lX:eM 4 67324752 r with
 | none=>
  obtain⟨rfl,hk⟩:=h1.2 lX;have HKb:Hid (Kept (·=c) w w1):=hid (HKp1.out.k8 hk);have HEb:Hid (eM 4 67324752 r=none):=lX;clear h1 hk lX H1;unfold aG;go_wp2_with fail;exact⟨rfl,PieA.bad (ku (by simp only[oO,HEb.out,bB])) rfl HKb.out⟩
 | some r1=>
  obtain⟨a1,Aq,rfl,hcu1,hk1⟩:=h1.1 _ lX;have E1:Hid (eM 4 67324752 r=some r1):=lX;have HKp2:Hid (Kept (·=c) w w1):=hid (HKp1.out.k8 hk1);have HM1:Hid (Blk w1 mb #[.int .u16 (m.way:Nat),.int .u32 (m.sum:Nat),.int .u32 (m.packed:Nat),.int .u32 (m.size:Nat),.string (bF m.name)] 47):=hid (HM0.out.kept hk1 (λe=>by have:=HMB.out;omega));have HI1:Hid (Blk w1 ib #[.int .u16 0,.int .u32 0,.int .u32 0,.int .u32 0,.string ⟨#[]⟩,.slice none 0 0] 49):=hid (HI0.out.kept hk1 (λe=>by have:=HMB.out;omega));have H2:=BF N w1 c r1 a1 Aq hcu1;clear h1 lX hcu1 hk1 H1 HKp1 HM0 HI0 HC0;go_wp2_with fail;refine H2.mono ?_;intro e w2 h2;cases iE:fH r1 with
  | none=>
   obtain⟨rfl,hk⟩:=h2.2 iE;have HKb:Hid (Kept (·=c) w w2):=hid (HKp2.out.k8 hk);have HEb:Hid (fH r1=none):=iE;clear h2 hk iE H2;unfold aG;go_wp2_with fail;exact⟨rfl,PieA.bad (ku (by simp only[oO,E1.out,ak,HEb.out,bB])) rfl HKb.out⟩
  | some p2=>
   obtain⟨⟨q,lng⟩,r2⟩:=p2;obtain⟨a2,eG,rfl,QL,Q0,Kl,hcu2,hk2⟩:=h2.1 q lng r2 iE;have E2:Hid (fH r1=some ((q,lng),r2)):=iE;have Yl:Hid (lng<65536):=Kl;obtain⟨wt,PT⟩:∃W,W=w2.alloc (.cells #[.int .u16 (q.way:Nat),.int .u32 (q.sum:Nat),.int .u32 (q.packed:Nat),.int .u32 (q.size:Nat),.string (bF q.name)] 47):=⟨_,rfl⟩
   have hst:Same w2 wt:=(by rw[PT];exact(Kept.refl _ w2).alloc _);obtain⟨tb,QZ⟩:∃b,b=w2.heap.size:=⟨_,rfl⟩
   have HTB:Hid (ib<tb/\mb<tb/\c<tb):=hid (by have h9:=hk2.size;have:=HKp2.out.size;have:=HMB.out;have:=HI1.out.lt;omega);have HTt:Hid (Blk wt tb #[.int .u16 (q.way:Nat),.int .u32 (q.sum:Nat),.int .u32 (q.packed:Nat),.int .u32 (q.size:Nat),.string (bF q.name)] 47):=hid (by rw[PT,QZ];exact Blk.new w2 _ _);have HKp3:Hid (Kept (·=c) w wt):=hid ((HKp2.out.k8 hk2).k8 hst.k8);have HM2:Hid (Blk wt mb #[.int .u16 (m.way:Nat),.int .u32 (m.sum:Nat),.int .u32 (m.packed:Nat),.int .u32 (m.size:Nat),.string (bF m.name)] 47):=hid ((HM1.out.kept hk2 (λe=>by have:=HMB.out;omega)).kept hst (λf=>f));have HI2:Hid (Blk wt ib #[.int .u16 0,.int .u32 0,.int .u32 0,.int .u32 0,.string ⟨#[]⟩,.slice none 0 0] 49):=hid ((HI1.out.kept hk2 (λe=>by have:=HMB.out;omega)).kept hst (λf=>f));have H3:=ew N wt c r2 a2 eG lng (hcu2.kept hst (λf=>f) (λ_ _ f=>f)) (by omega);clear h2 iE hcu2 hk2 H2 HKp2 HM1 HI1 hst QL Q0;unfold k7;go_wp2_with fail;rw[<-PT,<-QZ];clear PT QZ;refine H3.mono ?_;intro e w3 h3;cases mZ:eF lng r2 with
   | none=>
    obtain⟨rfl,hk⟩:=h3.2 mZ;have HKb:Hid (Kept (·=c) w w3):=hid (HKp3.out.k8 hk.k8);have HEb:Hid (eF lng r2=none):=mZ;clear h3 hk mZ H3;unfold aG;go_wp2_with fail;exact⟨rfl,PieA.bad (ku (by simp only[oO,E1.out,ak,E2.out,HEb.out,bB])) rfl HKb.out⟩
   | some p3=>
    obtain⟨x3,r3⟩:=p3;obtain⟨v3,a3,kR,rfl,htk3,hcu3,hk3⟩:=h3.1 x3 r3 mZ;have E3:Hid (eF lng r2=some (x3,r3)):=mZ;have HX3:Hid (∀b∈x3,b<256):=hid htk3.byte;have HT3:Hid (Blk w3 tb #[.int .u16 (q.way:Nat),.int .u32 (q.sum:Nat),.int .u32 (q.packed:Nat),.int .u32 (q.size:Nat),.string (bF q.name)] 47):=hid (HTt.out.kept hk3 (λe=>by have:=HTB.out;omega));have HM3:Hid (Blk w3 mb #[.int .u16 (m.way:Nat),.int .u32 (m.sum:Nat),.int .u32 (m.packed:Nat),.int .u32 (m.size:Nat),.string (bF m.name)] 47):=hid (HM2.out.kept hk3 (λe=>by have:=HMB.out;omega));have HI3:Hid (Blk w3 ib #[.int .u16 0,.int .u32 0,.int .u32 0,.int .u32 0,.string ⟨#[]⟩,.slice none 0 0] 49):=hid (HI2.out.kept hk3 (λe=>by have:=HMB.out;omega));obtain⟨YK,Yt,pc⟩:=htk3.shp;subst pc;have gs:=Gl htk3.src htk3.len;have t4:=HT3.out.cell 4;have SH:=HT3.out.frozen 4;simp at t4;obtain⟨w4,hw4⟩:∃W,W=w3.setCell ⟨tb,4,none⟩ (.string (bF x3)):=⟨_,rfl⟩
    have on:Kept (·=tb) w3 w4:=(by rw[hw4];exact(Kept.refl (·=tb) w3).setCell _ _ (.inl rfl));have HT4:Hid (Blk w4 tb #[.int .u16 (q.way:Nat),.int .u32 (q.sum:Nat),.int .u32 (q.packed:Nat),.int .u32 (q.size:Nat),.string (bF x3)] 47):=hid (by rw[hw4];have:=HT3.out.set 4 (.string (bF x3));simpa using this);have HM4:Hid (Blk w4 mb #[.int .u16 (m.way:Nat),.int .u32 (m.sum:Nat),.int .u32 (m.packed:Nat),.int .u32 (m.size:Nat),.string (bF m.name)] 47):=hid (HM3.out.kept on (λe=>by have:=HTB.out;omega));have HI4:Hid (Blk w4 ib #[.int .u16 0,.int .u32 0,.int .u32 0,.int .u32 0,.string ⟨#[]⟩,.slice none 0 0] 49):=hid (HI3.out.kept on (λe=>by have:=HTB.out;omega));have HC4:Hid (Cur N w4 c r3 a3 kR):=hid (hcu3.kept on (λe=>by have:=HTB.out;omega) (λk hk e=>by have:=HTB.out;have:=hcu3.new;omega));have HK4:Hid (Kept (·=c) w w4):=hid ((HKp3.out.k8 hk3).trans on (λ_ _ e=>e) (λk hk e=>by have:=HTB.out;have:=HMB.out;omega));have Nb:=HT4.out.cell 0;have MO:=HT4.out.cell 1;have M4:=HT4.out.cell 2;have M3:=HT4.out.cell 3;have Px:=HT4.out.cell 4;have P6:=HM4.out.cell 0;have PD:=HM4.out.cell 1;have Qi:=HM4.out.cell 2;have PZ:=HM4.out.cell 3;have Qa:=HM4.out.cell 4;simp at Nb MO M4 M3 Px P6 PD Qi PZ Qa;rw[hw4]at Nb MO M4 M3 Px P6 PD Qi PZ Qa;have Qb:=Bb x3 m.name HX3.out HMK.out.2;have HHD:Hid (oO m r=if q.named x3=m then some r3 else none):=hid (by simp only[oO,E1.out,ak,E2.out,E3.out]);clear h3 mZ htk3 hcu3 hk3 H3 HKp3 HM2 HI2 HTt HT3 HM3 HI3 on;by_cases jc:q.named x3=m
    ·have e1:q.way=m.way:=(by rw[<-jc];rfl);have e2:q.sum=m.sum:=(by rw[<-jc];rfl);have e3:q.packed=m.packed:=(by rw[<-jc];rfl);have e4:q.size=m.size:=(by rw[<-jc];rfl);have e5:x3=m.name:=(by rw[<-jc];rfl);rw[e1]at Nb;rw[e2]at MO;rw[e3]at M4;rw[e4]at M3;rw[decide_eq_true e5]at Qb;have HHD2:Hid (oO m r=some r3):=hid (by rw[HHD.out,if_pos jc]);have HO:=bi w4 (.int .i64 81);have HTK:Hid (∀W2,Same w4 W2->Calls Tryz.prog 43 #[.pointer (some ⟨c,0,none⟩),.int .i64 (m.packed:Nat)] W2 λe w'=>TakZ N W2 w' c m.packed r3 e):=hid (λW2 hk=>ew N W2 c r3 a3 kR m.packed (HC4.out.kept hk (λf=>f) (λ_ _ f=>f)) (by omega));clear e1 e2 e3 e4 e5 jc HHD;go_wp2_with fail;rw[<-hw4];refine HO.mono ?_;rintro e w5 ⟨rfl,l5⟩;subst l5;clear HO Nb MO M4 M3 Px P6 PD Qi PZ Qa Qb t4 SH gs hw4;have c0:=HM4.out.cell 0;have c1:=HM4.out.cell 1;have c2:=HM4.out.cell 2;have c3:=HM4.out.cell 3;have c4:=HM4.out.cell 4;simp at c0 c1 c2 c3 c4;have HCM:Hid (¬mb=c):=hid (by have:=HMB.out;omega);have HCI:Hid (¬ib=c):=hid (by have:=HMB.out;omega);have lY:IntKind.i64.wrap (m.packed:Int)=(m.packed:Int):=(by rw[IntKind.wrap_i64];omega);cases ht5:eF m.packed r3 with
     | none=>
      have HEb:Hid (eF m.packed r3=none):=ht5;clear ht5;go_wp2_with fail;go_region_dies
      all_goals
       refine(HTK.out _ ((Kept.refl _ w5).drew)).mono ?_;intro e w6 h6;obtain⟨rfl,hk6⟩:=h6.2 HEb.out;exact⟨rfl,PieA.bad (by unfold iC;rw[aB HHD2.out];exact HEb.out) rfl (HK4.out.k8 (Same.trans ((Kept.refl _ w5).drew) hk6).k8)⟩
     | some p5=>
      obtain⟨x5,r5⟩:=p5;have E5:Hid (eF m.packed r3=some (x5,r5)):=ht5;have HALL:Hid (∀W6,Kept (·=c) w5.drew W6->W6.cell? ⟨mb,0,none⟩=some (.int .u16 (m.way:Nat))/\W6.cell? ⟨mb,1,none⟩=some (.int .u32 (m.sum:Nat))/\W6.cell? ⟨mb,2,none⟩=some (.int .u32 (m.packed:Nat))/\W6.cell? ⟨mb,3,none⟩=some (.int .u32 (m.size:Nat))/\W6.cell? ⟨mb,4,none⟩=some (.string (bF m.name))/\W6.cell? ⟨ib,0,none⟩=some (.int .u16 0)/\W6.cell? ⟨ib,1,none⟩=some (.int .u32 0)/\W6.cell? ⟨ib,2,none⟩=some (.int .u32 0)/\W6.cell? ⟨ib,3,none⟩=some (.int .u32 0)/\W6.cell? ⟨ib,4,none⟩=some (.string ⟨#[]⟩)/\W6.cell? ⟨ib,5,none⟩=some (.slice none 0 0)/\W6.frozen? ⟨ib,0,none⟩=false/\W6.frozen? ⟨ib,1,none⟩=false/\W6.frozen? ⟨ib,2,none⟩=false/\W6.frozen? ⟨ib,3,none⟩=false/\W6.frozen? ⟨ib,4,none⟩=false/\W6.frozen? ⟨ib,5,none⟩=false):=hid (λW6 hk=>by
       have hm9:=(HM4.out.kept (show Same w5 w5.drew from(Kept.refl _ w5).drew) (λf=>f)).kept hk HCM.out;have hi9:=(HI4.out.kept (show Same w5 w5.drew from(Kept.refl _ w5).drew) (λf=>f)).kept hk HCI.out;refine⟨?_,?_,?_,?_,?_,?_,?_,?_,?_,?_,?_,hi9.frozen 0,hi9.frozen 1,hi9.frozen 2,hi9.frozen 3,hi9.frozen 4,hi9.frozen 5⟩
       ·have:=hm9.cell 0;simpa using this
       ·have:=hm9.cell 1;simpa using this
       ·have:=hm9.cell 2;simpa using this
       ·have:=hm9.cell 3;simpa using this
       ·have:=hm9.cell 4;simpa using this
       ·have:=hi9.cell 0;simpa using this
       ·have:=hi9.cell 1;simpa using this
       ·have:=hi9.cell 2;simpa using this
       ·have:=hi9.cell 3;simpa using this
       ·have:=hi9.cell 4;simpa using this
       ·have:=hi9.cell 5;simpa using this)
      clear ht5;go_wp2_with fail;go_region_with (go_at_call 43;refine(HTK.out _ ((Kept.refl _ w5).drew)).mono ?_;intro e w6 h6;obtain⟨v6,a6,D6,rfl,htk6,hcu6,hk6⟩:=h6.1 x5 r5 E5.out;obtain⟨JZ,Qc,oK⟩:=htk6.shp;subst oK;obtain⟨q0,q1,q2,q3,q4,q5,q6,q7,q8,q9,Yg,Ye,Xs,X2,XH,Yx,XV⟩:=HALL.out w6 hk6)
      all_goals
       go_wp2_with fail;have hi6:=(HI4.out.kept (show Same w5 w5.drew from(Kept.refl _ w5).drew) (λf=>f)).kept hk6 HCI.out;obtain⟨wz,nk⟩:∃W,W=(((((w6.setCell ⟨ib,0,none⟩ (.int .u16 (m.way:Nat))).setCell ⟨ib,1,none⟩ (.int .u32 (m.sum:Nat))).setCell ⟨ib,2,none⟩ (.int .u32 (m.packed:Nat))).setCell ⟨ib,3,none⟩ (.int .u32 (m.size:Nat))).setCell ⟨ib,4,none⟩ (.string (bF m.name))).setCell ⟨ib,5,none⟩ (.slice JZ m.packed Qc):=⟨_,rfl⟩
       have Aw:Kept (·=ib) w6 wz:=(by rw[nk];exact(((((((Kept.refl (·=ib) w6).setCell _ _ (.inl rfl)).setCell _ _ (.inl rfl)).setCell _ _ (.inl rfl)).setCell _ _ (.inl rfl)).setCell _ _ (.inl rfl)).setCell _ _ (.inl rfl)));have hbz:Blk wz ib #[.int .u16 (m.way:Nat),.int .u32 (m.sum:Nat),.int .u32 (m.packed:Nat),.int .u32 (m.size:Nat),.string (bF m.name),.slice JZ m.packed Qc] 49:=(by rw[nk];have:=(((((hi6.set 0 (.int .u16 (m.way:Nat))).set 1 (.int .u32 (m.sum:Nat))).set 2 (.int .u32 (m.packed:Nat))).set 3 (.int .u32 (m.size:Nat))).set 4 (.string (bF m.name))).set 5 (.slice JZ m.packed Qc);simpa using this);have z0:=hbz.cell 0;have z1:=hbz.cell 1;have z2:=hbz.cell 2;have z3:=hbz.cell 3;have z4:=hbz.cell 4;have z5:=hbz.cell 5;simp at z0 z1 z2 z3 z4 z5;rw[<-nk];refine bodyPost_ret (v:=.agg (jE m (.slice JZ m.packed Qc))) (by rw[lk rfl];simp[go_sem,z0,z1,z2,z3,z4,z5,jE]) rfl ?_;exact PieA.good (by unfold iC;rw[aB HHD2.out];exact E5.out) rfl (htk6.kept Aw (λk hk e=>by have:=HMB.out;have:=HC4.out.new;omega)) (hcu6.kept Aw (λe=>by have:=HMB.out;omega) (λk hk e=>by have:=HMB.out;have:=HC4.out.new;omega)) ((HK4.out.k8 ((show Same w5 w5.drew from(Kept.refl _ w5).drew).k8.k8 hk6)).trans Aw (λ_ _ e=>e) (λk hk e=>by have:=HMB.out;omega))
    ·have bh:((q.way:Int)==(m.way:Int))=false∨(q.way=m.way∧((q.sum:Int)==(m.sum:Int))=false)∨(q.way=m.way∧q.sum=m.sum∧((q.packed:Int)==(m.packed:Int))=false)∨(q.way=m.way∧q.sum=m.sum∧q.packed=m.packed∧((q.size:Int)==(m.size:Int))=false)∨(q.way=m.way∧q.sum=m.sum∧q.packed=m.packed∧q.size=m.size∧((bF x3).toList==(bF m.name).toList)=false):=by
      by_cases g1:q.way=m.way
      ·by_cases g2:q.sum=m.sum
       ·by_cases g3:q.packed=m.packed
        ·by_cases g4:q.size=m.size
         ·have g5:¬x3=m.name:=λe=>jc (by unfold Mk.named;rw[g1,g2,g3,g4,e])
          exact .inr (.inr (.inr (.inr ⟨g1,g2,g3,g4,by rw[Qb];simp[g5]⟩)))
         ·exact .inr (.inr (.inr (.inl ⟨g1,g2,g3,by simp;omega⟩)))
        ·exact .inr (.inr (.inl ⟨g1,g2,by simp;omega⟩))
       ·exact .inr (.inl ⟨g1,by simp;omega⟩)
      ·exact .inl (by simp;omega)
     have HBD:Hid (iC m r=none):=hid (ku (by rw[HHD.out,if_neg jc]));have HO:=aM w4 81;clear Qb jc HHD;rcases bh with g | ⟨e1,g⟩ | ⟨e1,e2,g⟩ | ⟨e1,e2,e3,g⟩ | ⟨e1,e2,e3,e4,g⟩
     all_goals
      try
       rw[e1]at Nb;clear e1
      try
       rw[e2]at MO;clear e2
      try
       rw[e3]at M4;clear e3
      try
       rw[e4]at M3;clear e4
      go_wp2_with fail;rw[<-hw4];refine HO.mono ?_;rintro e w5 ⟨rfl,l5⟩;subst l5;unfold aG;clear HO Nb MO M4 M3 Px P6 PD Qi PZ Qa t4 SH gs hw4;go_wp2_with fail;exact⟨rfl,PieA.bad HBD.out rfl HK4.out⟩
def E0(k:IntKind)(w:World)(g:Nat)(vs:List Nat):Prop:=∀j,j<vs.length->w.cell? ⟨g,j,none⟩=some (.int k (vs.getD j 0:Nat))
def gw(n:Nat)(vs:List Nat):List Nat:=vs.flatMap (aQ · n)
theorem vO(n:Nat)(vs:List Nat)(i:Nat)(hi:i<vs.length):gw n (vs.take (i+1))=gw n (vs.take i)++aQ (vs.getD i 0) n:=by unfold gw;rw[List.take_add_one,List.flatMap_append,List.getD_eq_getElem?_getD,List.getElem?_eq_getElem hi];simp
theorem cD(n:Nat)(vs:List Nat):(gw n vs).length=vs.length*n:=by
 unfold gw
 induction vs with
 | nil=>simp
 | cons a r ih=>rw[List.flatMap_cons,List.length_append,ih,aA,List.length_cons,Nat.succ_mul,Nat.add_comm]
theorem lH(w:World)(v:Value)(I:Nat→Prop)(cs:List Nat)(g:Nat)(vs:List Nat)(n:Nat)(hn:n=vs.length)(hs:Src w I v cs)(hl:E0 .u16 w g vs)(hv:∀x∈vs,x<65536)(ag:cs.length≤10000000)(IB:n≤100):
  Calls Tryz.prog 33 #[v,.slice (some ⟨g,0,none⟩) n n] w λe w'=>∃v',e=.returned v'/\(∃J,Src w' J v' (cs++gw 2 vs))/\Same w w'/\(1<=n->Fresh w w' v' (cs++gw 2 vs)):=by
 have HS:Hid (Src w I v cs):=hs;have HL:Hid (E0 .u16 w g vs):=hl;have HB:Hid (n=vs.length/\(∀x∈vs,x<65536)/\cs.length<=10000000):=hid ⟨hn,hv,ag⟩;clear hs hl hv ag hn;go_enter Tryz.func33,Tryz.ntmps33;go_wp2_with fail;go_loopg [0,9] n (λqq z0 z9 wr=>∃i:Nat,z9=.int .i64 (i:Nat)/\i<=n/\n-i<=qq/\Hid ((∃J,Src wr J z0 (cs++gw 2 (vs.take i)))/\Same w wr/\(1<=i->Fresh w wr z0 (cs++gw 2 (vs.take i)))))
 case atStart=>exact⟨0,rfl,by omega,by omega,hid ⟨⟨I,by simpa[gw]using HS.out⟩,Kept.refl _ _,λh=>by omega⟩⟩
 case round=>
  obtain⟨i,rfl,yd,KV,HI⟩:=hrel;obtain⟨vb,KG⟩:∃vb,vb=u0:=⟨_,rfl⟩
  rw[<-KG]at HI ⊢;clear KG;by_cases hi:i<n
  ·have rj:decide (i<n)=true:=(by simp;omega);obtain⟨x,hx⟩:∃x,x=vs.getD i 0:=⟨_,rfl⟩
   have hc:=HI.out.2.1.cell (HL.out i (by have:=HB.out.1;omega)) (λf=>f);rw[<-hx]at hc;have RB:x<65536:=HB.out.2.1 x (by rw[hx,List.getD_eq_getElem?_getD,List.getElem?_eq_getElem (by have:=HB.out.1;omega)];exact List.getElem_mem _);have GY:IntKind.i64.wrap ((i:Int)+1)=((i+1:Nat):Int):=(by rw[IntKind.wrap_i64];omega);have HX:Hid (x=vs.getD i 0):=hx;obtain⟨⟨J,hJ⟩,_,_⟩:=HI.out;have HPU:=Dc wr vb J _ hJ x rfl RB (by rw[List.length_append,cD,List.length_take];have:=HB.out;omega);clear hx hJ;go_wp2_with fail;refine HPU.mono ?_;rintro e w2 ⟨v2,rfl,hf⟩;have HF:Hid (Fresh w w2 v2 (cs++gw 2 (vs.take (i+1)))):=hid (by
    rw[vO 2 vs i (by have:=HB.out.1;omega),<-List.append_assoc,<-HX.out];exact⟨hf.row,Same.trans HI.out.2.1 hf.kept,λk e=>Nat.le_trans HI.out.2.1.size (hf.new k e)⟩)
   clear hf HPU;go_wp2_with fail;go_roundg (gk-1)
   case measure=>omega
   case rel=>exact⟨i+1,by go_num,by omega,by omega,hid ⟨⟨_,Src.ofRow HF.out.row⟩,HF.out.kept,λ_=>HF.out⟩⟩
  ·have rj:decide (i<n)=false:=(by simp;omega);obtain rfl:i=n:=(by omega);go_wp2_with fail;go_ret;have ht:vs.take i=vs:=List.take_of_length_le (by have:=HB.out.1;omega);have h9:=HI.out;rw[ht]at h9;exact⟨_,rfl,h9.1,h9.2.1,h9.2.2⟩
theorem qI(w:World)(v:Value)(I:Nat→Prop)(cs:List Nat)(g:Nat)(vs:List Nat)(n:Nat)(hn:n=vs.length)(hs:Src w I v cs)(hl:E0 .u32 w g vs)(hv:∀x∈vs,x<4294967296)(ag:cs.length≤10000000)(IB:n≤100):
  Calls Tryz.prog 36 #[v,.slice (some ⟨g,0,none⟩) n n] w λe w'=>∃v',e=.returned v'/\(∃J,Src w' J v' (cs++gw 4 vs))/\Same w w'/\(1<=n->Fresh w w' v' (cs++gw 4 vs)):=by
 have HS:Hid (Src w I v cs):=hs;have HL:Hid (E0 .u32 w g vs):=hl;have HB:Hid (n=vs.length/\(∀x∈vs,x<4294967296)/\cs.length<=10000000):=hid ⟨hn,hv,ag⟩;clear hs hl hv ag hn;go_enter Tryz.func36,Tryz.ntmps36;go_wp2_with fail;go_loopg [0,9] n (λqq z0 z9 wr=>∃i:Nat,z9=.int .i64 (i:Nat)/\i<=n/\n-i<=qq/\Hid ((∃J,Src wr J z0 (cs++gw 4 (vs.take i)))/\Same w wr/\(1<=i->Fresh w wr z0 (cs++gw 4 (vs.take i)))))
 case atStart=>exact⟨0,rfl,by omega,by omega,hid ⟨⟨I,by simpa[gw]using HS.out⟩,Kept.refl _ _,λh=>by omega⟩⟩
 case round=>
  obtain⟨i,rfl,yd,KV,HI⟩:=hrel;obtain⟨vb,KG⟩:∃vb,vb=u0:=⟨_,rfl⟩
  rw[<-KG]at HI ⊢;clear KG;by_cases hi:i<n
  ·have rj:decide (i<n)=true:=(by simp;omega);obtain⟨x,hx⟩:∃x,x=vs.getD i 0:=⟨_,rfl⟩
   have hc:=HI.out.2.1.cell (HL.out i (by have:=HB.out.1;omega)) (λf=>f);rw[<-hx]at hc;have RB:x<4294967296:=HB.out.2.1 x (by rw[hx,List.getD_eq_getElem?_getD,List.getElem?_eq_getElem (by have:=HB.out.1;omega)];exact List.getElem_mem _);have GY:IntKind.i64.wrap ((i:Int)+1)=((i+1:Nat):Int):=(by rw[IntKind.wrap_i64];omega);have HX:Hid (x=vs.getD i 0):=hx;obtain⟨⟨J,hJ⟩,_,_⟩:=HI.out;have HPU:=kG wr vb J _ hJ x rfl RB (by rw[List.length_append,cD,List.length_take];have:=HB.out;omega);clear hx hJ;go_wp2_with fail;refine HPU.mono ?_;rintro e w2 ⟨v2,rfl,hf⟩;have HF:Hid (Fresh w w2 v2 (cs++gw 4 (vs.take (i+1)))):=hid (by
    rw[vO 4 vs i (by have:=HB.out.1;omega),<-List.append_assoc,<-HX.out];exact⟨hf.row,Same.trans HI.out.2.1 hf.kept,λk e=>Nat.le_trans HI.out.2.1.size (hf.new k e)⟩)
   clear hf HPU;go_wp2_with fail;go_roundg (gk-1)
   case measure=>omega
   case rel=>exact⟨i+1,by go_num,by omega,by omega,hid ⟨⟨_,Src.ofRow HF.out.row⟩,HF.out.kept,λ_=>HF.out⟩⟩
  ·have rj:decide (i<n)=false:=(by simp;omega);obtain rfl:i=n:=(by omega);go_wp2_with fail;go_ret;have ht:vs.take i=vs:=List.take_of_length_le (by have:=HB.out.1;omega);have h9:=HI.out;rw[ht]at h9;exact⟨_,rfl,h9.1,h9.2.1,h9.2.2⟩
theorem jT(k:IntKind)(w:World)(vs:List Nat)(t:TypeId):E0 k (w.alloc (.cells (vs.map (λx=>Value.int k (x:Nat))).toArray t)) w.heap.size vs:=by intro j hj;have hb:=(Blk.new w (vs.map (λx=>Value.int k (x:Nat))).toArray t).cell j;rw[hb];simp[List.getD_eq_getElem?_getD,List.getElem?_eq_getElem hj]
def LabBk(w:World)(b:Nat)(m:Mk):Prop:=Blk w b #[.int .u16 (m.way:Nat),.int .u32 (m.sum:Nat),.int .u32 (m.packed:Nat),.int .u32 (m.size:Nat),.string (bF m.name)] 47
theorem LabBk.cells{w:World}{b:Nat}{m:Mk}(h:LabBk w b m):w.cell? ⟨b,0,none⟩=some (.int .u16 (m.way:Nat))/\w.cell? ⟨b,1,none⟩=some (.int .u32 (m.sum:Nat))/\w.cell? ⟨b,2,none⟩=some (.int .u32 (m.packed:Nat))/\w.cell? ⟨b,3,none⟩=some (.int .u32 (m.size:Nat))/\w.cell? ⟨b,4,none⟩=some (.string (bF m.name)):=
 ⟨Blk.cell h 0,Blk.cell h 1,Blk.cell h 2,Blk.cell h 3,Blk.cell h 4⟩
theorem LabBk.kept{w w':World}{b:Nat}{m:Mk}(h:LabBk w b m)(hk:Same w w'):LabBk w' b m:=Blk.kept h hk (λf=>f)
theorem IG(m:Mk):gw 2 [20,0,m.way,0,33]++gw 4 [m.sum,m.packed,m.size]++gw 2 [m.name.length,0]=gX m:=by simp[gw,gX]
theorem mn(w:World)(v:Value)(I:Nat→Prop)(cs:List Nat)(m:Mk)(hs:Src w I v cs)(hm:gE m)(ag:cs.length≤1000000):
  Calls Tryz.prog 35 #[v,.agg (k7 m)] w λe w'=>∃v',e=.returned v'/\Fresh w w' v' (cs++gX m):=by
 obtain⟨W1,hW1⟩:∃W,W=w.alloc (.cells #[.int .u16 (m.way:Nat),.int .u32 (m.sum:Nat),.int .u32 (m.packed:Nat),.int .u32 (m.size:Nat),.string (bF m.name)] 47):=⟨_,rfl⟩
 obtain⟨mb,lZ⟩:∃b,b=w.heap.size:=⟨_,rfl⟩
 have cX:W1.heap.size=mb+1:=by rw[hW1,lZ,World.size_alloc]
 have HK1:Hid (Same w W1):=hid (by rw[hW1];exact(Kept.refl _ w).alloc _);have HL1:Hid (LabBk W1 mb m):=hid (by rw[hW1,lZ];exact Blk.new w _ _);have HM:Hid (gE m/\cs.length<=1000000):=hid ⟨hm,ag⟩;have yi:∀o,Same W1 (W1.alloc o):=λo=>(Kept.refl _ W1).alloc o
 have hn1:=jT .u16 W1 [20,0,m.way,0,33] 45;have H1:=lH _ v I cs W1.heap.size [20,0,m.way,0,33] 5 rfl (hs.kept (Same.trans HK1.out (yi _)) (λ_ _ _ f=>f)) hn1 (by intro x hx;have:=hm.way;simp at hx;omega) (by omega) (by decide);rw[cX]at H1;have HKA:Hid (Same W1 (W1.alloc (.cells (List.map (λx=>Value.int .u16 (x:Nat)) [20,0,m.way,0,33]).toArray 45))):=hid (yi _);clear hs hn1 yi hm ag cX;unfold k7;go_enter Tryz.func35,Tryz.ntmps35;go_wp2_with fail;rw[<-hW1,<-lZ];clear hW1 lZ;refine H1.mono ?_;rintro e w2 ⟨v2,rfl,_,_,hf2⟩;have hf2:=hf2 (by decide);have hk2:Same W1 w2:=Same.trans HKA.out hf2.kept;have HK2:Hid (Same w w2):=hid (Same.trans HK1.out hk2);have HL2:Hid (LabBk w2 mb m):=hid (HL1.out.kept hk2);obtain⟨c0,c1,c2,c3,c4⟩:=HL2.out.cells;have yi:∀o,Same w2 (w2.alloc o):=λo=>(Kept.refl _ w2).alloc o
 have hn2:=jT .u32 w2 [m.sum,m.packed,m.size] 35;have H2:=qI _ v2 _ (cs++gw 2 [20,0,m.way,0,33]) w2.heap.size [m.sum,m.packed,m.size] 3 rfl ((Src.ofRow hf2.row).kept (yi _) (λ_ _ _ f=>f)) hn2 (by intro x hx;have:=HM.out.1.sum;have:=HM.out.1.packed;have:=HM.out.1.size;simp at hx;omega) (by rw[List.length_append,cD];have:=HM.out.2;simp;omega) (by decide);have HKA2:Hid (Same w2 (w2.alloc (.cells (List.map (λx=>Value.int .u32 (x:Nat)) [m.sum,m.packed,m.size]).toArray 35))):=hid (yi _);clear hn2 yi hf2 hk2 H1 HKA HL1 HK1;go_wp2_with fail;refine H2.mono ?_;rintro e w3 ⟨v3,rfl,_,_,hf3⟩;have hf3:=hf3 (by decide);have hk3:Same w2 w3:=Same.trans HKA2.out hf3.kept;have HK3:Hid (Same w w3):=hid (Same.trans HK2.out hk3);have HL3:Hid (LabBk w3 mb m):=hid (HL2.out.kept hk3);obtain⟨d0,d1,d2,d3,d4⟩:=HL3.out.cells;obtain⟨nl,ri⟩:∃n,n=m.name.length:=⟨_,rfl⟩
 have YB:((bF m.name).size:Int)=(nl:Int):=by rw[ri,iJ]
 have TO:(bF m.name).size=nl:=by rw[ri,iJ]
 have WM:IntKind.u16.wrap (nl:Int)=(nl:Int):=by rw[IntKind.wrap_u16];have:=HM.out.1.name;omega
 have HNL:Hid (nl=m.name.length):=ri;have yi:∀o,Same w3 (w3.alloc o):=λo=>(Kept.refl _ w3).alloc o
 have hn3:=jT .u16 w3 [nl,0] 45;have H3:=lH _ v3 _ (cs++gw 2 [20,0,m.way,0,33]++gw 4 [m.sum,m.packed,m.size]) w3.heap.size [nl,0] 2 rfl ((Src.ofRow hf3.row).kept (yi _) (λ_ _ _ f=>f)) hn3 (by intro x hx;have:=HM.out.1.name;simp at hx;omega) (by rw[List.length_append,List.length_append,cD,cD];have:=HM.out.2;simp;omega) (by decide);have HKA3:Hid (Same w3 (w3.alloc (.cells (List.map (λx=>Value.int .u16 (x:Nat)) [nl,0]).toArray 45))):=hid (yi _);clear hn3 yi hf3 hk3 H2 HKA2 HL2 HK2 c0 c1 c2 c3 c4 ri;go_wp2_with fail;refine H3.mono ?_;rintro e w4 ⟨v4,rfl,_,_,hf4⟩;have hf4:=hf4 (by decide);have HF4:Hid (Fresh w w4 v4 (cs++gX m)):=hid (by
  refine⟨?_,Same.trans HK3.out (Same.trans HKA3.out hf4.kept),λk e=>Nat.le_trans (Same.trans HK3.out HKA3.out).size (hf4.new k e)⟩;have h9:=hf4.row;rw[HNL.out]at h9;rw[<-IG,<-List.append_assoc,<-List.append_assoc];exact h9)
 clear hf4 H3;go_wp2_with fail;go_ret;exact⟨_,rfl,HF4.out⟩
def EndA(w w':World)(o:Except Nat (Nat×Nat))(e:Ending):Prop:=
 (∀n f,o=.ok (n,f)->e=.returned (.tuple #[.int .i64 (n:Nat),.int .i64 (f:Nat)])/\Same w w')/\(∀c,o=.error c->e=aG c/\Same w w')
theorem EndA.good{w w':World}{o:Except Nat (Nat×Nat)}{e:Ending}{n f:Nat}(h:o=.ok (n,f))(he:e=.returned (.tuple #[.int .i64 (n:Nat),.int .i64 (f:Nat)]))(hk:Same w w'):EndA w w' o e:=
 ⟨λn' f' h'=>by rw[h]at h';simp only[Except.ok.injEq,Prod.mk.injEq]at h';obtain⟨rfl,rfl⟩:=h';exact⟨he,hk⟩,λc h'=>by rw[h]at h';cases h'⟩
theorem EndA.bad{w w':World}{o:Except Nat (Nat×Nat)}{e:Ending}{c:Nat}(h:o=.error c)(he:e=aG c)(hk:Same w w'):EndA w w' o e:=
 ⟨λn' f' h'=>(by rw[h]at h';cases h'),λc' h'=>by rw[h]at h';simp only[Except.error.injEq]at h';subst h';exact⟨he,hk⟩⟩
theorem eV{r:List Nat}{p:Nat}(h:nG r=none):iy r p=.error 81:=by unfold iy;rw[h]
theorem A7(N:Nat)(w:World)(r:List Nat)(a:Option Addr)(cap place:Nat)(hsrc:Src w (fun k=>k<N) (.slice a r.length cap) r)(ir:r.length≤cap)(hN:N≤w.heap.size)(tf:∀b∈r,b<256)(ag:r.length≤2000000)(rH:place≤2000000)(xT:a≠none):
  Calls Tryz.prog 24 #[.slice a r.length cap,.int .i64 (place:Nat)] w λe w'=>EndA w w' (iy r place) e:=by
 obtain⟨cb,og⟩:∃b,b=w.heap.size:=⟨_,rfl⟩
 have HCB:Hid (cb=w.heap.size):=og;obtain⟨L,hL⟩:∃L,L=r.length:=⟨_,rfl⟩
 obtain⟨w0,ly⟩:∃W,W=w.alloc (.cells #[.slice a L cap] 64):=⟨_,rfl⟩
 have hk0:Same w w0:=by rw[ly];exact(Kept.refl _ w).alloc _
 have re:Cur N w0 cb r a cap:=⟨by rw[ly,og,<-hL];exact Blk.new w _ _,hsrc.kept hk0 (λ_ _ _ f=>f),ir,by omega,tf,ag,xT⟩
 have HKp1:Hid (Kept (·=cb) w w0):=hid hk0.k8;have H1:=nP N w0 cb r a cap 101010256 re (by decide);rw[<-hL];clear hsrc ir hN tf ag hk0 re hL xT;go_enter Tryz.func24,Tryz.ntmps24;go_wp2_with fail;rw[<-ly,<-og];clear ly og;refine H1.mono ?_;intro e w1 h1;cases lX:eM 4 101010256 r with
 | none=>
  obtain⟨rfl,hk⟩:=h1.2 lX;have HKb:Hid (Kept (·=cb) w w1):=hid (HKp1.out.k8 hk);have HEb:Hid (eM 4 101010256 r=none):=lX;clear h1 hk lX H1;unfold aG;go_wp2_with fail;exact⟨rfl,EndA.bad (eV (by simp only[nG,HEb.out,bB])) rfl (HKb.out.mono (λk hk e=>by have:=HCB.out;omega))⟩
 | some p1=>
  obtain⟨r1,rfl⟩:∃z,z=p1:=⟨_,rfl⟩
  obtain⟨a1,Aq,rfl,hcu1,hk1⟩:=h1.1 _ lX;have E1:Hid (eM 4 101010256 r=some r1):=lX;obtain⟨P5,J7⟩:∃W,W=w1.alloc (.cells #[.int .u16 0,.int .u16 0] 45):=⟨_,rfl⟩
  have hsl:Same w1 P5:=(by rw[J7];exact(Kept.refl _ w1).alloc _);have hbl:Blk P5 w1.heap.size #[.int .u16 0,.int .u16 0] 45:=(by rw[J7];exact Blk.new w1 _ _);have l0:=hbl.cell 0;have l1:=hbl.cell 1;simp at l0 l1;have HKp2:Hid (Kept (·=cb) w P5):=hid ((HKp1.out.k8 hk1).k8 hsl.k8);have H2:=sV N P5 cb r1 a1 Aq 0 0 w1.heap.size (hcu1.kept hsl (λf=>f) (λ_ _ f=>f)) (by decide) (by decide) (λe=>by have:=hcu1.blk.lt;omega) l0 l1;clear h1 lX hcu1 hk1 H1 HKp1 hsl hbl l0 l1;go_wp2_with fail;rw[<-J7];clear J7;refine H2.mono ?_;intro e w2 h2;cases iE:nQ 0 0 r1 with
  | none=>
   obtain⟨rfl,hk⟩:=h2.2 iE;have HKb:Hid (Kept (·=cb) w w2):=hid (HKp2.out.k8 hk);have HEb:Hid (nQ 0 0 r1=none):=iE;clear h2 hk iE H2;unfold aG;go_wp2_with fail;refine⟨rfl,EndA.bad (eV ?_) rfl (HKb.out.mono (λk hk e=>by have:=HCB.out;omega))⟩;have h9:=HEb.out;unfold nQ at h9;simp only[nG,E1.out,ak];cases h8:eM 2 0 r1 with
   | none=>rfl
   | some z=>
    rw[h8,ak]at h9;rw[ak,h9,bB]
  | some p2=>
   obtain⟨r2,rfl⟩:∃z,z=p2:=⟨_,rfl⟩
   obtain⟨a2,eG,rfl,hcu2,hk2⟩:=h2.1 _ iE;have E2:Hid (∃z,eM 2 0 r1=some z/\eM 2 0 z=some r2):=hid (by
    unfold nQ at iE;cases h8:eM 2 0 r1 with
    | none=>rw[h8,bB]at iE;cases iE
    | some z=>rw[h8,ak]at iE;exact⟨z,rfl,iE⟩)
   obtain⟨z2,fW,NJ⟩:=E2.out;have E3:Hid (eM 2 0 r1=some z2):=fW;have E4:Hid (eM 2 0 z2=some r2):=NJ;have HKp3:Hid (Kept (·=cb) w w2):=hid (HKp2.out.k8 hk2);have H3:=kw N w2 cb r2 a2 eG hcu2;clear h2 iE hcu2 hk2 H2 HKp2 fW NJ;go_wp2_with fail;refine H3.mono ?_;intro e w3 h3;cases mZ:dS 2 r2 with
   | none=>
    obtain⟨rfl,hk⟩:=h3.2 mZ;have HKb:Hid (Kept (·=cb) w w3):=hid (HKp3.out.k8 hk.k8);have HEb:Hid (dS 2 r2=none):=mZ;clear h3 hk mZ H3;unfold aG;go_wp2_with fail;exact⟨rfl,EndA.bad (eV (by simp only[nG,E1.out,ak,E3.out,ak,E4.out,ak,HEb.out,bB])) rfl (HKb.out.mono (λk hk e=>by have:=HCB.out;omega))⟩
   | some p3=>
    obtain⟨n,r3⟩:=p3;obtain⟨a3,kR,rfl,hn3,hcu3,hk3⟩:=h3.1 n r3 mZ;have E5:Hid (dS 2 r2=some (n,r3)):=mZ;have J0:n<65536:=hn3;obtain⟨PY,JP⟩:∃W,W=w3.alloc (.cells #[.int .u16 (n:Nat)] 45):=⟨_,rfl⟩
    have hsl:Same w3 PY:=(by rw[JP];exact(Kept.refl _ w3).alloc _);have hbl:Blk PY w3.heap.size #[.int .u16 (n:Nat)] 45:=(by rw[JP];exact Blk.new w3 _ _);have l0:=hbl.cell 0;simp at l0;have HKp4:Hid (Kept (·=cb) w PY):=hid ((HKp3.out.k8 hk3).k8 hsl.k8);have H4:=kH N PY cb r3 a3 kR n w3.heap.size (hcu3.kept hsl (λf=>f) (λ_ _ f=>f)) J0 l0;clear h3 mZ hcu3 hk3 H3 HKp3 hsl hbl l0 hn3;go_wp2_with fail;rw[<-JP];clear JP;refine H4.mono ?_;intro e w4 h4;cases pu:eM 2 n r3 with
    | none=>
     obtain⟨rfl,hk⟩:=h4.2 pu;have HKb:Hid (Kept (·=cb) w w4):=hid (HKp4.out.k8 hk);have HEb:Hid (eM 2 n r3=none):=pu;clear h4 hk pu H4;unfold aG;go_wp2_with fail;exact⟨rfl,EndA.bad (eV (by simp only[nG,E1.out,ak,E3.out,ak,E4.out,ak,E5.out,ak,HEb.out,bB])) rfl (HKb.out.mono (λk hk e=>by have:=HCB.out;omega))⟩
    | some p4=>
     obtain⟨r4,rfl⟩:∃z,z=p4:=⟨_,rfl⟩
     obtain⟨a4,rJ,rfl,xR,hk4⟩:=h4.1 _ pu;have E6:Hid (eM 2 n r3=some r4):=pu;have HKp5:Hid (Kept (·=cb) w w4):=hid (HKp4.out.k8 hk4);have H5:=gL N w4 cb r4 a4 rJ xR;clear h4 pu xR hk4 H4 HKp4;go_wp2_with fail;refine H5.mono ?_;intro e w5 h5;cases ht5:dS 4 r4 with
     | none=>
      obtain⟨rfl,hk⟩:=h5.2 ht5;have HKb:Hid (Kept (·=cb) w w5):=hid (HKp5.out.k8 hk.k8);have HEb:Hid (dS 4 r4=none):=ht5;clear h5 hk ht5 H5;unfold aG;go_wp2_with fail;exact⟨rfl,EndA.bad (eV (by simp only[nG,E1.out,ak,E3.out,ak,E4.out,ak,E5.out,ak,E6.out,ak,HEb.out,bB])) rfl (HKb.out.mono (λk hk e=>by have:=HCB.out;omega))⟩
     | some p5=>
      obtain⟨lng,r5⟩:=p5;obtain⟨a5,gV,rfl,fJ,xV,hk5⟩:=h5.1 lng r5 ht5;have E7:Hid (dS 4 r4=some (lng,r5)):=ht5;have U5:lng<4294967296:=fJ;have HKp6:Hid (Kept (·=cb) w w5):=hid (HKp5.out.k8 hk5);have H6:=gL N w5 cb r5 a5 gV xV;clear h5 ht5 xV hk5 H5 HKp5 fJ;go_wp2_with fail;refine H6.mono ?_;intro e w6 h6;cases ht6:dS 4 r5 with
      | none=>
       obtain⟨rfl,hk⟩:=h6.2 ht6;have HKb:Hid (Kept (·=cb) w w6):=hid (HKp6.out.k8 hk.k8);have HEb:Hid (dS 4 r5=none):=ht6;clear h6 hk ht6 H6;unfold aG;go_wp2_with fail;exact⟨rfl,EndA.bad (eV (by simp only[nG,E1.out,ak,E3.out,ak,E4.out,ak,E5.out,ak,E6.out,ak,E7.out,ak,HEb.out,bB])) rfl (HKb.out.mono (λk hk e=>by have:=HCB.out;omega))⟩
      | some p6=>
       obtain⟨fr,r6⟩:=p6;obtain⟨a6,D6,rfl,oK,hcu6,hk6⟩:=h6.1 fr r6 ht6;have E8:Hid (dS 4 r5=some (fr,r6)):=ht6;have U2:fr<4294967296:=oK;obtain⟨PO,J6⟩:∃W,W=w6.alloc (.cells #[.int .u16 0] 45):=⟨_,rfl⟩
       have hsl:Same w6 PO:=(by rw[J6];exact(Kept.refl _ w6).alloc _);have hbl:Blk PO w6.heap.size #[.int .u16 0] 45:=(by rw[J6];exact Blk.new w6 _ _);have l0:=hbl.cell 0;simp at l0;have HKp7:Hid (Kept (·=cb) w PO):=hid ((HKp6.out.k8 hk6).k8 hsl.k8);have H7:=kH N PO cb r6 a6 D6 0 w6.heap.size (hcu6.kept hsl (λf=>f) (λ_ _ f=>f)) (by decide) l0;clear h6 ht6 hcu6 hk6 H6 HKp6 hsl hbl l0 oK;go_wp2_with fail;rw[<-J6];clear J6;refine H7.mono ?_;intro e w7 h7;cases ht7:eM 2 0 r6 with
       | none=>
        obtain⟨rfl,hk⟩:=h7.2 ht7;have HKb:Hid (Kept (·=cb) w w7):=hid (HKp7.out.k8 hk);have HEb:Hid (eM 2 0 r6=none):=ht7;clear h7 hk ht7 H7;unfold aG;go_wp2_with fail;exact⟨rfl,EndA.bad (eV (by simp only[nG,E1.out,ak,E3.out,ak,E4.out,ak,E5.out,ak,E6.out,ak,E7.out,ak,E8.out,ak,HEb.out,bB])) rfl (HKb.out.mono (λk hk e=>by have:=HCB.out;omega))⟩
       | some p7=>
        obtain⟨r7,rfl⟩:∃z,z=p7:=⟨_,rfl⟩
        obtain⟨a7,GZ,rfl,hcu7,dh⟩:=h7.1 _ ht7;have HK7:Hid (Same w w7):=hid ((HKp7.out.k8 dh).mono (λk hk e=>by have:=HCB.out;omega));have HEN:Hid (nG r=some (n,lng,fr)):=hid (by simp only[nG,E1.out,ak,E3.out,ak,E4.out,ak,E5.out,ak,E6.out,ak,E7.out,ak,E8.out,ak,ht7]);obtain⟨s,hs⟩:∃s,s=fr+lng:=⟨_,rfl⟩
        have YD:(fr:Int)+(lng:Int)=(s:Int):=(by omega);have Ud:IntKind.u64.wrap (s:Int)=(s:Int):=(by rw[IntKind.wrap_u64];omega);have Vw:IntKind.u64.wrap (fr:Int)=(fr:Int):=(by rw[IntKind.wrap_u64];omega);have R5:IntKind.u64.wrap (lng:Int)=(lng:Int):=(by rw[IntKind.wrap_u64];omega);have lY:IntKind.u64.wrap (place:Int)=(place:Int):=(by rw[IntKind.wrap_u64];omega);have HS:Hid (s=fr+lng):=hs;clear h7 ht7 hcu7 dh H7 HKp7 hs;by_cases hsp:s=place
        ·subst hsp;have HO:=bi w7 (.int .i64 81);go_wp2_with fail;refine HO.mono ?_;rintro e w8 ⟨rfl,Ml⟩;subst Ml;clear HO;by_cases hn:n<=64
         ·have bn:decide ((n:Int)<=64)=true:=(by simp;omega);have HO:=bi w8 (.int .i64 86);go_wp2_with fail;refine HO.mono ?_;rintro e w9 ⟨rfl,R3⟩;subst R3;clear HO;go_wp2_with fail;go_ret2;exact EndA.good (by unfold iy;rw[HEN.out];simp only;rw[if_neg (by have:=HS.out;omega),if_neg (by omega)]) rfl HK7.out
         ·have bn:decide ((n:Int)<=64)=false:=(by simp;omega);have HO:=aM w8 86;go_wp2_with fail;refine HO.mono ?_;rintro e w9 ⟨rfl,R3⟩;subst R3;clear HO;unfold aG;go_wp2_with fail;exact⟨rfl,EndA.bad (by unfold iy;rw[HEN.out];simp only;rw[if_neg (by have:=HS.out;omega),if_pos (by omega)]) rfl HK7.out⟩
        ·have bs:((s:Int)==(place:Int))=false:=(by simp;omega);have HO:=aM w7 81;go_wp2_with fail;refine HO.mono ?_;rintro e w8 ⟨rfl,Ml⟩;subst Ml;clear HO;unfold aG;go_wp2_with fail;exact⟨rfl,EndA.bad (by unfold iy;rw[HEN.out];simp only;rw[if_pos (by have:=HS.out;omega)]) rfl HK7.out⟩
end Go.Proofs.YtllcnlnbpikhdaaGreatDoor
