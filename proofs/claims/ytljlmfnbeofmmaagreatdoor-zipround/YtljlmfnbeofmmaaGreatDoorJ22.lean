import Derived.Laws.StructEq
import Derived.Lib.Strings
import Derived.Deep.RegionHeld3
import Derived.RegionDies
import Derived.Test.YtljlmfnbeofmmaaGreatDoorJ21
set_option maxHeartbeats 400000
set_option maxRecDepth 100000
namespace Go.Proofs.YtljlmfnbeofmmaaGreatDoor
open Go.RowKit
theorem ur(a b:List Nat)(ha:∀x∈a,x<256)(hb:∀x∈b,x<256):((bJ a).toList==(bJ b).toList)=decide (a=b):=by
 rw[Lib.toList_data,Lib.toList_data];by_cases h:a=b
 ·subst h;simp
 ·simp only[h,decide_false];refine beq_eq_false_iff_ne.2 (λe=>h (J5 ha hb ?_));cases ht:bJ a;cases hu:bJ b;rw[ht,hu]at e;simp only at e;rw[Array.toList_inj]at e;rw[e]
def jA(m:Mk)(v:Value):Array Value:=#[.int .u16 (m.way:Nat),.int .u32 (m.sum:Nat),.int .u32 (m.packed:Nat),.int .u32 (m.size:Nat),.string (bJ m.name),v]
theorem DR(w:World)(m q:Mk)(v:Value)(g:Nat)(hg:w.cell? ⟨g,4,none⟩=some (.string (bJ q.name)))(ha:∀b∈m.name,b<256)(hb:∀b∈q.name,b<256):
  Calls Tryz.prog 138 #[.agg (jA m v),.pointer (some ⟨g,0,none⟩)] w λe w'=>e=.returned (.bool (decide (m.name=q.name)))/\Same w w':=by
 have Us:∀o,(w.alloc o).cell? ⟨g,4,none⟩=some (.string (bJ q.name)):=λo=>(show Same w (w.alloc o) from(Kept.refl _ w).alloc o).cell hg (λf=>f)
 have hq:=ur m.name q.name ha hb;obtain⟨B,hB⟩:∃B,B=decide (m.name=q.name):=⟨_,rfl⟩
 rw[<-hB]at hq ⊢;clear hB;unfold jA;go_enter Tryz.func138,Tryz.ntmps138;go_wp2_with fail;go_ret;exact⟨rfl,(Kept.refl _ w).alloc _⟩
theorem lT{fn:Func}{p:Tmp}{ty:TypeId}(h:fn.results=#[.cell p ty])(tmps:Array Value)(P:Program)(w:World):
  (results fn tmps).run P w=((asAddr (tmps.getD p undef)).run P w).andThen λa w1=>(loadVar ty a).run P w1:=by
 simp only[results,h];simp[Sem.run_bind,Result.andThen]
def PieA(N:Nat)(w w':World)(c:Nat)(m:Mk)(r:List Nat)(e:Ending):Prop:=
 (∀b y,kD m r=some (b,y)->∃v a' cap',e=.returned (.agg (jA m v))/\Tkn N w' v m.packed b/\Cur N w' c y a' cap'/\Kept (·=c) w w')/\(kD m r=none->e=aH 81/\Kept (·=c) w w')
theorem PieA.good{N:Nat}{w w':World}{c:Nat}{m:Mk}{r b y:List Nat}{e:Ending}(ht:kD m r=some (b,y)){v:Value}{a':Option Addr}{cap':Nat}(he:e=.returned (.agg (jA m v)))(h1:Tkn N w' v m.packed b)(h2:Cur N w' c y a' cap')(h3:Kept (·=c) w w'):PieA N w w' c m r e:=
 ⟨λb' y' h=>by rw[ht]at h;simp only[Option.some.injEq,Prod.mk.injEq]at h;obtain⟨rfl,rfl⟩:=h;exact⟨v,a',cap',he,h1,h2,h3⟩,λh=>by rw[ht]at h;cases h⟩
theorem PieA.bad{N:Nat}{w w':World}{c:Nat}{m:Mk}{r:List Nat}{e:Ending}(ht:kD m r=none)(he:e=aH 81)(h3:Kept (·=c) w w'):PieA N w w' c m r e:=
 ⟨λb' y' h=>(by rw[ht]at h;cases h),λ_=>⟨he,h3⟩⟩
theorem k9{m:Mk}{r:List Nat}(h:pe m r=none):kD m r=none:=by unfold kD;rw[h];rfl
theorem J6(N:Nat)(w:World)(c:Nat)(m:Mk)(r:List Nat)(a:Option Addr)(cap:Nat)(h:Cur N w c r a cap)(hm:gP m)(yE:∀b∈m.name,b<256)(EQ:m.packed≤16384):
  Calls Tryz.prog 94 #[.pointer (some ⟨c,0,none⟩),.agg (lV m)] w λe w'=>PieA N w w' c m r e:=by
 obtain⟨w0,l7⟩:∃W,W=(w.alloc (.cells #[.int .u16 (m.way:Nat),.int .u32 (m.sum:Nat),.int .u32 (m.packed:Nat),.int .u32 (m.size:Nat),.string (bJ m.name)] 60)).alloc (.cells #[.int .u16 0,.int .u32 0,.int .u32 0,.int .u32 0,.string ⟨#[]⟩,.slice none 0 0] 78):=⟨_,rfl⟩
 obtain⟨mb,lJ⟩:∃b,b=w.heap.size:=⟨_,rfl⟩
 obtain⟨ib,Om⟩:∃b,b=w.heap.size+1:=⟨_,rfl⟩
 have HMB:Hid (c<mb/\mb=w.heap.size/\ib=w.heap.size+1):=hid ⟨by have:=h.blk.lt;omega,lJ,Om⟩;have hk0:Same w w0:=by rw[l7];exact((Kept.refl _ w).alloc _).alloc _
 have HKp1:Hid (Kept (·=c) w w0):=hid hk0.k8;have HM0:Hid (Blk w0 mb #[.int .u16 (m.way:Nat),.int .u32 (m.sum:Nat),.int .u32 (m.packed:Nat),.int .u32 (m.size:Nat),.string (bJ m.name)] 60):=hid (by rw[l7,lJ];exact(Blk.new w _ _).kept (show Same _ _ from(Kept.refl _ _).alloc _) (λf=>f));have HI0:Hid (Blk w0 ib #[.int .u16 0,.int .u32 0,.int .u32 0,.int .u32 0,.string ⟨#[]⟩,.slice none 0 0] 78):=hid (by rw[l7,Om];have h9:=Blk.new (w.alloc (.cells #[.int .u16 (m.way:Nat),.int .u32 (m.sum:Nat),.int .u32 (m.packed:Nat),.int .u32 (m.size:Nat),.string (bJ m.name)] 60)) #[.int .u16 0,.int .u32 0,.int .u32 0,.int .u32 0,.string ⟨#[]⟩,.slice none 0 0] 78;rw[World.size_alloc]at h9;exact h9);have V9:Hid (w0.heap.size=w.heap.size+2):=hid (by rw[l7,World.size_alloc,World.size_alloc]);have HC0:Hid (Cur N w0 c r a cap):=hid (h.kept hk0 (λf=>f) (λ_ _ f=>f));have H1:=oh N w0 c r a cap 67324752 HC0.out (by decide);have HMK:Hid (gP m/\(∀b∈m.name,b<256)):=hid ⟨hm,yE⟩;clear h hk0 hm yE;unfold lV;go_enter Tryz.func94,Tryz.ntmps94;go_wp2_with fail;rw[<-l7,<-Om,<-lJ];clear l7 lJ Om;refine H1.mono ?_;intro e w1 h1;cases jY:eY 4 67324752 r with
 | none=>
  obtain⟨rfl,hk⟩:=h1.2 jY;have HKb:Hid (Kept (·=c) w w1):=hid (HKp1.out.k8 hk);have HEb:Hid (eY 4 67324752 r=none):=jY;clear h1 hk jY H1;unfold aH;go_wp2_with fail;exact⟨rfl,PieA.bad (k9 (by simp only[pe,HEb.out,bE])) rfl HKb.out⟩
 | some r1=>
  obtain⟨a1,AY,rfl,hcu1,hk1⟩:=h1.1 _ jY;have E1:Hid (eY 4 67324752 r=some r1):=jY;have HKp2:Hid (Kept (·=c) w w1):=hid (HKp1.out.k8 hk1);have HM1:Hid (Blk w1 mb #[.int .u16 (m.way:Nat),.int .u32 (m.sum:Nat),.int .u32 (m.packed:Nat),.int .u32 (m.size:Nat),.string (bJ m.name)] 60):=hid (HM0.out.kept hk1 (λe=>by have:=HMB.out;omega));have HI1:Hid (Blk w1 ib #[.int .u16 0,.int .u32 0,.int .u32 0,.int .u32 0,.string ⟨#[]⟩,.slice none 0 0] 78):=hid (HI0.out.kept hk1 (λe=>by have:=HMB.out;omega));have H2:=BB N w1 c r1 a1 AY hcu1;clear h1 jY hcu1 hk1 H1 HKp1 HM0 HI0 HC0;go_wp2_with fail;refine H2.mono ?_;intro e w2 h2;cases fZ:fM r1 with
  | none=>
   obtain⟨rfl,hk⟩:=h2.2 fZ;have HKb:Hid (Kept (·=c) w w2):=hid (HKp2.out.k8 hk);have HEb:Hid (fM r1=none):=fZ;clear h2 hk fZ H2;unfold aH;go_wp2_with fail;exact⟨rfl,PieA.bad (k9 (by simp only[pe,E1.out,ak,HEb.out,bE])) rfl HKb.out⟩
  | some p2=>
   obtain⟨⟨q,lng⟩,r2⟩:=p2;obtain⟨a2,eV,rfl,Rl,Rx,Lb,hcu2,hk2⟩:=h2.1 q lng r2 fZ;have E2:Hid (fM r1=some ((q,lng),r2)):=fZ;have HLG:Hid (lng<65536):=Lb;obtain⟨wt,Rb⟩:∃W,W=w2.alloc (.cells #[.int .u16 (q.way:Nat),.int .u32 (q.sum:Nat),.int .u32 (q.packed:Nat),.int .u32 (q.size:Nat),.string (bJ q.name)] 60):=⟨_,rfl⟩
   have hst:Same w2 wt:=(by rw[Rb];exact(Kept.refl _ w2).alloc _);obtain⟨tb,SB⟩:∃b,b=w2.heap.size:=⟨_,rfl⟩
   have HTB:Hid (ib<tb/\mb<tb/\c<tb):=hid (by have h9:=hk2.size;have:=HKp2.out.size;have:=HMB.out;have:=HI1.out.lt;omega);have HTt:Hid (Blk wt tb #[.int .u16 (q.way:Nat),.int .u32 (q.sum:Nat),.int .u32 (q.packed:Nat),.int .u32 (q.size:Nat),.string (bJ q.name)] 60):=hid (by rw[Rb,SB];exact Blk.new w2 _ _);have HKp3:Hid (Kept (·=c) w wt):=hid ((HKp2.out.k8 hk2).k8 hst.k8);have HM2:Hid (Blk wt mb #[.int .u16 (m.way:Nat),.int .u32 (m.sum:Nat),.int .u32 (m.packed:Nat),.int .u32 (m.size:Nat),.string (bJ m.name)] 60):=hid ((HM1.out.kept hk2 (λe=>by have:=HMB.out;omega)).kept hst (λf=>f));have HI2:Hid (Blk wt ib #[.int .u16 0,.int .u32 0,.int .u32 0,.int .u32 0,.string ⟨#[]⟩,.slice none 0 0] 78):=hid ((HI1.out.kept hk2 (λe=>by have:=HMB.out;omega)).kept hst (λf=>f));have H3:=eH N wt c r2 a2 eV lng (hcu2.kept hst (λf=>f) (λ_ _ f=>f)) (by omega);clear h2 fZ hcu2 hk2 H2 HKp2 HM1 HI1 hst Rl Rx;unfold lV;go_wp2_with fail;rw[<-Rb,<-SB];clear Rb SB;refine H3.mono ?_;intro e w3 h3;cases j8:fj lng r2 with
   | none=>
    obtain⟨rfl,hk⟩:=h3.2 j8;have HKb:Hid (Kept (·=c) w w3):=hid (HKp3.out.k8 hk.k8);have HEb:Hid (fj lng r2=none):=j8;clear h3 hk j8 H3;unfold aH;go_wp2_with fail;exact⟨rfl,PieA.bad (k9 (by simp only[pe,E1.out,ak,E2.out,HEb.out,bE])) rfl HKb.out⟩
   | some p3=>
    obtain⟨x3,r3⟩:=p3;obtain⟨v3,a3,lM,rfl,htk3,hcu3,hk3⟩:=h3.1 x3 r3 j8;have E3:Hid (fj lng r2=some (x3,r3)):=j8;have HX3:Hid (∀b∈x3,b<256):=hid htk3.byte;have HT3:Hid (Blk w3 tb #[.int .u16 (q.way:Nat),.int .u32 (q.sum:Nat),.int .u32 (q.packed:Nat),.int .u32 (q.size:Nat),.string (bJ q.name)] 60):=hid (HTt.out.kept hk3 (λe=>by have:=HTB.out;omega));have HM3:Hid (Blk w3 mb #[.int .u16 (m.way:Nat),.int .u32 (m.sum:Nat),.int .u32 (m.packed:Nat),.int .u32 (m.size:Nat),.string (bJ m.name)] 60):=hid (HM2.out.kept hk3 (λe=>by have:=HMB.out;omega));have HI3:Hid (Blk w3 ib #[.int .u16 0,.int .u32 0,.int .u32 0,.int .u32 0,.string ⟨#[]⟩,.slice none 0 0] 78):=hid (HI2.out.kept hk3 (λe=>by have:=HMB.out;omega));obtain⟨Zo,ZS,sf⟩:=htk3.shp;subst sf;have gs:=GD htk3.src htk3.len;have t4:=HT3.out.cell 4;have U3:=HT3.out.frozen 4;simp at t4;obtain⟨w4,hw4⟩:∃W,W=w3.setCell ⟨tb,4,none⟩ (.string (bJ x3)):=⟨_,rfl⟩
    have oK:Kept (·=tb) w3 w4:=(by rw[hw4];exact(Kept.refl (·=tb) w3).setCell _ _ (.inl rfl));have HT4:Hid (Blk w4 tb #[.int .u16 (q.way:Nat),.int .u32 (q.sum:Nat),.int .u32 (q.packed:Nat),.int .u32 (q.size:Nat),.string (bJ x3)] 60):=hid (by rw[hw4];have:=HT3.out.set 4 (.string (bJ x3));simpa using this);have HM4:Hid (Blk w4 mb #[.int .u16 (m.way:Nat),.int .u32 (m.sum:Nat),.int .u32 (m.packed:Nat),.int .u32 (m.size:Nat),.string (bJ m.name)] 60):=hid (HM3.out.kept oK (λe=>by have:=HTB.out;omega));have HI4:Hid (Blk w4 ib #[.int .u16 0,.int .u32 0,.int .u32 0,.int .u32 0,.string ⟨#[]⟩,.slice none 0 0] 78):=hid (HI3.out.kept oK (λe=>by have:=HTB.out;omega));have HC4:Hid (Cur N w4 c r3 a3 lM):=hid (hcu3.kept oK (λe=>by have:=HTB.out;omega) (λk hk e=>by have:=HTB.out;have:=hcu3.new;omega));have HK4:Hid (Kept (·=c) w w4):=hid ((HKp3.out.k8 hk3).trans oK (λ_ _ e=>e) (λk hk e=>by have:=HTB.out;have:=HMB.out;omega));have NK:=HT4.out.cell 0;have NM:=HT4.out.cell 1;have NV:=HT4.out.cell 2;have N7:=HT4.out.cell 3;have Qw:=HT4.out.cell 4;have QE:=HM4.out.cell 0;have Q0:=HM4.out.cell 1;have Ra:=HM4.out.cell 2;have Qr:=HM4.out.cell 3;have QQ:=HM4.out.cell 4;simp at NK NM NV N7 Qw QE Q0 Ra Qr QQ;rw[hw4]at NK NM NV N7 Qw QE Q0 Ra Qr QQ;have Qn:=ur x3 m.name HX3.out HMK.out.2;have HHD:Hid (pe m r=if q.named x3=m then some r3 else none):=hid (by simp only[pe,E1.out,ak,E2.out,E3.out]);clear h3 j8 htk3 hcu3 hk3 H3 HKp3 HM2 HI2 HTt HT3 HM3 HI3 oK;by_cases jq:q.named x3=m
    ·have e1:q.way=m.way:=(by rw[<-jq];rfl);have e2:q.sum=m.sum:=(by rw[<-jq];rfl);have e3:q.packed=m.packed:=(by rw[<-jq];rfl);have e4:q.size=m.size:=(by rw[<-jq];rfl);have e5:x3=m.name:=(by rw[<-jq];rfl);rw[e1]at NK;rw[e2]at NM;rw[e3]at NV;rw[e4]at N7;rw[decide_eq_true e5]at Qn;have HHD2:Hid (pe m r=some r3):=hid (by rw[HHD.out,if_pos jq]);have HO:=bl w4 (.int .i64 81);have HTK:Hid (∀W2,Same w4 W2->Calls Tryz.prog 136 #[.pointer (some ⟨c,0,none⟩),.int .i64 (m.packed:Nat)] W2 λe w'=>TakZ N W2 w' c m.packed r3 e):=hid (λW2 hk=>eH N W2 c r3 a3 lM m.packed (HC4.out.kept hk (λf=>f) (λ_ _ f=>f)) (by omega));clear e1 e2 e3 e4 e5 jq HHD;go_wp2_with fail;rw[<-hw4];refine HO.mono ?_;rintro e w5 ⟨rfl,mH⟩;subst mH;clear HO NK NM NV N7 Qw QE Q0 Ra Qr QQ Qn t4 U3 gs hw4;have c0:=HM4.out.cell 0;have c1:=HM4.out.cell 1;have c2:=HM4.out.cell 2;have c3:=HM4.out.cell 3;have c4:=HM4.out.cell 4;simp at c0 c1 c2 c3 c4;have HCM:Hid (¬mb=c):=hid (by have:=HMB.out;omega);have HCI:Hid (¬ib=c):=hid (by have:=HMB.out;omega);have mI:IntKind.i64.wrap (m.packed:Int)=(m.packed:Int):=(by rw[IntKind.wrap_i64];omega);cases ht5:fj m.packed r3 with
     | none=>
      have HEb:Hid (fj m.packed r3=none):=ht5;clear ht5;go_wp2_with fail;go_region_dies
      all_goals
       refine(HTK.out _ ((Kept.refl _ w5).drew)).mono ?_;intro e w6 h6;obtain⟨rfl,hk6⟩:=h6.2 HEb.out;exact⟨rfl,PieA.bad (by unfold kD;rw[aB HHD2.out];exact HEb.out) rfl (HK4.out.k8 (Same.trans ((Kept.refl _ w5).drew) hk6).k8)⟩
     | some p5=>
      obtain⟨x5,r5⟩:=p5;have E5:Hid (fj m.packed r3=some (x5,r5)):=ht5;have HALL:Hid (∀W6,Kept (·=c) w5.drew W6->W6.cell? ⟨mb,0,none⟩=some (.int .u16 (m.way:Nat))/\W6.cell? ⟨mb,1,none⟩=some (.int .u32 (m.sum:Nat))/\W6.cell? ⟨mb,2,none⟩=some (.int .u32 (m.packed:Nat))/\W6.cell? ⟨mb,3,none⟩=some (.int .u32 (m.size:Nat))/\W6.cell? ⟨mb,4,none⟩=some (.string (bJ m.name))/\W6.cell? ⟨ib,0,none⟩=some (.int .u16 0)/\W6.cell? ⟨ib,1,none⟩=some (.int .u32 0)/\W6.cell? ⟨ib,2,none⟩=some (.int .u32 0)/\W6.cell? ⟨ib,3,none⟩=some (.int .u32 0)/\W6.cell? ⟨ib,4,none⟩=some (.string ⟨#[]⟩)/\W6.cell? ⟨ib,5,none⟩=some (.slice none 0 0)/\W6.frozen? ⟨ib,0,none⟩=false/\W6.frozen? ⟨ib,1,none⟩=false/\W6.frozen? ⟨ib,2,none⟩=false/\W6.frozen? ⟨ib,3,none⟩=false/\W6.frozen? ⟨ib,4,none⟩=false/\W6.frozen? ⟨ib,5,none⟩=false):=hid (λW6 hk=>by
       have hm9:=(HM4.out.kept (show Same w5 w5.drew from(Kept.refl _ w5).drew) (λf=>f)).kept hk HCM.out;have hi9:=(HI4.out.kept (show Same w5 w5.drew from(Kept.refl _ w5).drew) (λf=>f)).kept hk HCI.out;refine⟨?_,?_,?_,?_,?_,?_,?_,?_,?_,?_,?_,hi9.frozen 0,hi9.frozen 1,hi9.frozen 2,hi9.frozen 3,hi9.frozen 4,hi9.frozen 5⟩
       ·have:=hm9.cell 0;simpa using this
       ·have:=hm9.cell 1;simpa using this
       ·have:=hm9.cell 2;simpa using this
       ·have:=hm9.cell 3;simpa using this
       ·have:=hm9.cell 4;simpa using this
       ·have:=hi9.cell 0;simpa using this
       ·have:=hi9.cell 1;simpa using this
       ·have:=hi9.cell 2;simpa using this
       ·have:=hi9.cell 3;simpa using this
       ·have:=hi9.cell 4;simpa using this
       ·have:=hi9.cell 5;simpa using this)
      clear ht5;go_wp2_with fail;go_region_with (go_at_call 136;refine(HTK.out _ ((Kept.refl _ w5).drew)).mono ?_;intro e w6 h6;obtain⟨v6,a6,EH,rfl,htk6,hcu6,hk6⟩:=h6.1 x5 r5 E5.out;obtain⟨KG,QL,rH⟩:=htk6.shp;subst rH;obtain⟨q0,q1,q2,q3,q4,q5,q6,q7,q8,q9,YU,ZA,Y6,ZJ,Zh,ZH,YO⟩:=HALL.out w6 hk6)
      all_goals
       go_wp2_with fail;have hi6:=(HI4.out.kept (show Same w5 w5.drew from(Kept.refl _ w5).drew) (λf=>f)).kept hk6 HCI.out;obtain⟨wz,o7⟩:∃W,W=(((((w6.setCell ⟨ib,0,none⟩ (.int .u16 (m.way:Nat))).setCell ⟨ib,1,none⟩ (.int .u32 (m.sum:Nat))).setCell ⟨ib,2,none⟩ (.int .u32 (m.packed:Nat))).setCell ⟨ib,3,none⟩ (.int .u32 (m.size:Nat))).setCell ⟨ib,4,none⟩ (.string (bJ m.name))).setCell ⟨ib,5,none⟩ (.slice KG m.packed QL):=⟨_,rfl⟩
       have Bb:Kept (·=ib) w6 wz:=(by rw[o7];exact(((((((Kept.refl (·=ib) w6).setCell _ _ (.inl rfl)).setCell _ _ (.inl rfl)).setCell _ _ (.inl rfl)).setCell _ _ (.inl rfl)).setCell _ _ (.inl rfl)).setCell _ _ (.inl rfl)));have hbz:Blk wz ib #[.int .u16 (m.way:Nat),.int .u32 (m.sum:Nat),.int .u32 (m.packed:Nat),.int .u32 (m.size:Nat),.string (bJ m.name),.slice KG m.packed QL] 78:=(by rw[o7];have:=(((((hi6.set 0 (.int .u16 (m.way:Nat))).set 1 (.int .u32 (m.sum:Nat))).set 2 (.int .u32 (m.packed:Nat))).set 3 (.int .u32 (m.size:Nat))).set 4 (.string (bJ m.name))).set 5 (.slice KG m.packed QL);simpa using this);have z0:=hbz.cell 0;have z1:=hbz.cell 1;have z2:=hbz.cell 2;have z3:=hbz.cell 3;have z4:=hbz.cell 4;have z5:=hbz.cell 5;simp at z0 z1 z2 z3 z4 z5;rw[<-o7];refine bodyPost_ret (v:=.agg (jA m (.slice KG m.packed QL))) (by rw[lT rfl];simp[go_sem,z0,z1,z2,z3,z4,z5,jA]) rfl ?_;exact PieA.good (by unfold kD;rw[aB HHD2.out];exact E5.out) rfl (htk6.kept Bb (λk hk e=>by have:=HMB.out;have:=HC4.out.new;omega)) (hcu6.kept Bb (λe=>by have:=HMB.out;omega) (λk hk e=>by have:=HMB.out;have:=HC4.out.new;omega)) ((HK4.out.k8 ((show Same w5 w5.drew from(Kept.refl _ w5).drew).k8.k8 hk6)).trans Bb (λ_ _ e=>e) (λk hk e=>by have:=HMB.out;omega))
    ·have bw:((q.way:Int)==(m.way:Int))=false∨(q.way=m.way∧((q.sum:Int)==(m.sum:Int))=false)∨(q.way=m.way∧q.sum=m.sum∧((q.packed:Int)==(m.packed:Int))=false)∨(q.way=m.way∧q.sum=m.sum∧q.packed=m.packed∧((q.size:Int)==(m.size:Int))=false)∨(q.way=m.way∧q.sum=m.sum∧q.packed=m.packed∧q.size=m.size∧((bJ x3).toList==(bJ m.name).toList)=false):=by
      by_cases g1:q.way=m.way
      ·by_cases g2:q.sum=m.sum
       ·by_cases g3:q.packed=m.packed
        ·by_cases g4:q.size=m.size
         ·have g5:¬x3=m.name:=λe=>jq (by unfold Mk.named;rw[g1,g2,g3,g4,e])
          exact .inr (.inr (.inr (.inr ⟨g1,g2,g3,g4,by rw[Qn];simp[g5]⟩)))
         ·exact .inr (.inr (.inr (.inl ⟨g1,g2,g3,by simp;omega⟩)))
        ·exact .inr (.inr (.inl ⟨g1,g2,by simp;omega⟩))
       ·exact .inr (.inl ⟨g1,by simp;omega⟩)
      ·exact .inl (by simp;omega)
     have HBD:Hid (kD m r=none):=hid (k9 (by rw[HHD.out,if_neg jq]));have HO:=aL w4 81;clear Qn jq HHD;rcases bw with g | ⟨e1,g⟩ | ⟨e1,e2,g⟩ | ⟨e1,e2,e3,g⟩ | ⟨e1,e2,e3,e4,g⟩
     all_goals
      try
       rw[e1]at NK;clear e1
      try
       rw[e2]at NM;clear e2
      try
       rw[e3]at NV;clear e3
      try
       rw[e4]at N7;clear e4
      go_wp2_with fail;rw[<-hw4];refine HO.mono ?_;rintro e w5 ⟨rfl,mH⟩;subst mH;unfold aH;clear HO NK NM NV N7 Qw QE Q0 Ra Qr QQ t4 U3 gs hw4;go_wp2_with fail;exact⟨rfl,PieA.bad HBD.out rfl HK4.out⟩
def G3(k:IntKind)(w:World)(g:Nat)(vs:List Nat):Prop:=∀j,j<vs.length->w.cell? ⟨g,j,none⟩=some (.int k (vs.getD j 0:Nat))
def ik(n:Nat)(vs:List Nat):List Nat:=vs.flatMap (aT · n)
theorem wg(n:Nat)(vs:List Nat)(i:Nat)(hi:i<vs.length):ik n (vs.take (i+1))=ik n (vs.take i)++aT (vs.getD i 0) n:=by unfold ik;rw[List.take_add_one,List.flatMap_append,List.getD_eq_getElem?_getD,List.getElem?_eq_getElem hi];simp
theorem cG(n:Nat)(vs:List Nat):(ik n vs).length=vs.length*n:=by
 unfold ik
 induction vs with
 | nil=>simp
 | cons a r ih=>rw[List.flatMap_cons,List.length_append,ih,aA,List.length_cons,Nat.succ_mul,Nat.add_comm]
theorem mp(w:World)(v:Value)(I:Nat→Prop)(cs:List Nat)(g:Nat)(vs:List Nat)(n:Nat)(hn:n=vs.length)(hs:Src w I v cs)(hl:G3 .u16 w g vs)(hv:∀x∈vs,x<65536)(ag:cs.length≤10000000)(Jf:n≤100):
  Calls Tryz.prog 73 #[v,.slice (some ⟨g,0,none⟩) n n] w λe w'=>∃v',e=.returned v'/\(∃J,Src w' J v' (cs++ik 2 vs))/\Same w w'/\(1<=n->Fresh w w' v' (cs++ik 2 vs)):=by
 have HS:Hid (Src w I v cs):=hs;have HL:Hid (G3 .u16 w g vs):=hl;have HB:Hid (n=vs.length/\(∀x∈vs,x<65536)/\cs.length<=10000000):=hid ⟨hn,hv,ag⟩;clear hs hl hv ag hn;go_enter Tryz.func73,Tryz.ntmps73;go_wp2_with fail;go_loopg [0,9] n (λqq z0 z9 wr=>∃i:Nat,z9=.int .i64 (i:Nat)/\i<=n/\n-i<=qq/\Hid ((∃J,Src wr J z0 (cs++ik 2 (vs.take i)))/\Same w wr/\(1<=i->Fresh w wr z0 (cs++ik 2 (vs.take i)))))
 case atStart=>exact⟨0,rfl,by omega,by omega,hid ⟨⟨I,by simpa[ik]using HS.out⟩,Kept.refl _ _,λh=>by omega⟩⟩
 case round=>
  obtain⟨i,rfl,hi1,NA,HI⟩:=hrel;obtain⟨vb,LD⟩:∃vb,vb=u0:=⟨_,rfl⟩
  rw[<-LD]at HI ⊢;clear LD;by_cases hi:i<n
  ·have mM:decide (i<n)=true:=(by simp;omega);obtain⟨x,hx⟩:∃x,x=vs.getD i 0:=⟨_,rfl⟩
   have hc:=HI.out.2.1.cell (HL.out i (by have:=HB.out.1;omega)) (λf=>f);rw[<-hx]at hc;have SZ:x<65536:=HB.out.2.1 x (by rw[hx,List.getD_eq_getElem?_getD,List.getElem?_eq_getElem (by have:=HB.out.1;omega)];exact List.getElem_mem _);have EL:IntKind.i64.wrap ((i:Int)+1)=((i+1:Nat):Int):=(by rw[IntKind.wrap_i64];omega);have HX:Hid (x=vs.getD i 0):=hx;obtain⟨⟨J,hJ⟩,_,_⟩:=HI.out;have HPU:=Ed wr vb J _ hJ x rfl SZ (by rw[List.length_append,cG,List.length_take];have:=HB.out;omega);clear hx hJ;go_wp2_with fail;refine HPU.mono ?_;rintro e w2 ⟨v2,rfl,hf⟩;have HF:Hid (Fresh w w2 v2 (cs++ik 2 (vs.take (i+1)))):=hid (by
    rw[wg 2 vs i (by have:=HB.out.1;omega),<-List.append_assoc,<-HX.out];exact⟨hf.row,Same.trans HI.out.2.1 hf.kept,λk e=>Nat.le_trans HI.out.2.1.size (hf.new k e)⟩)
   clear hf HPU;go_wp2_with fail;go_roundg (gk-1)
   case measure=>omega
   case rel=>exact⟨i+1,by go_num,by omega,by omega,hid ⟨⟨_,Src.ofRow HF.out.row⟩,HF.out.kept,λ_=>HF.out⟩⟩
  ·have mM:decide (i<n)=false:=(by simp;omega);obtain rfl:i=n:=(by omega);go_wp2_with fail;go_ret;have ht:vs.take i=vs:=List.take_of_length_le (by have:=HB.out.1;omega);have h9:=HI.out;rw[ht]at h9;exact⟨_,rfl,h9.1,h9.2.1,h9.2.2⟩
theorem rg(w:World)(v:Value)(I:Nat→Prop)(cs:List Nat)(g:Nat)(vs:List Nat)(n:Nat)(hn:n=vs.length)(hs:Src w I v cs)(hl:G3 .u32 w g vs)(hv:∀x∈vs,x<4294967296)(ag:cs.length≤10000000)(Jf:n≤100):
  Calls Tryz.prog 76 #[v,.slice (some ⟨g,0,none⟩) n n] w λe w'=>∃v',e=.returned v'/\(∃J,Src w' J v' (cs++ik 4 vs))/\Same w w'/\(1<=n->Fresh w w' v' (cs++ik 4 vs)):=by
 have HS:Hid (Src w I v cs):=hs;have HL:Hid (G3 .u32 w g vs):=hl;have HB:Hid (n=vs.length/\(∀x∈vs,x<4294967296)/\cs.length<=10000000):=hid ⟨hn,hv,ag⟩;clear hs hl hv ag hn;go_enter Tryz.func76,Tryz.ntmps76;go_wp2_with fail;go_loopg [0,9] n (λqq z0 z9 wr=>∃i:Nat,z9=.int .i64 (i:Nat)/\i<=n/\n-i<=qq/\Hid ((∃J,Src wr J z0 (cs++ik 4 (vs.take i)))/\Same w wr/\(1<=i->Fresh w wr z0 (cs++ik 4 (vs.take i)))))
 case atStart=>exact⟨0,rfl,by omega,by omega,hid ⟨⟨I,by simpa[ik]using HS.out⟩,Kept.refl _ _,λh=>by omega⟩⟩
 case round=>
  obtain⟨i,rfl,hi1,NA,HI⟩:=hrel;obtain⟨vb,LD⟩:∃vb,vb=u0:=⟨_,rfl⟩
  rw[<-LD]at HI ⊢;clear LD;by_cases hi:i<n
  ·have mM:decide (i<n)=true:=(by simp;omega);obtain⟨x,hx⟩:∃x,x=vs.getD i 0:=⟨_,rfl⟩
   have hc:=HI.out.2.1.cell (HL.out i (by have:=HB.out.1;omega)) (λf=>f);rw[<-hx]at hc;have SZ:x<4294967296:=HB.out.2.1 x (by rw[hx,List.getD_eq_getElem?_getD,List.getElem?_eq_getElem (by have:=HB.out.1;omega)];exact List.getElem_mem _);have EL:IntKind.i64.wrap ((i:Int)+1)=((i+1:Nat):Int):=(by rw[IntKind.wrap_i64];omega);have HX:Hid (x=vs.getD i 0):=hx;obtain⟨⟨J,hJ⟩,_,_⟩:=HI.out;have HPU:=kY wr vb J _ hJ x rfl SZ (by rw[List.length_append,cG,List.length_take];have:=HB.out;omega);clear hx hJ;go_wp2_with fail;refine HPU.mono ?_;rintro e w2 ⟨v2,rfl,hf⟩;have HF:Hid (Fresh w w2 v2 (cs++ik 4 (vs.take (i+1)))):=hid (by
    rw[wg 4 vs i (by have:=HB.out.1;omega),<-List.append_assoc,<-HX.out];exact⟨hf.row,Same.trans HI.out.2.1 hf.kept,λk e=>Nat.le_trans HI.out.2.1.size (hf.new k e)⟩)
   clear hf HPU;go_wp2_with fail;go_roundg (gk-1)
   case measure=>omega
   case rel=>exact⟨i+1,by go_num,by omega,by omega,hid ⟨⟨_,Src.ofRow HF.out.row⟩,HF.out.kept,λ_=>HF.out⟩⟩
  ·have mM:decide (i<n)=false:=(by simp;omega);obtain rfl:i=n:=(by omega);go_wp2_with fail;go_ret;have ht:vs.take i=vs:=List.take_of_length_le (by have:=HB.out.1;omega);have h9:=HI.out;rw[ht]at h9;exact⟨_,rfl,h9.1,h9.2.1,h9.2.2⟩
theorem kz(k:IntKind)(w:World)(vs:List Nat)(t:TypeId):G3 k (w.alloc (.cells (vs.map (λx=>Value.int k (x:Nat))).toArray t)) w.heap.size vs:=by intro j hj;have hb:=(Blk.new w (vs.map (λx=>Value.int k (x:Nat))).toArray t).cell j;rw[hb];simp[List.getD_eq_getElem?_getD,List.getElem?_eq_getElem hj]
def LabBk(w:World)(b:Nat)(m:Mk):Prop:=Blk w b #[.int .u16 (m.way:Nat),.int .u32 (m.sum:Nat),.int .u32 (m.packed:Nat),.int .u32 (m.size:Nat),.string (bJ m.name)] 60
theorem LabBk.cells{w:World}{b:Nat}{m:Mk}(h:LabBk w b m):w.cell? ⟨b,0,none⟩=some (.int .u16 (m.way:Nat))/\w.cell? ⟨b,1,none⟩=some (.int .u32 (m.sum:Nat))/\w.cell? ⟨b,2,none⟩=some (.int .u32 (m.packed:Nat))/\w.cell? ⟨b,3,none⟩=some (.int .u32 (m.size:Nat))/\w.cell? ⟨b,4,none⟩=some (.string (bJ m.name)):=
 ⟨Blk.cell h 0,Blk.cell h 1,Blk.cell h 2,Blk.cell h 3,Blk.cell h 4⟩
theorem LabBk.kept{w w':World}{b:Nat}{m:Mk}(h:LabBk w b m)(hk:Same w w'):LabBk w' b m:=Blk.kept h hk (λf=>f)
theorem J0(m:Mk):ik 2 [20,0,m.way,0,33]++ik 4 [m.sum,m.packed,m.size]++ik 2 [m.name.length,0]=iC m:=by simp[ik,iC]
theorem mU(w:World)(v:Value)(I:Nat→Prop)(cs:List Nat)(m:Mk)(hs:Src w I v cs)(hm:gP m)(ag:cs.length≤1000000):
  Calls Tryz.prog 75 #[v,.agg (lV m)] w λe w'=>∃v',e=.returned v'/\Fresh w w' v' (cs++iC m):=by
 obtain⟨W1,hW1⟩:∃W,W=w.alloc (.cells #[.int .u16 (m.way:Nat),.int .u32 (m.sum:Nat),.int .u32 (m.packed:Nat),.int .u32 (m.size:Nat),.string (bJ m.name)] 60):=⟨_,rfl⟩
 obtain⟨mb,lJ⟩:∃b,b=w.heap.size:=⟨_,rfl⟩
 have cZ:W1.heap.size=mb+1:=by rw[hW1,lJ,World.size_alloc]
 have HK1:Hid (Same w W1):=hid (by rw[hW1];exact(Kept.refl _ w).alloc _);have HL1:Hid (LabBk W1 mb m):=hid (by rw[hW1,lJ];exact Blk.new w _ _);have HM:Hid (gP m/\cs.length<=1000000):=hid ⟨hm,ag⟩;have yI:∀o,Same W1 (W1.alloc o):=λo=>(Kept.refl _ W1).alloc o
 have hn1:=kz .u16 W1 [20,0,m.way,0,33] 58;have H1:=mp _ v I cs W1.heap.size [20,0,m.way,0,33] 5 rfl (hs.kept (Same.trans HK1.out (yI _)) (λ_ _ _ f=>f)) hn1 (by intro x hx;have:=hm.way;simp at hx;omega) (by omega) (by decide);rw[cZ]at H1;have HKA:Hid (Same W1 (W1.alloc (.cells (List.map (λx=>Value.int .u16 (x:Nat)) [20,0,m.way,0,33]).toArray 58))):=hid (yI _);clear hs hn1 yI hm ag cZ;unfold lV;go_enter Tryz.func75,Tryz.ntmps75;go_wp2_with fail;rw[<-hW1,<-lJ];clear hW1 lJ;refine H1.mono ?_;rintro e w2 ⟨v2,rfl,_,_,hf2⟩;have hf2:=hf2 (by decide);have hk2:Same W1 w2:=Same.trans HKA.out hf2.kept;have HK2:Hid (Same w w2):=hid (Same.trans HK1.out hk2);have HL2:Hid (LabBk w2 mb m):=hid (HL1.out.kept hk2);obtain⟨c0,c1,c2,c3,c4⟩:=HL2.out.cells;have yI:∀o,Same w2 (w2.alloc o):=λo=>(Kept.refl _ w2).alloc o
 have hn2:=kz .u32 w2 [m.sum,m.packed,m.size] 48;have H2:=rg _ v2 _ (cs++ik 2 [20,0,m.way,0,33]) w2.heap.size [m.sum,m.packed,m.size] 3 rfl ((Src.ofRow hf2.row).kept (yI _) (λ_ _ _ f=>f)) hn2 (by intro x hx;have:=HM.out.1.sum;have:=HM.out.1.packed;have:=HM.out.1.size;simp at hx;omega) (by rw[List.length_append,cG];have:=HM.out.2;simp;omega) (by decide);have HKA2:Hid (Same w2 (w2.alloc (.cells (List.map (λx=>Value.int .u32 (x:Nat)) [m.sum,m.packed,m.size]).toArray 48))):=hid (yI _);clear hn2 yI hf2 hk2 H1 HKA HL1 HK1;go_wp2_with fail;refine H2.mono ?_;rintro e w3 ⟨v3,rfl,_,_,hf3⟩;have hf3:=hf3 (by decide);have hk3:Same w2 w3:=Same.trans HKA2.out hf3.kept;have HK3:Hid (Same w w3):=hid (Same.trans HK2.out hk3);have HL3:Hid (LabBk w3 mb m):=hid (HL2.out.kept hk3);obtain⟨d0,d1,d2,d3,d4⟩:=HL3.out.cells;obtain⟨nl,rM⟩:∃n,n=m.name.length:=⟨_,rfl⟩
 have ZB:((bJ m.name).size:Int)=(nl:Int):=by rw[rM,qD]
 have UD:(bJ m.name).size=nl:=by rw[rM,qD]
 have Xq:IntKind.u16.wrap (nl:Int)=(nl:Int):=by rw[IntKind.wrap_u16];have:=HM.out.1.name;omega
 have HNL:Hid (nl=m.name.length):=rM;have yI:∀o,Same w3 (w3.alloc o):=λo=>(Kept.refl _ w3).alloc o
 have hn3:=kz .u16 w3 [nl,0] 58;have H3:=mp _ v3 _ (cs++ik 2 [20,0,m.way,0,33]++ik 4 [m.sum,m.packed,m.size]) w3.heap.size [nl,0] 2 rfl ((Src.ofRow hf3.row).kept (yI _) (λ_ _ _ f=>f)) hn3 (by intro x hx;have:=HM.out.1.name;simp at hx;omega) (by rw[List.length_append,List.length_append,cG,cG];have:=HM.out.2;simp;omega) (by decide);have HKA3:Hid (Same w3 (w3.alloc (.cells (List.map (λx=>Value.int .u16 (x:Nat)) [nl,0]).toArray 58))):=hid (yI _);clear hn3 yI hf3 hk3 H2 HKA2 HL2 HK2 c0 c1 c2 c3 c4 rM;go_wp2_with fail;refine H3.mono ?_;rintro e w4 ⟨v4,rfl,_,_,hf4⟩;have hf4:=hf4 (by decide);have HF4:Hid (Fresh w w4 v4 (cs++iC m)):=hid (by
  refine⟨?_,Same.trans HK3.out (Same.trans HKA3.out hf4.kept),λk e=>Nat.le_trans (Same.trans HK3.out HKA3.out).size (hf4.new k e)⟩;have h9:=hf4.row;rw[HNL.out]at h9;rw[<-J0,<-List.append_assoc,<-List.append_assoc];exact h9)
 clear hf4 H3;go_wp2_with fail;go_ret;exact⟨_,rfl,HF4.out⟩
def EndA(w w':World)(o:Except Nat (Nat×Nat))(e:Ending):Prop:=
 (∀n f,o=.ok (n,f)->e=.returned (.tuple #[.int .i64 (n:Nat),.int .i64 (f:Nat)])/\Same w w')/\(∀c,o=.error c->e=aH c/\Same w w')
theorem EndA.good{w w':World}{o:Except Nat (Nat×Nat)}{e:Ending}{n f:Nat}(h:o=.ok (n,f))(he:e=.returned (.tuple #[.int .i64 (n:Nat),.int .i64 (f:Nat)]))(hk:Same w w'):EndA w w' o e:=
 ⟨λn' f' h'=>by rw[h]at h';simp only[Except.ok.injEq,Prod.mk.injEq]at h';obtain⟨rfl,rfl⟩:=h';exact⟨he,hk⟩,λc h'=>by rw[h]at h';cases h'⟩
theorem EndA.bad{w w':World}{o:Except Nat (Nat×Nat)}{e:Ending}{c:Nat}(h:o=.error c)(he:e=aH c)(hk:Same w w'):EndA w w' o e:=
 ⟨λn' f' h'=>(by rw[h]at h';cases h'),λc' h'=>by rw[h]at h';simp only[Except.error.injEq]at h';subst h';exact⟨he,hk⟩⟩
theorem ep{r:List Nat}{p:Nat}(h:nm r=none):j0 r p=.error 81:=by unfold j0;rw[h]
theorem BS(N:Nat)(w:World)(r:List Nat)(a:Option Addr)(cap place:Nat)(hsrc:Src w (fun k=>k<N) (.slice a r.length cap) r)(iS:r.length≤cap)(hN:N≤w.heap.size)(yB:∀b∈r,b<256)(ag:r.length≤2000000)(uU:place≤2000000)(yL:a≠none):
  Calls Tryz.prog 91 #[.slice a r.length cap,.int .i64 (place:Nat)] w λe w'=>EndA w w' (j0 r place) e:=by
 obtain⟨cb,pM⟩:∃b,b=w.heap.size:=⟨_,rfl⟩
 have HCB:Hid (cb=w.heap.size):=pM;obtain⟨L,hL⟩:∃L,L=r.length:=⟨_,rfl⟩
 obtain⟨w0,l7⟩:∃W,W=w.alloc (.cells #[.slice a L cap] 129):=⟨_,rfl⟩
 have hk0:Same w w0:=by rw[l7];exact(Kept.refl _ w).alloc _
 have lK:Cur N w0 cb r a cap:=⟨by rw[l7,pM,<-hL];exact Blk.new w _ _,hsrc.kept hk0 (λ_ _ _ f=>f),iS,by omega,yB,ag,yL⟩
 have HKp1:Hid (Kept (·=cb) w w0):=hid hk0.k8;have H1:=oh N w0 cb r a cap 101010256 lK (by decide);rw[<-hL];clear hsrc iS hN yB ag hk0 lK hL yL;go_enter Tryz.func91,Tryz.ntmps91;go_wp2_with fail;rw[<-l7,<-pM];clear l7 pM;refine H1.mono ?_;intro e w1 h1;cases jY:eY 4 101010256 r with
 | none=>
  obtain⟨rfl,hk⟩:=h1.2 jY;have HKb:Hid (Kept (·=cb) w w1):=hid (HKp1.out.k8 hk);have HEb:Hid (eY 4 101010256 r=none):=jY;clear h1 hk jY H1;unfold aH;go_wp2_with fail;exact⟨rfl,EndA.bad (ep (by simp only[nm,HEb.out,bE])) rfl (HKb.out.mono (λk hk e=>by have:=HCB.out;omega))⟩
 | some p1=>
  obtain⟨r1,rfl⟩:∃z,z=p1:=⟨_,rfl⟩
  obtain⟨a1,AY,rfl,hcu1,hk1⟩:=h1.1 _ jY;have E1:Hid (eY 4 101010256 r=some r1):=jY;obtain⟨QF,KY⟩:∃W,W=w1.alloc (.cells #[.int .u16 0,.int .u16 0] 58):=⟨_,rfl⟩
  have hsl:Same w1 QF:=(by rw[KY];exact(Kept.refl _ w1).alloc _);have hbl:Blk QF w1.heap.size #[.int .u16 0,.int .u16 0] 58:=(by rw[KY];exact Blk.new w1 _ _);have l0:=hbl.cell 0;have l1:=hbl.cell 1;simp at l0 l1;have HKp2:Hid (Kept (·=cb) w QF):=hid ((HKp1.out.k8 hk1).k8 hsl.k8);have H2:=sA N QF cb r1 a1 AY 0 0 w1.heap.size (hcu1.kept hsl (λf=>f) (λ_ _ f=>f)) (by decide) (by decide) (λe=>by have:=hcu1.blk.lt;omega) l0 l1;clear h1 jY hcu1 hk1 H1 HKp1 hsl hbl l0 l1;go_wp2_with fail;rw[<-KY];clear KY;refine H2.mono ?_;intro e w2 h2;cases fZ:n7 0 0 r1 with
  | none=>
   obtain⟨rfl,hk⟩:=h2.2 fZ;have HKb:Hid (Kept (·=cb) w w2):=hid (HKp2.out.k8 hk);have HEb:Hid (n7 0 0 r1=none):=fZ;clear h2 hk fZ H2;unfold aH;go_wp2_with fail;refine⟨rfl,EndA.bad (ep ?_) rfl (HKb.out.mono (λk hk e=>by have:=HCB.out;omega))⟩;have h9:=HEb.out;unfold n7 at h9;simp only[nm,E1.out,ak];cases h8:eY 2 0 r1 with
   | none=>rfl
   | some z=>
    rw[h8,ak]at h9;rw[ak,h9,bE]
  | some p2=>
   obtain⟨r2,rfl⟩:∃z,z=p2:=⟨_,rfl⟩
   obtain⟨a2,eV,rfl,hcu2,hk2⟩:=h2.1 _ fZ;have E2:Hid (∃z,eY 2 0 r1=some z/\eY 2 0 z=some r2):=hid (by
    unfold n7 at fZ;cases h8:eY 2 0 r1 with
    | none=>rw[h8,bE]at fZ;cases fZ
    | some z=>rw[h8,ak]at fZ;exact⟨z,rfl,fZ⟩)
   obtain⟨z2,gw,Jr⟩:=E2.out;have E3:Hid (eY 2 0 r1=some z2):=gw;have E4:Hid (eY 2 0 z2=some r2):=Jr;have HKp3:Hid (Kept (·=cb) w w2):=hid (HKp2.out.k8 hk2);have H3:=kR N w2 cb r2 a2 eV hcu2;clear h2 fZ hcu2 hk2 H2 HKp2 gw Jr;go_wp2_with fail;refine H3.mono ?_;intro e w3 h3;cases j8:ec 2 r2 with
   | none=>
    obtain⟨rfl,hk⟩:=h3.2 j8;have HKb:Hid (Kept (·=cb) w w3):=hid (HKp3.out.k8 hk.k8);have HEb:Hid (ec 2 r2=none):=j8;clear h3 hk j8 H3;unfold aH;go_wp2_with fail;exact⟨rfl,EndA.bad (ep (by simp only[nm,E1.out,ak,E3.out,ak,E4.out,ak,HEb.out,bE])) rfl (HKb.out.mono (λk hk e=>by have:=HCB.out;omega))⟩
   | some p3=>
    obtain⟨n,r3⟩:=p3;obtain⟨a3,lM,rfl,hn3,hcu3,hk3⟩:=h3.1 n r3 j8;have E5:Hid (ec 2 r2=some (n,r3)):=j8;have KV:n<65536:=hn3;obtain⟨QV,KS⟩:∃W,W=w3.alloc (.cells #[.int .u16 (n:Nat)] 58):=⟨_,rfl⟩
    have hsl:Same w3 QV:=(by rw[KS];exact(Kept.refl _ w3).alloc _);have hbl:Blk QV w3.heap.size #[.int .u16 (n:Nat)] 58:=(by rw[KS];exact Blk.new w3 _ _);have l0:=hbl.cell 0;simp at l0;have HKp4:Hid (Kept (·=cb) w QV):=hid ((HKp3.out.k8 hk3).k8 hsl.k8);have H4:=lp N QV cb r3 a3 lM n w3.heap.size (hcu3.kept hsl (λf=>f) (λ_ _ f=>f)) KV l0;clear h3 j8 hcu3 hk3 H3 HKp3 hsl hbl l0 hn3;go_wp2_with fail;rw[<-KS];clear KS;refine H4.mono ?_;intro e w4 h4;cases l6:eY 2 n r3 with
    | none=>
     obtain⟨rfl,hk⟩:=h4.2 l6;have HKb:Hid (Kept (·=cb) w w4):=hid (HKp4.out.k8 hk);have HEb:Hid (eY 2 n r3=none):=l6;clear h4 hk l6 H4;unfold aH;go_wp2_with fail;exact⟨rfl,EndA.bad (ep (by simp only[nm,E1.out,ak,E3.out,ak,E4.out,ak,E5.out,ak,HEb.out,bE])) rfl (HKb.out.mono (λk hk e=>by have:=HCB.out;omega))⟩
    | some p4=>
     obtain⟨r4,rfl⟩:∃z,z=p4:=⟨_,rfl⟩
     obtain⟨a4,rJ,rfl,yw,hk4⟩:=h4.1 _ l6;have E6:Hid (eY 2 n r3=some r4):=l6;have HKp5:Hid (Kept (·=cb) w w4):=hid (HKp4.out.k8 hk4);have H5:=gZ N w4 cb r4 a4 rJ yw;clear h4 l6 yw hk4 H4 HKp4;go_wp2_with fail;refine H5.mono ?_;intro e w5 h5;cases ht5:ec 4 r4 with
     | none=>
      obtain⟨rfl,hk⟩:=h5.2 ht5;have HKb:Hid (Kept (·=cb) w w5):=hid (HKp5.out.k8 hk.k8);have HEb:Hid (ec 4 r4=none):=ht5;clear h5 hk ht5 H5;unfold aH;go_wp2_with fail;exact⟨rfl,EndA.bad (ep (by simp only[nm,E1.out,ak,E3.out,ak,E4.out,ak,E5.out,ak,E6.out,ak,HEb.out,bE])) rfl (HKb.out.mono (λk hk e=>by have:=HCB.out;omega))⟩
     | some p5=>
      obtain⟨lng,r5⟩:=p5;obtain⟨a5,iq,rfl,gC,yu,hk5⟩:=h5.1 lng r5 ht5;have E7:Hid (ec 4 r4=some (lng,r5)):=ht5;have WA:lng<4294967296:=gC;have HKp6:Hid (Kept (·=cb) w w5):=hid (HKp5.out.k8 hk5);have H6:=gZ N w5 cb r5 a5 iq yu;clear h5 ht5 yu hk5 H5 HKp5 gC;go_wp2_with fail;refine H6.mono ?_;intro e w6 h6;cases ht6:ec 4 r5 with
      | none=>
       obtain⟨rfl,hk⟩:=h6.2 ht6;have HKb:Hid (Kept (·=cb) w w6):=hid (HKp6.out.k8 hk.k8);have HEb:Hid (ec 4 r5=none):=ht6;clear h6 hk ht6 H6;unfold aH;go_wp2_with fail;exact⟨rfl,EndA.bad (ep (by simp only[nm,E1.out,ak,E3.out,ak,E4.out,ak,E5.out,ak,E6.out,ak,E7.out,ak,HEb.out,bE])) rfl (HKb.out.mono (λk hk e=>by have:=HCB.out;omega))⟩
      | some p6=>
       obtain⟨fr,r6⟩:=p6;obtain⟨a6,EH,rfl,rH,hcu6,hk6⟩:=h6.1 fr r6 ht6;have E8:Hid (ec 4 r5=some (fr,r6)):=ht6;have XQ:fr<4294967296:=rH;obtain⟨QD,KZ⟩:∃W,W=w6.alloc (.cells #[.int .u16 0] 58):=⟨_,rfl⟩
       have hsl:Same w6 QD:=(by rw[KZ];exact(Kept.refl _ w6).alloc _);have hbl:Blk QD w6.heap.size #[.int .u16 0] 58:=(by rw[KZ];exact Blk.new w6 _ _);have l0:=hbl.cell 0;simp at l0;have HKp7:Hid (Kept (·=cb) w QD):=hid ((HKp6.out.k8 hk6).k8 hsl.k8);have H7:=lp N QD cb r6 a6 EH 0 w6.heap.size (hcu6.kept hsl (λf=>f) (λ_ _ f=>f)) (by decide) l0;clear h6 ht6 hcu6 hk6 H6 HKp6 hsl hbl l0 rH;go_wp2_with fail;rw[<-KZ];clear KZ;refine H7.mono ?_;intro e w7 h7;cases ht7:eY 2 0 r6 with
       | none=>
        obtain⟨rfl,hk⟩:=h7.2 ht7;have HKb:Hid (Kept (·=cb) w w7):=hid (HKp7.out.k8 hk);have HEb:Hid (eY 2 0 r6=none):=ht7;clear h7 hk ht7 H7;unfold aH;go_wp2_with fail;exact⟨rfl,EndA.bad (ep (by simp only[nm,E1.out,ak,E3.out,ak,E4.out,ak,E5.out,ak,E6.out,ak,E7.out,ak,E8.out,ak,HEb.out,bE])) rfl (HKb.out.mono (λk hk e=>by have:=HCB.out;omega))⟩
       | some p7=>
        obtain⟨r7,rfl⟩:∃z,z=p7:=⟨_,rfl⟩
        obtain⟨a7,Iu,rfl,hcu7,dk⟩:=h7.1 _ ht7;have HK7:Hid (Same w w7):=hid ((HKp7.out.k8 dk).mono (λk hk e=>by have:=HCB.out;omega));have HEN:Hid (nm r=some (n,lng,fr)):=hid (by simp only[nm,E1.out,ak,E3.out,ak,E4.out,ak,E5.out,ak,E6.out,ak,E7.out,ak,E8.out,ak,ht7]);obtain⟨s,hs⟩:∃s,s=fr+lng:=⟨_,rfl⟩
        have YD:(fr:Int)+(lng:Int)=(s:Int):=(by omega);have WZ:IntKind.u64.wrap (s:Int)=(s:Int):=(by rw[IntKind.wrap_u64];omega);have Vv:IntKind.u64.wrap (fr:Int)=(fr:Int):=(by rw[IntKind.wrap_u64];omega);have Sg:IntKind.u64.wrap (lng:Int)=(lng:Int):=(by rw[IntKind.wrap_u64];omega);have mI:IntKind.u64.wrap (place:Int)=(place:Int):=(by rw[IntKind.wrap_u64];omega);have HS:Hid (s=fr+lng):=hs;clear h7 ht7 hcu7 dk H7 HKp7 hs;by_cases hsp:s=place
        ·subst hsp;have HO:=bl w7 (.int .i64 81);go_wp2_with fail;refine HO.mono ?_;rintro e w8 ⟨rfl,M4⟩;subst M4;clear HO;by_cases hn:n<=64
         ·have bn:decide ((n:Int)<=64)=true:=(by simp;omega);have HO:=bl w8 (.int .i64 86);go_wp2_with fail;refine HO.mono ?_;rintro e w9 ⟨rfl,RZ⟩;subst RZ;clear HO;go_wp2_with fail;go_ret2;exact EndA.good (by unfold j0;rw[HEN.out];simp only;rw[if_neg (by have:=HS.out;omega),if_neg (by omega)]) rfl HK7.out
         ·have bn:decide ((n:Int)<=64)=false:=(by simp;omega);have HO:=aL w8 86;go_wp2_with fail;refine HO.mono ?_;rintro e w9 ⟨rfl,RZ⟩;subst RZ;clear HO;unfold aH;go_wp2_with fail;exact⟨rfl,EndA.bad (by unfold j0;rw[HEN.out];simp only;rw[if_neg (by have:=HS.out;omega),if_pos (by omega)]) rfl HK7.out⟩
        ·have bs:((s:Int)==(place:Int))=false:=(by simp;omega);have HO:=aL w7 81;go_wp2_with fail;refine HO.mono ?_;rintro e w8 ⟨rfl,M4⟩;subst M4;clear HO;unfold aH;go_wp2_with fail;exact⟨rfl,EndA.bad (by unfold j0;rw[HEN.out];simp only;rw[if_pos (by have:=HS.out;omega)]) rfl HK7.out⟩
end Go.Proofs.YtljlmfnbeofmmaaGreatDoor
