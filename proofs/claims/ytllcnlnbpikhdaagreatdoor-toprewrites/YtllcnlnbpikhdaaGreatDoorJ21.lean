import Derived.Laws.BytesArg
import Derived.Test.YtllcnlnbpikhdaaGreatDoorJ20
set_option maxHeartbeats 1000000
set_option maxRecDepth 100000
namespace Go.Proofs.YtllcnlnbpikhdaaGreatDoor
open Go.RowKit
theorem Gl{w:World}{I:Nat->Prop}{a:Option Addr}{n c:Nat}{x:List Nat}(h:Src w I (.slice a n c) x)(hn:x.length=n):(convert 22 9 (.slice a n c)).run Tryz.prog w=.ok (.string (bF x)) w:=by
 obtain⟨ao,cap,e,hs⟩:=h;simp only[Value.slice.injEq]at e;obtain⟨rfl,_,rfl⟩:=e;subst hn;cases hx:x with
 | nil=>
  cases a with
  | none=>exact run_convert_bytes_nil (P:=Tryz.prog) w 22 5 Tryz.underlying22 Tryz.underlying5 0 c 9 Tryz.underlying9
  | some ad=>
   rw[run_convert_bytes_string w 22 9 5 _ _ c Tryz.underlying22 Tryz.underlying5 Tryz.underlying9];exact run_bytesToString (P:=Tryz.prog) w ad 0 c [] (run_loadCells_list (P:=Tryz.prog) w ad [] (λj v hj=>by simp at hj))
 | cons b r=>
  obtain⟨g,o,h1,_,h3⟩:=hs (by rw[hx];simp);rw[<-hx];subst h1;have h:=run_convert_bytes_arg (P:=Tryz.prog) w 22 5 Tryz.underlying22 Tryz.underlying5 g o x.length c (x.map (λb=>((b:Nat):Int))) (by simp) (λi hi=>by rw[h3 i hi];simp[List.getD,hi]) 9 Tryz.underlying9;rw[h];have e:strOfNums (x.map (λb=>((b:Nat):Int)))=bF x:=by unfold strOfNums bF;rw[List.map_map];rfl
  rw[e]
def RecA(N:Nat)(w w':World)(c:Nat)(r:List Nat)(e:Ending):Prop:=
 (∀m at' y,eU r=some ((m,at'),y)->∃a' cap',e=.returned (.tuple #[.agg (k7 m),.int .u32 (at':Nat)])/\gE m/\(∀b∈m.name,b<256)/\at'<4294967296/\Cur N w' c y a' cap'/\Kept (·=c) w w')/\(eU r=none->e=aG 81/\Kept (·=c) w w')
theorem RecA.good{N:Nat}{w w':World}{c:Nat}{r y:List Nat}{m:Mk}{at':Nat}{e:Ending}(ht:eU r=some ((m,at'),y)){a':Option Addr}{cap':Nat}(he:e=.returned (.tuple #[.agg (k7 m),.int .u32 (at':Nat)]))(h1:gE m)(h0:∀b∈m.name,b<256)(hl:at'<4294967296)(h2:Cur N w' c y a' cap')(h3:Kept (·=c) w w'):RecA N w w' c r e:=
 ⟨λm' l' y' h=>by rw[ht]at h;simp only[Option.some.injEq,Prod.mk.injEq]at h;obtain⟨⟨rfl,rfl⟩,rfl⟩:=h;exact⟨a',cap',he,h1,h0,hl,h2,h3⟩,λh=>by rw[ht]at h;cases h⟩
theorem RecA.bad{N:Nat}{w w':World}{c:Nat}{r:List Nat}{e:Ending}(ht:eU r=none)(he:e=aG 81)(h3:Kept (·=c) w w'):RecA N w w' c r e:=
 ⟨λm' l' y' h=>(by rw[ht]at h;cases h),λ_=>⟨he,h3⟩⟩
theorem JC(N:Nat)(w:World)(c:Nat)(r:List Nat)(a:Option Addr)(cap:Nat)(h:Cur N w c r a cap):
  Calls Tryz.prog 25 #[.pointer (some ⟨c,0,none⟩)] w λe w'=>RecA N w w' c r e:=by
 obtain⟨mb,lZ⟩:∃b,b=w.heap.size:=⟨_,rfl⟩
 have HMB:Hid (c<mb/\mb=w.heap.size):=hid ⟨by have:=h.blk.lt;omega,lZ⟩;obtain⟨w0,ly⟩:∃W,W=w.alloc (.cells #[.int .u16 0,.int .u32 0,.int .u32 0,.int .u32 0,.string ⟨#[]⟩] 47):=⟨_,rfl⟩
 have hk0:Same w w0:=by rw[ly];exact(Kept.refl _ w).alloc _
 have HKp1:Hid (Kept (·=c) w w0):=hid hk0.k8;have HMp1:Hid (Blk w0 mb #[.int .u16 0,.int .u32 0,.int .u32 0,.int .u32 0,.string ⟨#[]⟩] 47):=hid (by rw[ly,lZ];exact Blk.new w _ _);have HC0:Hid (Cur N w0 c r a cap):=hid (h.kept hk0 (λf=>f) (λ_ _ f=>f));have H1:=nP N w0 c r a cap 33639248 HC0.out (by decide);clear h hk0;go_enter Tryz.func25,Tryz.ntmps25;go_wp2_with fail;rw[<-ly,<-lZ];clear ly lZ;refine H1.mono ?_;intro e w1 h1;cases lX:eM 4 33639248 r with
 | none=>
  obtain⟨rfl,hk⟩:=h1.2 lX;have HKb:Hid (Kept (·=c) w w1):=hid (HKp1.out.k8 hk);have HEb:Hid (eM 4 33639248 r=none):=lX;clear h1 hk lX H1;unfold aG;go_wp2_with fail;exact⟨rfl,RecA.bad (by simp only[eU,HEb.out,bB]) rfl HKb.out⟩
 | some p1=>
  obtain⟨r1,rfl⟩:∃z,z=p1:=⟨_,rfl⟩
  obtain⟨a1,Aq,rfl,hcu1,hk1⟩:=h1.1 _ lX;have E1:Hid (eM 4 33639248 r=some r1):=lX;have HKp2:Hid (Kept (·=c) w w1):=hid (HKp1.out.k8 hk1);have HMp2:Hid (Blk w1 mb #[.int .u16 0,.int .u32 0,.int .u32 0,.int .u32 0,.string ⟨#[]⟩] 47):=hid (HMp1.out.kept hk1 (λe=>by have:=HMB.out;omega));have H2:=ew N w1 c r1 a1 Aq 2 hcu1 (by decide);clear h1 lX hcu1 hk1 H1 HKp1 HMp1 HC0;go_wp2_with fail;refine H2.mono ?_;intro e w2 h2;cases iE:eF 2 r1 with
  | none=>
   obtain⟨rfl,hk⟩:=h2.2 iE;have HKb:Hid (Kept (·=c) w w2):=hid (HKp2.out.k8 hk.k8);have HEb:Hid (eF 2 r1=none):=iE;clear h2 hk iE H2;unfold aG;go_wp2_with fail;exact⟨rfl,RecA.bad (by simp only[eU,E1.out,ak,HEb.out,bB]) rfl HKb.out⟩
  | some p2=>
   obtain⟨x2,r2⟩:=p2;obtain⟨v2,a2,eG,rfl,htk2,hcu2,hk2⟩:=h2.1 x2 r2 iE;have E2:Hid (eF 2 r1=some (x2,r2)):=iE;have HKp3:Hid (Kept (·=c) w w2):=hid (HKp2.out.k8 hk2);have HMp3:Hid (Blk w2 mb #[.int .u16 0,.int .u32 0,.int .u32 0,.int .u32 0,.string ⟨#[]⟩] 47):=hid (HMp2.out.kept hk2 (λe=>by have:=HMB.out;omega));have H3:=BF N w2 c r2 a2 eG hcu2;obtain⟨SG,KM,oe⟩:=htk2.shp;subst oe;clear h2 iE htk2 hcu2 hk2 H2 HKp2 HMp2;go_wp2_with fail;refine H3.mono ?_;intro e w3 h3;cases mZ:fH r2 with
   | none=>
    obtain⟨rfl,hk⟩:=h3.2 mZ;have HKb:Hid (Kept (·=c) w w3):=hid (HKp3.out.k8 hk);have HEb:Hid (fH r2=none):=mZ;clear h3 hk mZ H3;unfold aG;go_wp2_with fail;exact⟨rfl,RecA.bad (by simp only[eU,E1.out,ak,E2.out,ak,HEb.out,bB]) rfl HKb.out⟩
   | some p3=>
    obtain⟨⟨m,lng⟩,r3⟩:=p3;obtain⟨a3,kR,rfl,N1,QP,Kl,hcu3,hk3⟩:=h3.1 m lng r3 mZ;have E3:Hid (fH r2=some ((m,lng),r3)):=mZ;have HMK:Hid (gE (m.named [])/\lng<65536):=hid ⟨N1,Kl⟩;have HMa3:Hid (Blk w3 mb #[.int .u16 0,.int .u32 0,.int .u32 0,.int .u32 0,.string ⟨#[]⟩] 47):=hid (HMp3.out.kept hk3 (λe=>by have:=HMB.out;omega));have m0:=HMa3.out.cell 0;have f0:=HMa3.out.frozen 0;have m1:=HMa3.out.cell 1;have f1:=HMa3.out.frozen 1;have m2:=HMa3.out.cell 2;have f2:=HMa3.out.frozen 2;have m3:=HMa3.out.cell 3;have f3:=HMa3.out.frozen 3;have m4:=HMa3.out.cell 4;have f4:=HMa3.out.frozen 4;simp at m0 m1 m2 m3 m4;obtain⟨wq,Hn⟩:∃W,W=((((w3.setCell ⟨mb,0,none⟩ (.int .u16 (m.way:Nat))).setCell ⟨mb,1,none⟩ (.int .u32 (m.sum:Nat))).setCell ⟨mb,2,none⟩ (.int .u32 (m.packed:Nat))).setCell ⟨mb,3,none⟩ (.int .u32 (m.size:Nat))).setCell ⟨mb,4,none⟩ (.string (bF m.name)):=⟨_,rfl⟩
    have MV:Kept (·=mb) w3 wq:=(by rw[Hn];exact(((((Kept.refl (·=mb) w3).setCell _ _ (.inl rfl)).setCell _ _ (.inl rfl)).setCell _ _ (.inl rfl)).setCell _ _ (.inl rfl)).setCell _ _ (.inl rfl));have hcq:Cur N wq c r3 a3 kR:=hcu3.kept MV (λe=>by have:=HMB.out;omega) (λk hk e=>by have:=HMB.out;have:=hcu3.new;omega);have hkq:Kept (·=c) w wq:=(HKp3.out.k8 hk3).trans MV (λ_ _ e=>e) (λk hk e=>by have:=HMB.out;omega);have HMq:Hid (Blk wq mb #[.int .u16 (m.way:Nat),.int .u32 (m.sum:Nat),.int .u32 (m.packed:Nat),.int .u32 (m.size:Nat),.string (bF m.name)] 47):=hid (by rw[Hn];have:=((((HMa3.out.set 0 (.int .u16 (m.way:Nat))).set 1 (.int .u32 (m.sum:Nat))).set 2 (.int .u32 (m.packed:Nat))).set 3 (.int .u32 (m.size:Nat))).set 4 (.string (bF m.name));simpa using this);obtain⟨wp,PC⟩:∃W,W=wq.alloc (.cells #[.int .u16 0,.int .u16 0] 45):=⟨_,rfl⟩
    have hsp:Same wq wp:=(by rw[PC];exact(Kept.refl _ wq).alloc _);have hbp:Blk wp wq.heap.size #[.int .u16 0,.int .u16 0] 45:=(by rw[PC];exact Blk.new wq _ _);have HSZ:Hid (wq.heap.size=w3.heap.size):=hid (by rw[Hn];simp[World.setCell]);have p0:=hbp.cell 0;have p1:=hbp.cell 1;simp at p0 p1;have H4:=sV N wp c r3 a3 kR 0 0 wq.heap.size (hcq.kept hsp (λf=>f) (λ_ _ f=>f)) (by decide) (by decide) (λe=>by have:=hcq.blk.lt;omega) p0 p1;rw[HSZ.out]at H4;have HKp4:Hid (Kept (·=c) w wp):=hid (hkq.k8 hsp.k8);have HMp4:Hid (Blk wp mb #[.int .u16 (m.way:Nat),.int .u32 (m.sum:Nat),.int .u32 (m.packed:Nat),.int .u32 (m.size:Nat),.string (bF m.name)] 47):=hid (HMq.out.kept hsp (λf=>f));clear h3 mZ hcu3 hk3 H3 HKp3 HMp3 HMa3 MV hcq hkq hsp hbp p0 p1 N1 QP HSZ;unfold k7;go_wp2_with fail;rw[<-Hn,<-PC];clear Hn PC m0 m1 m2 m3 m4 f0 f1 f2 f3 f4 HMq;refine H4.mono ?_;intro e w4 h4;cases pu:nQ 0 0 r3 with
    | none=>
     obtain⟨rfl,hk⟩:=h4.2 pu;have HKb:Hid (Kept (·=c) w w4):=hid (HKp4.out.k8 hk);have HEb:Hid (nQ 0 0 r3=none):=pu;clear h4 hk pu H4;unfold aG;go_wp2_with fail;refine⟨rfl,RecA.bad ?_ rfl HKb.out⟩;have h9:=HEb.out;unfold nQ at h9;simp only[eU,E1.out,ak,E2.out,E3.out];cases h8:eM 2 0 r3 with
     | none=>rfl
     | some z=>
      rw[h8,ak]at h9;rw[ak,h9,bB]
    | some p4=>
     obtain⟨r4,rfl⟩:∃z,z=p4:=⟨_,rfl⟩
     obtain⟨a4,rJ,rfl,xR,hk4⟩:=h4.1 _ pu;have E4:Hid (∃z,eM 2 0 r3=some z/\eM 2 0 z=some r4):=hid (by
      unfold nQ at pu;cases h8:eM 2 0 r3 with
      | none=>rw[h8,bB]at pu;cases pu
      | some z=>rw[h8,ak]at pu;exact⟨z,rfl,pu⟩)
     obtain⟨z4,Sw,T5⟩:=E4.out;have E5:Hid (eM 2 0 r3=some z4):=Sw;have E6:Hid (eM 2 0 z4=some r4):=T5;have HKp5:Hid (Kept (·=c) w w4):=hid (HKp4.out.k8 hk4);have HMp5:Hid (Blk w4 mb #[.int .u16 (m.way:Nat),.int .u32 (m.sum:Nat),.int .u32 (m.packed:Nat),.int .u32 (m.size:Nat),.string (bF m.name)] 47):=hid (HMp4.out.kept hk4 (λe=>by have:=HMB.out;omega));have H5:=ew N w4 c r4 a4 rJ 6 xR (by decide);clear h4 pu xR hk4 H4 HKp4 HMp4 Sw T5;go_wp2_with fail;refine H5.mono ?_;intro e w5 h5;cases ht5:eF 6 r4 with
     | none=>
      obtain⟨rfl,hk⟩:=h5.2 ht5;have HKb:Hid (Kept (·=c) w w5):=hid (HKp5.out.k8 hk.k8);have HEb:Hid (eF 6 r4=none):=ht5;clear h5 hk ht5 H5;unfold aG;go_wp2_with fail;exact⟨rfl,RecA.bad (by simp only[eU,E1.out,ak,E2.out,ak,E3.out,ak,E5.out,ak,E6.out,ak,HEb.out,bB]) rfl HKb.out⟩
     | some p5=>
      obtain⟨x5,r5⟩:=p5;obtain⟨v5,a5,gV,rfl,htk5,xV,hk5⟩:=h5.1 x5 r5 ht5;have E7:Hid (eF 6 r4=some (x5,r5)):=ht5;have HKp6:Hid (Kept (·=c) w w5):=hid (HKp5.out.k8 hk5);have HMp6:Hid (Blk w5 mb #[.int .u16 (m.way:Nat),.int .u32 (m.sum:Nat),.int .u32 (m.packed:Nat),.int .u32 (m.size:Nat),.string (bF m.name)] 47):=hid (HMp5.out.kept hk5 (λe=>by have:=HMB.out;omega));have H6:=gL N w5 c r5 a5 gV xV;obtain⟨Xq,XQ,fJ⟩:=htk5.shp;subst fJ;clear h5 ht5 htk5 xV hk5 H5 HKp5 HMp5;go_wp2_with fail;refine H6.mono ?_;intro e w6 h6;cases ht6:dS 4 r5 with
      | none=>
       obtain⟨rfl,hk⟩:=h6.2 ht6;have HKb:Hid (Kept (·=c) w w6):=hid (HKp6.out.k8 hk.k8);have HEb:Hid (dS 4 r5=none):=ht6;clear h6 hk ht6 H6;unfold aG;go_wp2_with fail;exact⟨rfl,RecA.bad (by simp only[eU,E1.out,ak,E2.out,ak,E3.out,ak,E5.out,ak,E6.out,ak,E7.out,ak,HEb.out,bB]) rfl HKb.out⟩
      | some p6=>
       obtain⟨pl,r6⟩:=p6;obtain⟨a6,D6,rfl,rH,hcu6,hk6⟩:=h6.1 pl r6 ht6;have E8:Hid (dS 4 r5=some (pl,r6)):=ht6;have HPL:Hid (pl<4294967296):=rH;have HKp7:Hid (Kept (·=c) w w6):=hid (HKp6.out.k8 hk6);have HMp7:Hid (Blk w6 mb #[.int .u16 (m.way:Nat),.int .u32 (m.sum:Nat),.int .u32 (m.packed:Nat),.int .u32 (m.size:Nat),.string (bF m.name)] 47):=hid (HMp6.out.kept hk6 (λe=>by have:=HMB.out;omega));have H7:=ew N w6 c r6 a6 D6 lng hcu6 (by have:=HMK.out.2;omega);clear h6 ht6 hcu6 hk6 H6 HKp6 HMp6 rH;go_wp2_with fail;refine H7.mono ?_;intro e w7 h7;cases ht7:eF lng r6 with
       | none=>
        obtain⟨rfl,hk⟩:=h7.2 ht7;have HKb:Hid (Kept (·=c) w w7):=hid (HKp7.out.k8 hk.k8);have HEb:Hid (eF lng r6=none):=ht7;clear h7 hk ht7 H7;unfold aG;go_wp2_with fail;exact⟨rfl,RecA.bad (by simp only[eU,E1.out,ak,E2.out,ak,E3.out,ak,E5.out,ak,E6.out,ak,E7.out,ak,E8.out,ak,HEb.out,bB]) rfl HKb.out⟩
       | some p7=>
        obtain⟨x7,r7⟩:=p7;obtain⟨v7,a7,GZ,rfl,htk7,hcu7,dh⟩:=h7.1 x7 r7 ht7;have E9:Hid (eF lng r6=some (x7,r7)):=ht7;have HX7:Hid (x7.length=lng/\∀b∈x7,b<256):=hid ⟨htk7.len,htk7.byte⟩;have HK7:Hid (Kept (·=c) w w7):=hid (HKp7.out.k8 dh);have HM7:Hid (Blk w7 mb #[.int .u16 (m.way:Nat),.int .u32 (m.sum:Nat),.int .u32 (m.packed:Nat),.int .u32 (m.size:Nat),.string (bF m.name)] 47):=hid (HMp7.out.kept dh (λe=>by have:=HMB.out;omega));have HC7:Hid (Cur N w7 c r7 a7 GZ):=hcu7;obtain⟨Yr,YG,M1⟩:=htk7.shp;subst M1;have gs:=Gl htk7.src htk7.len;have m0:=HM7.out.cell 0;have f0:=HM7.out.frozen 0;have m1:=HM7.out.cell 1;have f1:=HM7.out.frozen 1;have m2:=HM7.out.cell 2;have f2:=HM7.out.frozen 2;have m3:=HM7.out.cell 3;have f3:=HM7.out.frozen 3;have m4:=HM7.out.cell 4;have f4:=HM7.out.frozen 4;simp at m0 m1 m2 m3 m4;clear h7 ht7 htk7 hcu7 dh H7 HKp7 HMp7;go_wp2_with fail;obtain⟨wz,nk⟩:∃W,W=(((((w7.setCell ⟨mb,4,none⟩ (.string (bF x7))).setCell ⟨mb,0,none⟩ (.int .u16 (m.way:Nat))).setCell ⟨mb,1,none⟩ (.int .u32 (m.sum:Nat))).setCell ⟨mb,2,none⟩ (.int .u32 (m.packed:Nat))).setCell ⟨mb,3,none⟩ (.int .u32 (m.size:Nat))).setCell ⟨mb,4,none⟩ (.string (bF x7)):=⟨_,rfl⟩
        have Aw:Kept (·=mb) w7 wz:=(by rw[nk];exact((((((Kept.refl (·=mb) w7).setCell _ _ (.inl rfl)).setCell _ _ (.inl rfl)).setCell _ _ (.inl rfl)).setCell _ _ (.inl rfl)).setCell _ _ (.inl rfl)).setCell _ _ (.inl rfl));have hbz:Blk wz mb #[.int .u16 (m.way:Nat),.int .u32 (m.sum:Nat),.int .u32 (m.packed:Nat),.int .u32 (m.size:Nat),.string (bF x7)] 47:=(by rw[nk];have:=(((((HM7.out.set 4 (.string (bF x7))).set 0 (.int .u16 (m.way:Nat))).set 1 (.int .u32 (m.sum:Nat))).set 2 (.int .u32 (m.packed:Nat))).set 3 (.int .u32 (m.size:Nat))).set 4 (.string (bF x7));simpa using this);have z0:=hbz.cell 0;have z1:=hbz.cell 1;have z2:=hbz.cell 2;have z3:=hbz.cell 3;have z4:=hbz.cell 4;simp at z0 z1 z2 z3 z4;rw[<-nk];refine bodyPost_ret (v:=.tuple #[.agg (k7 (m.named x7)),.int .u32 (pl:Nat)]) (by rw[results_cell_tmp rfl];simp[go_sem,z0,z1,z2,z3,z4,k7,Mk.named]) rfl ?_;exact RecA.good (by simp only[eU,E1.out,ak,E2.out,E3.out,E5.out,E6.out,E7.out,E8.out,E9.out]) rfl ⟨HMK.out.1.way,HMK.out.1.sum,HMK.out.1.packed,HMK.out.1.size,by show x7.length<65536;rw[HX7.out.1];exact HMK.out.2⟩ HX7.out.2 HPL.out (HC7.out.kept Aw (λe=>by have:=HMB.out;omega) (λk hk e=>by have:=HMB.out;have:=HC7.out.new;omega)) (HK7.out.trans Aw (λ_ _ e=>e) (λk hk e=>by have:=HMB.out;omega))
end Go.Proofs.YtllcnlnbpikhdaaGreatDoor
