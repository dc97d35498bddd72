import Derived.Laws.BytesArg
import Derived.Test.YtkhagfgineifhaaGreatDoorJ20
set_option maxHeartbeats 1000000
set_option maxRecDepth 100000
namespace Go.Proofs.YtkhagfgineifhaaGreatDoor
open Go.RowKit
theorem GX{w:World}{I:Nat->Prop}{a:Option Addr}{n c:Nat}{x:List Nat}(h:Src w I (.slice a n c) x)(hn:x.length=n):(convert 25 9 (.slice a n c)).run Tryz.prog w=.ok (.string (bH x)) w:=by
 obtain⟨ao,cap,e,hs⟩:=h;simp only[Value.slice.injEq]at e;obtain⟨rfl,_,rfl⟩:=e;subst hn;cases hx:x with
 | nil=>
  cases a with
  | none=>exact run_convert_bytes_nil (P:=Tryz.prog) w 25 5 Tryz.underlying25 Tryz.underlying5 0 c 9 Tryz.underlying9
  | some ad=>
   rw[run_convert_bytes_string w 25 9 5 _ _ c Tryz.underlying25 Tryz.underlying5 Tryz.underlying9];exact run_bytesToString (P:=Tryz.prog) w ad 0 c [] (run_loadCells_list (P:=Tryz.prog) w ad [] (λj v hj=>by simp at hj))
 | cons b r=>
  obtain⟨g,o,h1,_,h3⟩:=hs (by rw[hx];simp);rw[<-hx];subst h1;have h:=run_convert_bytes_arg (P:=Tryz.prog) w 25 5 Tryz.underlying25 Tryz.underlying5 g o x.length c (x.map (λb=>((b:Nat):Int))) (by simp) (λi hi=>by rw[h3 i hi];simp[List.getD,hi]) 9 Tryz.underlying9;rw[h];have e:strOfNums (x.map (λb=>((b:Nat):Int)))=bH x:=by unfold strOfNums bH;rw[List.map_map];rfl
  rw[e]
def RecA(N:Nat)(w w':World)(c:Nat)(r:List Nat)(e:Ending):Prop:=
 (∀m at' y,ii r=some ((m,at'),y)->∃a' cap',e=.returned (.tuple #[.agg (lA m),.int .u32 (at':Nat)])/\gN m/\(∀b∈m.name,b<256)/\at'<4294967296/\Cur N w' c y a' cap'/\Kept (·=c) w w')/\(ii r=none->e=aG 81/\Kept (·=c) w w')
theorem RecA.good{N:Nat}{w w':World}{c:Nat}{r y:List Nat}{m:Mk}{at':Nat}{e:Ending}(ht:ii r=some ((m,at'),y)){a':Option Addr}{cap':Nat}(he:e=.returned (.tuple #[.agg (lA m),.int .u32 (at':Nat)]))(h1:gN m)(h0:∀b∈m.name,b<256)(hl:at'<4294967296)(h2:Cur N w' c y a' cap')(h3:Kept (·=c) w w'):RecA N w w' c r e:=
 ⟨λm' l' y' h=>by rw[ht]at h;simp only[Option.some.injEq,Prod.mk.injEq]at h;obtain⟨⟨rfl,rfl⟩,rfl⟩:=h;exact⟨a',cap',he,h1,h0,hl,h2,h3⟩,λh=>by rw[ht]at h;cases h⟩
theorem RecA.bad{N:Nat}{w w':World}{c:Nat}{r:List Nat}{e:Ending}(ht:ii r=none)(he:e=aG 81)(h3:Kept (·=c) w w'):RecA N w w' c r e:=
 ⟨λm' l' y' h=>(by rw[ht]at h;cases h),λ_=>⟨he,h3⟩⟩
theorem Jz(N:Nat)(w:World)(c:Nat)(r:List Nat)(a:Option Addr)(cap:Nat)(h:Cur N w c r a cap):
  Calls Tryz.prog 43 #[.pointer (some ⟨c,0,none⟩)] w λe w'=>RecA N w w' c r e:=by
 obtain⟨mb,lu⟩:∃b,b=w.heap.size:=⟨_,rfl⟩
 have HMB:Hid (c<mb/\mb=w.heap.size):=hid ⟨by have:=h.blk.lt;omega,lu⟩;obtain⟨w0,lQ⟩:∃W,W=w.alloc (.cells #[.int .u16 0,.int .u32 0,.int .u32 0,.int .u32 0,.string ⟨#[]⟩] 49):=⟨_,rfl⟩
 have hk0:Same w w0:=by rw[lQ];exact(Kept.refl _ w).alloc _
 have HKp1:Hid (Kept (·=c) w w0):=hid hk0.k8;have HMp1:Hid (Blk w0 mb #[.int .u16 0,.int .u32 0,.int .u32 0,.int .u32 0,.string ⟨#[]⟩] 49):=hid (by rw[lQ,lu];exact Blk.new w _ _);have HC0:Hid (Cur N w0 c r a cap):=hid (h.kept hk0 (λf=>f) (λ_ _ f=>f));have H1:=nY N w0 c r a cap 33639248 HC0.out (by decide);clear h hk0;go_enter Tryz.func43,Tryz.ntmps43;go_wp2_with fail;rw[<-lQ,<-lu];clear lQ lu;refine H1.mono ?_;intro e w1 h1;cases mn:eX 4 33639248 r with
 | none=>
  obtain⟨rfl,hk⟩:=h1.2 mn;have HKb:Hid (Kept (·=c) w w1):=hid (HKp1.out.k8 hk);have HEb:Hid (eX 4 33639248 r=none):=mn;clear h1 hk mn H1;unfold aG;go_wp2_with fail;exact⟨rfl,RecA.bad (by simp only[ii,HEb.out,bG]) rfl HKb.out⟩
 | some p1=>
  obtain⟨r1,rfl⟩:∃z,z=p1:=⟨_,rfl⟩
  obtain⟨a1,A2,rfl,hcu1,hk1⟩:=h1.1 _ mn;have E1:Hid (eX 4 33639248 r=some r1):=mn;have HKp2:Hid (Kept (·=c) w w1):=hid (HKp1.out.k8 hk1);have HMp2:Hid (Blk w1 mb #[.int .u16 0,.int .u32 0,.int .u32 0,.int .u32 0,.string ⟨#[]⟩] 49):=hid (HMp1.out.kept hk1 (λe=>by have:=HMB.out;omega));have H2:=eE N w1 c r1 a1 A2 2 hcu1 (by decide);clear h1 mn hcu1 hk1 H1 HKp1 HMp1 HC0;go_wp2_with fail;refine H2.mono ?_;intro e w2 h2;cases iP:fi 2 r1 with
  | none=>
   obtain⟨rfl,hk⟩:=h2.2 iP;have HKb:Hid (Kept (·=c) w w2):=hid (HKp2.out.k8 hk.k8);have HEb:Hid (fi 2 r1=none):=iP;clear h2 hk iP H2;unfold aG;go_wp2_with fail;exact⟨rfl,RecA.bad (by simp only[ii,E1.out,ak,HEb.out,bG]) rfl HKb.out⟩
  | some p2=>
   obtain⟨x2,r2⟩:=p2;obtain⟨v2,a2,eS,rfl,htk2,hcu2,hk2⟩:=h2.1 x2 r2 iP;have E2:Hid (fi 2 r1=some (x2,r2)):=iP;have HKp3:Hid (Kept (·=c) w w2):=hid (HKp2.out.k8 hk2);have HMp3:Hid (Blk w2 mb #[.int .u16 0,.int .u32 0,.int .u32 0,.int .u32 0,.string ⟨#[]⟩] 49):=hid (HMp2.out.kept hk2 (λe=>by have:=HMB.out;omega));have H3:=Bt N w2 c r2 a2 eS hcu2;obtain⟨TY,LN,rL⟩:=htk2.shp;subst rL;clear h2 iP htk2 hcu2 hk2 H2 HKp2 HMp2;go_wp2_with fail;refine H3.mono ?_;intro e w3 h3;cases nJ:fH r2 with
   | none=>
    obtain⟨rfl,hk⟩:=h3.2 nJ;have HKb:Hid (Kept (·=c) w w3):=hid (HKp3.out.k8 hk);have HEb:Hid (fH r2=none):=nJ;clear h3 hk nJ H3;unfold aG;go_wp2_with fail;exact⟨rfl,RecA.bad (by simp only[ii,E1.out,ak,E2.out,ak,HEb.out,bG]) rfl HKb.out⟩
   | some p3=>
    obtain⟨⟨m,lng⟩,r3⟩:=p3;obtain⟨a3,lp,rfl,Pt,SP,KQ,hcu3,hk3⟩:=h3.1 m lng r3 nJ;have E3:Hid (fH r2=some ((m,lng),r3)):=nJ;have HMK:Hid (gN (m.named [])/\lng<65536):=hid ⟨Pt,KQ⟩;have HMa3:Hid (Blk w3 mb #[.int .u16 0,.int .u32 0,.int .u32 0,.int .u32 0,.string ⟨#[]⟩] 49):=hid (HMp3.out.kept hk3 (λe=>by have:=HMB.out;omega));have m0:=HMa3.out.cell 0;have f0:=HMa3.out.frozen 0;have m1:=HMa3.out.cell 1;have f1:=HMa3.out.frozen 1;have m2:=HMa3.out.cell 2;have f2:=HMa3.out.frozen 2;have m3:=HMa3.out.cell 3;have f3:=HMa3.out.frozen 3;have m4:=HMa3.out.cell 4;have f4:=HMa3.out.frozen 4;simp at m0 m1 m2 m3 m4;obtain⟨wq,IA⟩:∃W,W=((((w3.setCell ⟨mb,0,none⟩ (.int .u16 (m.way:Nat))).setCell ⟨mb,1,none⟩ (.int .u32 (m.sum:Nat))).setCell ⟨mb,2,none⟩ (.int .u32 (m.packed:Nat))).setCell ⟨mb,3,none⟩ (.int .u32 (m.size:Nat))).setCell ⟨mb,4,none⟩ (.string (bH m.name)):=⟨_,rfl⟩
    have N3:Kept (·=mb) w3 wq:=(by rw[IA];exact(((((Kept.refl (·=mb) w3).setCell _ _ (.inl rfl)).setCell _ _ (.inl rfl)).setCell _ _ (.inl rfl)).setCell _ _ (.inl rfl)).setCell _ _ (.inl rfl));have hcq:Cur N wq c r3 a3 lp:=hcu3.kept N3 (λe=>by have:=HMB.out;omega) (λk hk e=>by have:=HMB.out;have:=hcu3.new;omega);have hkq:Kept (·=c) w wq:=(HKp3.out.k8 hk3).trans N3 (λ_ _ e=>e) (λk hk e=>by have:=HMB.out;omega);have HMq:Hid (Blk wq mb #[.int .u16 (m.way:Nat),.int .u32 (m.sum:Nat),.int .u32 (m.packed:Nat),.int .u32 (m.size:Nat),.string (bH m.name)] 49):=hid (by rw[IA];have:=((((HMa3.out.set 0 (.int .u16 (m.way:Nat))).set 1 (.int .u32 (m.sum:Nat))).set 2 (.int .u32 (m.packed:Nat))).set 3 (.int .u32 (m.size:Nat))).set 4 (.string (bH m.name));simpa using this);obtain⟨wp,QO⟩:∃W,W=wq.alloc (.cells #[.int .u16 0,.int .u16 0] 47):=⟨_,rfl⟩
    have hsp:Same wq wp:=(by rw[QO];exact(Kept.refl _ wq).alloc _);have hbp:Blk wp wq.heap.size #[.int .u16 0,.int .u16 0] 47:=(by rw[QO];exact Blk.new wq _ _);have HSZ:Hid (wq.heap.size=w3.heap.size):=hid (by rw[IA];simp[World.setCell]);have p0:=hbp.cell 0;have p1:=hbp.cell 1;simp at p0 p1;have H4:=sO N wp c r3 a3 lp 0 0 wq.heap.size (hcq.kept hsp (λf=>f) (λ_ _ f=>f)) (by decide) (by decide) (λe=>by have:=hcq.blk.lt;omega) p0 p1;rw[HSZ.out]at H4;have HKp4:Hid (Kept (·=c) w wp):=hid (hkq.k8 hsp.k8);have HMp4:Hid (Blk wp mb #[.int .u16 (m.way:Nat),.int .u32 (m.sum:Nat),.int .u32 (m.packed:Nat),.int .u32 (m.size:Nat),.string (bH m.name)] 49):=hid (HMq.out.kept hsp (λf=>f));clear h3 nJ hcu3 hk3 H3 HKp3 HMp3 HMa3 N3 hcq hkq hsp hbp p0 p1 Pt SP HSZ;unfold lA;go_wp2_with fail;rw[<-IA,<-QO];clear IA QO m0 m1 m2 m3 m4 f0 f1 f2 f3 f4 HMq;refine H4.mono ?_;intro e w4 h4;cases pI:oD 0 0 r3 with
    | none=>
     obtain⟨rfl,hk⟩:=h4.2 pI;have HKb:Hid (Kept (·=c) w w4):=hid (HKp4.out.k8 hk);have HEb:Hid (oD 0 0 r3=none):=pI;clear h4 hk pI H4;unfold aG;go_wp2_with fail;refine⟨rfl,RecA.bad ?_ rfl HKb.out⟩;have h9:=HEb.out;unfold oD at h9;simp only[ii,E1.out,ak,E2.out,E3.out];cases h8:eX 2 0 r3 with
     | none=>rfl
     | some z=>
      rw[h8,ak]at h9;rw[ak,h9,bG]
    | some p4=>
     obtain⟨r4,rfl⟩:∃z,z=p4:=⟨_,rfl⟩
     obtain⟨a4,sf,rfl,yC,hk4⟩:=h4.1 _ pI;have E4:Hid (∃z,eX 2 0 r3=some z/\eX 2 0 z=some r4):=hid (by
      unfold oD at pI;cases h8:eX 2 0 r3 with
      | none=>rw[h8,bG]at pI;cases pI
      | some z=>rw[h8,ak]at pI;exact⟨z,rfl,pI⟩)
     obtain⟨z4,U0,TE⟩:=E4.out;have E5:Hid (eX 2 0 r3=some z4):=U0;have E6:Hid (eX 2 0 z4=some r4):=TE;have HKp5:Hid (Kept (·=c) w w4):=hid (HKp4.out.k8 hk4);have HMp5:Hid (Blk w4 mb #[.int .u16 (m.way:Nat),.int .u32 (m.sum:Nat),.int .u32 (m.packed:Nat),.int .u32 (m.size:Nat),.string (bH m.name)] 49):=hid (HMp4.out.kept hk4 (λe=>by have:=HMB.out;omega));have H5:=eE N w4 c r4 a4 sf 6 yC (by decide);clear h4 pI yC hk4 H4 HKp4 HMp4 U0 TE;go_wp2_with fail;refine H5.mono ?_;intro e w5 h5;cases ht5:fi 6 r4 with
     | none=>
      obtain⟨rfl,hk⟩:=h5.2 ht5;have HKb:Hid (Kept (·=c) w w5):=hid (HKp5.out.k8 hk.k8);have HEb:Hid (fi 6 r4=none):=ht5;clear h5 hk ht5 H5;unfold aG;go_wp2_with fail;exact⟨rfl,RecA.bad (by simp only[ii,E1.out,ak,E2.out,ak,E3.out,ak,E5.out,ak,E6.out,ak,HEb.out,bG]) rfl HKb.out⟩
     | some p5=>
      obtain⟨x5,r5⟩:=p5;obtain⟨v5,a5,ia,rfl,htk5,yy,hk5⟩:=h5.1 x5 r5 ht5;have E7:Hid (fi 6 r4=some (x5,r5)):=ht5;have HKp6:Hid (Kept (·=c) w w5):=hid (HKp5.out.k8 hk5);have HMp6:Hid (Blk w5 mb #[.int .u16 (m.way:Nat),.int .u32 (m.sum:Nat),.int .u32 (m.packed:Nat),.int .u32 (m.size:Nat),.string (bH m.name)] 49):=hid (HMp5.out.kept hk5 (λe=>by have:=HMB.out;omega));have H6:=gW N w5 c r5 a5 ia yy;obtain⟨YC,Zh,gt⟩:=htk5.shp;subst gt;clear h5 ht5 htk5 yy hk5 H5 HKp5 HMp5;go_wp2_with fail;refine H6.mono ?_;intro e w6 h6;cases ht6:dY 4 r5 with
      | none=>
       obtain⟨rfl,hk⟩:=h6.2 ht6;have HKb:Hid (Kept (·=c) w w6):=hid (HKp6.out.k8 hk.k8);have HEb:Hid (dY 4 r5=none):=ht6;clear h6 hk ht6 H6;unfold aG;go_wp2_with fail;exact⟨rfl,RecA.bad (by simp only[ii,E1.out,ak,E2.out,ak,E3.out,ak,E5.out,ak,E6.out,ak,E7.out,ak,HEb.out,bG]) rfl HKb.out⟩
      | some p6=>
       obtain⟨pl,r6⟩:=p6;obtain⟨a6,EF,rfl,sg,hcu6,hk6⟩:=h6.1 pl r6 ht6;have E8:Hid (dY 4 r5=some (pl,r6)):=ht6;have HPL:Hid (pl<4294967296):=sg;have HKp7:Hid (Kept (·=c) w w6):=hid (HKp6.out.k8 hk6);have HMp7:Hid (Blk w6 mb #[.int .u16 (m.way:Nat),.int .u32 (m.sum:Nat),.int .u32 (m.packed:Nat),.int .u32 (m.size:Nat),.string (bH m.name)] 49):=hid (HMp6.out.kept hk6 (λe=>by have:=HMB.out;omega));have H7:=eE N w6 c r6 a6 EF lng hcu6 (by have:=HMK.out.2;omega);clear h6 ht6 hcu6 hk6 H6 HKp6 HMp6 sg;go_wp2_with fail;refine H7.mono ?_;intro e w7 h7;cases ht7:fi lng r6 with
       | none=>
        obtain⟨rfl,hk⟩:=h7.2 ht7;have HKb:Hid (Kept (·=c) w w7):=hid (HKp7.out.k8 hk.k8);have HEb:Hid (fi lng r6=none):=ht7;clear h7 hk ht7 H7;unfold aG;go_wp2_with fail;exact⟨rfl,RecA.bad (by simp only[ii,E1.out,ak,E2.out,ak,E3.out,ak,E5.out,ak,E6.out,ak,E7.out,ak,E8.out,ak,HEb.out,bG]) rfl HKb.out⟩
       | some p7=>
        obtain⟨x7,r7⟩:=p7;obtain⟨v7,a7,IQ,rfl,htk7,hcu7,dk⟩:=h7.1 x7 r7 ht7;have E9:Hid (fi lng r6=some (x7,r7)):=ht7;have HX7:Hid (x7.length=lng/\∀b∈x7,b<256):=hid ⟨htk7.len,htk7.byte⟩;have HK7:Hid (Kept (·=c) w w7):=hid (HKp7.out.k8 dk);have HM7:Hid (Blk w7 mb #[.int .u16 (m.way:Nat),.int .u32 (m.sum:Nat),.int .u32 (m.packed:Nat),.int .u32 (m.size:Nat),.string (bH m.name)] 49):=hid (HMp7.out.kept dk (λe=>by have:=HMB.out;omega));have HC7:Hid (Cur N w7 c r7 a7 IQ):=hcu7;obtain⟨Z4,YF,N4⟩:=htk7.shp;subst N4;have gs:=GX htk7.src htk7.len;have m0:=HM7.out.cell 0;have f0:=HM7.out.frozen 0;have m1:=HM7.out.cell 1;have f1:=HM7.out.frozen 1;have m2:=HM7.out.cell 2;have f2:=HM7.out.frozen 2;have m3:=HM7.out.cell 3;have f3:=HM7.out.frozen 3;have m4:=HM7.out.cell 4;have f4:=HM7.out.frozen 4;simp at m0 m1 m2 m3 m4;clear h7 ht7 htk7 hcu7 dk H7 HKp7 HMp7;go_wp2_with fail;obtain⟨wz,oW⟩:∃W,W=(((((w7.setCell ⟨mb,4,none⟩ (.string (bH x7))).setCell ⟨mb,0,none⟩ (.int .u16 (m.way:Nat))).setCell ⟨mb,1,none⟩ (.int .u32 (m.sum:Nat))).setCell ⟨mb,2,none⟩ (.int .u32 (m.packed:Nat))).setCell ⟨mb,3,none⟩ (.int .u32 (m.size:Nat))).setCell ⟨mb,4,none⟩ (.string (bH x7)):=⟨_,rfl⟩
        have A4:Kept (·=mb) w7 wz:=(by rw[oW];exact((((((Kept.refl (·=mb) w7).setCell _ _ (.inl rfl)).setCell _ _ (.inl rfl)).setCell _ _ (.inl rfl)).setCell _ _ (.inl rfl)).setCell _ _ (.inl rfl)).setCell _ _ (.inl rfl));have hbz:Blk wz mb #[.int .u16 (m.way:Nat),.int .u32 (m.sum:Nat),.int .u32 (m.packed:Nat),.int .u32 (m.size:Nat),.string (bH x7)] 49:=(by rw[oW];have:=(((((HM7.out.set 4 (.string (bH x7))).set 0 (.int .u16 (m.way:Nat))).set 1 (.int .u32 (m.sum:Nat))).set 2 (.int .u32 (m.packed:Nat))).set 3 (.int .u32 (m.size:Nat))).set 4 (.string (bH x7));simpa using this);have z0:=hbz.cell 0;have z1:=hbz.cell 1;have z2:=hbz.cell 2;have z3:=hbz.cell 3;have z4:=hbz.cell 4;simp at z0 z1 z2 z3 z4;rw[<-oW];refine bodyPost_ret (v:=.tuple #[.agg (lA (m.named x7)),.int .u32 (pl:Nat)]) (by rw[results_cell_tmp rfl];simp[go_sem,z0,z1,z2,z3,z4,lA,Mk.named]) rfl ?_;exact RecA.good (by simp only[ii,E1.out,ak,E2.out,E3.out,E5.out,E6.out,E7.out,E8.out,E9.out]) rfl ⟨HMK.out.1.way,HMK.out.1.sum,HMK.out.1.packed,HMK.out.1.size,by show x7.length<65536;rw[HX7.out.1];exact HMK.out.2⟩ HX7.out.2 HPL.out (HC7.out.kept A4 (λe=>by have:=HMB.out;omega) (λk hk e=>by have:=HMB.out;have:=HC7.out.new;omega)) (HK7.out.trans A4 (λ_ _ e=>e) (λk hk e=>by have:=HMB.out;omega))
end Go.Proofs.YtkhagfgineifhaaGreatDoor
