import Derived.Test.YtkhagfgineifhaaGreatDoorZqG
set_option maxHeartbeats 400000
set_option maxRecDepth 100000
namespace Go.Proofs.YtkhagfgineifhaaGreatDoor
open Go.RowKit
theorem Src.cut8{w:World}{I:Nat->Prop}{b o n c:Nat}{bs:List Nat}(hs:Src w I (.slice (some ⟨b,o,none⟩) n c) bs)(i j:Nat)(Hy:i<=j)(hj:j<=bs.length)(c':Nat):Src w I (.slice (some ⟨b,o+i,none⟩) (j-i) c') ((bs.take j).drop i):=by
 obtain⟨ao,cap,e,h9⟩:=hs;simp only[Value.slice.injEq]at e;obtain⟨rfl,_,rfl⟩:=e;refine⟨_,_,by rw[List.length_drop,List.length_take,Nat.min_eq_left hj],λbm=>?_⟩;have hl:i<j:=by refine Classical.byContradiction (λhc=>bm ?_);exact List.drop_eq_nil_of_le (by rw[List.length_take];omega)
 obtain⟨b',o',e4,h5,h6⟩:=h9 (λe=>by rw[e]at hj;simp at hj;omega);simp only[Option.some.injEq,Addr.mk.injEq,and_true]at e4;obtain⟨rfl,rfl⟩:=e4;refine⟨b,o+i,rfl,h5,λk hk=>?_⟩;rw[List.length_drop,List.length_take]at hk;have:=h6 (i+k) (by omega);rw[List.getElem_drop,List.getElem_take,Nat.add_assoc];exact this
theorem BG{w w3:World}{fs cnt b o c pn:Nat}{P0 R0:List Nat}{o8:Except Nat (List It)}(hk:Same w w3)(h8:o8=fU fs cnt P0 R0 [])(hsp:Src w (λk=>k<w.heap.size) (.slice (some ⟨b,o,none⟩) fs c) P0)(hsr:Src w (λk=>k<w.heap.size) (.slice (some ⟨b,o+fs,none⟩) (pn-fs) (c-fs)) R0)(hl:P0.length=fs/\R0.length=pn-fs)(tK:(∀x∈P0,x<256)/\(∀x∈R0,x<256))(h1:fs<=pn)(h2:pn<=c)(h3:pn<=1048576){wx:World}{pb rb:Nat}(QA:Same w3 wx)(hb1:Blk wx pb #[.slice (some ⟨b,o,none⟩) fs c] 84)(hb2:Blk wx rb #[.slice (some ⟨b,o+fs,none⟩) (pn-fs) (c-fs)] 84)(hn1:w3.heap.size<=pb)(hn2:w3.heap.size<=rb)(bm:pb≠rb):Qh w wx fs o8 cnt pb rb 0 (.slice none 0 0) [] [] P0 R0 (some ⟨b,o,none⟩) (some ⟨b,o+fs,none⟩) c (c-fs):=by have hkk:=Same.trans hk QA;have dA:=hk.size;refine⟨RowC.nil,Its.nil _ _,rfl,⟨by rw[hl.1];exact hb1,by rw[hl.1];exact hsp.kept hkk (λ_ _ _ f=>f),by omega,by omega,tK.1,by omega,by simp⟩,⟨by rw[hl.2];exact hb2,by rw[hl.2];exact hsr.kept hkk (λ_ _ _ f=>f),by omega,by omega,tK.2,by omega,by simp⟩,hkk,h8,bm,by omega⟩
theorem AM(w:World)(x:Itv):aS (w.alloc (.cells #[.int .u16 (x.m.way:Nat),.int .u32 (x.m.sum:Nat),.int .u32 (x.m.packed:Nat),.int .u32 (x.m.size:Nat),.string (bH x.m.name),.slice x.a x.n x.c] 60)) ⟨w.heap.size,0,none⟩ ([x].flatMap mu):=by
 intro j u hj
 match j,hj with
 | 0,hj=>simp[mu]at hj;subst hj;simp[cf]
 | 1,hj=>simp[mu]at hj;subst hj;simp[cf]
 | 2,hj=>simp[mu]at hj;subst hj;simp[cf]
 | 3,hj=>simp[mu]at hj;subst hj;simp[cf]
 | 4,hj=>simp[mu]at hj;subst hj;simp[cf]
 | 5,hj=>simp[mu]at hj;subst hj;simp[cf]
 | j+6,hj=>simp[mu]at hj
theorem Du(w:World)(b o:Nat)(c:Nat)(bs:List Nat)(n:Nat)(hL:n=bs.length)(hs:Src w (fun k=>k<w.heap.size) (.slice (some ⟨b,o,none⟩) n c) bs)(hb:∀x∈bs,x<256)(cD:n≤c)(h1:22≤n)(h2:n≤1048576)(cnt fs:Nat)(he:jP (bs.drop (n-22)) (n-22)=.ok (cnt,fs))(hf:fs≤n-22)(ET:cnt≤64)(hx:Mxl w):
  Calls Tryz.prog 22 #[.slice (some ⟨b,o,none⟩) n c] w λe w'=>OpnA w w' (fU fs cnt (bs.take fs) ((bs.take (n-22)).drop fs) []) e:=by
 have b1:decide ((n:Int)<=1048576)=true:=by simp;omega
 have b2:decide (n<=1048576)=true:=by simp;omega
 have b3:decide ((22:Int)<=(n:Int))=true:=by simp;omega
 have b4:decide (22<=n)=true:=by simp;omega
 obtain⟨p,hp⟩:∃p,p=n-22:=⟨_,rfl⟩
 rw[<-hp]at he hf ⊢;have Lz:(n:Int)-22=(p:Int):=by omega
 have ml:IntKind.i64.wrap (p:Int)=(p:Int):=by rw[IntKind.wrap_i64];omega
 have i1:(0:Int)<=(p:Int):=by omega
 have i2:(p:Int)<=(n:Int):=by omega
 have i3:(n:Int)<=(c:Int):=by omega
 have HO:=bh w (.int .i64 2);have HP:=bh w (.int .i64 81);have EU:(bs.drop p).length=22:=by rw[List.length_drop];omega
 have HSD:Hid (∀c',Src w (λk=>k<w.heap.size) (.slice (some ⟨b,o+p,none⟩) (bs.drop p).length c') (bs.drop p)):=hid (λc'=>by
  have h9:=hs.cut8 p n (by omega) (by omega) c';rw[List.take_of_length_le (by omega)]at h9;rw[EU];rw[show n-p=22 by omega]at h9;exact h9)
 have HE:Hid (∀c',22<=c'->Calls Tryz.prog 42 #[.slice (some ⟨b,o+p,none⟩) 22 c',.int .i64 (p:Nat)] w λe w'=>EndA w w' (jP (bs.drop p) p) e):=hid (λc' h9=>by
  have h8:=Bz w.heap.size w (bs.drop p) (some ⟨b,o+p,none⟩) c' p (HSD.out c') (by omega) (Nat.le_refl _) (λx hx=>hb x (List.mem_of_mem_drop hx)) (by omega) (by omega) (by simp);rw[EU]at h8;exact h8)
 have Jc:n-p=22:=by omega
 have HER:Hid (jP (bs.drop p) p=.ok (cnt,fs)):=he;have HSP:Hid (Src w (λk=>k<w.heap.size) (.slice (some ⟨b,o,none⟩) fs c) (bs.take fs)):=hid (by
  have h9:=hs.cut8 0 fs (by omega) (by omega) c;simpa using h9)
 have HSR:Hid (Src w (λk=>k<w.heap.size) (.slice (some ⟨b,o+fs,none⟩) (p-fs) (c-fs)) ((bs.take p).drop fs)):=hid (hs.cut8 fs p hf (by omega) _);have HBY:Hid (∀x∈bs,x<256):=hb;have HLP:Hid ((bs.take fs).length=fs/\((bs.take p).drop fs).length=p-fs):=hid ⟨by rw[List.length_take];omega,by rw[List.length_drop,List.length_take];omega⟩;have HX:Hid (Mxl w):=hx;have j1:(0:Int)<=(fs:Int):=by omega
 have j2:(fs:Int)<=(p:Int):=by omega
 have j3:(fs:Int)<=(c:Int):=by omega
 have j4:(p:Int)<=(c:Int):=by omega
 have j5:¬c=fs:=by omega
 have WE:fs<=1048576:=by omega
 have Jd:p<=1048576:=by omega
 have Fg:fs<=p:=hf;have Ro:p<=c:=by omega
 obtain⟨P0,SB⟩:∃P,P=bs.take fs:=⟨_,rfl⟩
 obtain⟨R0,RU⟩:∃R,R=(bs.take p).drop fs:=⟨_,rfl⟩
 have HPR:Hid ((∀x∈P0,x<256)/\(∀x∈R0,x<256)):=hid (by
  rw[SB,RU];exact⟨λx hx=>hb x (List.mem_of_mem_take hx),λx hx=>hb x (List.mem_of_mem_take (List.mem_of_mem_drop hx))⟩)
 rw[<-SB]at HSP HLP ⊢;rw[<-RU]at HSR HLP ⊢;obtain⟨o8,OM⟩:∃x,x=fU fs cnt P0 R0 []:=⟨_,rfl⟩
 have HO8:Hid (o8=fU fs cnt P0 R0 []):=OM;rw[<-OM];clear hs hb h1 h2 EU he hp hL SB RU HBY OM hx hf;go_enter Tryz.func22,Tryz.ntmps22;go_wp2_with fail;refine HO.mono ?_;rintro e w1 ⟨rfl,hw1⟩;subst hw1;clear HO;go_wp2_with fail;refine HP.mono ?_;rintro e w2 ⟨rfl,hw2⟩;subst hw2;clear HP;go_wp2_with fail;refine(HE.out _ (by omega)).mono ?_;intro e w3 h3;obtain⟨rfl,hk3⟩:=h3.1 cnt fs HER.out;have HK3:Hid (Same w2 w3):=hk3;clear h3 hk3;go_upto_region 5 with fail
 go_cut [6,7]from 30 to 40 (λz6 z7 wx=>∃pb rb,z6=.pointer (some ⟨pb,0,none⟩)/\z7=.pointer (some ⟨rb,0,none⟩)/\Hid (Qh w2 wx fs o8 cnt pb rb 0 (.slice none 0 0) [] [] P0 R0 (some ⟨b,o,none⟩) (some ⟨b,o+fs,none⟩) c (c-fs)))
 case first=>
  go_region
  ·go_wp2_with fail;go_meet
   refine⟨_,_,rfl,rfl,hid (BG HK3.out HO8.out HSP.out HSR.out HLP.out HPR.out Fg Ro Jd ((((Kept.refl _ w3).alloc _).alloc _).drew) ?_ ?_ (Nat.le_refl _) (Nat.le_succ _) (by omega))⟩
   ·exact(Blk.new w3 _ _).kept (show Same _ _ from((Kept.refl _ _).alloc _).drew) (λf=>f)
   ·have h9:=Blk.new (w3.alloc (.cells #[.slice (some ⟨b,o,none⟩) fs c] 84)) #[.slice (some ⟨b,o+fs,none⟩) (p-fs) (c-fs)] 84;rw[World.size_alloc]at h9;exact h9
  ·go_wp2_with fail;go_meet
   refine⟨_,_,rfl,rfl,hid (BG HK3.out HO8.out HSP.out HSR.out HLP.out HPR.out Fg Ro Jd ((((Kept.refl _ w3).alloc _).alloc _).drew) ?_ ?_ (Nat.le_succ _) (Nat.le_refl _) (by omega))⟩
   ·have h9:=Blk.new (w3.alloc (.cells #[.slice (some ⟨b,o+fs,none⟩) (p-fs) (c-fs)] 84)) #[.slice (some ⟨b,o,none⟩) fs c] 84;rw[World.size_alloc]at h9;exact h9
   ·exact(Blk.new w3 _ _).kept (show Same _ _ from((Kept.refl _ _).alloc _).drew) (λf=>f)
 case rest=>
  obtain⟨pb,rb,rfl,rfl,HI0⟩:=hcut;clear HSD HE HSP HSR HLP HPR HO8 HER HK3 j1 j2 j3 j4 j5 i1 i2 i3 Lz ml Jc cD Ro Jd Fg;go_wp2_with fail;go_loopg [8,42] cnt (λqq z8 z42 wr=>∃(i:Nat) (xs:List Itv) (L:List It) (P R:List Nat) (ap ar:Option Addr) (cp cr:Nat),z42=.int .i64 (i:Nat)/\i<=cnt/\cnt-i<=qq/\Hid (Qh w2 wr fs o8 (cnt-i) pb rb i z8 xs L P R ap ar cp cr))
  case atStart=>exact⟨0,[],[],P0,R0,_,_,_,_,rfl,by omega,by omega,HI0⟩
  case round=>
   clear HI0;obtain⟨i,xs,L,P,R,ap,ar,cp,cr,rfl,hi1,Lv,HI⟩:=hrel;obtain⟨v0,tJ⟩:∃v,v=u8:=⟨_,rfl⟩
   rw[<-tJ]at HI;rw[<-tJ];clear tJ;obtain⟨a0,c0,tJ,_,_,mj,_⟩:=HI.out.row.shape;have sq:xs.length=i:=(by rw[HI.out.its.1,HI.out.len]);rw[sq]at tJ mj;subst tJ;have HXL:Hid (xs.length=i):=sq;obtain⟨np,Jc⟩:∃n,n=P.length:=⟨_,rfl⟩
   obtain⟨nr,NN⟩:∃n,n=R.length:=⟨_,rfl⟩
   have HNP:Hid (np=P.length/\nr=R.length):=hid ⟨Jc,NN⟩;have XN:np<=fs:=(by rw[Jc];exact HI.out.fit);clear Jc NN sq;by_cases hi:i<cnt
   ·have nM:decide (i<cnt)=true:=(by simp;omega);obtain⟨k,hk⟩:∃k,cnt-i=k+1:=⟨cnt-i-1,by omega⟩
    have HLF:Hid (cnt-i=k+1/\cnt-(i+1)=k):=hid ⟨hk,by omega⟩;have EP:IntKind.i64.wrap ((i:Int)+1)=((i+1:Nat):Int):=(by rw[IntKind.wrap_i64];omega);have HEQ:Hid (o8=fU fs (k+1) P R L):=hid (by rw[<-hk];exact HI.out.eq);have H1:=Jz w2.heap.size wr rb R ar cr HI.out.recs;clear hk;go_wp2_with fail;refine H1.mono ?_;intro e w4 h4;cases ht:ii R with
    | none=>
     obtain⟨rfl,hk4⟩:=h4.2 ht;have HF:Hid (OpnA w2 w4 o8 (aG 81)):=hid (OpnA.bad (by rw[HEQ.out];exact GZ ht) rfl (HI.out.same.then hk4 (λx hx e=>by have:=HI.out.recs.new;omega)));clear h4 hk4 ht H1;unfold aG;go_wp2_with fail;exact⟨rfl,HF.out⟩
    | some q=>
     obtain⟨⟨m,at'⟩,R'⟩:=q;obtain⟨ar',cr',rfl,sB,hnb,hat,lq,hk4⟩:=h4.1 m at' R' ht;have HT:Hid (ii R=some ((m,at'),R')):=ht;have HM:Hid (gN m/\(∀b∈m.name,b<256)):=hid ⟨sB,hnb⟩;have ID:(Value.slice a0 i c0).ownBlock≠some rb:=HI.out.row.off HI.out.recs.blk (by decide);have HR4:Hid (RowC w2.heap.size 60 6 mu w4 (.slice a0 i c0) xs):=hid (HI.out.row.kept hk4 (λj e f=>ID (by rw[e,f])));have HI4:Hid (Its w2.heap.size w4 xs L):=hid (HI.out.its.kept hk4 (λx hx e=>by have:=HI.out.recs.new;omega));have HP4:Hid (Cur w2.heap.size w4 pb P ap cp):=hid (HI.out.pie.kept hk4 HI.out.two (λx hx e=>by have:=HI.out.recs.new;omega));have HC4:Hid (Cur w2.heap.size w4 rb R' ar' cr'):=lq;have HK4:Hid (Same w2 w4):=hid (HI.out.same.then hk4 (λx hx e=>by have:=HI.out.recs.new;omega));obtain⟨wA,pN⟩:∃W,W=w4.alloc (.cells #[.int .u16 (m.way:Nat),.int .u32 (m.sum:Nat),.int .u32 (m.packed:Nat),.int .u32 (m.size:Nat),.string (bH m.name)] 49):=⟨_,rfl⟩
     obtain⟨lb,pK⟩:∃b,b=w4.heap.size:=⟨_,rfl⟩
     have HLA:Hid (LabBk wA lb m):=hid (by rw[pN,pK];exact Blk.new w4 _ _);have HKA:Hid (Same w4 wA):=hid (by rw[pN];exact(Kept.refl _ w4).alloc _);have HCL:=qY wA m a0 i c0 _ _ (Itms.ofRow (HR4.out.kept HKA.out (λ_ _ f=>f)) HXL.out.symm) (by omega) hnb (λj hj=>HI4.out.nam j (by have:=HXL.out;omega)) (HX.out.kept (Same.trans HK4.out HKA.out) (λf=>f));have Qc:jK (λj=>(xs.getD j default).m) i=bM L:=(by have h9:=HI4.out.names;rw[HXL.out]at h9;exact h9);rw[Qc]at HCL;obtain⟨Ua,Ux,TT,Pc,PK⟩:=HLA.out.cells;obtain⟨ck,hck⟩:∃x,x=dj m (bM L):=⟨_,rfl⟩
     rw[<-hck]at HCL;have HCK:Hid (ck=dj m (bM L)):=hck;unfold lA at HCL ⊢;clear h4 hk4 ht H1 sB hnb ID lq Qc hck;go_wp2_with fail;rw[<-pN,<-pK];clear pN pK;refine HCL.mono ?_;intro e w5 h5;obtain⟨Q4,Qw,hk5⟩:=h5;have HK5:Hid (Same w4 w5):=hid (Same.trans HKA.out hk5);by_cases hz:ck=0
     ·have Q4:=Q4 hz;subst Q4;have HZ:Hid (dj m (bM L)=0):=hid (by rw[<-HCK.out];exact hz);have HL5:Hid (LabBk w5 lb m):=hid (HLA.out.kept hk5);have HP5:Hid (Cur w2.heap.size w5 pb P ap cp):=hid (HP4.out.kept HK5.out (λf=>f) (λ_ _ f=>f));obtain⟨d0,d1,d2,d3,d4⟩:=HL5.out.cells;have p0:w5.cell? ⟨pb,0,none⟩=some (.slice ap np cp):=(by have h9:=HP5.out.blk.cell 0;rw[HNP.out.1];simpa using h9);obtain⟨dz,Cx⟩:∃d,d=fs-np:=⟨_,rfl⟩
      have Tx:(fs:Int)-(np:Int)=(dz:Int):=(by omega);have ZV:IntKind.i64.wrap (dz:Int)=(dz:Int):=(by rw[IntKind.wrap_i64];omega);have Zw:IntKind.u32.wrap (dz:Int)=(dz:Int):=(by rw[IntKind.wrap_u32];omega);have HDZ:Hid (dz=fs-P.length):=hid (by rw[<-HNP.out.1];exact Cx);clear Qw hk5 HCL hz HCK Ua Ux TT Pc PK Cx HLA;by_cases ha:at'=dz
      ·have Fa:((at':Int)==(dz:Int))=true:=(by simp;omega);have HA:Hid (at'=fs-P.length):=hid (by rw[<-HDZ.out];exact ha);have HO:=bh w5 (.int .i64 81);have HPI:=Km w2.heap.size w5 pb m P ap cp HP5.out HM.out.1 HM.out.2 (iX HZ.out).2.2.2.2.1;unfold lA at HPI;clear ha hat;go_wp2_with fail;refine HO.mono ?_;rintro e w6 ⟨rfl,hw6⟩;subst hw6;clear HO p0;go_wp2_with fail;refine HPI.mono ?_;intro e w7 h7;cases A3:kq m P with
       | none=>
        obtain⟨rfl,dk⟩:=h7.2 A3;have HF:Hid (OpnA w2 w7 o8 (aG 81)):=hid (OpnA.bad (by rw[HEQ.out];exact FY HT.out HZ.out HA.out A3) rfl ((Same.trans HK4.out HK5.out).then dk (λx hx e=>by have:=HP5.out.new;omega)));clear h7 dk A3 HPI;unfold aG;go_wp2_with fail;exact⟨rfl,HF.out⟩
       | some q=>
        obtain⟨bb,P'⟩:=q;obtain⟨v7,ap',cp',rfl,htk,lq,dk⟩:=h7.1 bb P' A3;obtain⟨va,vc,N4⟩:=htk.shp;subst N4;have HTK:Hid (Tkn w2.heap.size w7 (.slice va m.packed vc) m.packed bb):=htk;have HC7:Hid (Cur w2.heap.size w7 pb P' ap' cp'):=lq;have ID:(Value.slice a0 i c0).ownBlock≠some pb:=(HR4.out.kept HK5.out (λ_ _ f=>f)).off HP5.out.blk (by decide);have HR7:Hid (RowC w2.heap.size 60 6 mu w7 (.slice a0 i c0) xs):=hid ((HR4.out.kept HK5.out (λ_ _ f=>f)).kept dk (λj e f=>ID (by rw[e,f])));have HI7:Hid (Its w2.heap.size w7 xs L):=hid ((HI4.out.kept HK5.out (λ_ _ f=>f)).kept dk (λx hx e=>by have:=HP5.out.new;omega));have HRC7:Hid (Cur w2.heap.size w7 rb R' ar' cr'):=hid ((HC4.out.kept HK5.out (λf=>f) (λ_ _ f=>f)).kept dk (λe=>HI.out.two e.symm) (λx hx e=>by have:=HP5.out.new;omega));have HK7:Hid (Same w2 w7):=hid ((Same.trans HK4.out HK5.out).then dk (λx hx e=>by have:=HP5.out.new;omega));have HEQ7:Hid (o8=fU fs k P' R' (L++[⟨m,bb⟩])):=hid (by rw[HEQ.out];exact C5 HT.out HZ.out HA.out A3);have HFIT:Hid (P'.length<=fs):=hid (Nat.le_trans (Gi A3).1 HI.out.fit);have XE:i<=64:=(by omega);unfold jr;clear h7 htk lq dk A3 HPI ID d0 d1 d2 d3 d4;go_wp2_with (at_builtin;refine dW _ mu 6 pV (by decide) w2.heap.size 57 60 (.agg #[.int .u16 0,.int .u32 0,.int .u32 0,.int .u32 0,.string ⟨#[]⟩,.slice none 0 0]) 56 Tryz.underlying57 Tryz.infoItem rfl (by decide) rfl (.tmp 63) (.tmp 67) rfl (.slice a0 i c0) xs rfl (HR7.out.kept (show Same _ _ from(Kept.refl _ _).alloc _) (λ_ _ f=>f)) ⟨w7.heap.size,0,none⟩ 1 1 [⟨m,va,m.packed,vc⟩] rfl rfl (AM w7 ⟨m,va,m.packed,vc⟩) (by have:=HXL.out;simp;omega) (by have:=HK7.out.size;simp;omega) ?_;intro v8 w8 hr8 Lr);obtain⟨wB,yt⟩:∃W,W=w7.alloc (.cells #[.int .u16 (m.way:Nat),.int .u32 (m.sum:Nat),.int .u32 (m.packed:Nat),.int .u32 (m.size:Nat),.string (bH m.name),.slice va m.packed vc] 60):=⟨_,rfl⟩
        have Ia:wB.grownBy w8 (Value.slice a0 i c0).ownBlock:=(by rw[yt];exact Lr);have vt:Same w7 wB:=(by rw[yt];exact(Kept.refl _ w7).alloc _);have hk8:Kept (λk=>(Value.slice a0 i c0).ownBlock=some k) wB w8:=(Kept.refl _ wB).grown Ia (λk e=>.inl e);have ER:∀x,x<w2.heap.size->¬(Value.slice a0 i c0).ownBlock=some x:=λx hx e=>by have:=HR7.out.ge e;omega
        have HF:Hid (Qh w2 w8 fs o8 (cnt-(i+1)) pb rb (i+1) v8 (xs++[⟨m,va,m.packed,vc⟩]) (L++[⟨m,bb⟩]) P' R' ap' ar' cp' cr'):=hid (by
         refine⟨hr8,?_,by rw[List.length_append,HI.out.len];rfl,?_,?_,(Same.trans HK7.out vt).then hk8 ER,by rw[HLF.out.2];exact HEQ7.out,HI.out.two,HFIT.out⟩
         ·refine((HI7.out.kept vt (λ_ _ f=>f)).kept hk8 ER).snoc ?_;exact⟨rfl,(HTK.out.src.kept vt (λ_ _ _ f=>f)).kept hk8 (λx hx _=>ER x hx),HTK.out.len.symm,HTK.out.byte,HM.out.2,HM.out.1,HTK.out.len,⟨_,HZ.out⟩,λe=>HTK.out.adr m.packed vc (by show Value.slice va m.packed vc=_;rw[show va=none from e])⟩
         ·refine(HC7.out.kept vt (λf=>f) (λ_ _ f=>f)).kept hk8 (λe=>?_) ER;exact(HR7.out.off HC7.out.blk (by decide)) e
         ·refine(HRC7.out.kept vt (λf=>f) (λ_ _ f=>f)).kept hk8 (λe=>?_) ER;exact(HR7.out.off HRC7.out.blk (by decide)) e)
        clear hr8 Lr yt Ia vt hk8 ER;go_wp2_with fail;go_roundg (gk-1)
        case measure=>omega
        case rel=>exact⟨i+1,_,_,_,_,_,_,_,_,by go_num,by omega,by omega,HF⟩
      ·have Fa:((at':Int)==(dz:Int))=false:=(by simp;omega);have HO:=aL w5 81;have HF:Hid (OpnA w2 w5 o8 (aG 81)):=hid (OpnA.bad (by rw[HEQ.out];exact JC HT.out HZ.out (by rw[<-HDZ.out];exact ha)) rfl (Same.trans HK4.out HK5.out));clear ha;go_wp2_with fail;refine HO.mono ?_;rintro e w6 ⟨rfl,hw6⟩;subst hw6;clear HO;unfold aG;go_wp2_with fail;exact⟨rfl,HF.out⟩
     ·have Qw:=Qw hz;subst Qw;have HF:Hid (OpnA w2 w5 o8 (aG ck)):=hid (OpnA.bad (by rw[HEQ.out,HCK.out];exact Ht HT.out (by rw[<-HCK.out];exact hz)) rfl (Same.trans HK4.out HK5.out));clear Q4 hk5 HCL hz Ua Ux TT Pc PK;unfold aG;go_wp2_with fail;exact⟨rfl,HF.out⟩
   ·have nM:decide (i<cnt)=false:=(by simp;omega);obtain rfl:i=cnt:=(by omega);have HEQ:Hid (o8=if np=0/\nr=0 then .ok L else .error 81):=hid (by rw[HI.out.eq,Nat.sub_self,fU,HNP.out.1,HNP.out.2]);have p0:wr.cell? ⟨pb,0,none⟩=some (.slice ap np cp):=(by have h9:=HI.out.pie.blk.cell 0;rw[HNP.out.1];simpa using h9);have r0:wr.cell? ⟨rb,0,none⟩=some (.slice ar nr cr):=(by have h9:=HI.out.recs.blk.cell 0;rw[HNP.out.2];simpa using h9);by_cases yO:np=0
    ·have q1:((np:Int)==0)=true:=(by simp;omega);by_cases pM:nr=0
     ·have q2:((nr:Int)==0)=true:=(by simp;omega);have HO:=bh wr (.int .i64 81);have HE2:Hid (o8=.ok L):=hid (by rw[HEQ.out,if_pos ⟨yO,pM⟩]);clear yO pM;go_wp2_with fail;refine HO.mono ?_;rintro e w6 ⟨rfl,hw6⟩;subst hw6;clear HO;go_wp2_with fail;go_ret;exact OpnA.good HE2.out rfl HI.out.row HI.out.its HXL.out.symm mj (by omega) HI.out.same
     ·have q2:((nr:Int)==0)=false:=(by simp;omega);have HO:=aL wr 81;have HF:Hid (OpnA w2 wr o8 (aG 81)):=hid (OpnA.bad (by rw[HEQ.out,if_neg (λh=>pM h.2)]) rfl HI.out.same);clear pM yO;go_wp2_with fail;refine HO.mono ?_;rintro e w6 ⟨rfl,hw6⟩;subst hw6;clear HO;unfold aG;go_wp2_with fail;exact⟨rfl,HF.out⟩
    ·have q1:((np:Int)==0)=false:=(by simp;omega);have HO:=aL wr 81;have HF:Hid (OpnA w2 wr o8 (aG 81)):=hid (OpnA.bad (by rw[HEQ.out,if_neg (λh=>yO h.1)]) rfl HI.out.same);clear yO;go_wp2_with fail;refine HO.mono ?_;rintro e w6 ⟨rfl,hw6⟩;subst hw6;clear HO;unfold aG;go_wp2_with fail;exact⟨rfl,HF.out⟩
end Go.Proofs.YtkhagfgineifhaaGreatDoor
