import Derived.Test.YtljlmfnbeofmmaaGreatDoorJ25
import Derived.Test.YtljlmfnbeofmmaaGreatDoorJ26
import Derived.Test.YtljlmfnbeofmmaaGreatDoorJ46
import Derived.Test.YtljlmfnbeofmmaaGreatDoorJ41
set_option maxHeartbeats 400000
set_option maxRecDepth 100000
namespace Go.Proofs.YtljlmfnbeofmmaaGreatDoor
open Go.RowKit
theorem Dy{w:World}{v:Value}{bs:List Nat}(h:Row w v bs):∀n c,v=.slice none n c->n=0/\c=0:=by
 rintro n c rfl;rcases h.2 with⟨h1,_⟩ | ⟨g,cap,cur,h1,_⟩
 ·simp only[Value.slice.injEq]at h1;exact⟨h1.2.1,h1.2.2⟩
 ·cases h1
def dU(y:En)(bs:List Nat):List Nat:=if bs.length<y.d.size then bs else sb y.d
def ey(y:En)(bs:List Nat):Mk:=⟨if bs.length<y.d.size then 8 else 0,more 0 (sb y.d),(dU y bs).length,y.d.size,sb y.n⟩
def N9(w w':World)(y:En)(e:Ending):Prop:=
 ∃bs v' J,PDef (sb y.d) bs/\e=.returned (.tuple #[.agg (lV (ey y bs)),v'])/\Src w' J v' (dU y bs)/\(∀k,J k->w.heap.size<=k)/\(∀n c,v'=.slice none n c->n=0/\c=0)/\Same w w'
theorem DU(w:World)(y:En)(hd:y.d.size≤8192)(hT:Tab w):
  Calls Tryz.prog 34 #[.agg #[.string y.n,.string y.d]] w λe w'=>N9 w w' y e:=by
 obtain⟨W2,l9⟩:∃W,W=(w.alloc (.cells #[.string y.n,.string y.d] 34)).alloc (.cells #[.int .u16 0,.int .u32 0,.int .u32 0,.int .u32 0,.string ⟨#[]⟩] 60):=⟨_,rfl⟩
 have HK2:Hid (Same w W2):=hid (by rw[l9];exact((Kept.refl _ w).alloc _).alloc _);have HX2:Hid (Blk W2 w.heap.size #[.string y.n,.string y.d] 34):=hid (by rw[l9];exact(Blk.new w _ _).kept (show Same _ _ from(Kept.refl _ _).alloc _) (λf=>f));have HR2:Hid (Blk W2 (w.heap.size+1) #[.int .u16 0,.int .u32 0,.int .u32 0,.int .u32 0,.string ⟨#[]⟩] 60):=hid (by rw[l9];have h9:=Blk.new (w.alloc (.cells #[.string y.n,.string y.d] 34)) #[.int .u16 0,.int .u32 0,.int .u32 0,.int .u32 0,.string ⟨#[]⟩] 60;rw[World.size_alloc]at h9;exact h9);obtain⟨G,W3,MI,hk3,hs3,Jr⟩:=Fa W2 y.d;have HR3:Hid (Blk W3 (w.heap.size+1) #[.int .u16 0,.int .u32 0,.int .u32 0,.int .u32 0,.string ⟨#[]⟩] 60):=hid (HR2.out.kept hk3 (λf=>f));have HZ3:Hid (W3.heap.size=w.heap.size+3):=hid (by rw[Jr,l9,World.size_alloc,World.size_alloc]);have Qb:=MI;rw[l9]at Qb;have HK3:Hid (Same w W3):=hid (Same.trans HK2.out hk3);have HX3:Hid (Blk W3 w.heap.size #[.string y.n,.string y.d] 34):=hid (HX2.out.kept hk3 (λf=>f));obtain⟨db,Sl⟩:∃b,b=W2.heap.size:=⟨_,rfl⟩
 rw[<-Sl]at hs3;have Nf:=Sl;rw[l9,World.size_alloc,World.size_alloc]at Nf;have HS3:Hid (Src W3 (λk=>k=db) (.slice (some ⟨db,0,none⟩) y.d.size G) (sb y.d)):=hs3;have cZ:(sb y.d).length=y.d.size:=dm _;have Cv:=mS y.d;have Sg:IntKind.u32.wrap (y.d.size:Int)=(y.d.size:Int):=by rw[IntKind.wrap_u32];omega
 obtain⟨xb,ir⟩:∃b,b=w.heap.size:=⟨_,rfl⟩
 have x0:W3.cell? ⟨xb,0,none⟩=some (.string y.n):=by rw[ir];exact HX3.out.cell 0
 have x1:W3.cell? ⟨xb,1,none⟩=some (.string y.d):=by rw[ir];exact HX3.out.cell 1
 have HSUM:=io W3 _ _ _ HS3.out Cv (by rw[cZ];omega);have PS:=io W3.drew _ _ _ (HS3.out.kept (show Same W3 W3.drew from(Kept.refl _ W3).drew) (λ_ _ _ f=>f)) Cv (by rw[cZ];omega);clear hs3 hk3 MI;go_enter Tryz.func34,Tryz.ntmps34;go_wp2_with fail;have HD2:Hid (db=w.heap.size+2):=hid (by omega);rw[<-Nf,<-ir];clear Qb l9 Sl Nf Jr;have HDB:Hid (xb=w.heap.size):=ir;clear ir;have LO:=λwx (hk:Same W3 wx)=>io wx _ _ _ (HS3.out.kept hk (λ_ _ _ f=>f)) Cv (by rw[cZ];omega)
 go_region_held3 (λw'=>w'.cell? ⟨xb,0,none⟩=some (.string y.n))
  (first
   | (go_split_ands;assumption)
   | go_keep)
  (first
   | (go_at_call 28;refine(LO _ (by first | exact Kept.refl _ _ | exact(Kept.refl _ _).drew | exact(Kept.refl _ _).drewN _ | exact((Kept.refl _ _).drew).alloc _ | exact((Kept.refl _ _).drewN _).alloc _)).mono ?_;rintro e w4 ⟨rfl,hw4⟩;subst hw4))
 all_goals
  obtain⟨C,hC⟩:∃C,C=#[Value.int .u16 0,.int .u32 (more 0 (sb y.d):Nat),.int .u32 0,.int .u32 (y.d.size:Nat),.string y.n]:=⟨_,rfl⟩
  rw[<-hC];obtain⟨lb,sl⟩:∃b,b=W3.heap.size:=⟨_,rfl⟩
  obtain⟨W4,Cx⟩:∃W,W=(W3.alloc (.cells C 60)).drew:=⟨_,rfl⟩
  have hk4:Same W3 W4:=(by rw[Cx];exact((Kept.refl _ W3).alloc _).drew);have HK4:Hid (Same w W4):=hid (Same.trans HK3.out hk4);have HB4:Hid (Blk W4 lb C 60):=hid (by rw[Cx,sl];exact(Blk.new W3 C 60).drewN 1);have HS4:Hid (Src W4 (λk=>k=db) (.slice (some ⟨db,0,none⟩) y.d.size G) (sb y.d)):=hid (HS3.out.kept hk4 (λ_ _ _ f=>f));have HD:=xp W4 _ _ _ HS4.out Cv (λn c e=>by cases e) (by rw[cZ];omega) (hT.kept HK4.out (λf=>f));have HLB3:Hid (lb=xb+3/\xb=w.heap.size):=hid ⟨by rw[sl,HZ3.out,HDB.out],HDB.out⟩;have HR4:Hid (Blk W4 (xb+1) #[.int .u16 0,.int .u32 0,.int .u32 0,.int .u32 0,.string ⟨#[]⟩] 60):=hid (by rw[HDB.out];exact HR3.out.kept hk4 (λf=>f));rw[<-sl,<-Cx];clear Cx hk4 HSUM PS LO sl;go_wp2_with fail;refine HD.mono ?_;rintro e w5 ⟨v5,bs,rfl,hn5,U1⟩;have HP5:Hid (PDef (sb y.d) bs):=U1;have HN5:Hid (NB W4 w5 v5 bs):=hn5;have HK5:Hid (Same w w5):=hid (Same.trans HK4.out hn5.same);have HR5:Hid (Blk w5 (xb+1) #[.int .u16 0,.int .u32 0,.int .u32 0,.int .u32 0,.string ⟨#[]⟩] 60):=hid (HR4.out.kept hn5.same (λf=>f));have HB5:Hid (Blk w5 lb C 60):=hid (HB4.out.kept hn5.same (λf=>f));have HS5:Hid (Src w5 (λk=>k=db) (.slice (some ⟨db,0,none⟩) y.d.size G) (sb y.d)):=hid (HS4.out.kept hn5.same (λ_ _ _ f=>f));obtain⟨a5,c5,gC,_⟩:=hn5.row.shape;obtain⟨n5,Nn⟩:∃n,n=bs.length:=⟨_,rfl⟩
  rw[<-Nn]at gC;subst gC;have HNL:Hid (n5=bs.length):=Nn;have HLT:Hid (lb<W4.heap.size/\xb+1<W4.heap.size):=hid ⟨HB4.out.lt,HR4.out.lt⟩;clear hn5 U1 Nn HD HB4 HS4;have k0:w5.cell? ⟨lb,0,none⟩=some (.int .u16 0):=(by have:=HB5.out.cell 0;rw[hC]at this;exact this);have k1:w5.cell? ⟨lb,1,none⟩=some (.int .u32 (more 0 (sb y.d):Nat)):=(by have:=HB5.out.cell 1;rw[hC]at this;exact this);have k2:w5.cell? ⟨lb,2,none⟩=some (.int .u32 0):=(by have:=HB5.out.cell 2;rw[hC]at this;exact this);have k3:w5.cell? ⟨lb,3,none⟩=some (.int .u32 (y.d.size:Nat)):=(by have:=HB5.out.cell 3;rw[hC]at this;exact this);have k4:w5.cell? ⟨lb,4,none⟩=some (.string y.n):=(by have:=HB5.out.cell 4;rw[hC]at this;exact this);have z0:=HB5.out.frozen 0;have z2:=HB5.out.frozen 2;obtain⟨rb,EX⟩:∃b,b=xb+1:=⟨_,rfl⟩
  rw[<-EX]at HR5 ⊢;have bw:¬lb=rb:=(by have:=HLB3.out;omega);have Vx:¬rb=lb:=(by have:=HLB3.out;omega);have HNE:Hid (¬lb=rb/\w.heap.size<=rb/\w.heap.size<=lb/\lb<W4.heap.size/\rb<W4.heap.size/\¬db=lb/\¬db=rb):=hid (by have:=HLB3.out;have:=HLT.out;have:=HD2.out;omega);have m0:=HR5.out.cell 0;have f0:=HR5.out.frozen 0;have m1:=HR5.out.cell 1;have f1:=HR5.out.frozen 1;have m2:=HR5.out.cell 2;have f2:=HR5.out.frozen 2;have m3:=HR5.out.cell 3;have f3:=HR5.out.frozen 3;have m4:=HR5.out.cell 4;have f4:=HR5.out.frozen 4;simp at m0 m1 m2 m3 m4;have HC5:Hid (C=#[Value.int .u16 0,.int .u32 (more 0 (sb y.d):Nat),.int .u32 0,.int .u32 (y.d.size:Nat),.string y.n]):=hC;clear EX x0 x1 HR4 HR3 HR2;by_cases hlt:n5<y.d.size
  ·have lz:decide (n5<y.d.size)=true:=(by simp;omega);have mK:(n5:Int)<(y.d.size:Int):=(by omega);have hnw:IntKind.u32.wrap (n5:Int)=(n5:Int):=(by rw[IntKind.wrap_u32];omega);clear hC;go_wp2_with fail;obtain⟨wz,o7⟩:∃W,W=(((((((w5.setCell ⟨lb,0,none⟩ (.int .u16 8)).setCell ⟨lb,2,none⟩ (.int .u32 (n5:Nat))).setCell ⟨rb,0,none⟩ (.int .u16 8)).setCell ⟨rb,1,none⟩ (.int .u32 (more 0 (sb y.d):Nat))).setCell ⟨rb,2,none⟩ (.int .u32 (n5:Nat))).setCell ⟨rb,3,none⟩ (.int .u32 (y.d.size:Nat))).setCell ⟨rb,4,none⟩ (.string y.n)):=⟨_,rfl⟩
   have Bb:Kept (λk=>k=lb\/k=rb) w5 wz:=(by rw[o7];exact((((((((Kept.refl (λk=>k=lb\/k=rb) w5).setCell _ _ (.inl (.inl rfl))).setCell _ _ (.inl (.inl rfl))).setCell _ _ (.inl (.inr rfl))).setCell _ _ (.inl (.inr rfl))).setCell _ _ (.inl (.inr rfl))).setCell _ _ (.inl (.inr rfl))).setCell _ _ (.inl (.inr rfl))));have hbz:Blk wz rb #[.int .u16 8,.int .u32 (more 0 (sb y.d):Nat),.int .u32 (n5:Nat),.int .u32 (y.d.size:Nat),.string y.n] 60:=(by rw[o7];have:=((((((HR5.out.kept (show Kept (λk=>k=lb) w5 ((w5.setCell ⟨lb,0,none⟩ (.int .u16 8)).setCell ⟨lb,2,none⟩ (.int .u32 (n5:Nat))) from(((Kept.refl (λk=>k=lb) w5).setCell _ _ (.inl rfl)).setCell _ _ (.inl rfl))) (λe=>HNE.out.1 e.symm)).set 0 (.int .u16 8)).set 1 (.int .u32 (more 0 (sb y.d):Nat))).set 2 (.int .u32 (n5:Nat))).set 3 (.int .u32 (y.d.size:Nat))).set 4 (.string y.n));simpa using this);have z0:=hbz.cell 0;have z1:=hbz.cell 1;have z2:=hbz.cell 2;have z3:=hbz.cell 3;have z4:=hbz.cell 4;simp at z0 z1 z2 z3 z4;rw[<-o7];have Im:bs.length<y.d.size:=(by rw[<-HNL.out];exact hlt);have I6:dU y bs=bs:=(by unfold dU;rw[if_pos Im]);have MD:lV (ey y bs)=#[.int .u16 8,.int .u32 (more 0 (sb y.d):Nat),.int .u32 (n5:Nat),.int .u32 (y.d.size:Nat),.string y.n]:=(by unfold lV ey;rw[I6,if_pos Im,ig,HNL.out];rfl);refine bodyPost_ret (v:=.tuple #[.agg (lV (ey y bs)),.slice a5 n5 c5]) (by rw[MD,results_cell_tmp rfl];simp[go_sem,z0,z1,z2,z3,z4]) rfl ?_;refine⟨bs,_,(λk=>(Value.slice a5 n5 c5).ownBlock=some k),HP5.out,rfl,?_,(λk e=>by have:=HN5.out.new k e;have:=HK4.out.size;omega),Dy HN5.out.row,Same.then HK5.out Bb (λk hk e=>by have:=HNE.out;omega)⟩;rw[I6];exact(Src.ofRow HN5.out.row).kept Bb (λk hk _ e=>by have:=HN5.out.new k hk;have:=HNE.out;omega)
  ·have lz:decide (n5<y.d.size)=false:=(by simp;omega);have mK:(y.d.size:Int)<=(n5:Int):=(by omega);clear hC;go_wp2_with fail;obtain⟨wz,o7⟩:∃W,W=((((((w5.setCell ⟨lb,2,none⟩ (.int .u32 (y.d.size:Nat))).setCell ⟨rb,0,none⟩ (.int .u16 0)).setCell ⟨rb,1,none⟩ (.int .u32 (more 0 (sb y.d):Nat))).setCell ⟨rb,2,none⟩ (.int .u32 (y.d.size:Nat))).setCell ⟨rb,3,none⟩ (.int .u32 (y.d.size:Nat))).setCell ⟨rb,4,none⟩ (.string y.n)):=⟨_,rfl⟩
   have Bb:Kept (λk=>k=lb\/k=rb) w5 wz:=(by rw[o7];exact(((((((Kept.refl (λk=>k=lb\/k=rb) w5).setCell _ _ (.inl (.inl rfl))).setCell _ _ (.inl (.inr rfl))).setCell _ _ (.inl (.inr rfl))).setCell _ _ (.inl (.inr rfl))).setCell _ _ (.inl (.inr rfl))).setCell _ _ (.inl (.inr rfl))));have hbz:Blk wz rb #[.int .u16 0,.int .u32 (more 0 (sb y.d):Nat),.int .u32 (y.d.size:Nat),.int .u32 (y.d.size:Nat),.string y.n] 60:=(by rw[o7];have:=((((((HR5.out.kept (show Kept (λk=>k=lb) w5 (w5.setCell ⟨lb,2,none⟩ (.int .u32 (y.d.size:Nat))) from((Kept.refl (λk=>k=lb) w5).setCell _ _ (.inl rfl))) (λe=>HNE.out.1 e.symm)).set 0 (.int .u16 0)).set 1 (.int .u32 (more 0 (sb y.d):Nat))).set 2 (.int .u32 (y.d.size:Nat))).set 3 (.int .u32 (y.d.size:Nat))).set 4 (.string y.n));simpa using this);have z0:=hbz.cell 0;have z1:=hbz.cell 1;have z2:=hbz.cell 2;have z3:=hbz.cell 3;have z4:=hbz.cell 4;simp at z0 z1 z2 z3 z4;rw[<-o7];have Im:¬bs.length<y.d.size:=(by rw[<-HNL.out];exact hlt);have I6:dU y bs=sb y.d:=(by unfold dU;rw[if_neg Im]);have MD:lV (ey y bs)=#[.int .u16 0,.int .u32 (more 0 (sb y.d):Nat),.int .u32 (y.d.size:Nat),.int .u32 (y.d.size:Nat),.string y.n]:=(by unfold lV ey;rw[I6,if_neg Im,ig,dm];rfl);refine bodyPost_ret (v:=.tuple #[.agg (lV (ey y bs)),.slice (some ⟨db,0,none⟩) y.d.size G]) (by rw[MD,results_cell_tmp rfl];simp[go_sem,z0,z1,z2,z3,z4]) rfl ?_;refine⟨bs,_,(λk=>k=db),HP5.out,rfl,?_,(λk e=>by have:=HD2.out;omega),(λn c e=>by cases e),Same.then HK5.out Bb (λk hk e=>by have:=HNE.out;omega)⟩;rw[I6];exact HS5.out.kept Bb (λk hk _ e=>by have:=HNE.out;omega)
theorem qW(w:World)(a:Option Addr)(len cap:Nat)(E:Nat→En)(hs:Ents w (fun _=>True) a len E)(hn:len≤100000000)(cE:len≤cap)(hx:Mxl w)(hc:fA E len≠0):
  Calls Tryz.prog 13 #[.slice a len cap] w λe w'=>e=.returned (.tuple #[.slice none 0 0,.int .i64 (fA E len:Nat)])/\Same w w':=by
 have HC:=qL w a len cap E hs hn cE hx;obtain⟨c,mL⟩:∃c,c=fA E len:=⟨_,rfl⟩
 rw[<-mL]at HC hc ⊢;have md:((c:Int) != 0)=true:=by simp;omega
 clear hs mL hc;go_enter Tryz.func13,Tryz.ntmps13;go_wp2_with fail;refine HC.mono ?_;rintro e w1 ⟨rfl,hk1⟩;have HK1:Hid (Same w w1):=hk1;clear hk1 HC;go_wp2_with fail;refine bodyPost_ret (v:=.tuple #[.slice none 0 0,.int .i64 (c:Nat)]) (by simp[results,Tryz.results13,go_sem]) rfl ?_;exact⟨rfl,HK1.out⟩
theorem sF(l:List It)(x:It):bO (l++[x])=bO l++nt x:=by simp[bO]
theorem sW(at':Nat)(l:List It)(x:It):cM at' (l++[x])=cM at' l++lE x.lab (at'+(bO l).length):=by
 induction l generalizing at' with
 | nil=>simp[cM,bO]
 | cons y r ih=>
  rw[List.cons_append,cM,cM,ih,List.append_assoc];congr 3;simp[bO];omega
structure WrI(w wr:World)(E:Nat->En)(i:Nat)(L:List It)(vp vr:Value):Prop where
 len:L.length=i
 its:∀j x,L[j]? = some x->∃bs,PDef (sb (E j).d) bs/\x=⟨ey (E j) bs,dU (E j) bs⟩
 pie:Row wr vp (bO L)
 recs:Row wr vr (cM 0 L)
 newp:∀k,vp.ownBlock=some k->w.heap.size<=k
 newr:∀k,vr.ownBlock=some k->w.heap.size<=k
 apart:∀k,vp.ownBlock=some k->vr.ownBlock≠some k
 same:Same w wr
 lenp:(bO L).length<=i*8400
 lenr:(cM 0 L).length<=i*120
theorem WrI.zero(w wr:World)(E:Nat->En)(hk:Same w wr):WrI w wr E 0 [] (.slice none 0 0) (.slice none 0 0):=
 ⟨rfl,λj x h=>(by simp at h),World.ownsRow_nil wr 0 5 1,World.ownsRow_nil wr 0 5 1,λk e=>(by cases e),λk e=>(by cases e),λk e=>(by cases e),hk,by simp[bO],by simp[cM]⟩
theorem wX{E:Nat->En}{n i:Nat}(h:ky E n i=0):∀j,i<=j->j<i+n->yM E j=0:=by
 induction n generalizing i with
 | zero=>intro j h1 h2;omega
 | succ n ih=>
  intro j h1 h2;unfold ky at h;split at h
  ·rename_i h3;by_cases e:j=i
   ·rw[e];exact h3
   ·exact ih h j (by omega) (by omega)
  ·rename_i h3;exact absurd h h3
theorem jM{E:Nat->En}{n:Nat}(h:fA E n=0):n<=64/\∀j,j<n->fq (sb (E j).n)=true/\(E j).d.size<=8192:=by
 unfold fA at h;split at h
 ·cases h
 ·rename_i h1;refine⟨by omega,λj hj=>?_⟩;have h2:=wX h j (Nat.zero_le _) (by omega);unfold yM at h2;split at h2
  ·cases h2
  ·rename_i h3;split at h2
   ·cases h2
   ·rename_i h4;refine⟨?_,by omega⟩;cases h5:fq (sb (E j).n) with
    | true=>rfl
    | false=>exact absurd (.inl h5) h3
theorem tT(y:En)(bs:List Nat)(hn:fq (sb y.n)=true)(hd:y.d.size<=8192):gP (ey y bs)/\(∀b∈(ey y bs).name,b<256)/\(ey y bs).name.length<=64/\(dU y bs).length<=8192:=by
 have h1:(sb y.n).length<=64:=by unfold fq at hn;simp only[Bool.and_eq_true,decide_eq_true_eq]at hn;exact hn.1
 have h2:(dU y bs).length<=8192:=by
  unfold dU;split
  ·omega
  ·rw[dm];exact hd
 refine⟨⟨?_,Ke _ _,by show(dU y bs).length<_;omega,by show y.d.size<_;omega,by show(sb y.n).length<_;omega⟩,λb hb=>mS y.n b hb,h1,h2⟩;show(if bs.length<y.d.size then 8 else 0)<65536;split<;>omega
theorem G1(x:It):(nt x).length=30+x.lab.name.length+x.bytes.length:=by simp[nt,j7,ic,aA];omega
theorem vD(m:Mk)(p:Nat):(lE m p).length=46+m.name.length:=by simp[lE,ic,aA];omega
def ji(E:Nat->En)(len:Nat)(L:List It):Prop:=L.length=len/\∀j x,L[j]? = some x->∃bs,PDef (sb (E j).d) bs/\x=⟨ey (E j) bs,dU (E j) bs⟩
theorem kH(w:World)(a:Option Addr)(len cap:Nat)(E:Nat→En)(hs:Ents w (fun _=>True) a len E)(cE:len≤cap)(hx:Mxl w)(hT:Tab w)(hc:fA E len=0):
  Calls Tryz.prog 13 #[.slice a len cap] w λe w'=>∃v' L,e=.returned (.tuple #[v',.int .i64 0])/\Fresh w w' v' (d8 L)/\ji E len L:=by
 obtain⟨Ew,hok⟩:=jM hc;have HC:=qL w a len cap E hs (by omega) cE hx;rw[hc]at HC;have HS:Hid (Ents w (λ_=>True) a len E):=hs;have HT:Hid (Tab w):=hT;have HOK:Hid (∀j,j<len->fq (sb (E j).n)=true/\(E j).d.size<=8192):=hok;clear hs hx hT hc hok;go_enter Tryz.func13,Tryz.ntmps13;go_wp2_with fail;refine HC.mono ?_;rintro e w1 ⟨rfl,hk1⟩;have HK1:Hid (Same w w1):=hk1;clear hk1 HC;go_wp2_with fail;go_loopg [5,6,18] len (λqq z5 z6 z18 wr=>∃(i:Nat) (L:List It),z18=.int .i64 (i:Nat)/\i<=len/\len-i<=qq/\Hid (WrI w wr E i L z5 z6))
 case atStart=>exact⟨0,[],rfl,by omega,by omega,hid (WrI.zero w w1 E HK1.out)⟩
 case round=>
  clear HK1;obtain⟨i,L,rfl,hi1,NA,HI⟩:=hrel;obtain⟨vp,ND⟩:∃v,v=u5:=⟨_,rfl⟩
  obtain⟨vr,NN⟩:∃v,v=u6:=⟨_,rfl⟩
  rw[<-ND,<-NN]at HI;rw[<-ND,<-NN];clear ND NN;obtain⟨np,Jp⟩:∃n,n=(bO L).length:=⟨_,rfl⟩
  obtain⟨nr,NJ⟩:∃n,n=(cM 0 L).length:=⟨_,rfl⟩
  obtain⟨ap,cp,ND,_⟩:=HI.out.pie.shape;obtain⟨ar,cr,NN,_⟩:=HI.out.recs.shape;rw[<-Jp]at ND;rw[<-NJ]at NN;subst ND;subst NN;have HNN:Hid (np=(bO L).length/\nr=(cM 0 L).length):=hid ⟨Jp,NJ⟩;have Xw:np<=600000:=(by have:=HI.out.lenp;omega);have VF:nr<=8000:=(by have:=HI.out.lenr;omega);clear Jp NJ;by_cases hi:i<len
  ·have mM:decide (i<len)=true:=(by simp;omega);obtain⟨b,o,ha,_,k0,k1⟩:=HS.out i hi;subst ha;have k0:=HI.out.same.cell k0 (λf=>f);have k1:=HI.out.same.cell k1 (λf=>f);obtain⟨y,hy⟩:∃y,y=E i:=⟨_,rfl⟩
   rw[<-hy]at k0 k1;have HY:Hid (y=E i):=hy;have QP:=HOK.out i hi;rw[<-hy]at QP;have EL:IntKind.i64.wrap ((i:Int)+1)=((i+1:Nat):Int):=(by rw[IntKind.wrap_i64];omega);have HYO:Hid (fq (sb y.n)=true/\y.d.size<=8192):=QP;obtain⟨wA,mP⟩:∃W,W=wr.alloc (.cells #[.string y.n,.string y.d] 34):=⟨_,rfl⟩
   have hkA:Same wr wA:=(by rw[mP];exact(Kept.refl _ wr).alloc _);have HKA:Hid (Same wr wA):=hkA;have HP:=DU wA y QP.2 (HT.out.kept (Same.trans HI.out.same hkA) (λf=>f));clear hy QP hkA;go_wp2_with fail;rw[<-mP];clear mP;refine HP.mono ?_;rintro e w2 ⟨bs,v2,J,T5,rfl,SJ,hJ,fD,hk2⟩;have Pn:=tT y bs HYO.out.1 HYO.out.2;obtain⟨m,hm⟩:∃m,m=ey y bs:=⟨_,rfl⟩
   obtain⟨bd,EC⟩:∃d,d=dU y bs:=⟨_,rfl⟩
   rw[<-hm,<-EC]at Pn;rw[<-EC]at SJ;rw[<-hm];have HX:Hid (PDef (sb y.d) bs/\m=ey y bs/\bd=dU y bs):=hid ⟨T5,hm,EC⟩;have HLZ:Hid (gP m/\(∀b∈m.name,b<256)/\m.name.length<=64/\bd.length<=8192):=Pn;have HK2:Hid (Same wr w2):=hid (Same.trans HKA.out hk2);have HJ:Hid (∀k,J k->wr.heap.size<=k):=hid (λk h=>Nat.le_trans HKA.out.size (hJ k h));have HNI:Hid (∀n c,v2=.slice none n c->n=0/\c=0):=fD;have HS2:Hid (Src w2 J v2 bd):=SJ;obtain⟨wB,yr⟩:∃W,W=w2.alloc (.cells #[.int .u16 (m.way:Nat),.int .u32 (m.sum:Nat),.int .u32 (m.packed:Nat),.int .u32 (m.size:Nat),.string (bJ m.name)] 60):=⟨_,rfl⟩
   obtain⟨lb,sl⟩:∃b,b=w2.heap.size:=⟨_,rfl⟩
   have HLBK:Hid (LabBk wB lb m):=hid (by rw[yr,sl];exact Blk.new w2 _ _);have HKB:Hid (Same w2 wB):=hid (by rw[yr];exact(Kept.refl _ w2).alloc _);have HLB:Hid (wr.heap.size<=lb):=hid (by rw[sl];exact HK2.out.size);obtain⟨c0,c1,c2,c3,c4⟩:=HLBK.out.cells;have H3:=An wB m np Pn.1 Pn.2.1 (by omega);unfold lV at H3 ⊢;clear T5 hm EC SJ hJ fD hk2 Pn HP;go_wp2_with fail;rw[<-yr,<-sl];clear yr sl;refine H3.mono ?_;rintro e w3 ⟨v3,rfl,hf3⟩;have HF3:Hid (Fresh wB w3 v3 (lE m np)):=hf3;have HK3:Hid (Same wr w3):=hid (Same.trans HK2.out (Same.trans HKB.out hf3.kept));have HRr:Hid (Row w3 (.slice ar nr cr) (cM 0 L)):=hid (HI.out.recs.kept HK3.out (λ_ _ f=>f));clear hf3 H3 c0 c1 c2 c3 c4;go_wp2_with (at_builtin;refine bi _ rfl (.tmp 27) (.tmp 31) rfl _ (cM 0 L) rfl HRr.out _ _ (lE m np) rfl (Dy HF3.out.row) (Src.ofRow HF3.out.row) (by rw[vD];have:=HNN.out;have:=HLZ.out.2.2.1;omega) ?_);intro v4 w4 hr4 pN Ux;have HK4:Hid (Kept (λk=>(Value.slice ar nr cr).ownBlock=some k) w3 w4):=hid ((Kept.refl _ w3).grown pN (λk e=>.inl e));have HR4:Hid (Row w4 v4 (cM 0 L++lE m np)):=hr4;have HO4:Hid (v4.ownBlock=(Value.slice ar nr cr).ownBlock\/v4.ownBlock=some w3.heap.size):=Ux;have HLR:Hid (∀k,(Value.slice ar nr cr).ownBlock=some k->k<wr.heap.size):=hid (λk e=>(World.ownsRow.lt HI.out.recs k e).2);have HLP:Hid (∀k,(Value.slice ap np cp).ownBlock=some k->k<wr.heap.size):=hid (λk e=>(World.ownsRow.lt HI.out.pie k e).2);have HL4:Hid (LabBk w4 lb m):=hid (Blk.kept (HLBK.out.kept HF3.out.kept) HK4.out (λe=>by have:=HLR.out lb e;have:=HLB.out;omega));have HP4:Hid (Row w4 (.slice ap np cp) (bO L)):=hid ((HI.out.pie.kept HK3.out (λ_ _ f=>f)).kept HK4.out (λk e f=>HI.out.apart k e f));have HS4:Hid (Src w4 J v2 bd):=hid ((HS2.out.kept (Same.trans HKB.out HF3.out.kept) (λ_ _ _ f=>f)).kept HK4.out (λk hk _ e=>by have:=HJ.out k hk;have:=HLR.out k e;omega));obtain⟨c0,c1,c2,c3,c4⟩:=HL4.out.cells;have H5:=Gp w4 m HLZ.out.1 HLZ.out.2.1;unfold lV at H5;clear hr4 pN Ux;go_wp2_with fail;refine H5.mono ?_;rintro e w5 ⟨v5,rfl,hf5⟩;have HF5:Hid (Fresh w4 w5 v5 (j7 m)):=hf5;have HP5:Hid (Row w5 (.slice ap np cp) (bO L)):=hid (HP4.out.kept hf5.kept (λ_ _ f=>f));clear hf5 H5 c0 c1 c2 c3 c4;go_wp2_with (first | (at_builtin;refine bi _ rfl (.tmp 33) (.tmp 35) rfl _ (bO L) rfl HP5.out _ _ (j7 m) rfl (Dy HF5.out.row) (Src.ofRow HF5.out.row) (by have:=HNN.out;have:=HLZ.out.2.2.1;simp[j7,ic,aA];omega) ?_;intro v6 w6 hr6 Lw PT;have HR6:Hid (Row w6 v6 (bO L++j7 m)):=hr6;have HK6:Hid (Kept (λk=>(Value.slice ap np cp).ownBlock=some k) w5 w6):=hid ((Kept.refl _ w5).grown Lw (λk e=>.inl e));have HO6:Hid (v6.ownBlock=(Value.slice ap np cp).ownBlock\/v6.ownBlock=some w5.heap.size):=PT;have HS6:Hid (Src w6 J v2 bd):=hid ((HS4.out.kept HF5.out.kept (λ_ _ _ f=>f)).kept HK6.out (λk hk _ e=>by have:=HJ.out k hk;have:=HLP.out k e;omega));clear hr6 Lw PT) | (at_builtin;refine bi _ rfl (.tmp 36) (.tmp 37) rfl _ (bO L++j7 m) rfl HR6.out J _ bd rfl HNI.out HS6.out (by have:=HNN.out;have:=HLZ.out.2.2;simp[j7,ic,aA];omega) ?_;intro v7 w7 LN UF TH));have Nr:v7.ownBlock=v6.ownBlock\/v7.ownBlock=some w6.heap.size:=TH;have HK7:Hid (Kept (λk=>v6.ownBlock=some k) w6 w7):=hid ((Kept.refl _ w6).grown UF (λk e=>.inl e));have HW:Hid (WrI w w7 E (i+1) (L++[⟨m,bd⟩]) v7 v4):=hid (by
    have Yk:=HK3.out.size;have EF:=HK4.out.size;have KF:=HF5.out.kept.size;have WP:=HK6.out.size;have Pg:=HI.out.same.size;have Jd:∀k,v4.ownBlock=some k->k<w4.heap.size:=λk e=>(World.ownsRow.lt HR4.out k e).2
    have hn4:∀k,v4.ownBlock=some k->w.heap.size<=k:=by
     intro k e;rcases HO4.out with h | h
     ·exact HI.out.newr k (by rw[<-h];exact e)
     ·rw[h]at e;simp only[Option.some.injEq]at e;omega
    have Tq:∀k,v6.ownBlock=some k->w.heap.size<=k:=by
     intro k e;rcases HO6.out with h | h
     ·exact HI.out.newp k (by rw[<-h];exact e)
     ·rw[h]at e;simp only[Option.some.injEq]at e;omega
    have Tz:∀k,(Value.slice ap np cp).ownBlock=some k->v4.ownBlock≠some k:=by
     intro k e e4;rcases HO4.out with h | h
     ·exact HI.out.apart k e (by rw[<-h];exact e4)
     ·rw[h]at e4;simp only[Option.some.injEq]at e4;have:=HLP.out k e;omega
    have Pr:∀k,v6.ownBlock=some k->v4.ownBlock≠some k:=by
     intro k e e4;rcases HO6.out with h | h
     ·exact Tz k (by rw[<-h];exact e) e4
     ·rw[h]at e;simp only[Option.some.injEq]at e;have:=Jd k e4;omega
    have hx:(nt ⟨m,bd⟩).length<=8400:=(by rw[G1];have:=HLZ.out.2.2;show 30+m.name.length+bd.length<=8400;omega);refine⟨by rw[List.length_append,HI.out.len];rfl,?_,?_,?_,?_,hn4,?_,?_,?_,?_⟩
    ·intro j x hj;by_cases e:j<i
     ·rw[List.getElem?_append_left (by rw[HI.out.len];exact e)]at hj;exact HI.out.its j x hj
     ·have hlt:=(List.getElem?_eq_some_iff.1 hj).1;rw[List.length_append,HI.out.len]at hlt;simp only[List.length_cons,List.length_nil]at hlt;obtain rfl:j=i:=(by omega);rw[List.getElem?_append_right (by rw[HI.out.len];exact Nat.le_refl _),HI.out.len,Nat.sub_self]at hj;simp only[List.getElem?_cons_zero,Option.some.injEq]at hj;subst hj;refine⟨bs,?_,?_⟩
      ·rw[<-HY.out];exact HX.out.1
      ·rw[<-HY.out,<-HX.out.2.1,<-HX.out.2.2]
    ·rw[sF];have:nt ⟨m,bd⟩=j7 m++bd:=rfl;rw[this,<-List.append_assoc];exact LN
    ·rw[sW,Nat.zero_add,<-HNN.out.1];exact(((HR4.out.kept HF5.out.kept (λ_ _ f=>f)).kept HK6.out (λk e f=>Tz k f e)).kept HK7.out (λk e f=>Pr k f e))
    ·intro k e;rcases Nr with h | h
     ·exact Tq k (by rw[<-h];exact e)
     ·rw[h]at e;simp only[Option.some.injEq]at e;omega
    ·intro k e e4;rcases Nr with h | h
     ·exact Pr k (by rw[<-h];exact e) e4
     ·rw[h]at e;simp only[Option.some.injEq]at e;have:=Jd k e4;omega
    ·exact Same.then (Same.then (Same.trans (Same.then (Same.trans HI.out.same HK3.out) HK4.out (λk hk f=>by have:=HI.out.newr k f;omega)) HF5.out.kept) HK6.out (λk hk f=>by have:=HI.out.newp k f;omega)) HK7.out (λk hk f=>by have:=Tq k f;omega)
    ·rw[sF,List.length_append];have:=HI.out.lenp;rw[Nat.succ_mul];omega
    ·rw[sW,List.length_append,vD];have:=HI.out.lenr;have:=HLZ.out.2.2.1;rw[Nat.succ_mul];show(cM 0 L).length+(46+m.name.length)<=_;omega)
   clear LN UF TH Nr;go_wp2_with fail;go_roundg (gk-1)
   case measure=>omega
   case rel=>exact⟨i+1,_,by go_num,by omega,by omega,HW⟩
  ·have mM:decide (i<len)=false:=(by simp;omega);obtain rfl:i=len:=(by omega);have HE:=GS wr i nr np (by omega) (by omega) (by omega);go_wp2_with fail;refine HE.mono ?_;rintro e w2 ⟨v2,rfl,hf2⟩;have rG:(fd i nr np).length=22:=(by simp[fd,aA]);obtain⟨a2,c2,rL,_⟩:=hf2.row.shape;rw[rG]at rL;subst rL;have HF2:Hid (Fresh wr w2 (.slice a2 22 c2) (fd i nr np)):=hf2;obtain⟨wB,yr⟩:∃W,W=w2.alloc (.cells #[.slice ap np cp,.slice ar nr cr,.slice a2 22 c2] 26):=⟨_,rfl⟩
   have hb:=Blk.new w2 #[.slice ap np cp,.slice ar nr cr,.slice a2 22 c2] 26;rw[<-yr]at hb;have uZ:Same w2 wB:=(by rw[yr];exact(Kept.refl _ w2).alloc _);have hkW:Same wr wB:=Same.trans hf2.kept uZ;have HCC:=yk wB w2.heap.size ap ar a2 np nr 22 cp cr c2 _ _ _ (bO L) (cM 0 L) (fd i nr np) (hb.cell 0) (hb.cell 1) (hb.cell 2) ((Src.ofRow HI.out.pie).kept hkW (λ_ _ _ f=>f)) ((Src.ofRow HI.out.recs).kept hkW (λ_ _ _ f=>f)) ((Src.ofRow hf2.row).kept uZ (λ_ _ _ f=>f)) (Dy HI.out.pie) (Dy HI.out.recs) (Dy hf2.row) (by decide) (by omega) (by omega) (by decide);have HKW:Hid (Same w wB):=hid (Same.trans HI.out.same hkW);clear hf2 hb uZ hkW HE rG;go_wp2_with fail;rw[<-yr];clear yr;refine HCC.mono ?_;rintro e w3 ⟨v3,rfl,hf3⟩;have HF3:Hid (Fresh w w3 v3 (d8 L)):=hid (by
    have h9:=Fresh.base8 HKW.out hf3;unfold d8;rw[HI.out.len,<-HNN.out.1,<-HNN.out.2,<-List.append_assoc];exact h9)
   clear hf3 HCC;go_wp2_with fail;refine bodyPost_ret (v:=.tuple #[v3,.int .i64 0]) (by simp[results,Tryz.results13,go_sem]) rfl ?_;exact⟨v3,L,rfl,HF3.out,HI.out.len,HI.out.its⟩
def UnpZ(w w':World)(o:Except Nat (List Nat))(e:Ending):Prop:=
 (∀d,o=.ok d->e=.returned (.string (bJ d)))/\(∀n,o=.error n->e=aH n)/\Same w w'
theorem tR(w:World)(m:Mk)(a:Option Addr)(n c:Nat)(I:Nat→Prop)(bs:List Nat)(hs:Src w I (.slice a n c) bs)(hb:∀b∈bs,b<256)(hl:bs.length≤100000)(hw:m.way=0)(hq:more 0 bs=m.sum):
  Calls Tryz.prog 59 #[.agg (jA m (.slice a n c))] w λe w'=>UnpZ w w' (.ok bs) e:=by
 have HS:Hid (Src w I (.slice a n c) bs):=hs;have HB:Hid ((∀b∈bs,b<256)/\bs.length<=100000):=hid ⟨hb,hl⟩;have w8:((m.way:Int)==8)=false:=by simp;omega
 clear hs hb hl;obtain⟨W1,hW1⟩:∃W,W=w.alloc (.cells (jA m (.slice a n c)) 78):=⟨_,rfl⟩
 obtain⟨xb,ir⟩:∃b,b=w.heap.size:=⟨_,rfl⟩
 have HK1:Hid (Same w W1):=hid (by rw[hW1];exact(Kept.refl _ w).alloc _);have HX1:Hid (Blk W1 xb (jA m (.slice a n c)) 78):=hid (by rw[hW1,ir];exact Blk.new w _ _);have q1:W1.cell? ⟨xb,1,none⟩=some (.int .u32 (m.sum:Nat)):=HX1.out.cell 1;have HSN:Hid (∀wx,Same W1 wx->Calls Tryz.prog 28 #[.slice a n c] wx λe w'=>e=.returned (.int .u32 (more 0 bs:Nat))/\w'=wx):=hid (λwx hk=>io wx _ _ _ (HS.out.kept (Same.trans HK1.out hk) (λ_ _ _ f=>f)) HB.out.1 (by have:=HB.out.2;omega));have HGS:Hid (∀wx,Same W1 wx->(convert 26 9 (.slice a n c)).run Tryz.prog wx=.ok (.string (bJ bs)) wx):=hid (λwx hk=>GD (HS.out.kept (Same.trans HK1.out hk) (λ_ _ _ f=>f)) (by obtain⟨_,_,e,_⟩:=HS.out;simp only[Value.slice.injEq]at e;exact e.2.1.symm));obtain⟨sm,iy⟩:∃s,s=more 0 bs:=⟨_,rfl⟩
 rw[<-iy]at HSN hq;unfold jA at hW1 ⊢
 ·have R9:((sm:Int)==(m.sum:Int))=true:=(by simp;omega);clear iy hq;go_enter Tryz.func59,Tryz.ntmps59;go_wp2_with fail;rw[hw]at hW1;rw[<-ir];have e1:w.alloc (Obj.cells #[Value.int .u16 0,.int .u32 (m.sum:Nat),.int .u32 (m.packed:Nat),.int .u32 (m.size:Nat),.string (bJ m.name),.slice a n c] 78)=W1:=hW1.symm;rw[e1];clear hW1 e1 ir;go_region_held3 (λw'=>w'.cell? ⟨xb,1,none⟩=some (.int .u32 (m.sum:Nat)))
   (first
    | (go_split_ands;assumption)
    | go_keep)
   (first
    | (go_at_call 28;refine(HSN.out _ (by first | exact Kept.refl _ _ | exact(Kept.refl _ _).drew | exact(Kept.refl _ _).drewN _)).mono ?_;rintro e w4 ⟨rfl,hw4⟩;subst hw4)
    | (go_at_call 58;refine(bl _ _).mono ?_;rintro e w5 ⟨rfl,mH⟩;subst mH))
  all_goals
   have gs:=HGS.out W1.drew ((Kept.refl _ W1).drew);go_wp2_with fail;go_ret;exact⟨λd e=>by simp only[Except.ok.injEq]at e;subst e;rfl,λk e=>by simp at e,Same.trans HK1.out ((Kept.refl _ W1).drew)⟩
theorem Fv(w:World)(m:Mk)(v:Value)(hm:gP m):
  Calls Tryz.prog 52 #[.agg (jA m v)] w λe w'=>e=.returned (.agg #[.string (bJ m.name),.int .i64 (m.size:Nat),.int .i64 (m.packed:Nat),.int .u32 (m.sum:Nat),.int .i64 (m.way:Nat)])/\Same w w':=by
 have h1:IntKind.i64.wrap (m.size:Int)=(m.size:Int):=by rw[IntKind.wrap_i64];have:=hm.size;omega
 have h2:IntKind.i64.wrap (m.packed:Int)=(m.packed:Int):=by rw[IntKind.wrap_i64];have:=hm.packed;omega
 have h3:IntKind.i64.wrap (m.way:Int)=(m.way:Int):=by rw[IntKind.wrap_i64];have:=hm.way;omega
 clear hm;unfold jA;go_enter Tryz.func52,Tryz.ntmps52;go_wp2_with fail;obtain⟨wz,o7⟩:∃W,W=(w.alloc (.cells #[.int .u16 (m.way:Nat),.int .u32 (m.sum:Nat),.int .u32 (m.packed:Nat),.int .u32 (m.size:Nat),.string (bJ m.name),v] 78)).alloc (.cells #[.string (bJ m.name),.int .i64 (m.size:Nat),.int .i64 (m.packed:Nat),.int .u32 (m.sum:Nat),.int .i64 (m.way:Nat)] 50):=⟨_,rfl⟩
 have hb:=Blk.new (w.alloc (.cells #[.int .u16 (m.way:Nat),.int .u32 (m.sum:Nat),.int .u32 (m.packed:Nat),.int .u32 (m.size:Nat),.string (bJ m.name),v] 78)) #[.string (bJ m.name),.int .i64 (m.size:Nat),.int .i64 (m.packed:Nat),.int .u32 (m.sum:Nat),.int .i64 (m.way:Nat)] 50;rw[World.size_alloc,<-o7]at hb;have hk:Same w wz:=by rw[o7];exact((Kept.refl _ w).alloc _).alloc _
 have z0:=hb.cell 0;have z1:=hb.cell 1;have z2:=hb.cell 2;have z3:=hb.cell 3;have z4:=hb.cell 4;simp at z0 z1 z2 z3 z4;rw[<-o7];refine bodyPost_ret (v:=.agg #[.string (bJ m.name),.int .i64 (m.size:Nat),.int .i64 (m.packed:Nat),.int .u32 (m.sum:Nat),.int .i64 (m.way:Nat)]) (by rw[lT rfl];simp[go_sem,z0,z1,z2,z3,z4]) rfl ?_;exact⟨rfl,hk⟩
theorem jx(w:World):
  Calls Tryz.prog 50 #[.nilIface] w λe w'=>e=.returned (.int .i64 0)/\w'=w:=by
 go_enter Tryz.func50,Tryz.ntmps50;go_wp2_with fail;go_ret;exact⟨rfl,rfl⟩
theorem Tryz.asErrno(v:Value)(w:World):(Instr.typeAssert (.iface 27 v) 20 27 false).run Tryz.prog w=.ok v w:=by kernel_rfl
theorem jt(w:World)(n:Nat):
  Calls Tryz.prog 50 #[.iface 27 (.int .i64 (n:Nat))] w λe w'=>e=.returned (.int .i64 (n:Nat))/\w'=w:=by
 have N0:=Tryz.asErrno (.int .i64 (n:Nat)) w;go_enter Tryz.func50,Tryz.ntmps50;go_wp2_with fail;go_ret;exact⟨rfl,rfl⟩
theorem xD(w:World)(m:Mk)(a:Option Addr)(n c:Nat)(I:Nat→Prop)(bs:List Nat)(hs:Src w I (.slice a n c) bs)(hb:∀b∈bs,b<256)(hl:bs.length≤100000)(hw:m.way=0)(hq:¬more 0 bs=m.sum):
  Calls Tryz.prog 59 #[.agg (jA m (.slice a n c))] w λe w'=>UnpZ w w' (.error 83) e:=by
 have HS:Hid (Src w I (.slice a n c) bs):=hs;have HB:Hid ((∀b∈bs,b<256)/\bs.length<=100000):=hid ⟨hb,hl⟩;have w8:((m.way:Int)==8)=false:=by simp;omega
 clear hs hb hl;obtain⟨W1,hW1⟩:∃W,W=w.alloc (.cells (jA m (.slice a n c)) 78):=⟨_,rfl⟩
 obtain⟨xb,ir⟩:∃b,b=w.heap.size:=⟨_,rfl⟩
 have HK1:Hid (Same w W1):=hid (by rw[hW1];exact(Kept.refl _ w).alloc _);have HX1:Hid (Blk W1 xb (jA m (.slice a n c)) 78):=hid (by rw[hW1,ir];exact Blk.new w _ _);have q1:W1.cell? ⟨xb,1,none⟩=some (.int .u32 (m.sum:Nat)):=HX1.out.cell 1;have HSN:Hid (∀wx,Same W1 wx->Calls Tryz.prog 28 #[.slice a n c] wx λe w'=>e=.returned (.int .u32 (more 0 bs:Nat))/\w'=wx):=hid (λwx hk=>io wx _ _ _ (HS.out.kept (Same.trans HK1.out hk) (λ_ _ _ f=>f)) HB.out.1 (by have:=HB.out.2;omega));have HGS:Hid (∀wx,Same W1 wx->(convert 26 9 (.slice a n c)).run Tryz.prog wx=.ok (.string (bJ bs)) wx):=hid (λwx hk=>GD (HS.out.kept (Same.trans HK1.out hk) (λ_ _ _ f=>f)) (by obtain⟨_,_,e,_⟩:=HS.out;simp only[Value.slice.injEq]at e;exact e.2.1.symm));obtain⟨sm,iy⟩:∃s,s=more 0 bs:=⟨_,rfl⟩
 rw[<-iy]at HSN hq;unfold jA at hW1 ⊢
 ·have R9:((sm:Int)==(m.sum:Int))=false:=(by simp;omega);clear iy hq;go_enter Tryz.func59,Tryz.ntmps59;go_wp2_with fail;rw[hw]at hW1;rw[<-ir];have e1:w.alloc (Obj.cells #[Value.int .u16 0,.int .u32 (m.sum:Nat),.int .u32 (m.packed:Nat),.int .u32 (m.size:Nat),.string (bJ m.name),.slice a n c] 78)=W1:=hW1.symm;rw[e1];clear hW1 e1 ir;go_region_dies
  ·refine(HSN.out _ ((Kept.refl _ W1).drew)).mono ?_;rintro e w4 ⟨rfl,hw4⟩;subst hw4;have q2:W1.drew.cell? ⟨xb,1,none⟩=some (.int .u32 (m.sum:Nat)):=q1;go_wp2_with fail;refine wpAny_ready (rs:=[4]) (by kernel_rfl) (by simp) ?_;refine AllReady.cons rfl (λK hK=>?_) AllReady.nil;go_simp;refine hK _ _ ?_;clear hK K;refine wpAny_ready (rs:=[5]) (by kernel_rfl) (by simp) ?_;refine AllReady.cons rfl (λK hK=>?_) AllReady.nil;go_simp;refine hK _ _ ?_;clear hK K;refine wpAny_ready (rs:=[6]) (by kernel_rfl) (by simp) ?_;refine AllReady.cons rfl (λK hK=>?_) AllReady.nil;go_simp;refine(aL _ 83).mono ?_;rintro e w5 ⟨rfl,mH⟩;subst mH;exact⟨rfl,λd e=>(by simp at e),λk e=>(by simp only[Except.error.injEq]at e;subst e;rfl),Same.trans HK1.out ((Kept.refl _ W1).drew)⟩
  ·refine(HSN.out _ ((Kept.refl _ W1).drew)).mono ?_;rintro e w4 ⟨rfl,hw4⟩;subst hw4;have q2:W1.drew.cell? ⟨xb,1,none⟩=some (.int .u32 (m.sum:Nat)):=q1;go_wp2_with fail;refine wpAny_ready (rs:=[5]) (by kernel_rfl) (by simp) ?_;refine AllReady.cons rfl (λK hK=>?_) AllReady.nil;go_simp;refine hK _ _ ?_;clear hK K;refine wpAny_ready (rs:=[6]) (by kernel_rfl) (by simp) ?_;refine AllReady.cons rfl (λK hK=>?_) AllReady.nil;go_simp;refine(aL _ 83).mono ?_;rintro e w5 ⟨rfl,mH⟩;subst mH;exact⟨rfl,λd e=>(by simp at e),λk e=>(by simp only[Except.error.injEq]at e;subst e;rfl),Same.trans HK1.out ((Kept.refl _ W1).drew)⟩
theorem UnpZ.bad{w w':World}{o:Except Nat (List Nat)}{e:Ending}{k:Nat}(h:o=.error k)(he:e=aH k)(hk:Same w w'):UnpZ w w' o e:=
 ⟨λd h'=>(by rw[h]at h';cases h'),λn h'=>by rw[h]at h';simp only[Except.error.injEq]at h';subst h';exact he,hk⟩
theorem UnpZ.good{w w':World}{o:Except Nat (List Nat)}{e:Ending}{d:List Nat}(h:o=.ok d)(he:e=.returned (.string (bJ d)))(hk:Same w w'):UnpZ w w' o e:=
 ⟨λd' h'=>by rw[h]at h';simp only[Except.ok.injEq]at h';subst h';exact he,λn h'=>(by rw[h]at h';cases h'),hk⟩
theorem vP(w:World)(m:Mk)(a:Option Addr)(n c:Nat)(I:Nat→Prop)(bs:List Nat)(hs:Src w I (.slice a n c) bs)(hb:∀b∈bs,b<256)(hl:bs.length≤100000)(hn:n=bs.length)(hw:m.way=8)(hz:m.size≤8192)(ha:a≠none)(hT:Tab w):
  Calls Tryz.prog 59 #[.agg (jA m (.slice a n c))] w λe w'=>UnpZ w w' (dV ⟨m,bs⟩) e:=by
 have w8:((m.way:Int)==8)=true:=by simp;omega
 obtain⟨W1,hW1⟩:∃W,W=w.alloc (.cells (jA m (.slice a n c)) 78):=⟨_,rfl⟩
 obtain⟨xb,ir⟩:∃b,b=w.heap.size:=⟨_,rfl⟩
 have HK1:Hid (Same w W1):=hid (by rw[hW1];exact(Kept.refl _ w).alloc _);have HX1:Hid (Blk W1 xb (jA m (.slice a n c)) 78):=hid (by rw[hW1,ir];exact Blk.new w _ _);have HI:=DP W1 (.slice a n c) I bs m.size (hs.kept HK1.out (λ_ _ _ f=>f)) hb (λn9 c9 e=>by simp only[Value.slice.injEq]at e;exact absurd e.1 ha) (by omega) (by omega) (hT.kept HK1.out (λf=>f));have WZ:IntKind.i64.wrap (m.size:Int)=(m.size:Int):=by rw[IntKind.wrap_i64];omega
 have HN:Hid (n=bs.length/\m.way=8/\bs.length<=100000):=hid ⟨hn,hw,hl⟩;have hn2:n<=100000:=by omega
 clear hs hb hl ha hT hn;unfold jA at hW1 ⊢;go_enter Tryz.func59,Tryz.ntmps59;go_wp2_with fail;rw[hw]at hW1;rw[<-ir];have e1:w.alloc (Obj.cells #[Value.int .u16 8,.int .u32 (m.sum:Nat),.int .u32 (m.packed:Nat),.int .u32 (m.size:Nat),.string (bJ m.name),.slice a n c] 78)=W1:=hW1.symm;rw[e1];clear hW1 e1 ir;refine HI.mono ?_;intro e w2 h2;cases h2 with
 | fail t er he h0 hx hk=>
  subst hx;have HU:Hid (dV ⟨m,bs⟩=.error 84):=hid (by
   have hr:=(uh he).1;unfold dV;rw[if_pos HN.out.2.1,if_neg (λh9=>h0 (by rw[<-hr];exact h9.1))])
  have HK2:Hid (Same w w2):=hid (Same.trans HK1.out hk);have Lr:((er:Int)==0)=false:=(by simp;omega);have HO:=aL w2 84;clear he h0 hk HI HX1 hw;go_wp2_with fail;refine HO.mono ?_;rintro e w3 ⟨rfl,hw3⟩;subst hw3;clear HO;unfold aH;go_wp2_with fail;exact⟨rfl,UnpZ.bad HU.out rfl HK2.out⟩
 | done t v' he hx hr hv hk hww=>
  subst hx;obtain⟨r1,r2,r3⟩:=uh he;have r2:=r2 (.inl rfl);have r3:=r3 rfl;have RD:=Er he;obtain⟨O,hO⟩:∃O,O=t.out:=⟨_,rfl⟩
  obtain⟨q,hq⟩:∃q,q=(t.c+7) / 8:=⟨_,rfl⟩
  rw[<-hO]at hr RD r2;rw[<-hq];have HQ:Hid (dV ⟨m,bs⟩=if q=bs.length/\O.length=m.size then(if more 0 O=m.sum then .ok O else .error 83)else .error 84):=hid (by
   unfold dV;rw[if_pos HN.out.2.1];simp only;rw[r1,r2,r3,<-hq];simp)
  have HK2:Hid (Same w w2):=hid (Same.trans HK1.out hk);have HX2:Hid (Blk w2 xb (jA m (.slice a n c)) 78):=hid (HX1.out.kept hk (λf=>f));have HR:Hid (Row w2 v' O):=hr;have HOB:Hid (∀b∈O,b<256):=RD;obtain⟨a3,c3,sf,_⟩:=hr.shape;obtain⟨lo,kg⟩:∃l,l=O.length:=⟨_,rfl⟩
  rw[<-kg]at sf HQ;subst sf;have HLO:Hid (lo=O.length):=kg;have x1:w2.cell? ⟨xb,1,none⟩=some (.int .u32 (m.sum:Nat)):=HX2.out.cell 1;have x3:w2.cell? ⟨xb,3,none⟩=some (.int .u32 (m.size:Nat)):=HX2.out.cell 3;have x5:w2.cell? ⟨xb,5,none⟩=some (.slice a n c):=HX2.out.cell 5;have HN2:=HN.out.1;clear he hr hv hk hww HI HX1 r1 r2 r3 RD hO hq kg hw;by_cases q1:q=n
  ·subst q1;by_cases q2:lo=m.size
   ·have HU:Hid (dV ⟨m,bs⟩=if more 0 O=m.sum then .ok O else .error 83):=hid (by rw[HQ.out,if_pos ⟨HN2,q2⟩]);have g2:((lo:Int)==(m.size:Int))=true:=(by simp;omega);have HO:=bl w2 (.int .i64 84);have Tr:lo<=8192:=(by omega);clear HQ q2 HN2;have HSN:Hid (∀wx,Same w2 wx->Calls Tryz.prog 28 #[.slice a3 lo c3] wx λe w'=>e=.returned (.int .u32 (more 0 O:Nat))/\w'=wx):=hid (λwx hk=>io wx _ _ _ (Src.ofRow (HR.out.kept hk (λ_ _ f=>f))) HOB.out (by have:=HLO.out;omega));have HGS:Hid (∀wx,Same w2 wx->(convert 26 9 (.slice a3 lo c3)).run Tryz.prog wx=.ok (.string (bJ O)) wx):=hid (λwx hk=>GD (Src.ofRow (HR.out.kept hk (λ_ _ f=>f))) HLO.out.symm);obtain⟨sm,iy⟩:∃s,s=more 0 O:=⟨_,rfl⟩
    rw[<-iy]at HSN HU;clear iy;go_wp2_with fail;refine HO.mono ?_;rintro e w3 ⟨rfl,hw3⟩;subst hw3;clear HO x3 x5;by_cases hq:sm=m.sum
    ·have R9:((sm:Int)==(m.sum:Int))=true:=(by simp;omega);have HU:Hid (dV ⟨m,bs⟩=.ok O):=hid (by rw[HU.out,if_pos hq]);clear hq;go_wp2_with fail;go_region_held3 (λw'=>w'.cell? ⟨xb,1,none⟩=some (.int .u32 (m.sum:Nat)))
      (first
       | (go_split_ands;assumption)
       | go_keep)
      (first
       | (go_at_call 28;refine(HSN.out _ (by first | exact Kept.refl _ _ | exact(Kept.refl _ _).drew | exact(Kept.refl _ _).drewN _)).mono ?_;rintro e w4 ⟨rfl,hw4⟩;subst hw4)
       | (go_at_call 58;refine(bl _ _).mono ?_;rintro e w5 ⟨rfl,mH⟩;subst mH))
     all_goals
      have gs:=HGS.out w3.drew ((Kept.refl _ w3).drew);go_wp2_with fail;go_ret;exact UnpZ.good HU.out rfl (Same.trans HK2.out ((Kept.refl _ w3).drew))
    ·have R9:((sm:Int)==(m.sum:Int))=false:=(by simp;omega);have HU:Hid (dV ⟨m,bs⟩=.error 83):=hid (by rw[HU.out,if_neg hq]);clear hq;go_wp2_with fail;go_region_dies
     ·refine(HSN.out _ ((Kept.refl _ w3).drew)).mono ?_;rintro e w4 ⟨rfl,hw4⟩;subst hw4;have q2:w3.drew.cell? ⟨xb,1,none⟩=some (.int .u32 (m.sum:Nat)):=x1;go_wp2_with fail;refine wpAny_ready (rs:=[4]) (by kernel_rfl) (by simp) ?_;refine AllReady.cons rfl (λK hK=>?_) AllReady.nil;go_simp;refine hK _ _ ?_;clear hK K;refine wpAny_ready (rs:=[5]) (by kernel_rfl) (by simp) ?_;refine AllReady.cons rfl (λK hK=>?_) AllReady.nil;go_simp;refine hK _ _ ?_;clear hK K;refine wpAny_ready (rs:=[6]) (by kernel_rfl) (by simp) ?_;refine AllReady.cons rfl (λK hK=>?_) AllReady.nil;go_simp;refine(aL _ 83).mono ?_;rintro e w5 ⟨rfl,mH⟩;subst mH;exact⟨rfl,UnpZ.bad HU.out rfl (Same.trans HK2.out ((Kept.refl _ w3).drew))⟩
     ·refine(HSN.out _ ((Kept.refl _ w3).drew)).mono ?_;rintro e w4 ⟨rfl,hw4⟩;subst hw4;have q2:w3.drew.cell? ⟨xb,1,none⟩=some (.int .u32 (m.sum:Nat)):=x1;go_wp2_with fail;refine wpAny_ready (rs:=[5]) (by kernel_rfl) (by simp) ?_;refine AllReady.cons rfl (λK hK=>?_) AllReady.nil;go_simp;refine hK _ _ ?_;clear hK K;refine wpAny_ready (rs:=[6]) (by kernel_rfl) (by simp) ?_;refine AllReady.cons rfl (λK hK=>?_) AllReady.nil;go_simp;refine(aL _ 83).mono ?_;rintro e w5 ⟨rfl,mH⟩;subst mH;exact⟨rfl,UnpZ.bad HU.out rfl (Same.trans HK2.out ((Kept.refl _ w3).drew))⟩
   ·have HU:Hid (dV ⟨m,bs⟩=.error 84):=hid (by rw[HQ.out,if_neg (λh9=>q2 h9.2)]);have g2:((lo:Int)==(m.size:Int))=false:=(by simp;omega);have HO:=aL w2 84;clear HQ q2 HN2;go_wp2_with fail;refine HO.mono ?_;rintro e w3 ⟨rfl,hw3⟩;subst hw3;clear HO;unfold aH;go_wp2_with fail;exact⟨rfl,UnpZ.bad HU.out rfl HK2.out⟩
  ·have HU:Hid (dV ⟨m,bs⟩=.error 84):=hid (by rw[HQ.out,if_neg (λh9=>q1 (by omega))]);have g1:((q:Int)==(n:Int))=false:=(by simp;omega);have HO:=aL w2 84;clear HQ q1 HN2;go_wp2_with fail;refine HO.mono ?_;rintro e w3 ⟨rfl,hw3⟩;subst hw3;clear HO;unfold aH;go_wp2_with fail;exact⟨rfl,UnpZ.bad HU.out rfl HK2.out⟩
theorem CK(w:World)(a:Option Addr)(n c:Nat)(hn:1048576<n)(hn2:n≤100000000):
  Calls Tryz.prog 51 #[.slice a n c] w λe w'=>e=aH 2/\Same w w':=by
 have b1:decide ((n:Int)<=1048576)=false:=by simp;omega
 have b2:decide (n<=1048576)=false:=by simp;omega
 have HO:=aL w 2;clear hn;go_enter Tryz.func51,Tryz.ntmps51;go_wp2_with fail;refine HO.mono ?_;rintro e w1 ⟨rfl,hw1⟩;subst hw1;clear HO;unfold aH;go_wp2_with fail;exact⟨rfl,rfl,Kept.refl _ _⟩
theorem Aj(w:World)(a:Option Addr)(n c:Nat)(hn:n<22):
  Calls Tryz.prog 51 #[.slice a n c] w λe w'=>e=aH 81/\Same w w':=by
 have b1:decide ((n:Int)<=1048576)=true:=by simp;omega
 have b2:decide (n<=1048576)=true:=by simp;omega
 have b3:decide ((22:Int)<=(n:Int))=false:=by simp;omega
 have b4:decide (22<=n)=false:=by simp;omega
 have HO:=bl w (.int .i64 2);have HP:=aL w 81;clear hn;go_enter Tryz.func51,Tryz.ntmps51;go_wp2_with fail;refine HO.mono ?_;rintro e w1 ⟨rfl,hw1⟩;subst hw1;clear HO;go_wp2_with fail;refine HP.mono ?_;rintro e w2 ⟨rfl,hw2⟩;subst hw2;clear HP;unfold aH;go_wp2_with fail;exact⟨rfl,rfl,Kept.refl _ _⟩
theorem Hh(w:World)(b o:Nat)(c:Nat)(bs:List Nat)(n:Nat)(hL:n=bs.length)(hs:Src w (fun k=>k<w.heap.size) (.slice (some ⟨b,o,none⟩) n c) bs)(hb:∀x∈bs,x<256)(cE:n≤c)(h1:22≤n)(h2:n≤1048576)(x:Nat)(he:j0 (bs.drop (n-22)) (n-22)=.error x):
  Calls Tryz.prog 51 #[.slice (some ⟨b,o,none⟩) n c] w λe w'=>e=aH x/\Same w w':=by
 have b1:decide ((n:Int)<=1048576)=true:=by simp;omega
 have b2:decide (n<=1048576)=true:=by simp;omega
 have b3:decide ((22:Int)<=(n:Int))=true:=by simp;omega
 have b4:decide (22<=n)=true:=by simp;omega
 obtain⟨p,hp⟩:∃p,p=n-22:=⟨_,rfl⟩
 have LL:(n:Int)-22=(p:Int):=by omega
 have mI:IntKind.i64.wrap (p:Int)=(p:Int):=by rw[IntKind.wrap_i64];omega
 have i1:(0:Int)<=(p:Int):=by omega
 have i2:(p:Int)<=(n:Int):=by omega
 have i3:(n:Int)<=(c:Int):=by omega
 have HO:=bl w (.int .i64 2);have HP:=bl w (.int .i64 81);rw[<-hp]at he;have Ex:(bs.drop p).length=22:=by rw[List.length_drop];omega
 have HSD:Hid (∀c',Src w (λk=>k<w.heap.size) (.slice (some ⟨b,o+p,none⟩) (bs.drop p).length c') (bs.drop p)):=hid (λc'=>by
  obtain⟨ao,cap,e,h9⟩:=hs;simp only[Value.slice.injEq]at e;obtain⟨e1,e2,e3⟩:=e;refine⟨_,_,rfl,λ_=>⟨b,o+p,rfl,?_⟩⟩;obtain⟨b',o',e4,h5,h6⟩:=h9 (λe=>by rw[e]at hL;simp at hL;omega);rw[<-e1]at e4;simp only[Option.some.injEq,Addr.mk.injEq,and_true]at e4;obtain⟨rfl,rfl⟩:=e4;refine⟨h5,λj hj=>?_⟩;rw[List.length_drop]at hj;have:=h6 (p+j) (by omega);rw[List.getElem_drop,Nat.add_assoc];exact this)
 have HE:Hid (∀c',22<=c'->Calls Tryz.prog 91 #[.slice (some ⟨b,o+p,none⟩) 22 c',.int .i64 (p:Nat)] w λe w'=>EndA w w' (j0 (bs.drop p) p) e):=hid (λc' h9=>by
  have h8:=BS w.heap.size w (bs.drop p) (some ⟨b,o+p,none⟩) c' p (HSD.out c') (by omega) (Nat.le_refl _) (λx hx=>hb x (List.mem_of_mem_drop hx)) (by omega) (by omega) (by simp);rw[Ex]at h8;exact h8)
 have Jp:n-p=22:=by omega
 have HER:Hid (j0 (bs.drop p) p=.error x):=he;clear hs hb h1 h2 Ex he hp hL;go_enter Tryz.func51,Tryz.ntmps51;go_wp2_with fail;refine HO.mono ?_;rintro e w1 ⟨rfl,hw1⟩;subst hw1;clear HO;go_wp2_with fail;refine HP.mono ?_;rintro e w2 ⟨rfl,hw2⟩;subst hw2;clear HP;go_wp2_with fail;refine(HE.out _ (by omega)).mono ?_;intro e w3 h3;obtain⟨rfl,hk3⟩:=h3.2 x HER.out;have HK3:Hid (Same w2 w3):=hk3;clear h3 hk3;unfold aH;go_wp2_with fail;exact⟨rfl,rfl,HK3.out⟩
end Go.Proofs.YtljlmfnbeofmmaaGreatDoor
namespace Go.Proofs.YtljlmfnbeofmmaaGreatDoor
theorem BG{E:Nat->En}{s:ByteArray}{n:Nat}(h:gg E s n=false):∀i,i<n->(E i).n≠s:=by intro i hi e;rw[BF hi e]at h;cases h
theorem rn{E:Nat->En}{n:Nat}(h:fA E n=0):∀i j,i<j->j<n->(E i).n≠(E j).n:=by
 intro i j I0 hj;unfold fA at h;split at h
 ·cases h
 ·have h2:=wX h j (Nat.zero_le _) (by omega);unfold yM at h2;split at h2
  ·cases h2
  ·rename_i h3;cases h5:gg E (E j).n j with
   | true=>exact absurd (.inr h5) h3
   | false=>exact BG h5 i I0
theorem JO{y:En}{bs:List Nat}(hn:fq (sb y.n)=true)(hd:y.d.size<=8192):ItOk ⟨ey y bs,dU y bs⟩:=by
 obtain⟨h1,_,_,h4⟩:=tT y bs hn hd;refine⟨h1,rfl,BP hn (by simp) ?_ hd ?_ ?_⟩
 ·show(if bs.length<y.d.size then 8 else 0)=0\/(if bs.length<y.d.size then 8 else 0)=8;split
  ·exact .inr rfl
  ·exact .inl rfl
 ·show(dU y bs).length<=16384;omega
 ·show(if bs.length<y.d.size then 8 else 0)=8\/(dU y bs).length=y.d.size;by_cases h:bs.length<y.d.size
  ·rw[if_pos h];exact .inl rfl
  ·right
   unfold dU;rw[if_neg h,dm]
theorem FE{E:Nat->En}{len:Nat}{L:List It}(h:ji E len L)(hc:fA E len=0):(∀x∈L,ItOk x)/\(cT L).Nodup/\L.length<=64:=by
 obtain⟨Ew,hok⟩:=jM hc;refine⟨λx hx=>?_,?_,by rw[h.1];exact Ew⟩
 ·obtain⟨j,hj,rfl⟩:=List.getElem_of_mem hx;obtain⟨bs,_,e⟩:=h.2 j L[j] (List.getElem?_eq_getElem hj);rw[e];have:=hok j (by rw[<-h.1];exact hj);exact JO this.1 this.2
 ·unfold List.Nodup cT;rw[List.pairwise_map,List.pairwise_iff_getElem];intro i j hi hj I0 e;obtain⟨b1,_,e1⟩:=h.2 i L[i] (List.getElem?_eq_getElem hi);obtain⟨b2,_,e2⟩:=h.2 j L[j] (List.getElem?_eq_getElem hj);rw[e1,e2]at e;exact rn hc i j I0 (by rw[<-h.1];exact hj) (zR e)
theorem F5{L:List It}(h:∀x∈L,ItOk x):(bO L).length<=L.length*16600/\(cM 0 L).length<=L.length*120:=by
 rw[t7]
 induction L with
 | nil=>simp[bO]
 | cons x r ih=>
  obtain⟨i1,i2⟩:=ih (λy hy=>h y (by simp[hy]));have hx:=h x (by simp);obtain⟨hn,_,_,_,hp,_⟩:=jc hx.ok;have hn2:x.lab.name.length<=64:=by unfold fq at hn;simp only[Bool.and_eq_true,decide_eq_true_eq]at hn;exact hn.1
  have:=hx.len;rw[hQ,List.length_append,oT,List.length_cons];simp only[List.map_cons,List.sum_cons];constructor
  ·omega
  ·omega
theorem oI{E:Nat->En}{len:Nat}{L:List It}(h:ji E len L)(hc:fA E len=0):(d8 L).length<=1048576:=by
 obtain⟨Ew,hok⟩:=jM hc;obtain⟨ho,UB,hl⟩:=FE h hc;have h2:=(F5 ho).2;have h3:(bO L).length<=L.length*8400:=by
  have:∀x∈L,(nt x).length<=8400:=λx hx=>by obtain⟨j,hj,rfl⟩:=List.getElem_of_mem hx;obtain⟨bs,_,e⟩:=h.2 j L[j] (List.getElem?_eq_getElem hj);rw[oT,e];have h9:=hok j (by rw[<-h.1];exact hj);obtain⟨_,_,h3,h4⟩:=tT (E j) bs h9.1 h9.2;show 30+(ey (E j) bs).name.length+(dU (E j) bs).length<=8400;omega
  clear h2 ho hl h UB
  induction L with
  | nil=>simp[bO]
  | cons x r ih=>
   have i1:=ih (λy hy=>this y (by simp[hy]));have:=this x (by simp);rw[hQ,List.length_append,List.length_cons];omega
 rw[oZ];omega
theorem ku{E:Nat->En}{len:Nat}{L:List It}(h:ji E len L)(hc:fA E len=0):g6 (d8 L)=.ok L:=by obtain⟨h1,h2,h3⟩:=FE h hc;exact Ec L h1 h2 h3 (oI h hc)
theorem JJ{y:En}{bs:List Nat}(hp:PDef (sb y.d) bs)(hd:y.d.size<=8192):dV ⟨ey y bs,dU y bs⟩=.ok (sb y.d):=by
 unfold dV;by_cases h:bs.length<y.d.size
 ·have e1:(ey y bs).way=8:=(by simp[ey,h]);have e2:dU y bs=bs:=(by simp[dU,h]);obtain⟨t,ht,ho,hq⟩:=hp.reads (mS _) (most:=y.d.size) (by rw[dm];exact Nat.le_refl _) (by omega);obtain⟨r1,r2,r3⟩:=uh ht;simp only[e1,e2];rw[if_pos trivial,show(ey y bs).size=y.d.size from rfl,show(ey y bs).sum=more 0 (sb y.d)from rfl,r2 (.inl rfl),r3 rfl,ho,if_pos ⟨r1,hq,dm _⟩,if_pos rfl]
 ·have e1:(ey y bs).way=0:=(by simp[ey,h]);have e2:dU y bs=sb y.d:=(by simp[dU,h]);simp only[e1,e2];rw[if_neg (by decide),show(ey y bs).sum=more 0 (sb y.d)from rfl,if_pos rfl]
end Go.Proofs.YtljlmfnbeofmmaaGreatDoor
