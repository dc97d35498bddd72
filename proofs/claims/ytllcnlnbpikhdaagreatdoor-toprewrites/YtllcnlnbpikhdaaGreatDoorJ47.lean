import Derived.Test.YtllcnlnbpikhdaaGreatDoorJ25
import Derived.Test.YtllcnlnbpikhdaaGreatDoorJ26
import Derived.Test.YtllcnlnbpikhdaaGreatDoorJ46
import Derived.Test.YtllcnlnbpikhdaaGreatDoorJ41
set_option maxHeartbeats 400000
set_option maxRecDepth 100000
namespace Go.Proofs.YtllcnlnbpikhdaaGreatDoor
open Go.RowKit
theorem Du{w:World}{v:Value}{bs:List Nat}(h:Row w v bs):∀n c,v=.slice none n c->n=0/\c=0:=by
 rintro n c rfl;rcases h.2 with⟨h1,_⟩ | ⟨g,cap,cur,h1,_⟩
 ·simp only[Value.slice.injEq]at h1;exact⟨h1.2.1,h1.2.2⟩
 ·cases h1
def fB(y:En)(bs:List Nat):List Nat:=if bs.length<y.d.size then bs else sb y.d
def fT(y:En)(bs:List Nat):Mk:=⟨if bs.length<y.d.size then 8 else 0,more 0 (sb y.d),(fB y bs).length,y.d.size,sb y.n⟩
def Ni(w w':World)(y:En)(e:Ending):Prop:=
 ∃bs v' J,PDef (sb y.d) bs/\e=.returned (.tuple #[.agg (k7 (fT y bs)),v'])/\Src w' J v' (fB y bs)/\(∀k,J k->w.heap.size<=k)/\(∀n c,v'=.slice none n c->n=0/\c=0)/\Same w w'
theorem DT(w:World)(y:En)(hd:y.d.size≤8192)(hT:Tab w):
  Calls Tryz.prog 17 #[.agg #[.string y.n,.string y.d]] w λe w'=>Ni w w' y e:=by
 obtain⟨W2,oh⟩:∃W,W=(w.alloc (.cells #[.string y.n,.string y.d] 39)).alloc (.cells #[.int .u16 0,.int .u32 0,.int .u32 0,.int .u32 0,.string ⟨#[]⟩] 47):=⟨_,rfl⟩
 have HK2:Hid (Same w W2):=hid (by rw[oh];exact((Kept.refl _ w).alloc _).alloc _);have HX2:Hid (Blk W2 w.heap.size #[.string y.n,.string y.d] 39):=hid (by rw[oh];exact(Blk.new w _ _).kept (show Same _ _ from(Kept.refl _ _).alloc _) (λf=>f));have HR2:Hid (Blk W2 (w.heap.size+1) #[.int .u16 0,.int .u32 0,.int .u32 0,.int .u32 0,.string ⟨#[]⟩] 47):=hid (by rw[oh];have h9:=Blk.new (w.alloc (.cells #[.string y.n,.string y.d] 39)) #[.int .u16 0,.int .u32 0,.int .u32 0,.int .u32 0,.string ⟨#[]⟩] 47;rw[World.size_alloc]at h9;exact h9);obtain⟨G,W3,MM,hk3,hs3,NJ⟩:=K4 W2 y.d;have HR3:Hid (Blk W3 (w.heap.size+1) #[.int .u16 0,.int .u32 0,.int .u32 0,.int .u32 0,.string ⟨#[]⟩] 47):=hid (HR2.out.kept hk3 (λf=>f));have HZ3:Hid (W3.heap.size=w.heap.size+3):=hid (by rw[NJ,oh,World.size_alloc,World.size_alloc]);have Ny:=MM;rw[oh]at Ny;have HK3:Hid (Same w W3):=hid (Same.trans HK2.out hk3);have HX3:Hid (Blk W3 w.heap.size #[.string y.n,.string y.d] 39):=hid (HX2.out.kept hk3 (λf=>f));obtain⟨db,RF⟩:∃b,b=W2.heap.size:=⟨_,rfl⟩
 rw[<-RF]at hs3;have LX:=RF;rw[oh,World.size_alloc,World.size_alloc]at LX;have HS3:Hid (Src W3 (λk=>k=db) (.slice (some ⟨db,0,none⟩) y.d.size G) (sb y.d)):=hs3;have cX:(sb y.d).length=y.d.size:=dU _;have B7:=rT y.d;have R5:IntKind.u32.wrap (y.d.size:Int)=(y.d.size:Int):=by rw[IntKind.wrap_u32];omega
 obtain⟨xb,gW⟩:∃b,b=w.heap.size:=⟨_,rfl⟩
 have x0:W3.cell? ⟨xb,0,none⟩=some (.string y.n):=by rw[gW];exact HX3.out.cell 0
 have x1:W3.cell? ⟨xb,1,none⟩=some (.string y.d):=by rw[gW];exact HX3.out.cell 1
 have HSUM:=iU W3 _ _ _ HS3.out B7 (by rw[cX];omega);have N8:=iU W3.drew _ _ _ (HS3.out.kept (show Same W3 W3.drew from(Kept.refl _ W3).drew) (λ_ _ _ f=>f)) B7 (by rw[cX];omega);clear hs3 hk3 MM;go_enter Tryz.func17,Tryz.ntmps17;go_wp2_with fail;have HD2:Hid (db=w.heap.size+2):=hid (by omega);rw[<-LX,<-gW];clear Ny oh RF LX NJ;have HDB:Hid (xb=w.heap.size):=gW;clear gW;have KA:=λwx (hk:Same W3 wx)=>iU wx _ _ _ (HS3.out.kept hk (λ_ _ _ f=>f)) B7 (by rw[cX];omega)
 go_region_held3 (λw'=>w'.cell? ⟨xb,0,none⟩=some (.string y.n))
  (first
   | (go_split_ands;assumption)
   | go_keep)
  (first
   | (go_at_call 31;refine(KA _ (by first | exact Kept.refl _ _ | exact(Kept.refl _ _).drew | exact(Kept.refl _ _).drewN _ | exact((Kept.refl _ _).drew).alloc _ | exact((Kept.refl _ _).drewN _).alloc _)).mono ?_;rintro e w4 ⟨rfl,hw4⟩;subst hw4))
 all_goals
  obtain⟨C,hC⟩:∃C,C=#[Value.int .u16 0,.int .u32 (more 0 (sb y.d):Nat),.int .u32 0,.int .u32 (y.d.size:Nat),.string y.n]:=⟨_,rfl⟩
  rw[<-hC];obtain⟨lb,rL⟩:∃b,b=W3.heap.size:=⟨_,rfl⟩
  obtain⟨W4,BZ⟩:∃W,W=(W3.alloc (.cells C 47)).drew:=⟨_,rfl⟩
  have hk4:Same W3 W4:=(by rw[BZ];exact((Kept.refl _ W3).alloc _).drew);have HK4:Hid (Same w W4):=hid (Same.trans HK3.out hk4);have HB4:Hid (Blk W4 lb C 47):=hid (by rw[BZ,rL];exact(Blk.new W3 C 47).drewN 1);have HS4:Hid (Src W4 (λk=>k=db) (.slice (some ⟨db,0,none⟩) y.d.size G) (sb y.d)):=hid (HS3.out.kept hk4 (λ_ _ _ f=>f));have HD:=xx W4 _ _ _ HS4.out B7 (λn c e=>by cases e) (by rw[cX];omega) (hT.kept HK4.out (λf=>f));have HLB3:Hid (lb=xb+3/\xb=w.heap.size):=hid ⟨by rw[rL,HZ3.out,HDB.out],HDB.out⟩;have HR4:Hid (Blk W4 (xb+1) #[.int .u16 0,.int .u32 0,.int .u32 0,.int .u32 0,.string ⟨#[]⟩] 47):=hid (by rw[HDB.out];exact HR3.out.kept hk4 (λf=>f));rw[<-rL,<-BZ];clear BZ hk4 HSUM N8 KA rL;go_wp2_with fail;refine HD.mono ?_;rintro e w5 ⟨v5,bs,rfl,hn5,T3⟩;have HP5:Hid (PDef (sb y.d) bs):=T3;have HN5:Hid (NB W4 w5 v5 bs):=hn5;have HK5:Hid (Same w w5):=hid (Same.trans HK4.out hn5.same);have HR5:Hid (Blk w5 (xb+1) #[.int .u16 0,.int .u32 0,.int .u32 0,.int .u32 0,.string ⟨#[]⟩] 47):=hid (HR4.out.kept hn5.same (λf=>f));have HB5:Hid (Blk w5 lb C 47):=hid (HB4.out.kept hn5.same (λf=>f));have HS5:Hid (Src w5 (λk=>k=db) (.slice (some ⟨db,0,none⟩) y.d.size G) (sb y.d)):=hid (HS4.out.kept hn5.same (λ_ _ _ f=>f));obtain⟨a5,c5,fJ,_⟩:=hn5.row.shape;obtain⟨n5,LF⟩:∃n,n=bs.length:=⟨_,rfl⟩
  rw[<-LF]at fJ;subst fJ;have HNL:Hid (n5=bs.length):=LF;have HLT:Hid (lb<W4.heap.size/\xb+1<W4.heap.size):=hid ⟨HB4.out.lt,HR4.out.lt⟩;clear hn5 T3 LF HD HB4 HS4;have k0:w5.cell? ⟨lb,0,none⟩=some (.int .u16 0):=(by have:=HB5.out.cell 0;rw[hC]at this;exact this);have k1:w5.cell? ⟨lb,1,none⟩=some (.int .u32 (more 0 (sb y.d):Nat)):=(by have:=HB5.out.cell 1;rw[hC]at this;exact this);have k2:w5.cell? ⟨lb,2,none⟩=some (.int .u32 0):=(by have:=HB5.out.cell 2;rw[hC]at this;exact this);have k3:w5.cell? ⟨lb,3,none⟩=some (.int .u32 (y.d.size:Nat)):=(by have:=HB5.out.cell 3;rw[hC]at this;exact this);have k4:w5.cell? ⟨lb,4,none⟩=some (.string y.n):=(by have:=HB5.out.cell 4;rw[hC]at this;exact this);have z0:=HB5.out.frozen 0;have z2:=HB5.out.frozen 2;obtain⟨rb,Ew⟩:∃b,b=xb+1:=⟨_,rfl⟩
  rw[<-Ew]at HR5 ⊢;have bh:¬lb=rb:=(by have:=HLB3.out;omega);have Wm:¬rb=lb:=(by have:=HLB3.out;omega);have HNE:Hid (¬lb=rb/\w.heap.size<=rb/\w.heap.size<=lb/\lb<W4.heap.size/\rb<W4.heap.size/\¬db=lb/\¬db=rb):=hid (by have:=HLB3.out;have:=HLT.out;have:=HD2.out;omega);have m0:=HR5.out.cell 0;have f0:=HR5.out.frozen 0;have m1:=HR5.out.cell 1;have f1:=HR5.out.frozen 1;have m2:=HR5.out.cell 2;have f2:=HR5.out.frozen 2;have m3:=HR5.out.cell 3;have f3:=HR5.out.frozen 3;have m4:=HR5.out.cell 4;have f4:=HR5.out.frozen 4;simp at m0 m1 m2 m3 m4;have HC5:Hid (C=#[Value.int .u16 0,.int .u32 (more 0 (sb y.d):Nat),.int .u32 0,.int .u32 (y.d.size:Nat),.string y.n]):=hC;clear Ew x0 x1 HR4 HR3 HR2;by_cases hlt:n5<y.d.size
  ·have l6:decide (n5<y.d.size)=true:=(by simp;omega);have ur:(n5:Int)<(y.d.size:Int):=(by omega);have hnw:IntKind.u32.wrap (n5:Int)=(n5:Int):=(by rw[IntKind.wrap_u32];omega);clear hC;go_wp2_with fail;obtain⟨wz,nk⟩:∃W,W=(((((((w5.setCell ⟨lb,0,none⟩ (.int .u16 8)).setCell ⟨lb,2,none⟩ (.int .u32 (n5:Nat))).setCell ⟨rb,0,none⟩ (.int .u16 8)).setCell ⟨rb,1,none⟩ (.int .u32 (more 0 (sb y.d):Nat))).setCell ⟨rb,2,none⟩ (.int .u32 (n5:Nat))).setCell ⟨rb,3,none⟩ (.int .u32 (y.d.size:Nat))).setCell ⟨rb,4,none⟩ (.string y.n)):=⟨_,rfl⟩
   have Aw:Kept (λk=>k=lb\/k=rb) w5 wz:=(by rw[nk];exact((((((((Kept.refl (λk=>k=lb\/k=rb) w5).setCell _ _ (.inl (.inl rfl))).setCell _ _ (.inl (.inl rfl))).setCell _ _ (.inl (.inr rfl))).setCell _ _ (.inl (.inr rfl))).setCell _ _ (.inl (.inr rfl))).setCell _ _ (.inl (.inr rfl))).setCell _ _ (.inl (.inr rfl))));have hbz:Blk wz rb #[.int .u16 8,.int .u32 (more 0 (sb y.d):Nat),.int .u32 (n5:Nat),.int .u32 (y.d.size:Nat),.string y.n] 47:=(by rw[nk];have:=((((((HR5.out.kept (show Kept (λk=>k=lb) w5 ((w5.setCell ⟨lb,0,none⟩ (.int .u16 8)).setCell ⟨lb,2,none⟩ (.int .u32 (n5:Nat))) from(((Kept.refl (λk=>k=lb) w5).setCell _ _ (.inl rfl)).setCell _ _ (.inl rfl))) (λe=>HNE.out.1 e.symm)).set 0 (.int .u16 8)).set 1 (.int .u32 (more 0 (sb y.d):Nat))).set 2 (.int .u32 (n5:Nat))).set 3 (.int .u32 (y.d.size:Nat))).set 4 (.string y.n));simpa using this);have z0:=hbz.cell 0;have z1:=hbz.cell 1;have z2:=hbz.cell 2;have z3:=hbz.cell 3;have z4:=hbz.cell 4;simp at z0 z1 z2 z3 z4;rw[<-nk];have Hu:bs.length<y.d.size:=(by rw[<-HNL.out];exact hlt);have Hd:fB y bs=bs:=(by unfold fB;rw[if_pos Hu]);have Ek:k7 (fT y bs)=#[.int .u16 8,.int .u32 (more 0 (sb y.d):Nat),.int .u32 (n5:Nat),.int .u32 (y.d.size:Nat),.string y.n]:=(by unfold k7 fT;rw[Hd,if_pos Hu,jW,HNL.out];rfl);refine bodyPost_ret (v:=.tuple #[.agg (k7 (fT y bs)),.slice a5 n5 c5]) (by rw[Ek,results_cell_tmp rfl];simp[go_sem,z0,z1,z2,z3,z4]) rfl ?_;refine⟨bs,_,(λk=>(Value.slice a5 n5 c5).ownBlock=some k),HP5.out,rfl,?_,(λk e=>by have:=HN5.out.new k e;have:=HK4.out.size;omega),Du HN5.out.row,Same.then HK5.out Aw (λk hk e=>by have:=HNE.out;omega)⟩;rw[Hd];exact(Src.ofRow HN5.out.row).kept Aw (λk hk _ e=>by have:=HN5.out.new k hk;have:=HNE.out;omega)
  ·have l6:decide (n5<y.d.size)=false:=(by simp;omega);have ur:(y.d.size:Int)<=(n5:Int):=(by omega);clear hC;go_wp2_with fail;obtain⟨wz,nk⟩:∃W,W=((((((w5.setCell ⟨lb,2,none⟩ (.int .u32 (y.d.size:Nat))).setCell ⟨rb,0,none⟩ (.int .u16 0)).setCell ⟨rb,1,none⟩ (.int .u32 (more 0 (sb y.d):Nat))).setCell ⟨rb,2,none⟩ (.int .u32 (y.d.size:Nat))).setCell ⟨rb,3,none⟩ (.int .u32 (y.d.size:Nat))).setCell ⟨rb,4,none⟩ (.string y.n)):=⟨_,rfl⟩
   have Aw:Kept (λk=>k=lb\/k=rb) w5 wz:=(by rw[nk];exact(((((((Kept.refl (λk=>k=lb\/k=rb) w5).setCell _ _ (.inl (.inl rfl))).setCell _ _ (.inl (.inr rfl))).setCell _ _ (.inl (.inr rfl))).setCell _ _ (.inl (.inr rfl))).setCell _ _ (.inl (.inr rfl))).setCell _ _ (.inl (.inr rfl))));have hbz:Blk wz rb #[.int .u16 0,.int .u32 (more 0 (sb y.d):Nat),.int .u32 (y.d.size:Nat),.int .u32 (y.d.size:Nat),.string y.n] 47:=(by rw[nk];have:=((((((HR5.out.kept (show Kept (λk=>k=lb) w5 (w5.setCell ⟨lb,2,none⟩ (.int .u32 (y.d.size:Nat))) from((Kept.refl (λk=>k=lb) w5).setCell _ _ (.inl rfl))) (λe=>HNE.out.1 e.symm)).set 0 (.int .u16 0)).set 1 (.int .u32 (more 0 (sb y.d):Nat))).set 2 (.int .u32 (y.d.size:Nat))).set 3 (.int .u32 (y.d.size:Nat))).set 4 (.string y.n));simpa using this);have z0:=hbz.cell 0;have z1:=hbz.cell 1;have z2:=hbz.cell 2;have z3:=hbz.cell 3;have z4:=hbz.cell 4;simp at z0 z1 z2 z3 z4;rw[<-nk];have Hu:¬bs.length<y.d.size:=(by rw[<-HNL.out];exact hlt);have Hd:fB y bs=sb y.d:=(by unfold fB;rw[if_neg Hu]);have Ek:k7 (fT y bs)=#[.int .u16 0,.int .u32 (more 0 (sb y.d):Nat),.int .u32 (y.d.size:Nat),.int .u32 (y.d.size:Nat),.string y.n]:=(by unfold k7 fT;rw[Hd,if_neg Hu,jW,dU];rfl);refine bodyPost_ret (v:=.tuple #[.agg (k7 (fT y bs)),.slice (some ⟨db,0,none⟩) y.d.size G]) (by rw[Ek,results_cell_tmp rfl];simp[go_sem,z0,z1,z2,z3,z4]) rfl ?_;refine⟨bs,_,(λk=>k=db),HP5.out,rfl,?_,(λk e=>by have:=HD2.out;omega),(λn c e=>by cases e),Same.then HK5.out Aw (λk hk e=>by have:=HNE.out;omega)⟩;rw[Hd];exact HS5.out.kept Aw (λk hk _ e=>by have:=HNE.out;omega)
theorem sR(l:List It)(x:It):bK (l++[x])=bK l++mB x:=by simp[bK]
theorem sZ(at':Nat)(l:List It)(x:It):cG at' (l++[x])=cG at' l++kO x.lab (at'+(bK l).length):=by
 induction l generalizing at' with
 | nil=>simp[cG,bK]
 | cons y r ih=>
  rw[List.cons_append,cG,cG,ih,List.append_assoc];congr 3;simp[bK];omega
structure WrI(w wr:World)(E:Nat->En)(i:Nat)(L:List It)(vp vr:Value):Prop where
 len:L.length=i
 its:∀j x,L[j]? = some x->∃bs,PDef (sb (E j).d) bs/\x=⟨fT (E j) bs,fB (E j) bs⟩
 pie:Row wr vp (bK L)
 recs:Row wr vr (cG 0 L)
 newp:∀k,vp.ownBlock=some k->w.heap.size<=k
 newr:∀k,vr.ownBlock=some k->w.heap.size<=k
 apart:∀k,vp.ownBlock=some k->vr.ownBlock≠some k
 same:Same w wr
 lenp:(bK L).length<=i*8400
 lenr:(cG 0 L).length<=i*120
theorem WrI.zero(w wr:World)(E:Nat->En)(hk:Same w wr):WrI w wr E 0 [] (.slice none 0 0) (.slice none 0 0):=
 ⟨rfl,λj x h=>(by simp at h),World.ownsRow_nil wr 0 5 1,World.ownsRow_nil wr 0 5 1,λk e=>(by cases e),λk e=>(by cases e),λk e=>(by cases e),hk,by simp[bK],by simp[cG]⟩
theorem wm{E:Nat->En}{n i:Nat}(h:iP E n i=0):∀j,i<=j->j<i+n->uy E j=0:=by
 induction n generalizing i with
 | zero=>intro j h1 h2;omega
 | succ n ih=>
  intro j h1 h2;unfold iP at h;split at h
  ·rename_i h3;by_cases e:j=i
   ·rw[e];exact h3
   ·exact ih h j (by omega) (by omega)
  ·rename_i h3;exact absurd h h3
theorem mG{E:Nat->En}{n:Nat}(h:gZ E n=0):n<=64/\∀j,j<n->fa (sb (E j).n)=true/\(E j).d.size<=8192:=by
 unfold gZ at h;split at h
 ·cases h
 ·rename_i h1;refine⟨by omega,λj hj=>?_⟩;have h2:=wm h j (Nat.zero_le _) (by omega);unfold uy at h2;split at h2
  ·cases h2
  ·rename_i h3;split at h2
   ·cases h2
   ·rename_i h4;refine⟨?_,by omega⟩;cases h5:fa (sb (E j).n) with
    | true=>rfl
    | false=>exact absurd (.inl h5) h3
theorem ug(y:En)(bs:List Nat)(hn:fa (sb y.n)=true)(hd:y.d.size<=8192):gE (fT y bs)/\(∀b∈(fT y bs).name,b<256)/\(fT y bs).name.length<=64/\(fB y bs).length<=8192:=by
 have h1:(sb y.n).length<=64:=by unfold fa at hn;simp only[Bool.and_eq_true,decide_eq_true_eq]at hn;exact hn.1
 have h2:(fB y bs).length<=8192:=by
  unfold fB;split
  ·omega
  ·rw[dU];exact hd
 refine⟨⟨?_,IZ _ _,by show(fB y bs).length<_;omega,by show y.d.size<_;omega,by show(sb y.n).length<_;omega⟩,λb hb=>rT y.n b hb,h1,h2⟩;show(if bs.length<y.d.size then 8 else 0)<65536;split<;>omega
theorem F1(x:It):(mB x).length=30+x.lab.name.length+x.bytes.length:=by simp[mB,jC,gF,aA];omega
theorem wM(m:Mk)(p:Nat):(kO m p).length=46+m.name.length:=by simp[kO,gF,aA];omega
def lu(E:Nat->En)(len:Nat)(L:List It):Prop:=L.length=len/\∀j x,L[j]? = some x->∃bs,PDef (sb (E j).d) bs/\x=⟨fT (E j) bs,fB (E j) bs⟩
theorem jY(w:World)(a:Option Addr)(len cap:Nat)(E:Nat→En)(hs:Ents w (fun _=>True) a len E)(cj:len≤cap)(hx:Mxl w)(hT:Tab w)(hc:gZ E len=0):
  Calls Tryz.prog 7 #[.slice a len cap] w λe w'=>∃v' L,e=.returned (.tuple #[v',.int .i64 0])/\Fresh w w' v' (ey L)/\lu E len L:=by
 obtain⟨h64,hok⟩:=mG hc;have HC:=zw w a len cap E hs (by omega) cj hx;rw[hc]at HC;have HS:Hid (Ents w (λ_=>True) a len E):=hs;have HT:Hid (Tab w):=hT;have HOK:Hid (∀j,j<len->fa (sb (E j).n)=true/\(E j).d.size<=8192):=hok;clear hs hx hT hc hok;go_enter Tryz.func7,Tryz.ntmps7;go_wp2_with fail;refine HC.mono ?_;rintro e w1 ⟨rfl,hk1⟩;have HK1:Hid (Same w w1):=hk1;clear hk1 HC;go_wp2_with fail;go_loopg [5,6,18] len (λqq z5 z6 z18 wr=>∃(i:Nat) (L:List It),z18=.int .i64 (i:Nat)/\i<=len/\len-i<=qq/\Hid (WrI w wr E i L z5 z6))
 case atStart=>exact⟨0,[],rfl,by omega,by omega,hid (WrI.zero w w1 E HK1.out)⟩
 case round=>
  clear HK1;obtain⟨i,L,rfl,yd,KV,HI⟩:=hrel;obtain⟨vp,MN⟩:∃v,v=u5:=⟨_,rfl⟩
  obtain⟨vr,MT⟩:∃v,v=u6:=⟨_,rfl⟩
  rw[<-MN,<-MT]at HI;rw[<-MN,<-MT];clear MN MT;obtain⟨np,Iu⟩:∃n,n=(bK L).length:=⟨_,rfl⟩
  obtain⟨nr,MY⟩:∃n,n=(cG 0 L).length:=⟨_,rfl⟩
  obtain⟨ap,cp,MN,_⟩:=HI.out.pie.shape;obtain⟨ar,cr,MT,_⟩:=HI.out.recs.shape;rw[<-Iu]at MN;rw[<-MY]at MT;subst MN;subst MT;have HNN:Hid (np=(bK L).length/\nr=(cG 0 L).length):=hid ⟨Iu,MY⟩;have Ur:np<=600000:=(by have:=HI.out.lenp;omega);have V4:nr<=8000:=(by have:=HI.out.lenr;omega);clear Iu MY;by_cases hi:i<len
  ·have rj:decide (i<len)=true:=(by simp;omega);obtain⟨b,o,ha,_,k0,k1⟩:=HS.out i hi;subst ha;have k0:=HI.out.same.cell k0 (λf=>f);have k1:=HI.out.same.cell k1 (λf=>f);obtain⟨y,hy⟩:∃y,y=E i:=⟨_,rfl⟩
   rw[<-hy]at k0 k1;have HY:Hid (y=E i):=hy;have Pp:=HOK.out i hi;rw[<-hy]at Pp;have GY:IntKind.i64.wrap ((i:Int)+1)=((i+1:Nat):Int):=(by rw[IntKind.wrap_i64];omega);have HYO:Hid (fa (sb y.n)=true/\y.d.size<=8192):=Pp;obtain⟨wA,py⟩:∃W,W=wr.alloc (.cells #[.string y.n,.string y.d] 39):=⟨_,rfl⟩
   have hkA:Same wr wA:=(by rw[py];exact(Kept.refl _ wr).alloc _);have HKA:Hid (Same wr wA):=hkA;have HP:=DT wA y Pp.2 (HT.out.kept (Same.trans HI.out.same hkA) (λf=>f));clear hy Pp hkA;go_wp2_with fail;rw[<-py];clear py;refine HP.mono ?_;rintro e w2 ⟨bs,v2,J,SF,rfl,Rv,hJ,fh,hk2⟩;have NL:=ug y bs HYO.out.1 HYO.out.2;obtain⟨m,hm⟩:∃m,m=fT y bs:=⟨_,rfl⟩
   obtain⟨bd,D9⟩:∃d,d=fB y bs:=⟨_,rfl⟩
   rw[<-hm,<-D9]at NL;rw[<-D9]at Rv;rw[<-hm];have HX:Hid (PDef (sb y.d) bs/\m=fT y bs/\bd=fB y bs):=hid ⟨SF,hm,D9⟩;have HLZ:Hid (gE m/\(∀b∈m.name,b<256)/\m.name.length<=64/\bd.length<=8192):=NL;have HK2:Hid (Same wr w2):=hid (Same.trans HKA.out hk2);have HJ:Hid (∀k,J k->wr.heap.size<=k):=hid (λk h=>Nat.le_trans HKA.out.size (hJ k h));have HNI:Hid (∀n c,v2=.slice none n c->n=0/\c=0):=fh;have HS2:Hid (Src w2 J v2 bd):=Rv;obtain⟨wB,xS⟩:∃W,W=w2.alloc (.cells #[.int .u16 (m.way:Nat),.int .u32 (m.sum:Nat),.int .u32 (m.packed:Nat),.int .u32 (m.size:Nat),.string (bF m.name)] 47):=⟨_,rfl⟩
   obtain⟨lb,rL⟩:∃b,b=w2.heap.size:=⟨_,rfl⟩
   have HLBK:Hid (LabBk wB lb m):=hid (by rw[xS,rL];exact Blk.new w2 _ _);have HKB:Hid (Same w2 wB):=hid (by rw[xS];exact(Kept.refl _ w2).alloc _);have HLB:Hid (wr.heap.size<=lb):=hid (by rw[rL];exact HK2.out.size);obtain⟨c0,c1,c2,c3,c4⟩:=HLBK.out.cells;have H3:=yz wB m np NL.1 NL.2.1 (by omega);unfold k7 at H3 ⊢;clear SF hm D9 Rv hJ fh hk2 NL HP;go_wp2_with fail;rw[<-xS,<-rL];clear xS rL;refine H3.mono ?_;rintro e w3 ⟨v3,rfl,hf3⟩;have HF3:Hid (Fresh wB w3 v3 (kO m np)):=hf3;have HK3:Hid (Same wr w3):=hid (Same.trans HK2.out (Same.trans HKB.out hf3.kept));have HRr:Hid (Row w3 (.slice ar nr cr) (cG 0 L)):=hid (HI.out.recs.kept HK3.out (λ_ _ f=>f));clear hf3 H3 c0 c1 c2 c3 c4;go_wp2_with (at_builtin;refine bE _ rfl (.tmp 27) (.tmp 31) rfl _ (cG 0 L) rfl HRr.out _ _ (kO m np) rfl (Du HF3.out.row) (Src.ofRow HF3.out.row) (by rw[wM];have:=HNN.out;have:=HLZ.out.2.2.1;omega) ?_);intro v4 w4 hr4 pv To;have HK4:Hid (Kept (λk=>(Value.slice ar nr cr).ownBlock=some k) w3 w4):=hid ((Kept.refl _ w3).grown pv (λk e=>.inl e));have HR4:Hid (Row w4 v4 (cG 0 L++kO m np)):=hr4;have HO4:Hid (v4.ownBlock=(Value.slice ar nr cr).ownBlock\/v4.ownBlock=some w3.heap.size):=To;have HLR:Hid (∀k,(Value.slice ar nr cr).ownBlock=some k->k<wr.heap.size):=hid (λk e=>(World.ownsRow.lt HI.out.recs k e).2);have HLP:Hid (∀k,(Value.slice ap np cp).ownBlock=some k->k<wr.heap.size):=hid (λk e=>(World.ownsRow.lt HI.out.pie k e).2);have HL4:Hid (LabBk w4 lb m):=hid (Blk.kept (HLBK.out.kept HF3.out.kept) HK4.out (λe=>by have:=HLR.out lb e;have:=HLB.out;omega));have HP4:Hid (Row w4 (.slice ap np cp) (bK L)):=hid ((HI.out.pie.kept HK3.out (λ_ _ f=>f)).kept HK4.out (λk e f=>HI.out.apart k e f));have HS4:Hid (Src w4 J v2 bd):=hid ((HS2.out.kept (Same.trans HKB.out HF3.out.kept) (λ_ _ _ f=>f)).kept HK4.out (λk hk _ e=>by have:=HJ.out k hk;have:=HLR.out k e;omega));obtain⟨c0,c1,c2,c3,c4⟩:=HL4.out.cells;have H5:=Fi w4 m HLZ.out.1 HLZ.out.2.1;unfold k7 at H5;clear hr4 pv To;go_wp2_with fail;refine H5.mono ?_;rintro e w5 ⟨v5,rfl,hf5⟩;have HF5:Hid (Fresh w4 w5 v5 (jC m)):=hf5;have HP5:Hid (Row w5 (.slice ap np cp) (bK L)):=hid (HP4.out.kept hf5.kept (λ_ _ f=>f));clear hf5 H5 c0 c1 c2 c3 c4;go_wp2_with (first | (at_builtin;refine bE _ rfl (.tmp 33) (.tmp 35) rfl _ (bK L) rfl HP5.out _ _ (jC m) rfl (Du HF5.out.row) (Src.ofRow HF5.out.row) (by have:=HNN.out;have:=HLZ.out.2.2.1;simp[jC,gF,aA];omega) ?_;intro v6 w6 hr6 Ky OV;have HR6:Hid (Row w6 v6 (bK L++jC m)):=hr6;have HK6:Hid (Kept (λk=>(Value.slice ap np cp).ownBlock=some k) w5 w6):=hid ((Kept.refl _ w5).grown Ky (λk e=>.inl e));have HO6:Hid (v6.ownBlock=(Value.slice ap np cp).ownBlock\/v6.ownBlock=some w5.heap.size):=OV;have HS6:Hid (Src w6 J v2 bd):=hid ((HS4.out.kept HF5.out.kept (λ_ _ _ f=>f)).kept HK6.out (λk hk _ e=>by have:=HJ.out k hk;have:=HLP.out k e;omega));clear hr6 Ky OV) | (at_builtin;refine bE _ rfl (.tmp 36) (.tmp 37) rfl _ (bK L++jC m) rfl HR6.out J _ bd rfl HNI.out HS6.out (by have:=HNN.out;have:=HLZ.out.2.2;simp[jC,gF,aA];omega) ?_;intro v7 w7 NN Th Su));have Mx:v7.ownBlock=v6.ownBlock\/v7.ownBlock=some w6.heap.size:=Su;have HK7:Hid (Kept (λk=>v6.ownBlock=some k) w6 w7):=hid ((Kept.refl _ w6).grown Th (λk e=>.inl e));have HW:Hid (WrI w w7 E (i+1) (L++[⟨m,bd⟩]) v7 v4):=hid (by
    have WB:=HK3.out.size;have D8:=HK4.out.size;have JY:=HF5.out.kept.size;have UJ:=HK6.out.size;have NG:=HI.out.same.size;have IA:∀k,v4.ownBlock=some k->k<w4.heap.size:=λk e=>(World.ownsRow.lt HR4.out k e).2
    have hn4:∀k,v4.ownBlock=some k->w.heap.size<=k:=by
     intro k e;rcases HO4.out with h | h
     ·exact HI.out.newr k (by rw[<-h];exact e)
     ·rw[h]at e;simp only[Option.some.injEq]at e;omega
    have Tw:∀k,v6.ownBlock=some k->w.heap.size<=k:=by
     intro k e;rcases HO6.out with h | h
     ·exact HI.out.newp k (by rw[<-h];exact e)
     ·rw[h]at e;simp only[Option.some.injEq]at e;omega
    have TG:∀k,(Value.slice ap np cp).ownBlock=some k->v4.ownBlock≠some k:=by
     intro k e e4;rcases HO4.out with h | h
     ·exact HI.out.apart k e (by rw[<-h];exact e4)
     ·rw[h]at e4;simp only[Option.some.injEq]at e4;have:=HLP.out k e;omega
    have N6:∀k,v6.ownBlock=some k->v4.ownBlock≠some k:=by
     intro k e e4;rcases HO6.out with h | h
     ·exact TG k (by rw[<-h];exact e) e4
     ·rw[h]at e;simp only[Option.some.injEq]at e;have:=IA k e4;omega
    have hx:(mB ⟨m,bd⟩).length<=8400:=(by rw[F1];have:=HLZ.out.2.2;show 30+m.name.length+bd.length<=8400;omega);refine⟨by rw[List.length_append,HI.out.len];rfl,?_,?_,?_,?_,hn4,?_,?_,?_,?_⟩
    ·intro j x hj;by_cases e:j<i
     ·rw[List.getElem?_append_left (by rw[HI.out.len];exact e)]at hj;exact HI.out.its j x hj
     ·have hlt:=(List.getElem?_eq_some_iff.1 hj).1;rw[List.length_append,HI.out.len]at hlt;simp only[List.length_cons,List.length_nil]at hlt;obtain rfl:j=i:=(by omega);rw[List.getElem?_append_right (by rw[HI.out.len];exact Nat.le_refl _),HI.out.len,Nat.sub_self]at hj;simp only[List.getElem?_cons_zero,Option.some.injEq]at hj;subst hj;refine⟨bs,?_,?_⟩
      ·rw[<-HY.out];exact HX.out.1
      ·rw[<-HY.out,<-HX.out.2.1,<-HX.out.2.2]
    ·rw[sR];have:mB ⟨m,bd⟩=jC m++bd:=rfl;rw[this,<-List.append_assoc];exact NN
    ·rw[sZ,Nat.zero_add,<-HNN.out.1];exact(((HR4.out.kept HF5.out.kept (λ_ _ f=>f)).kept HK6.out (λk e f=>TG k f e)).kept HK7.out (λk e f=>N6 k f e))
    ·intro k e;rcases Mx with h | h
     ·exact Tw k (by rw[<-h];exact e)
     ·rw[h]at e;simp only[Option.some.injEq]at e;omega
    ·intro k e e4;rcases Mx with h | h
     ·exact N6 k (by rw[<-h];exact e) e4
     ·rw[h]at e;simp only[Option.some.injEq]at e;have:=IA k e4;omega
    ·exact Same.then (Same.then (Same.trans (Same.then (Same.trans HI.out.same HK3.out) HK4.out (λk hk f=>by have:=HI.out.newr k f;omega)) HF5.out.kept) HK6.out (λk hk f=>by have:=HI.out.newp k f;omega)) HK7.out (λk hk f=>by have:=Tw k f;omega)
    ·rw[sR,List.length_append];have:=HI.out.lenp;rw[Nat.succ_mul];omega
    ·rw[sZ,List.length_append,wM];have:=HI.out.lenr;have:=HLZ.out.2.2.1;rw[Nat.succ_mul];show(cG 0 L).length+(46+m.name.length)<=_;omega)
   clear NN Th Su Mx;go_wp2_with fail;go_roundg (gk-1)
   case measure=>omega
   case rel=>exact⟨i+1,_,by go_num,by omega,by omega,HW⟩
  ·have rj:decide (i<len)=false:=(by simp;omega);obtain rfl:i=len:=(by omega);have HE:=GH wr i nr np (by omega) (by omega) (by omega);go_wp2_with fail;refine HE.mono ?_;rintro e w2 ⟨v2,rfl,hf2⟩;have rf:(lM i nr np).length=22:=(by simp[lM,aA]);obtain⟨a2,c2,oe,_⟩:=hf2.row.shape;rw[rf]at oe;subst oe;have HF2:Hid (Fresh wr w2 (.slice a2 22 c2) (lM i nr np)):=hf2;obtain⟨wB,xS⟩:∃W,W=w2.alloc (.cells #[.slice ap np cp,.slice ar nr cr,.slice a2 22 c2] 22):=⟨_,rfl⟩
   have hb:=Blk.new w2 #[.slice ap np cp,.slice ar nr cr,.slice a2 22 c2] 22;rw[<-xS]at hb;have uB:Same w2 wB:=(by rw[xS];exact(Kept.refl _ w2).alloc _);have hkW:Same wr wB:=Same.trans hf2.kept uB;have HCC:=wu wB w2.heap.size ap ar a2 np nr 22 cp cr c2 _ _ _ (bK L) (cG 0 L) (lM i nr np) (hb.cell 0) (hb.cell 1) (hb.cell 2) ((Src.ofRow HI.out.pie).kept hkW (λ_ _ _ f=>f)) ((Src.ofRow HI.out.recs).kept hkW (λ_ _ _ f=>f)) ((Src.ofRow hf2.row).kept uB (λ_ _ _ f=>f)) (Du HI.out.pie) (Du HI.out.recs) (Du hf2.row) (by decide) (by omega) (by omega) (by decide);have HKW:Hid (Same w wB):=hid (Same.trans HI.out.same hkW);clear hf2 hb uB hkW HE rf;go_wp2_with fail;rw[<-xS];clear xS;refine HCC.mono ?_;rintro e w3 ⟨v3,rfl,hf3⟩;have HF3:Hid (Fresh w w3 v3 (ey L)):=hid (by
    have h9:=Fresh.base8 HKW.out hf3;unfold ey;rw[HI.out.len,<-HNN.out.1,<-HNN.out.2,<-List.append_assoc];exact h9)
   clear hf3 HCC;go_wp2_with fail;refine bodyPost_ret (v:=.tuple #[v3,.int .i64 0]) (by simp[results,Tryz.results7,go_sem]) rfl ?_;exact⟨v3,L,rfl,HF3.out,HI.out.len,HI.out.its⟩
def UnpZ(w w':World)(o:Except Nat (List Nat))(e:Ending):Prop:=
 (∀d,o=.ok d->e=.returned (.string (bF d)))/\(∀n,o=.error n->e=aG n)/\Same w w'
theorem ui(w:World)(m:Mk)(a:Option Addr)(n c:Nat)(I:Nat→Prop)(bs:List Nat)(hs:Src w I (.slice a n c) bs)(hb:∀b∈bs,b<256)(hl:bs.length≤100000)(hw:m.way=0)(hq:more 0 bs=m.sum):
  Calls Tryz.prog 22 #[.agg (jE m (.slice a n c))] w λe w'=>UnpZ w w' (.ok bs) e:=by
 have HS:Hid (Src w I (.slice a n c) bs):=hs;have HB:Hid ((∀b∈bs,b<256)/\bs.length<=100000):=hid ⟨hb,hl⟩;have w8:((m.way:Int)==8)=false:=by simp;omega
 clear hs hb hl;obtain⟨W1,hW1⟩:∃W,W=w.alloc (.cells (jE m (.slice a n c)) 49):=⟨_,rfl⟩
 obtain⟨xb,gW⟩:∃b,b=w.heap.size:=⟨_,rfl⟩
 have HK1:Hid (Same w W1):=hid (by rw[hW1];exact(Kept.refl _ w).alloc _);have HX1:Hid (Blk W1 xb (jE m (.slice a n c)) 49):=hid (by rw[hW1,gW];exact Blk.new w _ _);have q1:W1.cell? ⟨xb,1,none⟩=some (.int .u32 (m.sum:Nat)):=HX1.out.cell 1;have HSN:Hid (∀wx,Same W1 wx->Calls Tryz.prog 31 #[.slice a n c] wx λe w'=>e=.returned (.int .u32 (more 0 bs:Nat))/\w'=wx):=hid (λwx hk=>iU wx _ _ _ (HS.out.kept (Same.trans HK1.out hk) (λ_ _ _ f=>f)) HB.out.1 (by have:=HB.out.2;omega));have HGS:Hid (∀wx,Same W1 wx->(convert 22 9 (.slice a n c)).run Tryz.prog wx=.ok (.string (bF bs)) wx):=hid (λwx hk=>Gl (HS.out.kept (Same.trans HK1.out hk) (λ_ _ _ f=>f)) (by obtain⟨_,_,e,_⟩:=HS.out;simp only[Value.slice.injEq]at e;exact e.2.1.symm));obtain⟨sm,fK⟩:∃s,s=more 0 bs:=⟨_,rfl⟩
 rw[<-fK]at HSN hq;unfold jE at hW1 ⊢
 ·have Sg:((sm:Int)==(m.sum:Int))=true:=(by simp;omega);clear fK hq;go_enter Tryz.func22,Tryz.ntmps22;go_wp2_with fail;rw[hw]at hW1;rw[<-gW];have e1:w.alloc (Obj.cells #[Value.int .u16 0,.int .u32 (m.sum:Nat),.int .u32 (m.packed:Nat),.int .u32 (m.size:Nat),.string (bF m.name),.slice a n c] 49)=W1:=hW1.symm;rw[e1];clear hW1 e1 gW;go_region_held3 (λw'=>w'.cell? ⟨xb,1,none⟩=some (.int .u32 (m.sum:Nat)))
   (first
    | (go_split_ands;assumption)
    | go_keep)
   (first
    | (go_at_call 31;refine(HSN.out _ (by first | exact Kept.refl _ _ | exact(Kept.refl _ _).drew | exact(Kept.refl _ _).drewN _)).mono ?_;rintro e w4 ⟨rfl,hw4⟩;subst hw4)
    | (go_at_call 23;refine(bi _ _).mono ?_;rintro e w5 ⟨rfl,l5⟩;subst l5))
  all_goals
   have gs:=HGS.out W1.drew ((Kept.refl _ W1).drew);go_wp2_with fail;go_ret;exact⟨λd e=>by simp only[Except.ok.injEq]at e;subst e;rfl,λk e=>by simp at e,Same.trans HK1.out ((Kept.refl _ W1).drew)⟩
theorem EL(w:World)(m:Mk)(v:Value)(hm:gE m):
  Calls Tryz.prog 15 #[.agg (jE m v)] w λe w'=>e=.returned (.agg #[.string (bF m.name),.int .i64 (m.size:Nat),.int .i64 (m.packed:Nat),.int .u32 (m.sum:Nat),.int .i64 (m.way:Nat)])/\Same w w':=by
 have h1:IntKind.i64.wrap (m.size:Int)=(m.size:Int):=by rw[IntKind.wrap_i64];have:=hm.size;omega
 have h2:IntKind.i64.wrap (m.packed:Int)=(m.packed:Int):=by rw[IntKind.wrap_i64];have:=hm.packed;omega
 have h3:IntKind.i64.wrap (m.way:Int)=(m.way:Int):=by rw[IntKind.wrap_i64];have:=hm.way;omega
 clear hm;unfold jE;go_enter Tryz.func15,Tryz.ntmps15;go_wp2_with fail;obtain⟨wz,nk⟩:∃W,W=(w.alloc (.cells #[.int .u16 (m.way:Nat),.int .u32 (m.sum:Nat),.int .u32 (m.packed:Nat),.int .u32 (m.size:Nat),.string (bF m.name),v] 49)).alloc (.cells #[.string (bF m.name),.int .i64 (m.size:Nat),.int .i64 (m.packed:Nat),.int .u32 (m.sum:Nat),.int .i64 (m.way:Nat)] 37):=⟨_,rfl⟩
 have hb:=Blk.new (w.alloc (.cells #[.int .u16 (m.way:Nat),.int .u32 (m.sum:Nat),.int .u32 (m.packed:Nat),.int .u32 (m.size:Nat),.string (bF m.name),v] 49)) #[.string (bF m.name),.int .i64 (m.size:Nat),.int .i64 (m.packed:Nat),.int .u32 (m.sum:Nat),.int .i64 (m.way:Nat)] 37;rw[World.size_alloc,<-nk]at hb;have hk:Same w wz:=by rw[nk];exact((Kept.refl _ w).alloc _).alloc _
 have z0:=hb.cell 0;have z1:=hb.cell 1;have z2:=hb.cell 2;have z3:=hb.cell 3;have z4:=hb.cell 4;simp at z0 z1 z2 z3 z4;rw[<-nk];refine bodyPost_ret (v:=.agg #[.string (bF m.name),.int .i64 (m.size:Nat),.int .i64 (m.packed:Nat),.int .u32 (m.sum:Nat),.int .i64 (m.way:Nat)]) (by rw[lk rfl];simp[go_sem,z0,z1,z2,z3,z4]) rfl ?_;exact⟨rfl,hk⟩
theorem mv(w:World):
  Calls Tryz.prog 11 #[.nilIface] w λe w'=>e=.returned (.int .i64 0)/\w'=w:=by
 go_enter Tryz.func11,Tryz.ntmps11;go_wp2_with fail;go_ret;exact⟨rfl,rfl⟩
theorem Tryz.asErrno(v:Value)(w:World):(Instr.typeAssert (.iface 25 v) 20 25 false).run Tryz.prog w=.ok v w:=by kernel_rfl
theorem mK(w:World)(n:Nat):
  Calls Tryz.prog 11 #[.iface 25 (.int .i64 (n:Nat))] w λe w'=>e=.returned (.int .i64 (n:Nat))/\w'=w:=by
 have MX:=Tryz.asErrno (.int .i64 (n:Nat)) w;go_enter Tryz.func11,Tryz.ntmps11;go_wp2_with fail;go_ret;exact⟨rfl,rfl⟩
theorem xN(w:World)(m:Mk)(a:Option Addr)(n c:Nat)(I:Nat→Prop)(bs:List Nat)(hs:Src w I (.slice a n c) bs)(hb:∀b∈bs,b<256)(hl:bs.length≤100000)(hw:m.way=0)(hq:¬more 0 bs=m.sum):
  Calls Tryz.prog 22 #[.agg (jE m (.slice a n c))] w λe w'=>UnpZ w w' (.error 83) e:=by
 have HS:Hid (Src w I (.slice a n c) bs):=hs;have HB:Hid ((∀b∈bs,b<256)/\bs.length<=100000):=hid ⟨hb,hl⟩;have w8:((m.way:Int)==8)=false:=by simp;omega
 clear hs hb hl;obtain⟨W1,hW1⟩:∃W,W=w.alloc (.cells (jE m (.slice a n c)) 49):=⟨_,rfl⟩
 obtain⟨xb,gW⟩:∃b,b=w.heap.size:=⟨_,rfl⟩
 have HK1:Hid (Same w W1):=hid (by rw[hW1];exact(Kept.refl _ w).alloc _);have HX1:Hid (Blk W1 xb (jE m (.slice a n c)) 49):=hid (by rw[hW1,gW];exact Blk.new w _ _);have q1:W1.cell? ⟨xb,1,none⟩=some (.int .u32 (m.sum:Nat)):=HX1.out.cell 1;have HSN:Hid (∀wx,Same W1 wx->Calls Tryz.prog 31 #[.slice a n c] wx λe w'=>e=.returned (.int .u32 (more 0 bs:Nat))/\w'=wx):=hid (λwx hk=>iU wx _ _ _ (HS.out.kept (Same.trans HK1.out hk) (λ_ _ _ f=>f)) HB.out.1 (by have:=HB.out.2;omega));have HGS:Hid (∀wx,Same W1 wx->(convert 22 9 (.slice a n c)).run Tryz.prog wx=.ok (.string (bF bs)) wx):=hid (λwx hk=>Gl (HS.out.kept (Same.trans HK1.out hk) (λ_ _ _ f=>f)) (by obtain⟨_,_,e,_⟩:=HS.out;simp only[Value.slice.injEq]at e;exact e.2.1.symm));obtain⟨sm,fK⟩:∃s,s=more 0 bs:=⟨_,rfl⟩
 rw[<-fK]at HSN hq;unfold jE at hW1 ⊢
 ·have Sg:((sm:Int)==(m.sum:Int))=false:=(by simp;omega);clear fK hq;go_enter Tryz.func22,Tryz.ntmps22;go_wp2_with fail;rw[hw]at hW1;rw[<-gW];have e1:w.alloc (Obj.cells #[Value.int .u16 0,.int .u32 (m.sum:Nat),.int .u32 (m.packed:Nat),.int .u32 (m.size:Nat),.string (bF m.name),.slice a n c] 49)=W1:=hW1.symm;rw[e1];clear hW1 e1 gW;go_region_dies
  ·refine(HSN.out _ ((Kept.refl _ W1).drew)).mono ?_;rintro e w4 ⟨rfl,hw4⟩;subst hw4;have q2:W1.drew.cell? ⟨xb,1,none⟩=some (.int .u32 (m.sum:Nat)):=q1;go_wp2_with fail;refine wpAny_ready (rs:=[4]) (by kernel_rfl) (by simp) ?_;refine AllReady.cons rfl (λK hK=>?_) AllReady.nil;go_simp;refine hK _ _ ?_;clear hK K;refine wpAny_ready (rs:=[5]) (by kernel_rfl) (by simp) ?_;refine AllReady.cons rfl (λK hK=>?_) AllReady.nil;go_simp;refine hK _ _ ?_;clear hK K;refine wpAny_ready (rs:=[6]) (by kernel_rfl) (by simp) ?_;refine AllReady.cons rfl (λK hK=>?_) AllReady.nil;go_simp;refine(aM _ 83).mono ?_;rintro e w5 ⟨rfl,l5⟩;subst l5;exact⟨rfl,λd e=>(by simp at e),λk e=>(by simp only[Except.error.injEq]at e;subst e;rfl),Same.trans HK1.out ((Kept.refl _ W1).drew)⟩
  ·refine(HSN.out _ ((Kept.refl _ W1).drew)).mono ?_;rintro e w4 ⟨rfl,hw4⟩;subst hw4;have q2:W1.drew.cell? ⟨xb,1,none⟩=some (.int .u32 (m.sum:Nat)):=q1;go_wp2_with fail;refine wpAny_ready (rs:=[5]) (by kernel_rfl) (by simp) ?_;refine AllReady.cons rfl (λK hK=>?_) AllReady.nil;go_simp;refine hK _ _ ?_;clear hK K;refine wpAny_ready (rs:=[6]) (by kernel_rfl) (by simp) ?_;refine AllReady.cons rfl (λK hK=>?_) AllReady.nil;go_simp;refine(aM _ 83).mono ?_;rintro e w5 ⟨rfl,l5⟩;subst l5;exact⟨rfl,λd e=>(by simp at e),λk e=>(by simp only[Except.error.injEq]at e;subst e;rfl),Same.trans HK1.out ((Kept.refl _ W1).drew)⟩
theorem UnpZ.bad{w w':World}{o:Except Nat (List Nat)}{e:Ending}{k:Nat}(h:o=.error k)(he:e=aG k)(hk:Same w w'):UnpZ w w' o e:=
 ⟨λd h'=>(by rw[h]at h';cases h'),λn h'=>by rw[h]at h';simp only[Except.error.injEq]at h';subst h';exact he,hk⟩
theorem UnpZ.good{w w':World}{o:Except Nat (List Nat)}{e:Ending}{d:List Nat}(h:o=.ok d)(he:e=.returned (.string (bF d)))(hk:Same w w'):UnpZ w w' o e:=
 ⟨λd' h'=>by rw[h]at h';simp only[Except.ok.injEq]at h';subst h';exact he,λn h'=>(by rw[h]at h';cases h'),hk⟩
theorem xM(w:World)(m:Mk)(a:Option Addr)(n c:Nat)(I:Nat→Prop)(bs:List Nat)(hs:Src w I (.slice a n c) bs)(hb:∀b∈bs,b<256)(hl:bs.length≤100000)(hn:n=bs.length)(hw:m.way=8)(hz:m.size≤8192)(ha:a≠none)(hT:Tab w):
  Calls Tryz.prog 22 #[.agg (jE m (.slice a n c))] w λe w'=>UnpZ w w' (c8 ⟨m,bs⟩) e:=by
 have w8:((m.way:Int)==8)=true:=by simp;omega
 obtain⟨W1,hW1⟩:∃W,W=w.alloc (.cells (jE m (.slice a n c)) 49):=⟨_,rfl⟩
 obtain⟨xb,gW⟩:∃b,b=w.heap.size:=⟨_,rfl⟩
 have HK1:Hid (Same w W1):=hid (by rw[hW1];exact(Kept.refl _ w).alloc _);have HX1:Hid (Blk W1 xb (jE m (.slice a n c)) 49):=hid (by rw[hW1,gW];exact Blk.new w _ _);have HI:=Cu W1 (.slice a n c) I bs m.size (hs.kept HK1.out (λ_ _ _ f=>f)) hb (λn9 c9 e=>by simp only[Value.slice.injEq]at e;exact absurd e.1 ha) (by omega) (by omega) (hT.kept HK1.out (λf=>f));have Ud:IntKind.i64.wrap (m.size:Int)=(m.size:Int):=by rw[IntKind.wrap_i64];omega
 have HN:Hid (n=bs.length/\m.way=8/\bs.length<=100000):=hid ⟨hn,hw,hl⟩;have hn2:n<=100000:=by omega
 clear hs hb hl ha hT hn;unfold jE at hW1 ⊢;go_enter Tryz.func22,Tryz.ntmps22;go_wp2_with fail;rw[hw]at hW1;rw[<-gW];have e1:w.alloc (Obj.cells #[Value.int .u16 8,.int .u32 (m.sum:Nat),.int .u32 (m.packed:Nat),.int .u32 (m.size:Nat),.string (bF m.name),.slice a n c] 49)=W1:=hW1.symm;rw[e1];clear hW1 e1 gW;refine HI.mono ?_;intro e w2 h2;cases h2 with
 | fail t er he h0 hx hk=>
  subst hx;have HU:Hid (c8 ⟨m,bs⟩=.error 84):=hid (by
   have hr:=(Bu he).1;unfold c8;rw[if_pos HN.out.2.1,if_neg (λh9=>h0 (by rw[<-hr];exact h9.1))])
  have HK2:Hid (Same w w2):=hid (Same.trans HK1.out hk);have M5:((er:Int)==0)=false:=(by simp;omega);have HO:=aM w2 84;clear he h0 hk HI HX1 hw;go_wp2_with fail;refine HO.mono ?_;rintro e w3 ⟨rfl,hw3⟩;subst hw3;clear HO;unfold aG;go_wp2_with fail;exact⟨rfl,UnpZ.bad HU.out rfl HK2.out⟩
 | done t v' he hx hr hv hk hww=>
  subst hx;obtain⟨r1,r2,r3⟩:=Bu he;have r2:=r2 (.inl rfl);have r3:=r3 rfl;have Sk:=sF he;obtain⟨O,hO⟩:∃O,O=t.out:=⟨_,rfl⟩
  obtain⟨q,hq⟩:∃q,q=(t.c+7) / 8:=⟨_,rfl⟩
  rw[<-hO]at hr Sk r2;rw[<-hq];have HQ:Hid (c8 ⟨m,bs⟩=if q=bs.length/\O.length=m.size then(if more 0 O=m.sum then .ok O else .error 83)else .error 84):=hid (by
   unfold c8;rw[if_pos HN.out.2.1];simp only;rw[r1,r2,r3,<-hq];simp)
  have HK2:Hid (Same w w2):=hid (Same.trans HK1.out hk);have HX2:Hid (Blk w2 xb (jE m (.slice a n c)) 49):=hid (HX1.out.kept hk (λf=>f));have HR:Hid (Row w2 v' O):=hr;have HOB:Hid (∀b∈O,b<256):=Sk;obtain⟨a3,c3,pc,_⟩:=hr.shape;obtain⟨lo,lB⟩:∃l,l=O.length:=⟨_,rfl⟩
  rw[<-lB]at pc HQ;subst pc;have HLO:Hid (lo=O.length):=lB;have x1:w2.cell? ⟨xb,1,none⟩=some (.int .u32 (m.sum:Nat)):=HX2.out.cell 1;have x3:w2.cell? ⟨xb,3,none⟩=some (.int .u32 (m.size:Nat)):=HX2.out.cell 3;have x5:w2.cell? ⟨xb,5,none⟩=some (.slice a n c):=HX2.out.cell 5;have HN2:=HN.out.1;clear he hr hv hk hww HI HX1 r1 r2 r3 Sk hO hq lB hw;by_cases q1:q=n
  ·subst q1;by_cases q2:lo=m.size
   ·have HU:Hid (c8 ⟨m,bs⟩=if more 0 O=m.sum then .ok O else .error 83):=hid (by rw[HQ.out,if_pos ⟨HN2,q2⟩]);have g2:((lo:Int)==(m.size:Int))=true:=(by simp;omega);have HO:=bi w2 (.int .i64 84);have TZ:lo<=8192:=(by omega);clear HQ q2 HN2;have HSN:Hid (∀wx,Same w2 wx->Calls Tryz.prog 31 #[.slice a3 lo c3] wx λe w'=>e=.returned (.int .u32 (more 0 O:Nat))/\w'=wx):=hid (λwx hk=>iU wx _ _ _ (Src.ofRow (HR.out.kept hk (λ_ _ f=>f))) HOB.out (by have:=HLO.out;omega));have HGS:Hid (∀wx,Same w2 wx->(convert 22 9 (.slice a3 lo c3)).run Tryz.prog wx=.ok (.string (bF O)) wx):=hid (λwx hk=>Gl (Src.ofRow (HR.out.kept hk (λ_ _ f=>f))) HLO.out.symm);obtain⟨sm,fK⟩:∃s,s=more 0 O:=⟨_,rfl⟩
    rw[<-fK]at HSN HU;clear fK;go_wp2_with fail;refine HO.mono ?_;rintro e w3 ⟨rfl,hw3⟩;subst hw3;clear HO x3 x5;by_cases hq:sm=m.sum
    ·have Sg:((sm:Int)==(m.sum:Int))=true:=(by simp;omega);have HU:Hid (c8 ⟨m,bs⟩=.ok O):=hid (by rw[HU.out,if_pos hq]);clear hq;go_wp2_with fail;go_region_held3 (λw'=>w'.cell? ⟨xb,1,none⟩=some (.int .u32 (m.sum:Nat)))
      (first
       | (go_split_ands;assumption)
       | go_keep)
      (first
       | (go_at_call 31;refine(HSN.out _ (by first | exact Kept.refl _ _ | exact(Kept.refl _ _).drew | exact(Kept.refl _ _).drewN _)).mono ?_;rintro e w4 ⟨rfl,hw4⟩;subst hw4)
       | (go_at_call 23;refine(bi _ _).mono ?_;rintro e w5 ⟨rfl,l5⟩;subst l5))
     all_goals
      have gs:=HGS.out w3.drew ((Kept.refl _ w3).drew);go_wp2_with fail;go_ret;exact UnpZ.good HU.out rfl (Same.trans HK2.out ((Kept.refl _ w3).drew))
    ·have Sg:((sm:Int)==(m.sum:Int))=false:=(by simp;omega);have HU:Hid (c8 ⟨m,bs⟩=.error 83):=hid (by rw[HU.out,if_neg hq]);clear hq;go_wp2_with fail;go_region_dies
     ·refine(HSN.out _ ((Kept.refl _ w3).drew)).mono ?_;rintro e w4 ⟨rfl,hw4⟩;subst hw4;have q2:w3.drew.cell? ⟨xb,1,none⟩=some (.int .u32 (m.sum:Nat)):=x1;go_wp2_with fail;refine wpAny_ready (rs:=[4]) (by kernel_rfl) (by simp) ?_;refine AllReady.cons rfl (λK hK=>?_) AllReady.nil;go_simp;refine hK _ _ ?_;clear hK K;refine wpAny_ready (rs:=[5]) (by kernel_rfl) (by simp) ?_;refine AllReady.cons rfl (λK hK=>?_) AllReady.nil;go_simp;refine hK _ _ ?_;clear hK K;refine wpAny_ready (rs:=[6]) (by kernel_rfl) (by simp) ?_;refine AllReady.cons rfl (λK hK=>?_) AllReady.nil;go_simp;refine(aM _ 83).mono ?_;rintro e w5 ⟨rfl,l5⟩;subst l5;exact⟨rfl,UnpZ.bad HU.out rfl (Same.trans HK2.out ((Kept.refl _ w3).drew))⟩
     ·refine(HSN.out _ ((Kept.refl _ w3).drew)).mono ?_;rintro e w4 ⟨rfl,hw4⟩;subst hw4;have q2:w3.drew.cell? ⟨xb,1,none⟩=some (.int .u32 (m.sum:Nat)):=x1;go_wp2_with fail;refine wpAny_ready (rs:=[5]) (by kernel_rfl) (by simp) ?_;refine AllReady.cons rfl (λK hK=>?_) AllReady.nil;go_simp;refine hK _ _ ?_;clear hK K;refine wpAny_ready (rs:=[6]) (by kernel_rfl) (by simp) ?_;refine AllReady.cons rfl (λK hK=>?_) AllReady.nil;go_simp;refine(aM _ 83).mono ?_;rintro e w5 ⟨rfl,l5⟩;subst l5;exact⟨rfl,UnpZ.bad HU.out rfl (Same.trans HK2.out ((Kept.refl _ w3).drew))⟩
   ·have HU:Hid (c8 ⟨m,bs⟩=.error 84):=hid (by rw[HQ.out,if_neg (λh9=>q2 h9.2)]);have g2:((lo:Int)==(m.size:Int))=false:=(by simp;omega);have HO:=aM w2 84;clear HQ q2 HN2;go_wp2_with fail;refine HO.mono ?_;rintro e w3 ⟨rfl,hw3⟩;subst hw3;clear HO;unfold aG;go_wp2_with fail;exact⟨rfl,UnpZ.bad HU.out rfl HK2.out⟩
  ·have HU:Hid (c8 ⟨m,bs⟩=.error 84):=hid (by rw[HQ.out,if_neg (λh9=>q1 (by omega))]);have g1:((q:Int)==(n:Int))=false:=(by simp;omega);have HO:=aM w2 84;clear HQ q1 HN2;go_wp2_with fail;refine HO.mono ?_;rintro e w3 ⟨rfl,hw3⟩;subst hw3;clear HO;unfold aG;go_wp2_with fail;exact⟨rfl,UnpZ.bad HU.out rfl HK2.out⟩
theorem C7(w:World)(a:Option Addr)(n c:Nat)(hn:1048576<n)(hn2:n≤100000000):
  Calls Tryz.prog 13 #[.slice a n c] w λe w'=>e=aG 2/\Same w w':=by
 have b1:decide ((n:Int)<=1048576)=false:=by simp;omega
 have b2:decide (n<=1048576)=false:=by simp;omega
 have HO:=aM w 2;clear hn;go_enter Tryz.func13,Tryz.ntmps13;go_wp2_with fail;refine HO.mono ?_;rintro e w1 ⟨rfl,hw1⟩;subst hw1;clear HO;unfold aG;go_wp2_with fail;exact⟨rfl,rfl,Kept.refl _ _⟩
theorem yL(w:World)(a:Option Addr)(n c:Nat)(hn:n<22):
  Calls Tryz.prog 13 #[.slice a n c] w λe w'=>e=aG 81/\Same w w':=by
 have b1:decide ((n:Int)<=1048576)=true:=by simp;omega
 have b2:decide (n<=1048576)=true:=by simp;omega
 have b3:decide ((22:Int)<=(n:Int))=false:=by simp;omega
 have b4:decide (22<=n)=false:=by simp;omega
 have HO:=bi w (.int .i64 2);have HP:=aM w 81;clear hn;go_enter Tryz.func13,Tryz.ntmps13;go_wp2_with fail;refine HO.mono ?_;rintro e w1 ⟨rfl,hw1⟩;subst hw1;clear HO;go_wp2_with fail;refine HP.mono ?_;rintro e w2 ⟨rfl,hw2⟩;subst hw2;clear HP;unfold aG;go_wp2_with fail;exact⟨rfl,rfl,Kept.refl _ _⟩
theorem Fc(w:World)(b o:Nat)(c:Nat)(bs:List Nat)(n:Nat)(hL:n=bs.length)(hs:Src w (fun k=>k<w.heap.size) (.slice (some ⟨b,o,none⟩) n c) bs)(hb:∀x∈bs,x<256)(cj:n≤c)(h1:22≤n)(h2:n≤1048576)(x:Nat)(he:iy (bs.drop (n-22)) (n-22)=.error x):
  Calls Tryz.prog 13 #[.slice (some ⟨b,o,none⟩) n c] w λe w'=>e=aG x/\Same w w':=by
 have b1:decide ((n:Int)<=1048576)=true:=by simp;omega
 have b2:decide (n<=1048576)=true:=by simp;omega
 have b3:decide ((22:Int)<=(n:Int))=true:=by simp;omega
 have b4:decide (22<=n)=true:=by simp;omega
 obtain⟨p,hp⟩:∃p,p=n-22:=⟨_,rfl⟩
 have KO:(n:Int)-22=(p:Int):=by omega
 have lY:IntKind.i64.wrap (p:Int)=(p:Int):=by rw[IntKind.wrap_i64];omega
 have i1:(0:Int)<=(p:Int):=by omega
 have i2:(p:Int)<=(n:Int):=by omega
 have i3:(n:Int)<=(c:Int):=by omega
 have HO:=bi w (.int .i64 2);have HP:=bi w (.int .i64 81);rw[<-hp]at he;have yj:(bs.drop p).length=22:=by rw[List.length_drop];omega
 have HSD:Hid (∀c',Src w (λk=>k<w.heap.size) (.slice (some ⟨b,o+p,none⟩) (bs.drop p).length c') (bs.drop p)):=hid (λc'=>by
  obtain⟨ao,cap,e,h9⟩:=hs;simp only[Value.slice.injEq]at e;obtain⟨e1,e2,e3⟩:=e;refine⟨_,_,rfl,λ_=>⟨b,o+p,rfl,?_⟩⟩;obtain⟨b',o',e4,h5,h6⟩:=h9 (λe=>by rw[e]at hL;simp at hL;omega);rw[<-e1]at e4;simp only[Option.some.injEq,Addr.mk.injEq,and_true]at e4;obtain⟨rfl,rfl⟩:=e4;refine⟨h5,λj hj=>?_⟩;rw[List.length_drop]at hj;have:=h6 (p+j) (by omega);rw[List.getElem_drop,Nat.add_assoc];exact this)
 have HE:Hid (∀c',22<=c'->Calls Tryz.prog 24 #[.slice (some ⟨b,o+p,none⟩) 22 c',.int .i64 (p:Nat)] w λe w'=>EndA w w' (iy (bs.drop p) p) e):=hid (λc' h9=>by
  have h8:=A7 w.heap.size w (bs.drop p) (some ⟨b,o+p,none⟩) c' p (HSD.out c') (by omega) (Nat.le_refl _) (λx hx=>hb x (List.mem_of_mem_drop hx)) (by omega) (by omega) (by simp);rw[yj]at h8;exact h8)
 have Iu:n-p=22:=by omega
 have HER:Hid (iy (bs.drop p) p=.error x):=he;clear hs hb h1 h2 yj he hp hL;go_enter Tryz.func13,Tryz.ntmps13;go_wp2_with fail;refine HO.mono ?_;rintro e w1 ⟨rfl,hw1⟩;subst hw1;clear HO;go_wp2_with fail;refine HP.mono ?_;rintro e w2 ⟨rfl,hw2⟩;subst hw2;clear HP;go_wp2_with fail;refine(HE.out _ (by omega)).mono ?_;intro e w3 h3;obtain⟨rfl,hk3⟩:=h3.2 x HER.out;have HK3:Hid (Same w2 w3):=hk3;clear h3 hk3;unfold aG;go_wp2_with fail;exact⟨rfl,rfl,HK3.out⟩
end Go.Proofs.YtllcnlnbpikhdaaGreatDoor
namespace Go.Proofs.YtllcnlnbpikhdaaGreatDoor
theorem IF{E:Nat->En}{s:ByteArray}{n:Nat}(h:kK E s n=false):∀i,i<n->(E i).n≠s:=by intro i hi e;rw[Bf hi e]at h;cases h
theorem zI{E:Nat->En}{n:Nat}(h:gZ E n=0):∀i j,i<j->j<n->(E i).n≠(E j).n:=by
 intro i j Hf hj;unfold gZ at h;split at h
 ·cases h
 ·have h2:=wm h j (Nat.zero_le _) (by omega);unfold uy at h2;split at h2
  ·cases h2
  ·rename_i h3;cases h5:kK E (E j).n j with
   | true=>exact absurd (.inr h5) h3
   | false=>exact IF h5 i Hf
theorem I3{y:En}{bs:List Nat}(hn:fa (sb y.n)=true)(hd:y.d.size<=8192):ItOk ⟨fT y bs,fB y bs⟩:=by
 obtain⟨h1,_,_,h4⟩:=ug y bs hn hd;refine⟨h1,rfl,Bn hn (by simp) ?_ hd ?_ ?_⟩
 ·show(if bs.length<y.d.size then 8 else 0)=0\/(if bs.length<y.d.size then 8 else 0)=8;split
  ·exact .inr rfl
  ·exact .inl rfl
 ·show(fB y bs).length<=16384;omega
 ·show(if bs.length<y.d.size then 8 else 0)=8\/(fB y bs).length=y.d.size;by_cases h:bs.length<y.d.size
  ·rw[if_pos h];exact .inl rfl
  ·right
   unfold fB;rw[if_neg h,dU]
theorem EV{E:Nat->En}{len:Nat}{L:List It}(h:lu E len L)(hc:gZ E len=0):(∀x∈L,ItOk x)/\(be L).Nodup/\L.length<=64:=by
 obtain⟨h64,hok⟩:=mG hc;refine⟨λx hx=>?_,?_,by rw[h.1];exact h64⟩
 ·obtain⟨j,hj,rfl⟩:=List.getElem_of_mem hx;obtain⟨bs,_,e⟩:=h.2 j L[j] (List.getElem?_eq_getElem hj);rw[e];have:=hok j (by rw[<-h.1];exact hj);exact I3 this.1 this.2
 ·unfold List.Nodup be;rw[List.pairwise_map,List.pairwise_iff_getElem];intro i j hi hj Hf e;obtain⟨b1,_,e1⟩:=h.2 i L[i] (List.getElem?_eq_getElem hi);obtain⟨b2,_,e2⟩:=h.2 j L[j] (List.getElem?_eq_getElem hj);rw[e1,e2]at e;exact zI hc i j Hf (by rw[<-h.1];exact hj) (Lb e)
theorem FU{L:List It}(h:∀x∈L,ItOk x):(bK L).length<=L.length*16600/\(cG 0 L).length<=L.length*120:=by
 rw[tH]
 induction L with
 | nil=>simp[bK]
 | cons x r ih=>
  obtain⟨i1,i2⟩:=ih (λy hy=>h y (by simp[hy]));have hx:=h x (by simp);obtain⟨hn,_,_,_,hp,_⟩:=fZ hx.ok;have hn2:x.lab.name.length<=64:=by unfold fa at hn;simp only[Bool.and_eq_true,decide_eq_true_eq]at hn;exact hn.1
  have:=hx.len;rw[gN,List.length_append,oD,List.length_cons];simp only[List.map_cons,List.sum_cons];constructor
  ·omega
  ·omega
theorem nw{E:Nat->En}{len:Nat}{L:List It}(h:lu E len L)(hc:gZ E len=0):(ey L).length<=1048576:=by
 obtain⟨h64,hok⟩:=mG hc;obtain⟨ho,Pw,hl⟩:=EV h hc;have h2:=(FU ho).2;have h3:(bK L).length<=L.length*8400:=by
  have:∀x∈L,(mB x).length<=8400:=λx hx=>by obtain⟨j,hj,rfl⟩:=List.getElem_of_mem hx;obtain⟨bs,_,e⟩:=h.2 j L[j] (List.getElem?_eq_getElem hj);rw[oD,e];have h9:=hok j (by rw[<-h.1];exact hj);obtain⟨_,_,h3,h4⟩:=ug (E j) bs h9.1 h9.2;show 30+(fT (E j) bs).name.length+(fB (E j) bs).length<=8400;omega
  clear h2 ho hl h Pw
  induction L with
  | nil=>simp[bK]
  | cons x r ih=>
   have i1:=ih (λy hy=>this y (by simp[hy]));have:=this x (by simp);rw[gN,List.length_append,List.length_cons];omega
 rw[ox];omega
theorem vJ{E:Nat->En}{len:Nat}{L:List It}(h:lu E len L)(hc:gZ E len=0):fU (ey L)=.ok L:=by obtain⟨h1,h2,h3⟩:=EV h hc;exact DB L h1 h2 h3 (nw h hc)
theorem JG{y:En}{bs:List Nat}(hp:PDef (sb y.d) bs)(hd:y.d.size<=8192):c8 ⟨fT y bs,fB y bs⟩=.ok (sb y.d):=by
 unfold c8;by_cases h:bs.length<y.d.size
 ·have e1:(fT y bs).way=8:=(by simp[fT,h]);have e2:fB y bs=bs:=(by simp[fB,h]);obtain⟨t,ht,ho,hq⟩:=hp.reads (rT _) (most:=y.d.size) (by rw[dU];exact Nat.le_refl _) (by omega);obtain⟨r1,r2,r3⟩:=Bu ht;simp only[e1,e2];rw[if_pos trivial,show(fT y bs).size=y.d.size from rfl,show(fT y bs).sum=more 0 (sb y.d)from rfl,r2 (.inl rfl),r3 rfl,ho,if_pos ⟨r1,hq,dU _⟩,if_pos rfl]
 ·have e1:(fT y bs).way=0:=(by simp[fT,h]);have e2:fB y bs=sb y.d:=(by simp[fB,h]);simp only[e1,e2];rw[if_neg (by decide),show(fT y bs).sum=more 0 (sb y.d)from rfl,if_pos rfl]
end Go.Proofs.YtllcnlnbpikhdaaGreatDoor
