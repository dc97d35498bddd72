import Derived.RegionIn
import Derived.Test.YtllcnlnbpikhdaaGreatDoorJ17
import Derived.Test.YtllcnlnbpikhdaaGreatDoorJ18
set_option maxHeartbeats 4000000
set_option maxRecDepth 100000
namespace Go.Proofs.YtllcnlnbpikhdaaGreatDoor
open Go.RowKit Go.Shelf
attribute [local go_sem] Oper.semAt_some
structure Bg(F:Fence):Prop where
 fn:∀f,F.fn f
 ro:F.round=none
 dn:F.depth=none
 dp:∀{p:Prop},F.depth.isSome=true->p
 calls:∀{n:Nat} {P:Program} {f:FuncId} {args:Array Value} {w:World} {R:Ending->World->Prop},Calls P f args w R->CallsIn F n P f args w R
theorem Gf:Bg Fence.wide:=⟨λ_=>trivial,rfl,rfl,λh=>by simp[Fence.wide]at h,λh=>callsIn_wide.2 h⟩
structure TS(fp:World->Nat->Prop)(W:World)(b0 b1:Nat)(vd va:Value)(data:List Nat)(i:Nat):Prop where
 box:Blk W b0 #[vd,va] 157
 here:Blk W b1 #[.int .u8 0,.int .i64 ((bD data i).1:Nat),.int .i64 ((bD data i).2:Nat)] 133
 n0:¬fp W b0
 n1:¬fp W b1
 lt:b0<b1
 src:Src W (λj=>¬fp W j/\j<b0) vd data
 ch:SrcE bI W (λj=>¬fp W j/\j<b0) va (nT data)
theorem SrcE.mono'{α:Type}{enc:α->Value}{w:World}{I J:Nat->Prop}{v:Value}{cs:List α}(h:SrcE enc w I v cs)(hJ:∀j,I j->J j):SrcE enc w J v cs:=by obtain⟨ao,cap,e,h1,hc⟩:=h;exact⟨ao,cap,e,h1,λbh=>by obtain⟨b,o,e1,hi,h2⟩:=hc bh;exact⟨b,o,e1,hJ b hi,h2⟩⟩
theorem TS.same{fp:World->Nat->Prop}{W W':World}{b0 b1:Nat}{vd va:Value}{data:List Nat}{i:Nat}(h:TS fp W b0 b1 vd va data i)(hk:Same W W')(hf:∀j,fp W' j↔fp W j):TS fp W' b0 b1 vd va data i:=
 ⟨h.box.kept hk (λf=>f),h.here.kept hk (λf=>f),λf=>h.n0 ((hf _).1 f),λf=>h.n1 ((hf _).1 f),h.lt,(h.src.kept hk (λ_ _ _ f=>f)).mono (λj hj=>⟨λf=>hj.1 ((hf j).1 f),hj.2⟩),(h.ch.kept hk (λ_ _ _ f=>f)).mono' (λj hj=>⟨λf=>hj.1 ((hf j).1 f),hj.2⟩)⟩
theorem TS.round{fp:World->Nat->Prop}{W W':World}{b0 b1:Nat}{vd va:Value}{data:List Nat}{i:Nat}(h:TS fp W b0 b1 vd va data i)(hk:Kf fp W W'):TS fp W' b0 b1 vd va data i:=by
 have hn:∀j,¬fp W j->j<W.heap.size->¬fp W' j:=λj h1 h2 f=>by
  rcases hk.2 j f with h9 | h9
  ·exact h1 h9
  ·omega
 have PI:=h.box.lt;refine⟨h.box.kept hk.1 h.n0,h.here.kept hk.1 h.n1,hn _ h.n0 PI,hn _ h.n1 h.here.lt,h.lt,(h.src.kept hk.1 (λj hj _=>hj.1)).mono (λj hj=>⟨hn j hj.1 (by omega),hj.2⟩),(h.ch.kept hk.1 (λj hj _=>hj.1)).mono' (λj hj=>⟨hn j hj.1 (by omega),hj.2⟩)⟩
theorem TS.turn{fp:World→Nat→Prop}{W:World}{b0 b1:Nat}{vd va:Value}{data:List Nat}{i:Nat}(h:TS fp W b0 b1 vd va data i)(i':Nat)(hf:∀j,fp (((W.setCell ⟨b1,0,none⟩ (.int .u8 0)).setCell ⟨b1,1,none⟩ (.int .i64 ((bD data i').1:Nat))).setCell ⟨b1,2,none⟩ (.int .i64 ((bD data i').2:Nat))) j↔fp W j):
  TS fp (((W.setCell ⟨b1,0,none⟩ (.int .u8 0)).setCell ⟨b1,1,none⟩ (.int .i64 ((bD data i').1:Nat))).setCell ⟨b1,2,none⟩ (.int .i64 ((bD data i').2:Nat))) b0 b1 vd va data i':=by
 have hk:Kept (λj=>j=b1) W (((W.setCell ⟨b1,0,none⟩ (.int .u8 0)).setCell ⟨b1,1,none⟩ (.int .i64 ((bD data i').1:Nat))).setCell ⟨b1,2,none⟩ (.int .i64 ((bD data i').2:Nat))):=
  (((Kept.refl (λj=>j=b1) W).setCell _ _ (.inl rfl)).setCell _ _ (.inl rfl)).setCell _ _ (.inl rfl)
 have hlt:=h.lt;refine⟨h.box.kept hk (by omega),?_,λf=>h.n0 ((hf _).1 f),λf=>h.n1 ((hf _).1 f),h.lt,(h.src.kept hk (λj hj _ e=>by omega)).mono (λj hj=>⟨λf=>hj.1 ((hf j).1 f),hj.2⟩),(h.ch.kept hk (λj hj _ e=>by omega)).mono' (λj hj=>⟨λf=>hj.1 ((hf j).1 f),hj.2⟩)⟩;have:=((h.here.set 0 (.int .u8 0)).set 1 (.int .i64 ((bD data i').1:Nat))).set 2 (.int .i64 ((bD data i').2:Nat));simpa using this
def mS(ts:List TK)(k:Nat):Array Value:=#[.agg (Ko (ts.getD k ⟨0,0,0⟩))]
theorem EF(F:Fence)(hF:Bg F)(n:Nat)(l:Nat)(go:Nat→Bool)(fp:World→Nat→Prop)(J:Nat→World→Prop)(data:List Nat)(ad:Option Addr)(L cd:Nat)(aa:Option Addr)(na ca:Nat)(hL:data.length=L)(Kx:L-2=na)(ag:L≤20000)
  (B0:Nat) (D7:∀k W W' G,J k W->Kept G W W'->(∀j,fp W j->¬G j)->(∀j,G j->B0<=j)->J k W') (Il:∀k W W' G,J k W->Kept G W W'->(∀j,fp W j->¬G j)->∀j,fp W' j↔fp W j) (hlt:∀k W j,J k W->fp W j->j<W.heap.size)
  (hY:∀k W1,k<(bJ data L 0).length->(k=0\/go (k-1)=true)->J k W1->YieldAt F (n-1) Tryz.prog l (mS (bJ data L 0) k) W1 λe W'=>e=.returned (.bool (go k))/\J (k+1) W'/\Kf fp W1 W')
  (W:World) (hB0:B0<=W.heap.size) (h0:J 0 W) (hs:Src W (λj=>¬fp W j/\j<W.heap.size) (.slice ad L cd) data) (ha:SrcE bI W (λj=>¬fp W j/\j<W.heap.size) (.slice aa na ca) (nT data)):
  CallsIn F n Tryz.prog 101 #[.agg #[.slice ad L cd,.slice aa na ca],.func (.yield l) #[] #[]] W λe W'=>(∃v,e=.returned v)/\∃M,M<=(bJ data L 0).length/\(M=(bJ data L 0).length\/(0<M/\go (M-1)=false))/\J M W':=by
 have kS:=hF.ro;refine callsIn_of_wp Tryz.func101 rfl (hF.fn _) ?_ kS;simp only[Tryz.ntmps101,List.size_toArray,List.length_cons,List.length_nil,Nat.reduceAdd,Nat.reduceSub,Array.replicate_succ,Array.replicate_zero,List.push_toArray,List.append_toArray,List.nil_append,List.cons_append];obtain⟨W0,Ed⟩:∃W0,W0=W.alloc (.cells #[.slice ad L cd,.slice aa na ca] 157):=⟨_,rfl⟩
 have hk0:Same W W0:=by rw[Ed];exact(Kept.refl _ W).alloc _
 have HBX:Hid (Blk W0 W.heap.size #[.slice ad L cd,.slice aa na ca] 157):=hid (by rw[Ed];exact Blk.new W _ _);have HM0:=hF.calls (n:=n-1) (lQ W0 ad L cd _ _ data aa na ca 0 (hs.kept hk0 (λ_ _ _ f=>f)) (ha.kept hk0 (λ_ _ _ f=>f)) hL Kx ag);have HL:Hid (data.length=L):=hL;have HNA:Hid (L-2=na):=Kx;have HS:Hid (Src W (λj=>¬fp W j/\j<W.heap.size) (.slice ad L cd) data):=hs;have HA:Hid (SrcE bI W (λj=>¬fp W j/\j<W.heap.size) (.slice aa na ca) (nT data)):=ha;have HK0:Hid (Same W W0):=hk0;have HJ0:Hid (J 0 W):=h0;have HJS:=hid D7;have HFS:=hid Il;have HLT:=hid hlt;have HY:=hid hY;clear hs ha hL Kx hk0 h0 D7 Il hlt hY;gi_wp2;rw[<-Ed];clear Ed;refine⟨hF.fn _,hF.dp,HM0.mono ?_⟩;rintro e w1 ⟨rfl,hk1⟩;obtain⟨W1,hW1⟩:∃W1,W1=w1.alloc (.cells #[.int .u8 0,.int .i64 ((bD data 0).1:Nat),.int .i64 ((bD data 0).2:Nat)] 133):=⟨_,rfl⟩
 have hk2:Same w1 W1:=by rw[hW1];exact(Kept.refl _ w1).alloc _
 have hkA:Same W W1:=Same.trans HK0.out (Same.trans hk1 hk2);have hf1:=HFS.out 0 W W1 _ HJ0.out hkA (λ_ _ f=>f);have HJ1:Hid (J 0 W1):=hid (HJS.out 0 W W1 _ HJ0.out hkA (λ_ _ f=>f) (λ_ f=>f.elim));obtain⟨b1,hb1⟩:∃b,b=w1.heap.size:=⟨_,rfl⟩
 have Rh:W.heap.size<W0.heap.size:=HBX.out.lt;have JW:W0.heap.size<=w1.heap.size:=hk1.size;have HTS:Hid (TS fp W1 W.heap.size b1 (.slice ad L cd) (.slice aa na ca) data 0):=hid ⟨HBX.out.kept (Same.trans hk1 hk2) (λf=>f),by rw[hW1,hb1];exact Blk.new w1 _ _,λf=>by have:=HLT.out 0 W _ HJ0.out ((hf1 _).1 f);omega,λf=>by have:=HLT.out 0 W _ HJ0.out ((hf1 _).1 f);omega,by omega,
  (HS.out.kept hkA (λ_ _ _ f=>f)).mono (λj hj=>⟨λf=>hj.1 ((hf1 j).1 f),hj.2⟩),(HA.out.kept hkA (λ_ _ _ f=>f)).mono' (λj hj=>⟨λf=>hj.1 ((hf1 j).1 f),hj.2⟩)⟩
 unfold Eo;clear hk1 hk2 hkA hf1 HM0;gi_wp2;rw[<-hb1,<-hW1];clear hW1 hb1 Rh JW;gi_loopw [5] (λzi wr=>∃(i k:Nat),zi=.int .i64 (i:Nat)/\i<=L/\k<=(bJ data L 0).length/\(k=0\/go (k-1)=true)/\Hid ((bJ data L 0).drop k=bJ data (L-i) i)/\Hid (J k wr)/\Hid (TS fp wr W.heap.size b1 (.slice ad L cd) (.slice aa na ca) data i))
  (λzi _=>(L-(intOf zi)).toNat)
 case atStart=>exact⟨0,0,rfl,by omega,by omega,.inl rfl,hid (by simp),HJ1,HTS⟩
 case round=>
  clear HJ1 HTS HBX HS HA HK0 HJ0;obtain⟨i,k,rfl,hi,hk,Md,HTK,HJ,HT⟩:=hrel;have e0:wr.cell? ⟨W.heap.size,0,none⟩=some (.slice ad L cd):=HT.out.box.cell 0;have e1:wr.cell? ⟨W.heap.size,1,none⟩=some (.slice aa na ca):=HT.out.box.cell 1;by_cases hlt:i<L
  ·have HMN:=hF.calls (n:=n-1) (lQ wr ad L cd _ _ data aa na ca (i+1) HT.out.src HT.out.ch HL.out HNA.out ag);obtain⟨n0,d0,ym⟩:∃n0 d0,bD data i=(n0,d0):=⟨_,_,rfl⟩
   obtain⟨n1,d1,hm1⟩:∃n1 d1,bD data (i+1)=(n1,d1):=⟨_,_,rfl⟩
   rw[hm1,show((i+1:Nat):Int)=(i:Int)+1 from by omega]at HMN;have HM0:Hid (bD data i=(n0,d0)):=ym;have HM1:Hid (bD data (i+1)=(n1,d1)):=hm1;clear ym hm1;obtain⟨b,o,xT,bO⟩:∃b o,ad=some ⟨b,o,none⟩/\wr.cell? ⟨b,o+i,none⟩=some (.int .u8 (data.getD i 0:Nat)):=by obtain⟨ao',cap',e9,e2⟩:=HT.out.src;injection e9 with e3 _ _;subst e3;have hid:i<data.length:=(by rw[HL.out];exact hlt);obtain⟨b,o,e4,_,e5⟩:=e2 (by intro e;rw[e]at hid;simp at hid);exact⟨b,o,e4,by rw[e5 i hid];simp[List.getD,hid]⟩
   subst xT;obtain⟨x,hx⟩:∃x,x=data.getD i 0:=⟨_,rfl⟩
   rw[<-hx]at bO;have HX:Hid (x=data.getD i 0):=hx;clear hx;gi_wp2;refine⟨hF.fn _,hF.dp,HMN.mono ?_⟩;rintro e w2 ⟨rfl,hk2⟩;unfold Eo;obtain⟨W2,oh⟩:∃W2,W2=w2.alloc (.cells #[.int .u8 0,.int .i64 (n1:Nat),.int .i64 (d1:Nat)] 133):=⟨_,rfl⟩
   have hk3:Same w2 W2:=(by rw[oh];exact(Kept.refl _ w2).alloc _);have hkA:Same wr W2:=Same.trans hk2 hk3;have hf2:=HFS.out k wr w2 _ HJ.out hk2 (λ_ _ f=>f);have Po:=HFS.out k wr W2 _ HJ.out hkA (λ_ _ f=>f);have HJ2:Hid (J k W2):=hid (HJS.out k wr W2 _ HJ.out hkA (λ_ _ f=>f) (λ_ f=>f.elim));have HT2:Hid (TS fp W2 W.heap.size b1 (.slice (some ⟨b,o,none⟩) L cd) (.slice aa na ca) data i):=hid (HT.out.same hkA Po);obtain⟨b2,hb2⟩:∃b,b=w2.heap.size:=⟨_,rfl⟩
   have HNB:Hid (Blk W2 b2 #[.int .u8 0,.int .i64 (n1:Nat),.int .i64 (d1:Nat)] 133):=hid (by rw[oh,hb2];exact Blk.new w2 _ _);have HNF:Hid (¬fp W2 b2):=hid (λf=>by
    have h9:=HLT.out k wr _ HJ.out ((Po _).1 f);have:=hk2.size;omega)
   have VZ:Hid (b2≠b1):=hid (λe=>by have:=HT.out.here.lt;have:=hk2.size;omega);have c0:W2.cell? ⟨W.heap.size,0,none⟩=some (.slice (some ⟨b,o,none⟩) L cd):=HT2.out.box.cell 0;have c1:W2.cell? ⟨W.heap.size,1,none⟩=some (.slice aa na ca):=HT2.out.box.cell 1;have f0:W2.cell? ⟨b1,0,none⟩=some (.int .u8 0):=HT2.out.here.cell 0;have f1:W2.cell? ⟨b1,1,none⟩=some (.int .i64 (n0:Nat)):=(by have:=HT2.out.here.cell 1;rw[HM0.out]at this;exact this);have f2:W2.cell? ⟨b1,2,none⟩=some (.int .i64 (d0:Nat)):=(by have:=HT2.out.here.cell 2;rw[HM0.out]at this;exact this);have g1:W2.cell? ⟨b2,1,none⟩=some (.int .i64 (n1:Nat)):=HNB.out.cell 1;have qZ:W2.cell? ⟨b,o+i,none⟩=some (.int .u8 (x:Nat)):=hkA.cell bO (λf=>f);clear hk2 hk3 hkA hf2 Po HMN e0 e1 HJ HT bO;have G9:i<data.length:=(by rw[HL.out];exact hlt);obtain⟨fu,NA⟩:∃f,L-i=f+1:=⟨L-i-1,by omega⟩
   have J4:k<(bJ data L 0).length:=by
    refine Nat.lt_of_not_le (λh9=>?_);have h8:=HTK.out;rw[List.drop_eq_nil_of_le h9,NA]at h8;by_cases om:(bD data i).1=0\/(bD data i).1<(bD data (i+1)).1
    ·rw[iQ G9 om]at h8;cases h8
    ·rw[iT G9 om]at h8;cases h8
   have BQ:(bJ data L 0).drop k=(bJ data L 0).getD k ⟨0,0,0⟩::(bJ data L 0).drop (k+1):=(by rw[List.drop_eq_getElem_cons J4];simp[List.getD,J4]);have Nx:=HY.out k W2 J4 Md HJ2.out;unfold mS at Nx;by_cases hc:n0=0\/n0<n1
   ·have Ay:(bJ data L 0).getD k ⟨0,0,0⟩=⟨x,0,0⟩∧(bJ data L 0).drop (k+1)=bJ data (L-(i+1)) (i+1):=by
     have h8:=HTK.out;rw[BQ,NA,iQ G9 (by rw[HM0.out,HM1.out];exact hc),List.cons.injEq]at h8;exact⟨by rw[h8.1,HX.out],by rw[h8.2,show fu=L-(i+1)by omega]⟩
    rw[Ay.1]at Nx;have Rx:Hid ((bJ data L 0).drop (k+1)=bJ data (L-(i+1)) (i+1)):=Ay.2;obtain⟨fn,tmps,assign,body,hy,hR⟩:=Nx;simp only[Ko]at hy;clear Ay BQ NA G9;subst oh hb2;have Ob:((n0:Int)==0)=true\/(((n0:Int)==0)=false/\decide (n0<n1)=true):=by
     by_cases h9:n0=0
     ·exact .inl (by simp[h9])
     ·exact .inr ⟨by simp;omega,by simp;omega⟩
    clear hc;have HR:=hid hR;clear hR;rcases Ob with eH | ⟨eH,cm⟩
    all_goals
     gi_wp2
     refine⟨hF.dp,HR.out.mono ?_⟩;rintro e W3 ⟨rfl,Ea,hk3⟩;cases oI:go k with
     | false=>
      have HE:=hid Ea;have HGK:Hid (go k=false):=oI;clear Ea hk3 oI;gi_wp2;refine bodyPost_ret (results_none rfl _ _ _) rfl ?_;exact⟨⟨_,rfl⟩,k+1,by omega,.inr ⟨by omega,by simpa using HGK.out⟩,HE.out⟩
     | true=>
      have HT3:=hid (HT2.out.round hk3);have HB3:=hid (HNB.out.kept hk3.1 HNF.out);have HJ3:=hid Ea;have HGK:Hid (go k=true):=oI;have p0:W3.cell? ⟨w2.heap.size,0,none⟩=some (.int .u8 0):=HB3.out.cell 0;have p1:W3.cell? ⟨w2.heap.size,1,none⟩=some (.int .i64 (n1:Nat)):=HB3.out.cell 1;have p2:W3.cell? ⟨w2.heap.size,2,none⟩=some (.int .i64 (d1:Nat)):=HB3.out.cell 2;have q0:W3.cell? ⟨b1,0,none⟩=some (.int .u8 0):=HT3.out.here.cell 0;have q1:W3.cell? ⟨b1,1,none⟩=some (.int .i64 ((bD data i).1:Nat)):=HT3.out.here.cell 1;have q2:W3.cell? ⟨b1,2,none⟩=some (.int .i64 ((bD data i).2:Nat)):=HT3.out.here.cell 2;have y0:W3.frozen? ⟨b1,0,none⟩=false:=HT3.out.here.frozen 0;have y1:W3.frozen? ⟨b1,1,none⟩=false:=HT3.out.here.frozen 1;have y2:W3.frozen? ⟨b1,2,none⟩=false:=HT3.out.here.frozen 2;have a1:IntKind.i64.wrap ((i:Int)+1)=(i:Int)+1:=(by rw[IntKind.wrap_i64];omega);clear Ea hk3 oI f0 f1 f2 g1 c0 c1 qZ;gi_wp2;gi_region
      all_goals
       have hkW:Kept (λj=>j=b1) W3 ((((W3.setCell ⟨b1,0,none⟩ (.int .u8 0)).setCell ⟨b1,1,none⟩ (.int .i64 (n1:Nat))).setCell ⟨b1,2,none⟩ (.int .i64 (d1:Nat))).drew):=((((Kept.refl (λj=>j=b1) W3).setCell _ _ (.inl rfl)).setCell _ _ (.inl rfl)).setCell _ _ (.inl rfl)).drew;have yl:Kept (λj=>j=b1) W3 (((W3.setCell ⟨b1,0,none⟩ (.int .u8 0)).setCell ⟨b1,1,none⟩ (.int .i64 (n1:Nat))).setCell ⟨b1,2,none⟩ (.int .i64 (d1:Nat))):=(((Kept.refl (λj=>j=b1) W3).setCell _ _ (.inl rfl)).setCell _ _ (.inl rfl)).setCell _ _ (.inl rfl);have rE:∀j,fp W3 j->¬j=b1:=λj f e=>HT3.out.n1 (by rw[<-e];exact f)
       have HJ4:=hid (HJS.out (k+1) W3 _ _ HJ3.out hkW rE (λj e=>by have:=HT3.out.lt;omega));have Rg:=HFS.out (k+1) W3 _ _ HJ3.out yl rE;have SC:=HFS.out (k+1) W3 _ _ HJ3.out hkW rE;have HT4:Hid (TS fp ((((W3.setCell ⟨b1,0,none⟩ (.int .u8 0)).setCell ⟨b1,1,none⟩ (.int .i64 (n1:Nat))).setCell ⟨b1,2,none⟩ (.int .i64 (d1:Nat))).drew) W.heap.size b1 (.slice (some ⟨b,o,none⟩) L cd) (.slice aa na ca) data (i+1)):=hid (by
        have h9:=HT3.out.turn (i+1) (by rw[HM1.out];exact Rg);rw[HM1.out]at h9;exact h9.same ((Kept.refl _ _).drew) (λj=>(SC j).trans (Rg j).symm))
       clear hkW yl rE Rg SC p0 p1 p2 q0 q1 q2 y0 y1 y2 a1;gi_wp2;go_roundw
       case rel=>exact⟨i+1,k+1,by go_num,by omega,by omega,.inr (by simpa using HGK.out),Rx,HJ4,HT4⟩
       case measure=>simp[intOf];omega
   ·have m6:n0≠0/\¬n0<n1:=(by omega);have Ay:(bJ data L 0).getD k ⟨0,0,0⟩=⟨0,(n0:Int),(d0:Int)⟩/\(bJ data L 0).drop (k+1)=bJ data (L-(i+n0)) (i+n0):=by
     have h8:=HTK.out;rw[BQ,NA,iT G9 (by rw[HM0.out,HM1.out];exact hc),List.cons.injEq,HM0.out]at h8;exact⟨h8.1,by rw[h8.2];exact CC (by rw[HL.out];omega) (by rw[HL.out];omega)⟩
    have ye:i+n0<=L:=by
     rcases lF data i with h9 | ⟨n,d,h9,_,_,_,_,Hm,_⟩
     ·rw[HM0.out]at h9;simp at h9;omega
     ·rw[HM0.out]at h9;simp only[Prod.mk.injEq]at h9;rw[HL.out]at Hm;omega
    rw[Ay.1]at Nx;have Rx:Hid ((bJ data L 0).drop (k+1)=bJ data (L-(i+n0)) (i+n0)):=Ay.2;obtain⟨fn,tmps,assign,body,hy,hR⟩:=Nx;change (Instr.yield l #[.agg #[.int .u8 0,.int .i64 (n0:Nat),.int .i64 (d0:Nat)]]).run Tryz.prog _=_ at hy;have eH:((n0:Int)==0)=false:=(by simp;omega);have cm:decide (n0<n1)=false:=(by simp;omega);clear Ay BQ NA G9 hc;subst oh hb2;have HR:=hid hR;clear hR;gi_wp2;refine⟨hF.dp,HR.out.mono ?_⟩;rintro e W3 ⟨rfl,Ea,hk3⟩;cases oI:go k with
    | false=>
     have HE:=hid Ea;have HGK:Hid (go k=false):=oI;clear Ea hk3 oI;gi_wp2;refine bodyPost_ret (results_none rfl _ _ _) rfl ?_;exact⟨⟨_,rfl⟩,k+1,by omega,.inr ⟨by omega,by simpa using HGK.out⟩,HE.out⟩
    | true=>
     have HT3:=hid (HT2.out.round hk3);have HJ3:=hid Ea;have HGK:Hid (go k=true):=oI;have q1:W3.cell? ⟨b1,1,none⟩=some (.int .i64 (n0:Nat)):=(by have:=HT3.out.here.cell 1;rw[HM0.out]at this;exact this);have r0:W3.cell? ⟨W.heap.size,0,none⟩=some (.slice (some ⟨b,o,none⟩) L cd):=HT3.out.box.cell 0;have r1:W3.cell? ⟨W.heap.size,1,none⟩=some (.slice aa na ca):=HT3.out.box.cell 1;have HMX:=hF.calls (n:=n-1) (lQ W3 (some ⟨b,o,none⟩) L cd _ _ data aa na ca (i+n0) HT3.out.src HT3.out.ch HL.out HNA.out ag);rw[show((i+n0:Nat):Int)=(i:Int)+(n0:Int)from by omega]at HMX;clear Ea hk3 oI f0 f1 f2 g1 c0 c1 qZ;gi_wp2;refine⟨hF.fn _,hF.dp,HMX.mono ?_⟩;rintro e W4 ⟨rfl,hk4⟩;unfold Eo;have hf4:=HFS.out (k+1) W3 W4 _ HJ3.out hk4 (λ_ _ f=>f);have HJ4:=hid (HJS.out (k+1) W3 W4 _ HJ3.out hk4 (λ_ _ f=>f) (λ_ f=>f.elim));have HT4:=hid (HT3.out.same hk4 hf4);have q0:W4.cell? ⟨b1,0,none⟩=some (.int .u8 0):=HT4.out.here.cell 0;have XK:W4.cell? ⟨b1,1,none⟩=some (.int .i64 ((bD data i).1:Nat)):=HT4.out.here.cell 1;have q2:W4.cell? ⟨b1,2,none⟩=some (.int .i64 ((bD data i).2:Nat)):=HT4.out.here.cell 2;have y0:W4.frozen? ⟨b1,0,none⟩=false:=HT4.out.here.frozen 0;have y1:W4.frozen? ⟨b1,1,none⟩=false:=HT4.out.here.frozen 1;have y2:W4.frozen? ⟨b1,2,none⟩=false:=HT4.out.here.frozen 2;have yl:Kept (λj=>j=b1) W4 (((W4.setCell ⟨b1,0,none⟩ (.int .u8 0)).setCell ⟨b1,1,none⟩ (.int .i64 ((bD data (i+n0)).1:Nat))).setCell ⟨b1,2,none⟩ (.int .i64 ((bD data (i+n0)).2:Nat))):=(((Kept.refl (λj=>j=b1) W4).setCell _ _ (.inl rfl)).setCell _ _ (.inl rfl)).setCell _ _ (.inl rfl);have rE:∀j,fp W4 j->¬j=b1:=λj f e=>HT4.out.n1 (by rw[<-e];exact f)
     have Xb:=hid (HJS.out (k+1) W4 _ _ HJ4.out yl rE (λj e=>by have:=HT4.out.lt;omega));have HT5:=hid (HT4.out.turn (i+n0) (HFS.out (k+1) W4 _ _ HJ4.out yl rE));clear hk4 hf4 HMX yl rE;gi_wp2;go_roundw
     case rel=>exact⟨i+n0,k+1,by go_num,by omega,by omega,.inr (by simpa using HGK.out),Rx,Xb,HT5⟩
     case measure=>simp[intOf];omega
  ·have hiL:i=L:=(by omega);have J4:k=(bJ data L 0).length:=by
    have h9:=congrArg List.length HTK.out;rw[List.length_drop,eB (Nat.le_of_eq (HL.out.trans hiL.symm))]at h9;rw[List.length_nil]at h9;omega
   have HE:Hid (J (bJ data L 0).length wr):=hid (by rw[<-J4];exact HJ.out);clear hiL J4 hk Md;gi_wp2;go_end0;exact⟨⟨_,rfl⟩,_,Nat.le_refl _,.inl rfl,HE.out⟩
end Go.Proofs.YtllcnlnbpikhdaaGreatDoor
