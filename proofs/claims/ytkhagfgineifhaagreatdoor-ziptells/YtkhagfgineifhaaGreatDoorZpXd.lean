import Derived.Test.YtkhagfgineifhaaGreatDoorZpXc
set_option maxHeartbeats 400000
set_option maxRecDepth 100000
namespace Go.Proofs.YtkhagfgineifhaaGreatDoor
open Go.RowKit
def lD(E:Nat->En)(len:Nat)(L:List It):Prop:=L.length=len/\∀j x,L[j]? = some x->∃bs,PDef (sb (E j).d) bs/\x=⟨dZ (E j) bs,d8 (E j) bs⟩
theorem kr(w:World)(a:Option Addr)(len cap:Nat)(E:Nat→En)(hs:Ents w (fun _=>True) a len E)(cD:len≤cap)(hx:Mxl w)(hT:Tab w)(hc:fT E len=0):
  Calls Tryz.prog 6 #[.slice a len cap] w λe w'=>∃v' L,e=.returned (.tuple #[v',.int .i64 0])/\Fresh w w' v' (bT L)/\lD E len L:=by
 obtain⟨ET,hok⟩:=kD hc;have HC:=ri w a len cap E hs (by omega) cD hx;rw[hc]at HC;have HS:Hid (Ents w (λ_=>True) a len E):=hs;have HT:Hid (Tab w):=hT;have HOK:Hid (∀j,j<len->eZ (sb (E j).n)=true/\(E j).d.size<=8192):=hok;clear hs hx hT hc hok;go_enter Tryz.func6,Tryz.ntmps6;go_wp2_with fail;refine HC.mono ?_;rintro e w1 ⟨rfl,hk1⟩;have HK1:Hid (Same w w1):=hk1;clear hk1 HC;go_wp2_with fail;go_loopg [5,6,18] len (λqq z5 z6 z18 wr=>∃(i:Nat) (L:List It),z18=.int .i64 (i:Nat)/\i<=len/\len-i<=qq/\Hid (WrI w wr E i L z5 z6))
 case atStart=>exact⟨0,[],rfl,by omega,by omega,hid (WrI.zero w w1 E HK1.out)⟩
 case round=>
  clear HK1;obtain⟨i,L,rfl,hi1,Lv,HI⟩:=hrel;obtain⟨vp,NG⟩:∃v,v=u5:=⟨_,rfl⟩
  obtain⟨vr,NF⟩:∃v,v=u6:=⟨_,rfl⟩
  rw[<-NG,<-NF]at HI;rw[<-NG,<-NF];clear NG NF;obtain⟨np,Jc⟩:∃n,n=(aN L).length:=⟨_,rfl⟩
  obtain⟨nr,NN⟩:∃n,n=(bz 0 L).length:=⟨_,rfl⟩
  obtain⟨ap,cp,NG,_⟩:=HI.out.pie.shape;obtain⟨ar,cr,NF,_⟩:=HI.out.recs.shape;rw[<-Jc]at NG;rw[<-NN]at NF;subst NG;subst NF;have HNN:Hid (np=(aN L).length/\nr=(bz 0 L).length):=hid ⟨Jc,NN⟩;have WB:np<=600000:=(by have:=HI.out.lenp;omega);have VP:nr<=8000:=(by have:=HI.out.lenr;omega);clear Jc NN;by_cases hi:i<len
  ·have nM:decide (i<len)=true:=(by simp;omega);obtain⟨b,o,ha,_,k0,k1⟩:=HS.out i hi;subst ha;have k0:=HI.out.same.cell k0 (λf=>f);have k1:=HI.out.same.cell k1 (λf=>f);obtain⟨y,hy⟩:∃y,y=E i:=⟨_,rfl⟩
   rw[<-hy]at k0 k1;have HY:Hid (y=E i):=hy;have Qy:=HOK.out i hi;rw[<-hy]at Qy;have EP:IntKind.i64.wrap ((i:Int)+1)=((i+1:Nat):Int):=(by rw[IntKind.wrap_i64];omega);have HYO:Hid (eZ (sb y.n)=true/\y.d.size<=8192):=Qy;obtain⟨wA,pN⟩:∃W,W=wr.alloc (.cells #[.string y.n,.string y.d] 42):=⟨_,rfl⟩
   have hkA:Same wr wA:=(by rw[pN];exact(Kept.refl _ wr).alloc _);have HKA:Hid (Same wr wA):=hkA;have HP:=Dp wA y Qy.2 (HT.out.kept (Same.trans HI.out.same hkA) (λf=>f));clear hy Qy hkA;go_wp2_with fail;rw[<-pN];clear pN;refine HP.mono ?_;rintro e w2 ⟨bs,v2,J,U5,rfl,SR,hJ,fB,hk2⟩;have Qf:=uH y bs HYO.out.1 HYO.out.2;obtain⟨m,hm⟩:∃m,m=dZ y bs:=⟨_,rfl⟩
   obtain⟨bd,EN⟩:∃d,d=d8 y bs:=⟨_,rfl⟩
   rw[<-hm,<-EN]at Qf;rw[<-EN]at SR;rw[<-hm];have HX:Hid (PDef (sb y.d) bs/\m=dZ y bs/\bd=d8 y bs):=hid ⟨U5,hm,EN⟩;have HLZ:Hid (gN m/\(∀b∈m.name,b<256)/\m.name.length<=64/\bd.length<=8192):=Qf;have HK2:Hid (Same wr w2):=hid (Same.trans HKA.out hk2);have HJ:Hid (∀k,J k->wr.heap.size<=k):=hid (λk h=>Nat.le_trans HKA.out.size (hJ k h));have HNI:Hid (∀n c,v2=.slice none n c->n=0/\c=0):=fB;have HS2:Hid (Src w2 J v2 bd):=SR;obtain⟨wB,yt⟩:∃W,W=w2.alloc (.cells #[.int .u16 (m.way:Nat),.int .u32 (m.sum:Nat),.int .u32 (m.packed:Nat),.int .u32 (m.size:Nat),.string (bH m.name)] 49):=⟨_,rfl⟩
   obtain⟨lb,pK⟩:∃b,b=w2.heap.size:=⟨_,rfl⟩
   have HLBK:Hid (LabBk wB lb m):=hid (by rw[yt,pK];exact Blk.new w2 _ _);have HKB:Hid (Same w2 wB):=hid (by rw[yt];exact(Kept.refl _ w2).alloc _);have HLB:Hid (wr.heap.size<=lb):=hid (by rw[pK];exact HK2.out.size);obtain⟨c0,c1,c2,c3,c4⟩:=HLBK.out.cells;have H3:=AR wB m np Qf.1 Qf.2.1 (by omega);unfold lA at H3 ⊢;clear U5 hm EN SR hJ fB hk2 Qf HP;go_wp2_with fail;rw[<-yt,<-pK];clear yt pK;refine H3.mono ?_;rintro e w3 ⟨v3,rfl,hf3⟩;have HF3:Hid (Fresh wB w3 v3 (k9 m np)):=hf3;have HK3:Hid (Same wr w3):=hid (Same.trans HK2.out (Same.trans HKB.out hf3.kept));have HRr:Hid (Row w3 (.slice ar nr cr) (bz 0 L)):=hid (HI.out.recs.kept HK3.out (λ_ _ f=>f));clear hf3 H3 c0 c1 c2 c3 c4;go_wp2_with (at_builtin;refine bi _ rfl (.tmp 27) (.tmp 31) rfl _ (bz 0 L) rfl HRr.out _ _ (k9 m np) rfl (Eq HF3.out.row) (Src.ofRow HF3.out.row) (by rw[xg];have:=HNN.out;have:=HLZ.out.2.2.1;omega) ?_);intro v4 w4 hr4 pO UD;have HK4:Hid (Kept (λk=>(Value.slice ar nr cr).ownBlock=some k) w3 w4):=hid ((Kept.refl _ w3).grown pO (λk e=>.inl e));have HR4:Hid (Row w4 v4 (bz 0 L++k9 m np)):=hr4;have HO4:Hid (v4.ownBlock=(Value.slice ar nr cr).ownBlock\/v4.ownBlock=some w3.heap.size):=UD;have HLR:Hid (∀k,(Value.slice ar nr cr).ownBlock=some k->k<wr.heap.size):=hid (λk e=>(World.ownsRow.lt HI.out.recs k e).2);have HLP:Hid (∀k,(Value.slice ap np cp).ownBlock=some k->k<wr.heap.size):=hid (λk e=>(World.ownsRow.lt HI.out.pie k e).2);have HL4:Hid (LabBk w4 lb m):=hid (Blk.kept (HLBK.out.kept HF3.out.kept) HK4.out (λe=>by have:=HLR.out lb e;have:=HLB.out;omega));have HP4:Hid (Row w4 (.slice ap np cp) (aN L)):=hid ((HI.out.pie.kept HK3.out (λ_ _ f=>f)).kept HK4.out (λk e f=>HI.out.apart k e f));have HS4:Hid (Src w4 J v2 bd):=hid ((HS2.out.kept (Same.trans HKB.out HF3.out.kept) (λ_ _ _ f=>f)).kept HK4.out (λk hk _ e=>by have:=HJ.out k hk;have:=HLR.out k e;omega));obtain⟨c0,c1,c2,c3,c4⟩:=HL4.out.cells;have H5:=GS w4 m HLZ.out.1 HLZ.out.2.1;unfold lA at H5;clear hr4 pO UD;go_wp2_with fail;refine H5.mono ?_;rintro e w5 ⟨v5,rfl,hf5⟩;have HF5:Hid (Fresh w4 w5 v5 (ig m)):=hf5;have HP5:Hid (Row w5 (.slice ap np cp) (aN L)):=hid (HP4.out.kept hf5.kept (λ_ _ f=>f));clear hf5 H5 c0 c1 c2 c3 c4;go_wp2_with (first | (at_builtin;refine bi _ rfl (.tmp 33) (.tmp 35) rfl _ (aN L) rfl HP5.out _ _ (ig m) rfl (Eq HF5.out.row) (Src.ofRow HF5.out.row) (by have:=HNN.out;have:=HLZ.out.2.2.1;simp[ig,gG,az];omega) ?_;intro v6 w6 hr6 LO PJ;have HR6:Hid (Row w6 v6 (aN L++ig m)):=hr6;have HK6:Hid (Kept (λk=>(Value.slice ap np cp).ownBlock=some k) w5 w6):=hid ((Kept.refl _ w5).grown LO (λk e=>.inl e));have HO6:Hid (v6.ownBlock=(Value.slice ap np cp).ownBlock\/v6.ownBlock=some w5.heap.size):=PJ;have HS6:Hid (Src w6 J v2 bd):=hid ((HS4.out.kept HF5.out.kept (λ_ _ _ f=>f)).kept HK6.out (λk hk _ e=>by have:=HJ.out k hk;have:=HLP.out k e;omega));clear hr6 LO PJ) | (at_builtin;refine bi _ rfl (.tmp 36) (.tmp 37) rfl _ (aN L++ig m) rfl HR6.out J _ bd rfl HNI.out HS6.out (by have:=HNN.out;have:=HLZ.out.2.2;simp[ig,gG,az];omega) ?_;intro v7 w7 Lh Uf TR));have MY:v7.ownBlock=v6.ownBlock\/v7.ownBlock=some w6.heap.size:=TR;have HK7:Hid (Kept (λk=>v6.ownBlock=some k) w6 w7):=hid ((Kept.refl _ w6).grown Uf (λk e=>.inl e));have HW:Hid (WrI w w7 E (i+1) (L++[⟨m,bd⟩]) v7 v4):=hid (by
    have WV:=HK3.out.size;have ES:=HK4.out.size;have KG:=HF5.out.kept.size;have Ws:=HK6.out.size;have PH:=HI.out.same.size;have Je:∀k,v4.ownBlock=some k->k<w4.heap.size:=λk e=>(World.ownsRow.lt HR4.out k e).2
    have hn4:∀k,v4.ownBlock=some k->w.heap.size<=k:=by
     intro k e;rcases HO4.out with h | h
     ·exact HI.out.newr k (by rw[<-h];exact e)
     ·rw[h]at e;simp only[Option.some.injEq]at e;omega
    have Tw:∀k,v6.ownBlock=some k->w.heap.size<=k:=by
     intro k e;rcases HO6.out with h | h
     ·exact HI.out.newp k (by rw[<-h];exact e)
     ·rw[h]at e;simp only[Option.some.injEq]at e;omega
    have Ud:∀k,(Value.slice ap np cp).ownBlock=some k->v4.ownBlock≠some k:=by
     intro k e e4;rcases HO4.out with h | h
     ·exact HI.out.apart k e (by rw[<-h];exact e4)
     ·rw[h]at e4;simp only[Option.some.injEq]at e4;have:=HLP.out k e;omega
    have PU:∀k,v6.ownBlock=some k->v4.ownBlock≠some k:=by
     intro k e e4;rcases HO6.out with h | h
     ·exact Ud k (by rw[<-h];exact e) e4
     ·rw[h]at e;simp only[Option.some.injEq]at e;have:=Je k e4;omega
    have hx:(lk ⟨m,bd⟩).length<=8400:=(by rw[GU];have:=HLZ.out.2.2;show 30+m.name.length+bd.length<=8400;omega);refine⟨by rw[List.length_append,HI.out.len];rfl,?_,?_,?_,?_,hn4,?_,?_,?_,?_⟩
    ·intro j x hj;by_cases e:j<i
     ·rw[List.getElem?_append_left (by rw[HI.out.len];exact e)]at hj;exact HI.out.its j x hj
     ·have hlt:=(List.getElem?_eq_some_iff.1 hj).1;rw[List.length_append,HI.out.len]at hlt;simp only[List.length_cons,List.length_nil]at hlt;obtain rfl:j=i:=(by omega);rw[List.getElem?_append_right (by rw[HI.out.len];exact Nat.le_refl _),HI.out.len,Nat.sub_self]at hj;simp only[List.getElem?_cons_zero,Option.some.injEq]at hj;subst hj;refine⟨bs,?_,?_⟩
      ·rw[<-HY.out];exact HX.out.1
      ·rw[<-HY.out,<-HX.out.2.1,<-HX.out.2.2]
    ·rw[ox];have:lk ⟨m,bd⟩=ig m++bd:=rfl;rw[this,<-List.append_assoc];exact Lh
    ·rw[tp,Nat.zero_add,<-HNN.out.1];exact(((HR4.out.kept HF5.out.kept (λ_ _ f=>f)).kept HK6.out (λk e f=>Ud k f e)).kept HK7.out (λk e f=>PU k f e))
    ·intro k e;rcases MY with h | h
     ·exact Tw k (by rw[<-h];exact e)
     ·rw[h]at e;simp only[Option.some.injEq]at e;omega
    ·intro k e e4;rcases MY with h | h
     ·exact PU k (by rw[<-h];exact e) e4
     ·rw[h]at e;simp only[Option.some.injEq]at e;have:=Je k e4;omega
    ·exact Same.then (Same.then (Same.trans (Same.then (Same.trans HI.out.same HK3.out) HK4.out (λk hk f=>by have:=HI.out.newr k f;omega)) HF5.out.kept) HK6.out (λk hk f=>by have:=HI.out.newp k f;omega)) HK7.out (λk hk f=>by have:=Tw k f;omega)
    ·rw[ox,List.length_append];have:=HI.out.lenp;rw[Nat.succ_mul];omega
    ·rw[tp,List.length_append,xg];have:=HI.out.lenr;have:=HLZ.out.2.2.1;rw[Nat.succ_mul];show(bz 0 L).length+(46+m.name.length)<=_;omega)
   clear Lh Uf TR MY;go_wp2_with fail;go_roundg (gk-1)
   case measure=>omega
   case rel=>exact⟨i+1,_,by go_num,by omega,by omega,HW⟩
  ·have nM:decide (i<len)=false:=(by simp;omega);obtain rfl:i=len:=(by omega);have HE:=FU wr i nr np (by omega) (by omega) (by omega);go_wp2_with fail;refine HE.mono ?_;rintro e w2 ⟨v2,rfl,hf2⟩;have rJ:(eO i nr np).length=22:=(by simp[eO,az]);obtain⟨a2,c2,rL,_⟩:=hf2.row.shape;rw[rJ]at rL;subst rL;have HF2:Hid (Fresh wr w2 (.slice a2 22 c2) (eO i nr np)):=hf2;obtain⟨wB,yt⟩:∃W,W=w2.alloc (.cells #[.slice ap np cp,.slice ar nr cr,.slice a2 22 c2] 25):=⟨_,rfl⟩
   have hb:=Blk.new w2 #[.slice ap np cp,.slice ar nr cr,.slice a2 22 c2] 25;rw[<-yt]at hb;have vt:Same w2 wB:=(by rw[yt];exact(Kept.refl _ w2).alloc _);have hkW:Same wr wB:=Same.trans hf2.kept vt;have HCC:=wR wB w2.heap.size ap ar a2 np nr 22 cp cr c2 _ _ _ (aN L) (bz 0 L) (eO i nr np) (hb.cell 0) (hb.cell 1) (hb.cell 2) ((Src.ofRow HI.out.pie).kept hkW (λ_ _ _ f=>f)) ((Src.ofRow HI.out.recs).kept hkW (λ_ _ _ f=>f)) ((Src.ofRow hf2.row).kept vt (λ_ _ _ f=>f)) (Eq HI.out.pie) (Eq HI.out.recs) (Eq hf2.row) (by decide) (by omega) (by omega) (by decide);have HKW:Hid (Same w wB):=hid (Same.trans HI.out.same hkW);clear hf2 hb vt hkW HE rJ;go_wp2_with fail;rw[<-yt];clear yt;refine HCC.mono ?_;rintro e w3 ⟨v3,rfl,hf3⟩;have HF3:Hid (Fresh w w3 v3 (bT L)):=hid (by
    have h9:=Fresh.base8 HKW.out hf3;unfold bT;rw[HI.out.len,<-HNN.out.1,<-HNN.out.2,<-List.append_assoc];exact h9)
   clear hf3 HCC;go_wp2_with fail;refine bodyPost_ret (v:=.tuple #[v3,.int .i64 0]) (by simp[results,Tryz.results6,go_sem]) rfl ?_;exact⟨v3,L,rfl,HF3.out,HI.out.len,HI.out.its⟩
end Go.Proofs.YtkhagfgineifhaaGreatDoor
