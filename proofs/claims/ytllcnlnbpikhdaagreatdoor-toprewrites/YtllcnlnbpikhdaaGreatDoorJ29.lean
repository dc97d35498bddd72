import Derived.Maps.OwnIn
import Derived.Test.YtllcnlnbpikhdaaGreatDoorJ28
set_option maxHeartbeats 2000000
set_option maxRecDepth 100000
namespace Go.Proofs.YtllcnlnbpikhdaaGreatDoor
open Go.RowKit Go.Shelf Go.Maps
attribute [local go_sem] Oper.semAt_some
def Gh(bo:Nat)(W:World)(j:Nat):Prop:=j=bo\/∃v,W.cell? ⟨bo,0,none⟩=some v/\v.ownBlock=some j
structure FI(w3:World)(bo:Nat)(ts:List TK)(k:Nat)(W:World):Prop where
 ex:∃v,W.cell? ⟨bo,0,none⟩=some v/\W.frozen? ⟨bo,0,none⟩=false/\xG (w3.heap.size+2) W v (ts.take k)
 kept:Kept (λj=>j=bo\/w3.heap.size<=j) w3 W
 lt:bo<w3.heap.size
theorem FI.lt'{w3 W:World}{bo:Nat}{ts:List TK}{k j:Nat}(h:FI w3 bo ts k W)(hf:Gh bo W j):j<W.heap.size:=by
 obtain⟨v,hc,_,hr⟩:=h.ex;rcases hf with rfl | ⟨v',iF,ho⟩
 ·exact World.block_lt_of_cell? W _ hc
 ·rw[hc]at iF;injection iF with iF;subst iF;exact hr.lt ho
theorem FI.ne{w3 W:World}{bo:Nat}{ts:List TK}{k j:Nat}(h:FI w3 bo ts k W)(hf:Gh bo W j):j≠w3.heap.size/\j≠w3.heap.size+1:=by
 obtain⟨v,hc,_,hr⟩:=h.ex;have:=h.lt;rcases hf with rfl | ⟨v',iF,ho⟩
 ·omega
 ·rw[hc]at iF;injection iF with iF;subst iF;have:=hr.ge ho;omega
theorem FI.stays{w3 W W':World}{bo:Nat}{ts:List TK}{k:Nat}{G:Nat->Prop}(h:FI w3 bo ts k W)(hk:Kept G W W')(hG:∀j,Gh bo W j->¬G j):∀j,Gh bo W' j↔Gh bo W j:=by obtain⟨v,hc,_,hr⟩:=h.ex;have Er:=hk.cell hc (hG bo (.inl rfl));intro j;unfold Gh;rw[hc,Er]
theorem FI.more{w3 W W':World}{bo:Nat}{ts:List TK}{k:Nat}{G:Nat->Prop}(h:FI w3 bo ts k W)(hk:Kept G W W')(hG:∀j,Gh bo W j->¬G j)(WC:∀j,G j->w3.heap.size<=j):FI w3 bo ts k W':=by obtain⟨v,hc,hf,hr⟩:=h.ex;have hlt:=World.block_lt_of_cell? W _ hc;exact⟨⟨v,hk.cell hc (hG bo (.inl rfl)),(hk.frozen (p:=⟨bo,0,none⟩) hlt (hG bo (.inl rfl))).trans hf,RowC.kept hr hk (λj hj=>hG j (.inr ⟨v,hc,hj⟩))⟩,Kept.trans h.kept hk (λ_ _ f=>f) (λj _ g=>.inr (WC j g)),h.lt⟩
theorem uW(data:List Nat)(f i:Nat):(bJ data f i).length<=f:=by
 induction f generalizing i with
 | zero=>exact Nat.le_refl _
 | succ f ih=>
  unfold bJ;split
  ·split
   ·have:=ih (i+1);simp;omega
   ·have:=ih (i+(bD data i).1);simp;omega
  ·simp
theorem Lg(w:World)(t:TK):∀j u,(y6 t)[j]? = some u->(w.alloc (.cells #[.int .u8 (t.lit:Nat),.int .i64 t.len,.int .i64 t.dist] 133)).cell? ((⟨w.heap.size,0,none⟩:Addr).add j)=some u:=by
 intro j u hu
 match j,hu with
 | 0,hu=>simp[y6]at hu;subst hu;simp[cL]
 | 1,hu=>simp[y6]at hu;subst hu;simp[cL]
 | 2,hu=>simp[y6]at hu;subst hu;simp[cL]
 | j+3,hu=>simp[y6]at hu
theorem GT(F:Fence)(hF:Bg F)(w:World)(v:Value)(I:Nat→Prop)(data:List Nat)(hs:Src w I v data)(hb:∀b∈data,b<256)(ag:data.length≤10000000):
  CallsIn F 4 Tryz.prog 51 #[v] w λe w'=>∃v',e=.returned v'/\xG w.heap.size w' v' (dG data)/\Same w w':=by
 have kS:=hF.ro;have J9:=hF.dn;obtain⟨W0,Ed⟩:∃W0,W0=w.alloc (.cells #[.slice none 0 0] 97):=⟨_,rfl⟩
 have hk0:Same w W0:=by rw[Ed];exact(Kept.refl _ w).alloc _
 have HBX:Hid (Blk W0 w.heap.size #[.slice none 0 0] 97):=hid (by rw[Ed];exact Blk.new w _ _);have HAL:=hF.calls (n:=3) (GS W0 v I data (hs.kept hk0 (λ_ _ _ f=>f)) ag);have HK0:=hid hk0;have HB:Hid (∀b∈lO data,b<256):=hid (by unfold lO;split;simp;exact hb);have HLE:=hid (Bt data);obtain⟨ao,cap,rfl,_⟩:=id hs;obtain⟨L,hL⟩:∃L,L=data.length:=⟨_,rfl⟩
 rw[<-hL]at HAL ⊢;clear hs hb hk0 ag hL;refine callsIn_of_wp_marks Tryz.func51 rfl (hF.fn _) ?_ kS;simp only[Tryz.ntmps51,List.size_toArray,List.length_cons,List.length_nil,Nat.reduceAdd,Nat.reduceSub,Array.replicate_succ,Array.replicate_zero,List.push_toArray,List.append_toArray,List.nil_append,List.cons_append];have Po:=hF.fn 76;gi_wp2;rw[<-Ed];clear Ed;refine HAL.mono ?_;rintro e w3 ⟨bx,vo,rfl,hbx,hrow,LG,TQ,hk3⟩;have HBX3:=hid hbx;have HR3:=hid hrow;have HVO:=hid TQ;have HK3:=hid hk3;have PI:w.heap.size<W0.heap.size:=HBX.out.lt;have ul:W0.heap.size<=w3.heap.size:=hk3.size;have HBO:Hid (Blk w3 w.heap.size #[.slice none 0 0] 97):=hid (HBX.out.kept hk3 (λf=>f));have HBL:Hid (bx<w3.heap.size/\W0.heap.size<=bx):=hid ⟨World.block_lt_of_cell? w3 _ hbx,LG⟩;obtain⟨ts,PE⟩:∃ts,ts=dG data:=⟨_,rfl⟩
 have HTS:Hid (bJ (lO data) (lO data).length 0=ts):=hid (by rw[PE,sx]);have HFD:Hid (ts=dG data):=PE;have HLN:Hid (ts.length<=16384):=hid (by
  rw[PE,sx];exact Nat.le_trans (uW _ _ _) (Bt data))
 clear hbx hrow TQ hk3 LG PE;gi_wp2;refine Gg 1 kS (by omega) (gf:=99) (lb:=#[.pointer (some ⟨bx,0,none⟩)]) rfl (hF.fn _) (enters_of Tryz.func99 (by kernel_rfl) rfl) ts.length (mS ts) (λ_=>rfl) (λ_=>true) 0
  (Gh w.heap.size) (FI w3 w.heap.size ts) (λk W W' G h hk hG hB=>h.more hk hG hB) (λk W W' G h hk hG=>h.stays hk hG) (λk W j h hf=>h.lt' hf) (λk W j h hf=>h.ne hf) ?start
  (λk W=>{tmps:=#[.slice ao L cap,undef,.slice none 0 0,.pointer (some ⟨w.heap.size,0,none⟩),.pointer (some ⟨W.heap.size,0,none⟩),.slice ao L cap,.func (.func 99) #[] #[.pointer (some ⟨bx,0,none⟩)],.agg (Ko (ts.getD k ⟨0,0,0⟩)),undef,undef,undef,undef,undef],defers:=[]})
  (λk W=>W.alloc (.cells (Ko (ts.getD k ⟨0,0,0⟩)) 133)) (λk W=>(Kept.refl _ W).alloc _) ?seq ?assign ?body ?done
 case start=>exact⟨⟨_,HBO.out.cell 0,HBO.out.frozen 0,by simpa using RowC.nil⟩,Kept.refl _ _,by omega⟩
 case seq=>
  intro J W hW cX D7 Il hlt hY PM;have h:=FJ F hF 3 (w3.heap.size+1) (λ_=>true) (Im w3.heap.size (Gh w.heap.size)) J (lO data) bx vo HLE.out HB.out w3.heap.size D7 Il hlt (by rw[HTS.out];exact hY) W (by omega) PM (hW.cell HBX3.out (λf=>f)) (HR3.out.kept hW (λ_ _ f=>f)) (λk e f=>by
   have h1:=HVO.out k e;have h2:=HR3.out.lt e;rcases f with rfl | rfl | rfl | ⟨v',iF,ho⟩
   ·omega
   ·omega
   ·omega
   ·have h3:W.cell? ⟨w.heap.size,0,none⟩=some (.slice none 0 0):=hW.cell (HBO.out.cell 0) (λf=>f);rw[h3]at iF;injection iF with iF;subst iF;cases ho)
  rw[HTS.out]at h;exact h
 case assign=>
  intro k W K hk hK;unfold mS;generalize ts.getD k ⟨0,0,0⟩=t at hK ⊢;obtain⟨lit,len,dist⟩:=t;simp only[Ko]at hK ⊢;gi_wp2;exact hK
 case body=>
  intro k W W1 hk hI hI1 cX hkP;obtain⟨v,hc,hf,hr⟩:=hI1.ex;obtain⟨t,ht⟩:∃t,t=ts.getD k ⟨0,0,0⟩:=⟨_,rfl⟩
  rw[<-ht]at hkP ⊢;have hTB:Blk W1 W.heap.size (Ko t) 133:=(Blk.new W (Ko t) 133).kept hkP (λe=>by omega);obtain⟨lit,len,dist⟩:=t;have t0:W1.cell? ⟨W.heap.size,0,none⟩=some (.int .u8 (lit:Nat)):=hTB.cell 0;have t1:W1.cell? ⟨W.heap.size,1,none⟩=some (.int .i64 len):=hTB.cell 1;have t2:W1.cell? ⟨W.heap.size,2,none⟩=some (.int .i64 dist):=hTB.cell 2;obtain⟨av,cv,hv,_⟩:=hr.shape;obtain⟨nv,Em⟩:∃n,n=(ts.take k).length:=⟨_,rfl⟩
  rw[<-Em]at hv;subst hv;obtain⟨i0,hi,iq,iG,fW⟩:=info_parts Tryz.infoTk;have HHR:Hid (W1.ownsRow (w3.heap.size+2) 133 3 (.slice av nv cv) nv ((ts.take k).flatMap y6)):=hid (by rw[Em];exact(by rw[Em]at hr;exact hr));have HNV:Hid (nv<=100000):=hid (by
   have h1:nv<=k:=(by rw[Em,List.length_take];omega);have h2:=HLN.out;omega)
  have HFF:Hid (W1.cell? ⟨w.heap.size,0,none⟩=some (.slice av nv cv)/\W1.frozen? ⟨w.heap.size,0,none⟩=false):=hid ⟨hc,hf⟩;have HTK:Hid (ts.take (k+1)=ts.take k++[⟨lit,len,dist⟩]):=hid (by
   rw[List.take_succ_eq_append_getElem hk];congr 2;have:ts.getD k ⟨0,0,0⟩=ts[k]:=(by simp[List.getD,hk]);rw[<-this,ht])
  have HNVL:Hid (nv=(ts.take k).length):=Em;have HI1:=hid hI1;have Oe:w3.heap.size+2<=W1.heap.size:=(by have h8:=hkP.size;rw[World.size_alloc]at h8;omega);have HBN:Hid (∀j,(Value.slice av nv cv).ownBlock=some j->w3.heap.size+2<=j):=hid (λj e=>(HHR.out.lt j e).1);unfold Ko;clear Em hr hTB hI hI1 hkP ht hf hk;gi_wp2_with (gi_at_builtin;refine wpListIn_append_own_at (W1.alloc (.cells #[.int .u8 (lit:Nat),.int .i64 len,.int .i64 dist] 133)) rfl (.tmp 8) (.tmp 10) 97 rfl (w3.heap.size+2) 133 i0 (.agg #[.int .u8 0,.int .i64 0,.int .i64 0]) 3 24 Tryz.underlying97 hi iq iG fW rfl (by decide) (.slice av nv cv) nv ((ts.take k).flatMap y6) rfl (HHR.out.alloc _) ⟨W1.heap.size,0,none⟩ 1 1 (y6 ⟨lit,len,dist⟩) rfl rfl (Lg W1 ⟨lit,len,dist⟩) (gI fd [⟨lit,len,dist⟩]) (by have:=HNV.out;unfold maxLen;omega) (by have:=HNV.out;omega) (by simp;omega) ?_);intro v5 w5 hr5 d8 hn5 TX;have HR5:Hid (w5.ownsRow (w3.heap.size+2) 133 3 v5 (nv+1) ((ts.take k).flatMap y6++y6 ⟨lit,len,dist⟩)):=hr5;have HA5:=hid TX;have hk5:Kept (λj=>(Value.slice av nv cv).ownBlock=some j) W1 w5:=((Kept.refl (λj=>(Value.slice av nv cv).ownBlock=some j) W1).alloc _).grown d8 (λj e=>.inl e);have HK5:=hid hk5;have Nv:¬(Value.slice av nv cv).ownBlock=some w.heap.size:=λe=>by have:=HBN.out _ e;omega
  have Kj:w5.cell? ⟨w.heap.size,0,none⟩=some (.slice av nv cv):=hk5.cell HFF.out.1 Nv;have hf5:w5.frozen? ⟨w.heap.size,0,none⟩=false:=(hk5.frozen (p:=⟨w.heap.size,0,none⟩) (World.block_lt_of_cell? W1 _ HFF.out.1) Nv).trans HFF.out.2;have hr6:xG (w3.heap.size+2) w5 v5 (ts.take (k+1)):=(by have h9:=HR5.out;rw[HTK.out];show w5.ownsRow _ _ _ v5 (ts.take k++[(⟨lit,len,dist⟩:TK)]).length ((ts.take k++[(⟨lit,len,dist⟩:TK)]).flatMap y6);rw[List.length_append,<-HNVL.out,List.flatMap_append];simpa using h9);have HR6:=hid hr6;obtain⟨a5,c5,fJ,_⟩:=hr6.shape;generalize (ts.take (k+1)).length=n5 at fJ;subst fJ;clear hr5 d8 hn5 TX hk5 hr6 hc t0 t1 t2;gi_wp2;have Tr:Kept (λj=>j=w.heap.size) w5 (w5.setCell ⟨w.heap.size,0,none⟩ (.slice a5 n5 c5)):=(Kept.refl (λj=>j=w.heap.size) w5).setCell _ _ (.inl rfl);have Tx:(w5.setCell ⟨w.heap.size,0,none⟩ (.slice a5 n5 c5)).cell? ⟨w.heap.size,0,none⟩=some (.slice a5 n5 c5):=World.cell?_setCell_same' _ _ _ (by rw[Kj];rfl);have Ex:∀j,(Value.slice av nv cv).ownBlock=some j->Gh w.heap.size W1 j:=λj e=>.inr ⟨_,HFF.out.1,e⟩
  have hkf:Kept (Gh w.heap.size W1) W1 (w5.setCell ⟨w.heap.size,0,none⟩ (.slice a5 n5 c5)):=Kept.trans HK5.out Tr (λj _ e=>Ex j e) (λj _ e=>.inl e);refine⟨rfl,⟨hkf,λj hj=>?_⟩,⟨⟨_,Tx,by rw[World.frozen?_setCell];exact hf5,RowC.kept HR6.out Tr (λj e e2=>by have:=HR6.out.ge e;omega)⟩,Kept.trans HI1.out.kept hkf (λ_ _ f=>f) (λj hj f=>?_),HI1.out.lt⟩⟩
  ·rcases hj with rfl | ⟨v',iF,ho⟩
   ·exact .inl (.inl rfl)
   ·rw[Tx]at iF;injection iF with iF;subst iF;rcases HA5.out with h9 | h9
    ·rw[h9]at ho;exact .inl (Ex j ho)
    ·rw[h9]at ho;simp at ho;exact .inr (by omega)
  ·rcases f with rfl | ⟨v',iF,ho⟩
   ·exact .inl rfl
   ·rw[HFF.out.1]at iF;injection iF with iF;subst iF;exact .inr (by have:=HBN.out j ho;omega)
 case done=>
  intro M W SU hM hI hD cX;have Ue:M=ts.length:=by rcases hM with h9 | ⟨_,h9⟩;exact h9;cases h9
  obtain⟨v,hc,hf,hr⟩:=hI.ex;rw[Ue,List.take_length]at hr;have HRV:=hid hr;have HKI:=hid hI.kept;obtain⟨av,cv,hv,_⟩:=hr.shape;generalize ts.length=nv at hv;subst hv;have V6:(if M=0 then Exit.normal else GR ((λ_=>true) (M-1)) 0)=.normal:=(by split<;>rfl);rw[V6];clear hr hI hf;gi_wp2;refine⟨by simp,.inl ⟨_,_,rfl,run_takeDeferred hD,?_⟩⟩;refine⟨_,results_tmp rfl _ _ _,_,rfl,?_,?_⟩
  ·have h1:=RowC.kept HRV.out (fF W w3.heap.size (.deferred none)) (λj e e2=>by have:=HRV.out.ge e;omega);rw[<-HFD.out];exact RowC.base h1 (by omega)
  ·have h1:Kept (λj=>w.heap.size<=j) w3 (W.putObj w3.heap.size (.deferred none)):=Kept.trans HKI.out (fF W w3.heap.size (.deferred none)) (λj _ f=>by omega) (λj _ f=>by omega);exact Same.then (Same.trans HK0.out HK3.out) h1 (λx hx e=>by omega)
theorem C4(w:World)(v:Value)(I:Nat→Prop)(data:List Nat)(hs:Src w I v data)(hb:∀b∈data,b<256)(ag:data.length≤10000000):
  Calls Tryz.prog 51 #[v] w λe w'=>∃v',e=.returned v'/\xG w.heap.size w' v' (dG data)/\Same w w':=
 (callsIn_wide (n:=4)).1 (GT Fence.wide Gf w v I data hs hb ag)
end Go.Proofs.YtllcnlnbpikhdaaGreatDoor
