import Derived.Stop.RegionWithIn
import Derived.Test.YtljlmfnbeofmmaaGreatDoorJ27
set_option maxHeartbeats 2000000
set_option maxRecDepth 100000
namespace Go.Proofs.YtljlmfnbeofmmaaGreatDoor
open Go.RowKit Go.Shelf
attribute [local go_sem] Oper.semAt_some
def mh(data:List Nat):List Nat:=if 16384<data.length then []else data
theorem BE(data:List Nat):(mh data).length<=16384:=by
 unfold mh;split
 ·simp
 ·omega
theorem sO(data:List Nat):cY data=bL (mh data) (mh data).length 0:=by
 unfold cY mh;split
 ·rfl
 ·rfl
theorem GY(w:World)(v:Value)(I:Nat→Prop)(data:List Nat)(hs:Src w I v data)(ag:data.length≤10000000):
  Calls Tryz.prog 78 #[v] w λe w'=>∃bx vo,e=.returned (.func (.func 112) #[] #[.pointer (some ⟨bx,0,none⟩)])/\w'.cell? ⟨bx,0,none⟩=some vo/\Row w' vo (mh data)/\w.heap.size<=bx/\(∀k,vo.ownBlock=some k->w.heap.size<=k/\k≠bx)/\Same w w':=by
 obtain⟨ao,cap,rfl,_⟩:=id hs;by_cases fB:16384<data.length
 ·have HO:Hid (mh data=[]):=hid (by unfold mh;rw[if_pos fB]);have HC:=gQ w (.slice none 0 0) (λ_=>False) [] ⟨none,0,rfl,λh=>absurd rfl h⟩ (by simp);obtain⟨L,hL⟩:∃L,L=data.length:=⟨_,rfl⟩
  rw[<-hL]at fB ag ⊢;clear hs hL;go_enter Tryz.func78,Tryz.ntmps78;go_wp2_with fail;refine HC.mono ?_;rintro e w1 ⟨v1,rfl,hf⟩;have HF:Hid (Fresh w w1 v1 []):=hf;obtain⟨a1,c1,fC,_⟩:=hf.row.shape;subst fC;clear hf HC;go_wp2_with fail;go_ret;refine⟨_,_,rfl,by simp,by rw[HO.out];exact HF.out.row.kept ((Kept.refl (λ_=>False) w1).alloc _) (λ_ _ f=>f),HF.out.kept.size,λk e=>⟨HF.out.new k e,?_⟩,HF.out.kept.alloc _⟩;have:=HF.out.row.lt e;omega
 ·have HO:Hid (mh data=data):=hid (by unfold mh;rw[if_neg fB]);have HC:=gQ w _ I data hs (by omega);obtain⟨L,hL⟩:∃L,L=data.length:=⟨_,rfl⟩
  rw[<-hL]at fB ag HC ⊢;clear hs hL;go_enter Tryz.func78,Tryz.ntmps78;go_wp2_with fail;refine HC.mono ?_;rintro e w1 ⟨v1,rfl,hf⟩;have HF:Hid (Fresh w w1 v1 data):=hf;obtain⟨a1,c1,fC,_⟩:=hf.row.shape;generalize data.length=n1 at fC;subst fC;clear hf HC;go_wp2_with fail;go_ret;refine⟨_,_,rfl,by simp,by rw[HO.out];exact HF.out.row.kept ((Kept.refl (λ_=>False) w1).alloc _) (λ_ _ f=>f),HF.out.kept.size,λk e=>⟨HF.out.new k e,?_⟩,HF.out.kept.alloc _⟩;have:=HF.out.row.lt e;omega
theorem GZ(F:Fence)(hF:Ca F)(n:Nat)(l:Nat)(go:Nat→Bool)(fp:World→Nat→Prop)(J:Nat→World→Prop)(data:List Nat)(bx:Nat)(vo:Value)(ag:data.length≤16384)(hb:∀b∈data,b<256)
  (B0:Nat) (EK:∀k W W' G,J k W->Kept G W W'->(∀j,fp W j->¬G j)->(∀j,G j->B0<=j)->J k W') (IB:∀k W W' G,J k W->Kept G W W'->(∀j,fp W j->¬G j)->∀j,fp W' j↔fp W j) (hlt:∀k W j,J k W->fp W j->j<W.heap.size)
  (hY:∀k W1,k<(bL data data.length 0).length->(k=0\/go (k-1)=true)->J k W1->YieldAt F (n-1-1) Tryz.prog l (ny (bL data data.length 0) k) W1 λe W'=>e=.returned (.bool (go k))/\J (k+1) W'/\Kf fp W1 W')
  (W:World) (hB0:B0<=W.heap.size) (h0:J 0 W) (hbx:W.cell? ⟨bx,0,none⟩=some vo) (hr:Row W vo data) (hn:∀k,vo.ownBlock=some k->¬fp W k):
  CallsIn F n Tryz.prog 112 #[.func (.yield l) #[] #[],.pointer (some ⟨bx,0,none⟩)] W λe W'=>(∃v,e=.returned v)/\∃M,M<=(bL data data.length 0).length/\(M=(bL data data.length 0).length\/(0<M/\go (M-1)=false))/\J M W':=by
 have lN:=hF.ro;obtain⟨ao,cap,rfl,_⟩:=hr.shape;refine callsIn_of_wp Tryz.func112 rfl (hF.fn _) ?_ lN;simp only[Tryz.ntmps112,List.size_toArray,List.length_cons,List.length_nil,Nat.reduceAdd,Nat.reduceSub,Array.replicate_succ,Array.replicate_zero,List.push_toArray,List.append_toArray,List.nil_append,List.cons_append];have HCH:Hid (∀W',Same W W'->CallsIn F (n-1) Tryz.prog 113 #[.slice ao data.length cap] W' λe w'=>∃aa na ca,e=.returned (.slice aa na ca)/\pz W'.heap.size w' (.slice aa na ca) (on data)/\Same W' w'):=hid (λW' hk=>hF.calls ((ya W' _ _ data (Src.ofRow (hr.kept hk (λ_ _ f=>f))) hb (by omega)).mono (λe w' h=>by
  obtain⟨v',rfl,hr',hk'⟩:=h;obtain⟨aa,ca,rfl,_⟩:=hr'.shape;exact⟨aa,_,ca,rfl,hr',hk'⟩)))
 have HR:Hid (Row W (.slice ao data.length cap) data):=hr;have HN:Hid (∀k,(Value.slice ao data.length cap).ownBlock=some k->¬fp W k):=hn;have HJ0:Hid (J 0 W):=h0;have HJS:=hid EK;have HFS:=hid IB;have HLT:=hid hlt;have HY:=hid hY;have HLE:Hid (data.length<=16384):=ag;have HTELL:Hid (∀(W':World) (v3:Value),Same W W'->pz W.heap.size W' v3 (on data)->CallsIn F (n-1) Tryz.prog 114 #[.agg #[.slice ao data.length cap,v3],.func (.yield l) #[] #[]] W' λe W'=>(∃v,e=.returned v)/\∃M,M<=(bL data data.length 0).length/\(M=(bL data data.length 0).length\/(0<M/\go (M-1)=false))/\J M W'):=hid (λW' v3 hk hr3=>by
  obtain⟨aa,ca,rfl,_⟩:=hr3.shape;have hf:=HFS.out 0 W W' _ HJ0.out hk (λ_ _ f=>f);refine GO F hF (n-1) l go fp J data ao data.length cap aa (on data).length ca rfl (by rw[gL]) (by have:=HLE.out;omega) B0 HJS.out HFS.out HLT.out (by have:=HY.out;simpa using this) W' (Nat.le_trans hB0 hk.size) (HJS.out 0 W W' _ HJ0.out hk (λ_ _ f=>f) (λ_ f=>f.elim)) ?_ ?_
  ·refine(Src.ofRow (HR.out.kept hk (λ_ _ f=>f))).mono (λj hj=>⟨λf=>HN.out j hj ((hf j).1 f),Nat.lt_of_lt_of_le (HR.out.lt hj) hk.size⟩)
  ·refine(SrcE.ofRow hr3).mono' (λj hj=>⟨λf=>?_,hr3.lt hj⟩);have h1:=HLT.out 0 W j HJ0.out ((hf j).1 f);have h2:=hr3.ge hj;omega)
 obtain⟨L,hL⟩:∃L,L=data.length:=⟨_,rfl⟩
 have HLL:Hid (L=data.length):=hL;rw[<-hL]at hbx HCH HTELL;have HKD:Hid (∀m,Same W (W.drewN m)):=hid (λm=>(Kept.refl _ W).drewN m);have HKD1:Hid (Same W W.drew):=hid ((Kept.refl _ W).drew);clear hr hn h0 EK IB hlt hY ag hb hL;have Vt:=hF.fn 113;have VS:=hF.fn 114;have KM:=hF.dn;gi_wp2;gi_region_with (first
  | (gi_at_call 113;first | refine⟨hF.fn _,hF.dp,(HCH.out _ (by first | exact HKD1.out | exact HKD.out _ | exact Kept.refl _ _)).mono ?_⟩ | refine(HCH.out _ (by first | exact HKD1.out | exact HKD.out _ | exact Kept.refl _ _)).mono ?_;rintro e w3 ⟨a3,n3,c3,rfl,hr3,hk3⟩;have WR:=hk3.cell (HKD1.out.cell hbx (λf=>f)) (λf=>f))
  | (gi_at_call 114;refine(HTELL.out _ _ (Same.trans HKD1.out hk3) (by have h9:=hr3;simpa using h9)).mono ?_;rintro e w4 ⟨⟨v4,rfl⟩,h4⟩))
 all_goals
  gi_wp2
  go_end0;exact⟨⟨_,rfl⟩,by rw[<-HLL.out];exact h4⟩
end Go.Proofs.YtljlmfnbeofmmaaGreatDoor
