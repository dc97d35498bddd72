import Derived.Stop.RegionWithIn
import Derived.Test.YtllcnlnbpikhdaaGreatDoorJ27
set_option maxHeartbeats 2000000
set_option maxRecDepth 100000
namespace Go.Proofs.YtllcnlnbpikhdaaGreatDoor
open Go.RowKit Go.Shelf
attribute [local go_sem] Oper.semAt_some
def lO(data:List Nat):List Nat:=if 16384<data.length then []else data
theorem Bt(data:List Nat):(lO data).length<=16384:=by
 unfold lO;split
 ·simp
 ·omega
theorem sx(data:List Nat):dG data=bJ (lO data) (lO data).length 0:=by
 unfold dG lO;split
 ·rfl
 ·rfl
theorem GS(w:World)(v:Value)(I:Nat→Prop)(data:List Nat)(hs:Src w I v data)(ag:data.length≤10000000):
  Calls Tryz.prog 76 #[v] w λe w'=>∃bx vo,e=.returned (.func (.func 99) #[] #[.pointer (some ⟨bx,0,none⟩)])/\w'.cell? ⟨bx,0,none⟩=some vo/\Row w' vo (lO data)/\w.heap.size<=bx/\(∀k,vo.ownBlock=some k->w.heap.size<=k/\k≠bx)/\Same w w':=by
 obtain⟨ao,cap,rfl,_⟩:=id hs;by_cases ei:16384<data.length
 ·have HO:Hid (lO data=[]):=hid (by unfold lO;rw[if_pos ei]);have HC:=gR w (.slice none 0 0) (λ_=>False) [] ⟨none,0,rfl,λh=>absurd rfl h⟩ (by simp);obtain⟨L,hL⟩:∃L,L=data.length:=⟨_,rfl⟩
  rw[<-hL]at ei ag ⊢;clear hs hL;go_enter Tryz.func76,Tryz.ntmps76;go_wp2_with fail;refine HC.mono ?_;rintro e w1 ⟨v1,rfl,hf⟩;have HF:Hid (Fresh w w1 v1 []):=hf;obtain⟨a1,c1,fv,_⟩:=hf.row.shape;subst fv;clear hf HC;go_wp2_with fail;go_ret;refine⟨_,_,rfl,by simp,by rw[HO.out];exact HF.out.row.kept ((Kept.refl (λ_=>False) w1).alloc _) (λ_ _ f=>f),HF.out.kept.size,λk e=>⟨HF.out.new k e,?_⟩,HF.out.kept.alloc _⟩;have:=HF.out.row.lt e;omega
 ·have HO:Hid (lO data=data):=hid (by unfold lO;rw[if_neg ei]);have HC:=gR w _ I data hs (by omega);obtain⟨L,hL⟩:∃L,L=data.length:=⟨_,rfl⟩
  rw[<-hL]at ei ag HC ⊢;clear hs hL;go_enter Tryz.func76,Tryz.ntmps76;go_wp2_with fail;refine HC.mono ?_;rintro e w1 ⟨v1,rfl,hf⟩;have HF:Hid (Fresh w w1 v1 data):=hf;obtain⟨a1,c1,fv,_⟩:=hf.row.shape;generalize data.length=n1 at fv;subst fv;clear hf HC;go_wp2_with fail;go_ret;refine⟨_,_,rfl,by simp,by rw[HO.out];exact HF.out.row.kept ((Kept.refl (λ_=>False) w1).alloc _) (λ_ _ f=>f),HF.out.kept.size,λk e=>⟨HF.out.new k e,?_⟩,HF.out.kept.alloc _⟩;have:=HF.out.row.lt e;omega
theorem FJ(F:Fence)(hF:Bg F)(n:Nat)(l:Nat)(go:Nat→Bool)(fp:World→Nat→Prop)(J:Nat→World→Prop)(data:List Nat)(bx:Nat)(vo:Value)(ag:data.length≤16384)(hb:∀b∈data,b<256)
  (B0:Nat) (D7:∀k W W' G,J k W->Kept G W W'->(∀j,fp W j->¬G j)->(∀j,G j->B0<=j)->J k W') (Il:∀k W W' G,J k W->Kept G W W'->(∀j,fp W j->¬G j)->∀j,fp W' j↔fp W j) (hlt:∀k W j,J k W->fp W j->j<W.heap.size)
  (hY:∀k W1,k<(bJ data data.length 0).length->(k=0\/go (k-1)=true)->J k W1->YieldAt F (n-1-1) Tryz.prog l (mS (bJ data data.length 0) k) W1 λe W'=>e=.returned (.bool (go k))/\J (k+1) W'/\Kf fp W1 W')
  (W:World) (hB0:B0<=W.heap.size) (h0:J 0 W) (hbx:W.cell? ⟨bx,0,none⟩=some vo) (hr:Row W vo data) (hn:∀k,vo.ownBlock=some k->¬fp W k):
  CallsIn F n Tryz.prog 99 #[.func (.yield l) #[] #[],.pointer (some ⟨bx,0,none⟩)] W λe W'=>(∃v,e=.returned v)/\∃M,M<=(bJ data data.length 0).length/\(M=(bJ data data.length 0).length\/(0<M/\go (M-1)=false))/\J M W':=by
 have kS:=hF.ro;obtain⟨ao,cap,rfl,_⟩:=hr.shape;refine callsIn_of_wp Tryz.func99 rfl (hF.fn _) ?_ kS;simp only[Tryz.ntmps99,List.size_toArray,List.length_cons,List.length_nil,Nat.reduceAdd,Nat.reduceSub,Array.replicate_succ,Array.replicate_zero,List.push_toArray,List.append_toArray,List.nil_append,List.cons_append];have HCH:Hid (∀W',Same W W'->CallsIn F (n-1) Tryz.prog 100 #[.slice ao data.length cap] W' λe w'=>∃aa na ca,e=.returned (.slice aa na ca)/\oR W'.heap.size w' (.slice aa na ca) (nT data)/\Same W' w'):=hid (λW' hk=>hF.calls ((vR W' _ _ data (Src.ofRow (hr.kept hk (λ_ _ f=>f))) hb (by omega)).mono (λe w' h=>by
  obtain⟨v',rfl,hr',hk'⟩:=h;obtain⟨aa,ca,rfl,_⟩:=hr'.shape;exact⟨aa,_,ca,rfl,hr',hk'⟩)))
 have HR:Hid (Row W (.slice ao data.length cap) data):=hr;have HN:Hid (∀k,(Value.slice ao data.length cap).ownBlock=some k->¬fp W k):=hn;have HJ0:Hid (J 0 W):=h0;have HJS:=hid D7;have HFS:=hid Il;have HLT:=hid hlt;have HY:=hid hY;have HLE:Hid (data.length<=16384):=ag;have HTELL:Hid (∀(W':World) (v3:Value),Same W W'->oR W.heap.size W' v3 (nT data)->CallsIn F (n-1) Tryz.prog 101 #[.agg #[.slice ao data.length cap,v3],.func (.yield l) #[] #[]] W' λe W'=>(∃v,e=.returned v)/\∃M,M<=(bJ data data.length 0).length/\(M=(bJ data data.length 0).length\/(0<M/\go (M-1)=false))/\J M W'):=hid (λW' v3 hk hr3=>by
  obtain⟨aa,ca,rfl,_⟩:=hr3.shape;have hf:=HFS.out 0 W W' _ HJ0.out hk (λ_ _ f=>f);refine EF F hF (n-1) l go fp J data ao data.length cap aa (nT data).length ca rfl (by rw[gM]) (by have:=HLE.out;omega) B0 HJS.out HFS.out HLT.out (by have:=HY.out;simpa using this) W' (Nat.le_trans hB0 hk.size) (HJS.out 0 W W' _ HJ0.out hk (λ_ _ f=>f) (λ_ f=>f.elim)) ?_ ?_
  ·refine(Src.ofRow (HR.out.kept hk (λ_ _ f=>f))).mono (λj hj=>⟨λf=>HN.out j hj ((hf j).1 f),Nat.lt_of_lt_of_le (HR.out.lt hj) hk.size⟩)
  ·refine(SrcE.ofRow hr3).mono' (λj hj=>⟨λf=>?_,hr3.lt hj⟩);have h1:=HLT.out 0 W j HJ0.out ((hf j).1 f);have h2:=hr3.ge hj;omega)
 obtain⟨L,hL⟩:∃L,L=data.length:=⟨_,rfl⟩
 have HLL:Hid (L=data.length):=hL;rw[<-hL]at hbx HCH HTELL;have HKD:Hid (∀m,Same W (W.drewN m)):=hid (λm=>(Kept.refl _ W).drewN m);have HKD1:Hid (Same W W.drew):=hid ((Kept.refl _ W).drew);clear hr hn h0 D7 Il hlt hY ag hb hL;have WQ:=hF.fn 100;have UV:=hF.fn 101;have J9:=hF.dn;gi_wp2;gi_region_with (first
  | (gi_at_call 100;first | refine⟨hF.fn _,hF.dp,(HCH.out _ (by first | exact HKD1.out | exact HKD.out _ | exact Kept.refl _ _)).mono ?_⟩ | refine(HCH.out _ (by first | exact HKD1.out | exact HKD.out _ | exact Kept.refl _ _)).mono ?_;rintro e w3 ⟨a3,n3,c3,rfl,hr3,hk3⟩;have Vf:=hk3.cell (HKD1.out.cell hbx (λf=>f)) (λf=>f))
  | (gi_at_call 101;refine(HTELL.out _ _ (Same.trans HKD1.out hk3) (by have h9:=hr3;simpa using h9)).mono ?_;rintro e w4 ⟨⟨v4,rfl⟩,h4⟩))
 all_goals
  gi_wp2
  go_end0;exact⟨⟨_,rfl⟩,by rw[<-HLL.out];exact h4⟩
end Go.Proofs.YtllcnlnbpikhdaaGreatDoor
