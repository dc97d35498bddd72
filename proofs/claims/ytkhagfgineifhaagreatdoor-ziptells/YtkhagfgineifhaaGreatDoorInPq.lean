import Derived.Test.YtkhagfgineifhaaGreatDoorInPr
import Derived.Test.YtkhagfgineifhaaGreatDoorCln
import Derived.Deep.RegionHeld3
set_option maxHeartbeats 2000000
set_option maxRecDepth 100000
namespace Go.Proofs.YtkhagfgineifhaaGreatDoor
open Go.RowKit
theorem zg(w:World)(ρ:bP)(h most e:Nat)(va:Value)(bs out:List Nat)(gone:Nat)(vl bv:Value)(s:SW w ρ h most e va bs out gone vl bv)(ag:bs.length≤2000000):
  Calls Tryz.prog 102 #[.pointer (some ⟨h,0,none⟩),.int .i64 55] w λx w'=>(∃u,x=.returned u)/\∃va',Sm w' h most vl bv va' (gone % 8) e/\Row w' va' (bs.drop (gone / 8))/\(∀k,va'.ownBlock=some k->w.heap.size<=k)/\Kept (·=h) w w':=by
 obtain⟨aa,capa,A9,_⟩:=s.ah.shape;have HS:Hid (SW w ρ h most e va bs out gone vl bv):=s;subst A9;have Jl:=s.sm.lt;have c3:=s.sm.cell 3;have c4:=s.sm.cell 4;simp at c3 c4;have HAH:Hid (Row w (.slice aa bs.length capa) bs):=s.ah;obtain⟨LB,lP⟩:∃L,L=bs.length:=⟨_,rfl⟩
 rw[<-lP]at c3 ag;obtain⟨k,hk⟩:∃k,k=gone / 8:=⟨_,rfl⟩
 have KF:(gone:Int) / 8=(k:Int):=by omega
 have yD:k<=LB:=by have:=s.gl;omega
 have cD:LB<=capa:=by
  rcases s.ah.2 with⟨e1,_⟩ | ⟨g,cp,cur,e1,_,_,mr,_⟩
  ·simp only[Value.slice.injEq]at e1;omega
  ·simp only[Value.slice.injEq]at e1;omega
 have HCL:Hid (∀(W:World) (a':Option Addr) (c':Nat),Same w W->(k<LB->∃g,aa=some ⟨g,0,none⟩/\a'=some ⟨g,k,none⟩)->Calls Tryz.prog 101 #[.slice a' (LB-k) c'] W λx w'=>∃v',x=.returned v'/\Fresh W w' v' (bs.drop k)):=hid (λW a' c' hW ha=>by
  have:=gV W (.slice a' (LB-k) c') _ (bs.drop k) (by rw[lP];exact(HAH.out.rest k (by omega) a' c' (by rw[<-lP];exact ha)).kept hW (λ_ _ _ f=>f)) (by rw[List.length_drop];omega);exact this)
 have HK:Hid (k=gone / 8):=hk;have uQ:IntKind.i64.wrap (k:Int)=(k:Int):=by rw[IntKind.wrap_i64];omega
 have Cz:Int.tdiv (gone:Int) 8=(k:Int):=by rw[HK.out];rfl
 have i1:(0:Int)<=(k:Int):=by omega
 have i2:(k:Int)<=(LB:Int):=by omega
 have i3:(LB:Int)<=(capa:Int):=by omega
 have i4:(k:Int)<=(capa:Int):=by omega
 have UI:gone<=8*LB:=by have:=s.gl;omega
 have HFIN:Hid (∀(w1:World) (v1:Value),Fresh w w1 v1 (bs.drop k)->∀(w2:World),Kept (·=h) w1 w2->Row w2 v1 (bs.drop (gone / 8))/\(∀k,v1.ownBlock=some k->w.heap.size<=k)/\Kept (·=h) w w2):=hid (λw1 v1 hf w2 hk2=>⟨by
  rw[<-HK.out];exact hf.row.kept hk2 (λj hj e1=>by have:=hf.new j hj;omega),hf.new,Kept.trans hf.kept hk2 (λ_ _ f=>f.elim) (λ_ _ f=>f)⟩)
 have HAA:Hid (k<LB->∃g,aa=some ⟨g,0,none⟩):=hid (λhlt=>by
  rcases s.ah.2 with⟨e1,hn⟩ | ⟨g,cp,cur,e1,_⟩
  ·omega
  ·simp only[Value.slice.injEq]at e1;exact⟨g,e1.1⟩)
 have HLB:Hid (LB=bs.length):=lP;clear s hk lP;have HSH:Hid ((aa=none/\LB=0/\capa=0)\/∃g,aa=some ⟨g,0,none⟩):=hid (by
  rcases HAH.out.2 with⟨e1,hn⟩ | ⟨g,cp,cur,e1,_⟩
  ·simp only[Value.slice.injEq]at e1;exact .inl ⟨e1.1,by have:=HLB.out;omega,e1.2.2⟩
  ·simp only[Value.slice.injEq]at e1;exact .inr ⟨g,e1.1⟩)
 rcases HSH.out with⟨rfl,rfl,rfl⟩ | ⟨g,rfl⟩
 ·have hk0:k=0:=(by omega);subst hk0;have t0:Int.tdiv (gone:Int) 8=0:=Cz;have t1:(gone:Int) / 8=0:=KF;have t2:IntKind.i64.wrap 0=0:=(by decide);clear HSH i1 i2 i3 i4 cD yD uQ Cz KF;go_enter Tryz.func102,Tryz.ntmps102;go_wp2_with fail;go_region_held3 (λw'=>w'.cell? ⟨h,3,none⟩=some (.slice none 0 0)/\w'.cell? ⟨h,4,none⟩=some (.int .i64 (gone:Nat))) (first | (go_split_ands;exact⟨hf1.kept.cell (by assumption) (λf=>f),hf1.kept.cell (by assumption) (λf=>f)⟩) | go_keep)
   (first
    | (go_at_call 101;refine(HCL.out _ _ _ ((Kept.refl _ w).drew) ?_).mono ?_;exact λhlt=>absurd hlt (by omega);rintro x w1 ⟨v1,rfl,hf1⟩))
  all_goals
   have HF1:Hid (Fresh w w1 v1 (bs.drop 0)):=hid ⟨hf1.row,Kept.undrew hf1.kept,hf1.new⟩;have HS1:Hid (Sm w1 h most vl bv (.slice none bs.length 0) gone e):=hid (HS.out.sm.kept HF1.out.kept (λf=>f));obtain⟨a1,jh,fA,_⟩:=hf1.row.shape;generalize (bs.drop 0).length=n1 at fA;subst fA;have d0:=HS1.out.cell 0;have d1:=HS1.out.cell 1;have d2:=HS1.out.cell 2;have d3:=HS1.out.cell 3;have d4:=HS1.out.cell 4;have d5:=HS1.out.cell 5;simp at d0 d1 d2 d3 d4 d5;have z0:=HS1.out.frozen 0;have z1:=HS1.out.frozen 1;have z2:=HS1.out.frozen 2;have z3:=HS1.out.frozen 3;have z4:=HS1.out.frozen 4;have z5:=HS1.out.frozen 5;clear hf1 c3 c4;obtain⟨gm,LS⟩:∃gm,gm=gone % 8:=⟨_,rfl⟩
   have TP:(gone:Int) % 8=(gm:Int):=(by omega);have HGM:Hid (gm=gone % 8):=LS;clear LS;go_wp2_with fail;go_end0;have hks:Kept (·=h) w1 ((w1.setCell ⟨h,3,none⟩ (.slice a1 n1 jh)).setCell ⟨h,4,none⟩ (.int .i64 (gm:Nat))):=((Kept.refl (·=h) w1).setCell ⟨h,3,none⟩ _ (.inl rfl)).setCell ⟨h,4,none⟩ _ (.inl rfl);have gp:Sm ((w1.setCell ⟨h,3,none⟩ (.slice a1 n1 jh)).setCell ⟨h,4,none⟩ (.int .i64 (gm:Nat))) h most vl bv (.slice a1 n1 jh) gm e:=(by have:=(HS1.out.set 3 (.slice a1 n1 jh)).set 4 (.int .i64 (gm:Nat));simpa using this);have hQ:=HFIN.out w1 _ HF1.out _ hks;rw[HGM.out]at gp;exact⟨⟨_,rfl⟩,_,by rw[HGM.out];exact gp,by rw[HGM.out]at hQ;rw[HGM.out];exact hQ⟩
 ·by_cases Ff:k<capa
  ·have j1:(k:Int)<(capa:Int):=(by omega);have j2:¬capa=k:=(by omega);have j3:¬capa-k=0:=(by omega);have j5:¬k=capa:=(by omega);have j4:¬((capa:Int)-(k:Int)=0):=(by omega);clear HSH;go_enter Tryz.func102,Tryz.ntmps102;go_wp2_with fail;go_region_held3 (λw'=>w'.cell? ⟨h,3,none⟩=some (.slice (some ⟨g,0,none⟩) LB capa)/\w'.cell? ⟨h,4,none⟩=some (.int .i64 (gone:Nat))) (first | (go_split_ands;exact⟨hf1.kept.cell (by assumption) (λf=>f),hf1.kept.cell (by assumption) (λf=>f)⟩) | go_keep)
    (first
     | (go_at_call 101;refine(HCL.out _ _ _ ((Kept.refl _ w).drew) ?_).mono ?_;exact λ_=>⟨g,rfl,rfl⟩;rintro x w1 ⟨v1,rfl,hf1⟩))
   all_goals
    have HF1:Hid (Fresh w w1 v1 (bs.drop k)):=hid ⟨hf1.row,Kept.undrew hf1.kept,hf1.new⟩;have HS1:Hid (Sm w1 h most vl bv (.slice (some ⟨g,0,none⟩) bs.length capa) gone e):=hid (HS.out.sm.kept HF1.out.kept (λf=>f));obtain⟨a1,jh,fA,_⟩:=hf1.row.shape;generalize (bs.drop k).length=n1 at fA;subst fA;have d0:=HS1.out.cell 0;have d1:=HS1.out.cell 1;have d2:=HS1.out.cell 2;have d3:=HS1.out.cell 3;have d4:=HS1.out.cell 4;have d5:=HS1.out.cell 5;simp at d0 d1 d2 d3 d4 d5;have z0:=HS1.out.frozen 0;have z1:=HS1.out.frozen 1;have z2:=HS1.out.frozen 2;have z3:=HS1.out.frozen 3;have z4:=HS1.out.frozen 4;have z5:=HS1.out.frozen 5;clear hf1 c3 c4;obtain⟨gm,LS⟩:∃gm,gm=gone % 8:=⟨_,rfl⟩
    have TP:(gone:Int) % 8=(gm:Int):=(by omega);have HGM:Hid (gm=gone % 8):=LS;clear LS;go_wp2_with fail;go_end0;have hks:Kept (·=h) w1 ((w1.setCell ⟨h,3,none⟩ (.slice a1 n1 jh)).setCell ⟨h,4,none⟩ (.int .i64 (gm:Nat))):=((Kept.refl (·=h) w1).setCell ⟨h,3,none⟩ _ (.inl rfl)).setCell ⟨h,4,none⟩ _ (.inl rfl);have gp:Sm ((w1.setCell ⟨h,3,none⟩ (.slice a1 n1 jh)).setCell ⟨h,4,none⟩ (.int .i64 (gm:Nat))) h most vl bv (.slice a1 n1 jh) gm e:=(by have:=(HS1.out.set 3 (.slice a1 n1 jh)).set 4 (.int .i64 (gm:Nat));simpa using this);have hQ:=HFIN.out w1 _ HF1.out _ hks;rw[HGM.out]at gp;exact⟨⟨_,rfl⟩,_,by rw[HGM.out];exact gp,by rw[HGM.out]at hQ;rw[HGM.out];exact hQ⟩
  ·have Iz:capa=k:=(by omega);have Ir:LB=k:=(by omega);subst Iz;subst Ir;have HCL0:Hid (∀(W:World) (a':Option Addr) (c':Nat),Same w W->Calls Tryz.prog 101 #[.slice a' 0 c'] W λx w'=>∃v',x=.returned v'/\Fresh W w' v' (bs.drop LB)):=hid (λW a' c' hW=>by
    have:=HCL.out W a' c' hW (λhlt=>absurd hlt (Nat.lt_irrefl _));rw[Nat.sub_self]at this;exact this)
   clear HSH Ff HCL;go_enter Tryz.func102,Tryz.ntmps102;go_wp2_with fail;go_region_held3 (λw'=>w'.cell? ⟨h,3,none⟩=some (.slice (some ⟨g,0,none⟩) LB LB)/\w'.cell? ⟨h,4,none⟩=some (.int .i64 (gone:Nat))) (first | (go_split_ands;exact⟨hf1.kept.cell (by assumption) (λf=>f),hf1.kept.cell (by assumption) (λf=>f)⟩) | go_keep)
    (first
     | (go_at_call 101;refine(HCL0.out _ _ _ ((Kept.refl _ w).drew)).mono ?_;rintro x w1 ⟨v1,rfl,hf1⟩))
   all_goals
    have HF1:Hid (Fresh w w1 v1 (bs.drop LB)):=hid ⟨hf1.row,Kept.undrew hf1.kept,hf1.new⟩;have HS1:Hid (Sm w1 h most vl bv (.slice (some ⟨g,0,none⟩) bs.length LB) gone e):=hid (HS.out.sm.kept HF1.out.kept (λf=>f));obtain⟨a1,jh,fA,_⟩:=hf1.row.shape;generalize (bs.drop LB).length=n1 at fA;subst fA;have d0:=HS1.out.cell 0;have d1:=HS1.out.cell 1;have d2:=HS1.out.cell 2;have d3:=HS1.out.cell 3;have d4:=HS1.out.cell 4;have d5:=HS1.out.cell 5;simp at d0 d1 d2 d3 d4 d5;have z0:=HS1.out.frozen 0;have z1:=HS1.out.frozen 1;have z2:=HS1.out.frozen 2;have z3:=HS1.out.frozen 3;have z4:=HS1.out.frozen 4;have z5:=HS1.out.frozen 5;clear hf1 c3 c4;obtain⟨gm,LS⟩:∃gm,gm=gone % 8:=⟨_,rfl⟩
    have TP:(gone:Int) % 8=(gm:Int):=(by omega);have HGM:Hid (gm=gone % 8):=LS;clear LS;go_wp2_with fail;go_end0;have hks:Kept (·=h) w1 ((w1.setCell ⟨h,3,none⟩ (.slice a1 n1 jh)).setCell ⟨h,4,none⟩ (.int .i64 (gm:Nat))):=((Kept.refl (·=h) w1).setCell ⟨h,3,none⟩ _ (.inl rfl)).setCell ⟨h,4,none⟩ _ (.inl rfl);have gp:Sm ((w1.setCell ⟨h,3,none⟩ (.slice a1 n1 jh)).setCell ⟨h,4,none⟩ (.int .i64 (gm:Nat))) h most vl bv (.slice a1 n1 jh) gm e:=(by have:=(HS1.out.set 3 (.slice a1 n1 jh)).set 4 (.int .i64 (gm:Nat));simpa using this);have hQ:=HFIN.out w1 _ HF1.out _ hks;rw[HGM.out]at gp;exact⟨⟨_,rfl⟩,_,by rw[HGM.out];exact gp,by rw[HGM.out]at hQ;rw[HGM.out];exact hQ⟩
theorem AN(w:World)(ρ:bP)(h most e:Nat)(va:Value)(bs out:List Nat)(gone:Nat)(vl bv:Value)(s:SW w ρ h most e va bs out gone vl bv)(ag:bs.length≤2000000):
  Calls Tryz.prog 102 #[.pointer (some ⟨h,0,none⟩),.int .i64 0] w λx w'=>(∃u,x=.returned u)/\∃va',Sm w' h 0 (.slice none 0 0) (.pointer none) va' 0 0/\Row w' va' (bs.drop (gone / 8))/\(∀k,va'.ownBlock=some k->w.heap.size<=k)/\Kept (·=h) w w':=by
 obtain⟨aa,capa,A9,_⟩:=s.ah.shape;have HS:Hid (SW w ρ h most e va bs out gone vl bv):=s;subst A9;have Jl:=s.sm.lt;have c3:=s.sm.cell 3;have c4:=s.sm.cell 4;simp at c3 c4;have HAH:Hid (Row w (.slice aa bs.length capa) bs):=s.ah;obtain⟨LB,lP⟩:∃L,L=bs.length:=⟨_,rfl⟩
 rw[<-lP]at c3 ag;obtain⟨k,hk⟩:∃k,k=gone / 8:=⟨_,rfl⟩
 have KF:(gone:Int) / 8=(k:Int):=by omega
 have yD:k<=LB:=by have:=s.gl;omega
 have cD:LB<=capa:=by
  rcases s.ah.2 with⟨e1,_⟩ | ⟨g,cp,cur,e1,_,_,mr,_⟩
  ·simp only[Value.slice.injEq]at e1;omega
  ·simp only[Value.slice.injEq]at e1;omega
 have HCL:Hid (∀(W:World) (a':Option Addr) (c':Nat),Same w W->(k<LB->∃g,aa=some ⟨g,0,none⟩/\a'=some ⟨g,k,none⟩)->Calls Tryz.prog 101 #[.slice a' (LB-k) c'] W λx w'=>∃v',x=.returned v'/\Fresh W w' v' (bs.drop k)):=hid (λW a' c' hW ha=>by
  have:=gV W (.slice a' (LB-k) c') _ (bs.drop k) (by rw[lP];exact(HAH.out.rest k (by omega) a' c' (by rw[<-lP];exact ha)).kept hW (λ_ _ _ f=>f)) (by rw[List.length_drop];omega);exact this)
 have HK:Hid (k=gone / 8):=hk;have uQ:IntKind.i64.wrap (k:Int)=(k:Int):=by rw[IntKind.wrap_i64];omega
 have Cz:Int.tdiv (gone:Int) 8=(k:Int):=by rw[HK.out];rfl
 have i1:(0:Int)<=(k:Int):=by omega
 have i2:(k:Int)<=(LB:Int):=by omega
 have i3:(LB:Int)<=(capa:Int):=by omega
 have i4:(k:Int)<=(capa:Int):=by omega
 have UI:gone<=8*LB:=by have:=s.gl;omega
 have HFIN:Hid (∀(w1:World) (v1:Value),Fresh w w1 v1 (bs.drop k)->∀(w2:World),Kept (·=h) w1 w2->Row w2 v1 (bs.drop (gone / 8))/\(∀k,v1.ownBlock=some k->w.heap.size<=k)/\Kept (·=h) w w2):=hid (λw1 v1 hf w2 hk2=>⟨by
  rw[<-HK.out];exact hf.row.kept hk2 (λj hj e1=>by have:=hf.new j hj;omega),hf.new,Kept.trans hf.kept hk2 (λ_ _ f=>f.elim) (λ_ _ f=>f)⟩)
 have HAA:Hid (k<LB->∃g,aa=some ⟨g,0,none⟩):=hid (λhlt=>by
  rcases s.ah.2 with⟨e1,hn⟩ | ⟨g,cp,cur,e1,_⟩
  ·omega
  ·simp only[Value.slice.injEq]at e1;exact⟨g,e1.1⟩)
 have HLB:Hid (LB=bs.length):=lP;clear s hk lP;have HSH:Hid ((aa=none/\LB=0/\capa=0)\/∃g,aa=some ⟨g,0,none⟩):=hid (by
  rcases HAH.out.2 with⟨e1,hn⟩ | ⟨g,cp,cur,e1,_⟩
  ·simp only[Value.slice.injEq]at e1;exact .inl ⟨e1.1,by have:=HLB.out;omega,e1.2.2⟩
  ·simp only[Value.slice.injEq]at e1;exact .inr ⟨g,e1.1⟩)
 rcases HSH.out with⟨rfl,rfl,rfl⟩ | ⟨g,rfl⟩
 ·have hk0:k=0:=(by omega);subst hk0;have t0:Int.tdiv (gone:Int) 8=0:=Cz;have t1:(gone:Int) / 8=0:=KF;have t2:IntKind.i64.wrap 0=0:=(by decide);clear HSH i1 i2 i3 i4 cD yD uQ Cz KF;go_enter Tryz.func102,Tryz.ntmps102;go_wp2_with fail;go_region_held3 (λw'=>w'.cell? ⟨h,3,none⟩=some (.slice none 0 0)/\w'.cell? ⟨h,4,none⟩=some (.int .i64 (gone:Nat))) (first | (go_split_ands;exact⟨hf1.kept.cell (by assumption) (λf=>f),hf1.kept.cell (by assumption) (λf=>f)⟩) | go_keep)
   (first
    | (go_at_call 101;refine(HCL.out _ _ _ ((Kept.refl _ w).drew) ?_).mono ?_;exact λhlt=>absurd hlt (by omega);rintro x w1 ⟨v1,rfl,hf1⟩))
  all_goals
   have HF1:Hid (Fresh w w1 v1 (bs.drop 0)):=hid ⟨hf1.row,Kept.undrew hf1.kept,hf1.new⟩;have HS1:Hid (Sm w1 h most vl bv (.slice none bs.length 0) gone e):=hid (HS.out.sm.kept HF1.out.kept (λf=>f));obtain⟨a1,jh,fA,_⟩:=hf1.row.shape;generalize (bs.drop 0).length=n1 at fA;subst fA;have d0:=HS1.out.cell 0;have d1:=HS1.out.cell 1;have d2:=HS1.out.cell 2;have d3:=HS1.out.cell 3;have d4:=HS1.out.cell 4;have d5:=HS1.out.cell 5;simp at d0 d1 d2 d3 d4 d5;have z0:=HS1.out.frozen 0;have z1:=HS1.out.frozen 1;have z2:=HS1.out.frozen 2;have z3:=HS1.out.frozen 3;have z4:=HS1.out.frozen 4;have z5:=HS1.out.frozen 5;clear hf1 c3 c4;go_wp2_with fail;go_end0;have hks:Kept (·=h) w1 ((((((w1.setCell ⟨h,0,none⟩ (.int .i64 0)).setCell ⟨h,1,none⟩ (.slice none 0 0)).setCell ⟨h,2,none⟩ (.pointer none)).setCell ⟨h,3,none⟩ (.slice a1 n1 jh)).setCell ⟨h,4,none⟩ (.int .i64 0)).setCell ⟨h,5,none⟩ (.int .i64 0)):=((((((Kept.refl (·=h) w1).setCell ⟨h,0,none⟩ _ (.inl rfl)).setCell ⟨h,1,none⟩ _ (.inl rfl)).setCell ⟨h,2,none⟩ _ (.inl rfl)).setCell ⟨h,3,none⟩ _ (.inl rfl)).setCell ⟨h,4,none⟩ _ (.inl rfl)).setCell ⟨h,5,none⟩ _ (.inl rfl);have gp:Sm ((((((w1.setCell ⟨h,0,none⟩ (.int .i64 0)).setCell ⟨h,1,none⟩ (.slice none 0 0)).setCell ⟨h,2,none⟩ (.pointer none)).setCell ⟨h,3,none⟩ (.slice a1 n1 jh)).setCell ⟨h,4,none⟩ (.int .i64 0)).setCell ⟨h,5,none⟩ (.int .i64 0)) h 0 (.slice none 0 0) (.pointer none) (.slice a1 n1 jh) 0 0:=(by have:=(((((HS1.out.set 0 (.int .i64 0)).set 1 (.slice none 0 0)).set 2 (.pointer none)).set 3 (.slice a1 n1 jh)).set 4 (.int .i64 0)).set 5 (.int .i64 0);simp at this;exact this);have hQ:=HFIN.out w1 _ HF1.out _ hks;exact⟨⟨_,rfl⟩,_,gp,hQ⟩
 ·by_cases Ff:k<capa
  ·have j1:(k:Int)<(capa:Int):=(by omega);have j2:¬capa=k:=(by omega);have j3:¬capa-k=0:=(by omega);have j5:¬k=capa:=(by omega);have j4:¬((capa:Int)-(k:Int)=0):=(by omega);clear HSH;go_enter Tryz.func102,Tryz.ntmps102;go_wp2_with fail;go_region_held3 (λw'=>w'.cell? ⟨h,3,none⟩=some (.slice (some ⟨g,0,none⟩) LB capa)/\w'.cell? ⟨h,4,none⟩=some (.int .i64 (gone:Nat))) (first | (go_split_ands;exact⟨hf1.kept.cell (by assumption) (λf=>f),hf1.kept.cell (by assumption) (λf=>f)⟩) | go_keep)
    (first
     | (go_at_call 101;refine(HCL.out _ _ _ ((Kept.refl _ w).drew) ?_).mono ?_;exact λ_=>⟨g,rfl,rfl⟩;rintro x w1 ⟨v1,rfl,hf1⟩))
   all_goals
    have HF1:Hid (Fresh w w1 v1 (bs.drop k)):=hid ⟨hf1.row,Kept.undrew hf1.kept,hf1.new⟩;have HS1:Hid (Sm w1 h most vl bv (.slice (some ⟨g,0,none⟩) bs.length capa) gone e):=hid (HS.out.sm.kept HF1.out.kept (λf=>f));obtain⟨a1,jh,fA,_⟩:=hf1.row.shape;generalize (bs.drop k).length=n1 at fA;subst fA;have d0:=HS1.out.cell 0;have d1:=HS1.out.cell 1;have d2:=HS1.out.cell 2;have d3:=HS1.out.cell 3;have d4:=HS1.out.cell 4;have d5:=HS1.out.cell 5;simp at d0 d1 d2 d3 d4 d5;have z0:=HS1.out.frozen 0;have z1:=HS1.out.frozen 1;have z2:=HS1.out.frozen 2;have z3:=HS1.out.frozen 3;have z4:=HS1.out.frozen 4;have z5:=HS1.out.frozen 5;clear hf1 c3 c4;go_wp2_with fail;go_end0;have hks:Kept (·=h) w1 ((((((w1.setCell ⟨h,0,none⟩ (.int .i64 0)).setCell ⟨h,1,none⟩ (.slice none 0 0)).setCell ⟨h,2,none⟩ (.pointer none)).setCell ⟨h,3,none⟩ (.slice a1 n1 jh)).setCell ⟨h,4,none⟩ (.int .i64 0)).setCell ⟨h,5,none⟩ (.int .i64 0)):=((((((Kept.refl (·=h) w1).setCell ⟨h,0,none⟩ _ (.inl rfl)).setCell ⟨h,1,none⟩ _ (.inl rfl)).setCell ⟨h,2,none⟩ _ (.inl rfl)).setCell ⟨h,3,none⟩ _ (.inl rfl)).setCell ⟨h,4,none⟩ _ (.inl rfl)).setCell ⟨h,5,none⟩ _ (.inl rfl);have gp:Sm ((((((w1.setCell ⟨h,0,none⟩ (.int .i64 0)).setCell ⟨h,1,none⟩ (.slice none 0 0)).setCell ⟨h,2,none⟩ (.pointer none)).setCell ⟨h,3,none⟩ (.slice a1 n1 jh)).setCell ⟨h,4,none⟩ (.int .i64 0)).setCell ⟨h,5,none⟩ (.int .i64 0)) h 0 (.slice none 0 0) (.pointer none) (.slice a1 n1 jh) 0 0:=(by have:=(((((HS1.out.set 0 (.int .i64 0)).set 1 (.slice none 0 0)).set 2 (.pointer none)).set 3 (.slice a1 n1 jh)).set 4 (.int .i64 0)).set 5 (.int .i64 0);simp at this;exact this);have hQ:=HFIN.out w1 _ HF1.out _ hks;exact⟨⟨_,rfl⟩,_,gp,hQ⟩
  ·have Iz:capa=k:=(by omega);have Ir:LB=k:=(by omega);subst Iz;subst Ir;have HCL0:Hid (∀(W:World) (a':Option Addr) (c':Nat),Same w W->Calls Tryz.prog 101 #[.slice a' 0 c'] W λx w'=>∃v',x=.returned v'/\Fresh W w' v' (bs.drop LB)):=hid (λW a' c' hW=>by
    have:=HCL.out W a' c' hW (λhlt=>absurd hlt (Nat.lt_irrefl _));rw[Nat.sub_self]at this;exact this)
   clear HSH Ff HCL;go_enter Tryz.func102,Tryz.ntmps102;go_wp2_with fail;go_region_held3 (λw'=>w'.cell? ⟨h,3,none⟩=some (.slice (some ⟨g,0,none⟩) LB LB)/\w'.cell? ⟨h,4,none⟩=some (.int .i64 (gone:Nat))) (first | (go_split_ands;exact⟨hf1.kept.cell (by assumption) (λf=>f),hf1.kept.cell (by assumption) (λf=>f)⟩) | go_keep)
    (first
     | (go_at_call 101;refine(HCL0.out _ _ _ ((Kept.refl _ w).drew)).mono ?_;rintro x w1 ⟨v1,rfl,hf1⟩))
   all_goals
    have HF1:Hid (Fresh w w1 v1 (bs.drop LB)):=hid ⟨hf1.row,Kept.undrew hf1.kept,hf1.new⟩;have HS1:Hid (Sm w1 h most vl bv (.slice (some ⟨g,0,none⟩) bs.length LB) gone e):=hid (HS.out.sm.kept HF1.out.kept (λf=>f));obtain⟨a1,jh,fA,_⟩:=hf1.row.shape;generalize (bs.drop LB).length=n1 at fA;subst fA;have d0:=HS1.out.cell 0;have d1:=HS1.out.cell 1;have d2:=HS1.out.cell 2;have d3:=HS1.out.cell 3;have d4:=HS1.out.cell 4;have d5:=HS1.out.cell 5;simp at d0 d1 d2 d3 d4 d5;have z0:=HS1.out.frozen 0;have z1:=HS1.out.frozen 1;have z2:=HS1.out.frozen 2;have z3:=HS1.out.frozen 3;have z4:=HS1.out.frozen 4;have z5:=HS1.out.frozen 5;clear hf1 c3 c4;go_wp2_with fail;go_end0;have hks:Kept (·=h) w1 ((((((w1.setCell ⟨h,0,none⟩ (.int .i64 0)).setCell ⟨h,1,none⟩ (.slice none 0 0)).setCell ⟨h,2,none⟩ (.pointer none)).setCell ⟨h,3,none⟩ (.slice a1 n1 jh)).setCell ⟨h,4,none⟩ (.int .i64 0)).setCell ⟨h,5,none⟩ (.int .i64 0)):=((((((Kept.refl (·=h) w1).setCell ⟨h,0,none⟩ _ (.inl rfl)).setCell ⟨h,1,none⟩ _ (.inl rfl)).setCell ⟨h,2,none⟩ _ (.inl rfl)).setCell ⟨h,3,none⟩ _ (.inl rfl)).setCell ⟨h,4,none⟩ _ (.inl rfl)).setCell ⟨h,5,none⟩ _ (.inl rfl);have gp:Sm ((((((w1.setCell ⟨h,0,none⟩ (.int .i64 0)).setCell ⟨h,1,none⟩ (.slice none 0 0)).setCell ⟨h,2,none⟩ (.pointer none)).setCell ⟨h,3,none⟩ (.slice a1 n1 jh)).setCell ⟨h,4,none⟩ (.int .i64 0)).setCell ⟨h,5,none⟩ (.int .i64 0)) h 0 (.slice none 0 0) (.pointer none) (.slice a1 n1 jh) 0 0:=(by have:=(((((HS1.out.set 0 (.int .i64 0)).set 1 (.slice none 0 0)).set 2 (.pointer none)).set 3 (.slice a1 n1 jh)).set 4 (.int .i64 0)).set 5 (.int .i64 0);simp at this;exact this);have hQ:=HFIN.out w1 _ HF1.out _ hks;exact⟨⟨_,rfl⟩,_,gp,hQ⟩
theorem zF(w:World)(ρ:bP)(h most e:Nat)(va:Value)(bs out:List Nat)(gone:Nat)(vl bv:Value)(er:Nat)(LT:er≠0)(Qx:er≠55)(s:SW w ρ h most e va bs out gone vl bv)(ag:bs.length≤2000000):
  Calls Tryz.prog 102 #[.pointer (some ⟨h,0,none⟩),.int .i64 (er:Nat)] w λx w'=>(∃u,x=.returned u)/\∃va',Sm w' h 0 (.slice none 0 0) (.pointer none) (.slice none 0 0) 0 er/\Row w' va' (bs.drop (gone / 8))/\(∀k,va'.ownBlock=some k->w.heap.size<=k)/\Kept (·=h) w w':=by
 obtain⟨aa,capa,A9,_⟩:=s.ah.shape;have HS:Hid (SW w ρ h most e va bs out gone vl bv):=s;subst A9;have Jl:=s.sm.lt;have c3:=s.sm.cell 3;have c4:=s.sm.cell 4;simp at c3 c4;have HAH:Hid (Row w (.slice aa bs.length capa) bs):=s.ah;obtain⟨LB,lP⟩:∃L,L=bs.length:=⟨_,rfl⟩
 rw[<-lP]at c3 ag;obtain⟨k,hk⟩:∃k,k=gone / 8:=⟨_,rfl⟩
 have KF:(gone:Int) / 8=(k:Int):=by omega
 have yD:k<=LB:=by have:=s.gl;omega
 have cD:LB<=capa:=by
  rcases s.ah.2 with⟨e1,_⟩ | ⟨g,cp,cur,e1,_,_,mr,_⟩
  ·simp only[Value.slice.injEq]at e1;omega
  ·simp only[Value.slice.injEq]at e1;omega
 have HCL:Hid (∀(W:World) (a':Option Addr) (c':Nat),Same w W->(k<LB->∃g,aa=some ⟨g,0,none⟩/\a'=some ⟨g,k,none⟩)->Calls Tryz.prog 101 #[.slice a' (LB-k) c'] W λx w'=>∃v',x=.returned v'/\Fresh W w' v' (bs.drop k)):=hid (λW a' c' hW ha=>by
  have:=gV W (.slice a' (LB-k) c') _ (bs.drop k) (by rw[lP];exact(HAH.out.rest k (by omega) a' c' (by rw[<-lP];exact ha)).kept hW (λ_ _ _ f=>f)) (by rw[List.length_drop];omega);exact this)
 have HK:Hid (k=gone / 8):=hk;have uQ:IntKind.i64.wrap (k:Int)=(k:Int):=by rw[IntKind.wrap_i64];omega
 have Cz:Int.tdiv (gone:Int) 8=(k:Int):=by rw[HK.out];rfl
 have i1:(0:Int)<=(k:Int):=by omega
 have i2:(k:Int)<=(LB:Int):=by omega
 have i3:(LB:Int)<=(capa:Int):=by omega
 have i4:(k:Int)<=(capa:Int):=by omega
 have UI:gone<=8*LB:=by have:=s.gl;omega
 have HFIN:Hid (∀(w1:World) (v1:Value),Fresh w w1 v1 (bs.drop k)->∀(w2:World),Kept (·=h) w1 w2->Row w2 v1 (bs.drop (gone / 8))/\(∀k,v1.ownBlock=some k->w.heap.size<=k)/\Kept (·=h) w w2):=hid (λw1 v1 hf w2 hk2=>⟨by
  rw[<-HK.out];exact hf.row.kept hk2 (λj hj e1=>by have:=hf.new j hj;omega),hf.new,Kept.trans hf.kept hk2 (λ_ _ f=>f.elim) (λ_ _ f=>f)⟩)
 have HAA:Hid (k<LB->∃g,aa=some ⟨g,0,none⟩):=hid (λhlt=>by
  rcases s.ah.2 with⟨e1,hn⟩ | ⟨g,cp,cur,e1,_⟩
  ·omega
  ·simp only[Value.slice.injEq]at e1;exact⟨g,e1.1⟩)
 have HLB:Hid (LB=bs.length):=lP;have IV:((er:Int)==0)=false:=by simp;omega
 have WX:((er:Int)==55)=false:=by simp;omega
 clear s hk lP;have HSH:Hid ((aa=none/\LB=0/\capa=0)\/∃g,aa=some ⟨g,0,none⟩):=hid (by
  rcases HAH.out.2 with⟨e1,hn⟩ | ⟨g,cp,cur,e1,_⟩
  ·simp only[Value.slice.injEq]at e1;exact .inl ⟨e1.1,by have:=HLB.out;omega,e1.2.2⟩
  ·simp only[Value.slice.injEq]at e1;exact .inr ⟨g,e1.1⟩)
 rcases HSH.out with⟨rfl,rfl,rfl⟩ | ⟨g,rfl⟩
 ·have hk0:k=0:=(by omega);subst hk0;have t0:Int.tdiv (gone:Int) 8=0:=Cz;have t1:(gone:Int) / 8=0:=KF;have t2:IntKind.i64.wrap 0=0:=(by decide);clear HSH i1 i2 i3 i4 cD yD uQ Cz KF;go_enter Tryz.func102,Tryz.ntmps102;go_wp2_with fail;go_region_held3 (λw'=>w'.cell? ⟨h,3,none⟩=some (.slice none 0 0)/\w'.cell? ⟨h,4,none⟩=some (.int .i64 (gone:Nat))) (first | (go_split_ands;exact⟨hf1.kept.cell (by assumption) (λf=>f),hf1.kept.cell (by assumption) (λf=>f)⟩) | go_keep)
   (first
    | (go_at_call 101;refine(HCL.out _ _ _ ((Kept.refl _ w).drew) ?_).mono ?_;exact λhlt=>absurd hlt (by omega);rintro x w1 ⟨v1,rfl,hf1⟩))
  all_goals
   have HF1:Hid (Fresh w w1 v1 (bs.drop 0)):=hid ⟨hf1.row,Kept.undrew hf1.kept,hf1.new⟩;have HS1:Hid (Sm w1 h most vl bv (.slice none bs.length 0) gone e):=hid (HS.out.sm.kept HF1.out.kept (λf=>f));obtain⟨a1,jh,fA,_⟩:=hf1.row.shape;generalize (bs.drop 0).length=n1 at fA;subst fA;have d0:=HS1.out.cell 0;have d1:=HS1.out.cell 1;have d2:=HS1.out.cell 2;have d3:=HS1.out.cell 3;have d4:=HS1.out.cell 4;have d5:=HS1.out.cell 5;simp at d0 d1 d2 d3 d4 d5;have z0:=HS1.out.frozen 0;have z1:=HS1.out.frozen 1;have z2:=HS1.out.frozen 2;have z3:=HS1.out.frozen 3;have z4:=HS1.out.frozen 4;have z5:=HS1.out.frozen 5;clear hf1 c3 c4;go_wp2_with fail;go_end0;have hks:Kept (·=h) w1 ((((((w1.setCell ⟨h,0,none⟩ (.int .i64 0)).setCell ⟨h,1,none⟩ (.slice none 0 0)).setCell ⟨h,2,none⟩ (.pointer none)).setCell ⟨h,3,none⟩ (.slice none 0 0)).setCell ⟨h,4,none⟩ (.int .i64 0)).setCell ⟨h,5,none⟩ (.int .i64 (er:Nat))):=((((((Kept.refl (·=h) w1).setCell ⟨h,0,none⟩ _ (.inl rfl)).setCell ⟨h,1,none⟩ _ (.inl rfl)).setCell ⟨h,2,none⟩ _ (.inl rfl)).setCell ⟨h,3,none⟩ _ (.inl rfl)).setCell ⟨h,4,none⟩ _ (.inl rfl)).setCell ⟨h,5,none⟩ _ (.inl rfl);have gp:Sm ((((((w1.setCell ⟨h,0,none⟩ (.int .i64 0)).setCell ⟨h,1,none⟩ (.slice none 0 0)).setCell ⟨h,2,none⟩ (.pointer none)).setCell ⟨h,3,none⟩ (.slice none 0 0)).setCell ⟨h,4,none⟩ (.int .i64 0)).setCell ⟨h,5,none⟩ (.int .i64 (er:Nat))) h 0 (.slice none 0 0) (.pointer none) (.slice none 0 0) 0 er:=(by have:=(((((HS1.out.set 0 (.int .i64 0)).set 1 (.slice none 0 0)).set 2 (.pointer none)).set 3 (.slice none 0 0)).set 4 (.int .i64 0)).set 5 (.int .i64 (er:Nat));simp at this;exact this);have hQ:=HFIN.out w1 _ HF1.out _ hks;exact⟨⟨_,rfl⟩,_,gp,hQ⟩
 ·by_cases Ff:k<capa
  ·have j1:(k:Int)<(capa:Int):=(by omega);have j2:¬capa=k:=(by omega);have j3:¬capa-k=0:=(by omega);have j5:¬k=capa:=(by omega);have j4:¬((capa:Int)-(k:Int)=0):=(by omega);clear HSH;go_enter Tryz.func102,Tryz.ntmps102;go_wp2_with fail;go_region_held3 (λw'=>w'.cell? ⟨h,3,none⟩=some (.slice (some ⟨g,0,none⟩) LB capa)/\w'.cell? ⟨h,4,none⟩=some (.int .i64 (gone:Nat))) (first | (go_split_ands;exact⟨hf1.kept.cell (by assumption) (λf=>f),hf1.kept.cell (by assumption) (λf=>f)⟩) | go_keep)
    (first
     | (go_at_call 101;refine(HCL.out _ _ _ ((Kept.refl _ w).drew) ?_).mono ?_;exact λ_=>⟨g,rfl,rfl⟩;rintro x w1 ⟨v1,rfl,hf1⟩))
   all_goals
    have HF1:Hid (Fresh w w1 v1 (bs.drop k)):=hid ⟨hf1.row,Kept.undrew hf1.kept,hf1.new⟩;have HS1:Hid (Sm w1 h most vl bv (.slice (some ⟨g,0,none⟩) bs.length capa) gone e):=hid (HS.out.sm.kept HF1.out.kept (λf=>f));obtain⟨a1,jh,fA,_⟩:=hf1.row.shape;generalize (bs.drop k).length=n1 at fA;subst fA;have d0:=HS1.out.cell 0;have d1:=HS1.out.cell 1;have d2:=HS1.out.cell 2;have d3:=HS1.out.cell 3;have d4:=HS1.out.cell 4;have d5:=HS1.out.cell 5;simp at d0 d1 d2 d3 d4 d5;have z0:=HS1.out.frozen 0;have z1:=HS1.out.frozen 1;have z2:=HS1.out.frozen 2;have z3:=HS1.out.frozen 3;have z4:=HS1.out.frozen 4;have z5:=HS1.out.frozen 5;clear hf1 c3 c4;go_wp2_with fail;go_end0;have hks:Kept (·=h) w1 ((((((w1.setCell ⟨h,0,none⟩ (.int .i64 0)).setCell ⟨h,1,none⟩ (.slice none 0 0)).setCell ⟨h,2,none⟩ (.pointer none)).setCell ⟨h,3,none⟩ (.slice none 0 0)).setCell ⟨h,4,none⟩ (.int .i64 0)).setCell ⟨h,5,none⟩ (.int .i64 (er:Nat))):=((((((Kept.refl (·=h) w1).setCell ⟨h,0,none⟩ _ (.inl rfl)).setCell ⟨h,1,none⟩ _ (.inl rfl)).setCell ⟨h,2,none⟩ _ (.inl rfl)).setCell ⟨h,3,none⟩ _ (.inl rfl)).setCell ⟨h,4,none⟩ _ (.inl rfl)).setCell ⟨h,5,none⟩ _ (.inl rfl);have gp:Sm ((((((w1.setCell ⟨h,0,none⟩ (.int .i64 0)).setCell ⟨h,1,none⟩ (.slice none 0 0)).setCell ⟨h,2,none⟩ (.pointer none)).setCell ⟨h,3,none⟩ (.slice none 0 0)).setCell ⟨h,4,none⟩ (.int .i64 0)).setCell ⟨h,5,none⟩ (.int .i64 (er:Nat))) h 0 (.slice none 0 0) (.pointer none) (.slice none 0 0) 0 er:=(by have:=(((((HS1.out.set 0 (.int .i64 0)).set 1 (.slice none 0 0)).set 2 (.pointer none)).set 3 (.slice none 0 0)).set 4 (.int .i64 0)).set 5 (.int .i64 (er:Nat));simp at this;exact this);have hQ:=HFIN.out w1 _ HF1.out _ hks;exact⟨⟨_,rfl⟩,_,gp,hQ⟩
  ·have Iz:capa=k:=(by omega);have Ir:LB=k:=(by omega);subst Iz;subst Ir;have HCL0:Hid (∀(W:World) (a':Option Addr) (c':Nat),Same w W->Calls Tryz.prog 101 #[.slice a' 0 c'] W λx w'=>∃v',x=.returned v'/\Fresh W w' v' (bs.drop LB)):=hid (λW a' c' hW=>by
    have:=HCL.out W a' c' hW (λhlt=>absurd hlt (Nat.lt_irrefl _));rw[Nat.sub_self]at this;exact this)
   clear HSH Ff HCL;go_enter Tryz.func102,Tryz.ntmps102;go_wp2_with fail;go_region_held3 (λw'=>w'.cell? ⟨h,3,none⟩=some (.slice (some ⟨g,0,none⟩) LB LB)/\w'.cell? ⟨h,4,none⟩=some (.int .i64 (gone:Nat))) (first | (go_split_ands;exact⟨hf1.kept.cell (by assumption) (λf=>f),hf1.kept.cell (by assumption) (λf=>f)⟩) | go_keep)
    (first
     | (go_at_call 101;refine(HCL0.out _ _ _ ((Kept.refl _ w).drew)).mono ?_;rintro x w1 ⟨v1,rfl,hf1⟩))
   all_goals
    have HF1:Hid (Fresh w w1 v1 (bs.drop LB)):=hid ⟨hf1.row,Kept.undrew hf1.kept,hf1.new⟩;have HS1:Hid (Sm w1 h most vl bv (.slice (some ⟨g,0,none⟩) bs.length LB) gone e):=hid (HS.out.sm.kept HF1.out.kept (λf=>f));obtain⟨a1,jh,fA,_⟩:=hf1.row.shape;generalize (bs.drop LB).length=n1 at fA;subst fA;have d0:=HS1.out.cell 0;have d1:=HS1.out.cell 1;have d2:=HS1.out.cell 2;have d3:=HS1.out.cell 3;have d4:=HS1.out.cell 4;have d5:=HS1.out.cell 5;simp at d0 d1 d2 d3 d4 d5;have z0:=HS1.out.frozen 0;have z1:=HS1.out.frozen 1;have z2:=HS1.out.frozen 2;have z3:=HS1.out.frozen 3;have z4:=HS1.out.frozen 4;have z5:=HS1.out.frozen 5;clear hf1 c3 c4;go_wp2_with fail;go_end0;have hks:Kept (·=h) w1 ((((((w1.setCell ⟨h,0,none⟩ (.int .i64 0)).setCell ⟨h,1,none⟩ (.slice none 0 0)).setCell ⟨h,2,none⟩ (.pointer none)).setCell ⟨h,3,none⟩ (.slice none 0 0)).setCell ⟨h,4,none⟩ (.int .i64 0)).setCell ⟨h,5,none⟩ (.int .i64 (er:Nat))):=((((((Kept.refl (·=h) w1).setCell ⟨h,0,none⟩ _ (.inl rfl)).setCell ⟨h,1,none⟩ _ (.inl rfl)).setCell ⟨h,2,none⟩ _ (.inl rfl)).setCell ⟨h,3,none⟩ _ (.inl rfl)).setCell ⟨h,4,none⟩ _ (.inl rfl)).setCell ⟨h,5,none⟩ _ (.inl rfl);have gp:Sm ((((((w1.setCell ⟨h,0,none⟩ (.int .i64 0)).setCell ⟨h,1,none⟩ (.slice none 0 0)).setCell ⟨h,2,none⟩ (.pointer none)).setCell ⟨h,3,none⟩ (.slice none 0 0)).setCell ⟨h,4,none⟩ (.int .i64 0)).setCell ⟨h,5,none⟩ (.int .i64 (er:Nat))) h 0 (.slice none 0 0) (.pointer none) (.slice none 0 0) 0 er:=(by have:=(((((HS1.out.set 0 (.int .i64 0)).set 1 (.slice none 0 0)).set 2 (.pointer none)).set 3 (.slice none 0 0)).set 4 (.int .i64 0)).set 5 (.int .i64 (er:Nat));simp at this;exact this);have hQ:=HFIN.out w1 _ HF1.out _ hks;exact⟨⟨_,rfl⟩,_,gp,hQ⟩
end Go.Proofs.YtkhagfgineifhaaGreatDoor
