import Derived.Test.YtggcbnhckcenmaaGreatDoorInPr
import Derived.Test.YtggcbnhckcenmaaGreatDoorCln
import Derived.Deep.RegionHeld3
namespace Go.Proofs.YtggcbnhckcenmaaGreatDoor
open Go.RowKit
set_option maxRecDepth 100000 in
set_option maxHeartbeats 2000000 in
theorem pkeep_wait(w:World)(ρ:Part)(h most e:Nat)(va:Value)(bs out:List Nat)(gone:Nat)(vl bv:Value)(s:SW w ρ h most e va bs out gone vl bv)(hlen:bs.length≤2000000):
  Calls Tryz.prog 52 #[.pointer (some ⟨h,0,none⟩),.int .i64 55] w fun x w'=>(∃u,x=.returned u)∧∃va',Sm w' h most vl bv va' (gone % 8) e∧Row w' va' (bs.drop (gone / 8))∧(∀k,va'.ownBlock=some k→w.heap.size≤k)∧Kept (·=h) w w':=by
 obtain⟨aa,capa,hva,_⟩:=s.ah.shape
 have HS:Hid (SW w ρ h most e va bs out gone vl bv):=s
 subst hva
 have hhl:=s.sm.lt
 have c3:=s.sm.cell 3
 have c4:=s.sm.cell 4
 simp at c3 c4
 have HAH:Hid (Row w (.slice aa bs.length capa) bs):=s.ah
 obtain⟨LB,hLB⟩:∃L,L=bs.length:=⟨_,rfl⟩
 rw[←hLB]at c3 hlen
 obtain⟨k,hk⟩:∃k,k=gone / 8:=⟨_,rfl⟩
 have hkI:(gone:Int) / 8=(k:Int):=by omega
 have hkl:k≤LB:=by have:=s.gl;omega
 have hcap:LB≤capa:=by
  rcases s.ah.2 with⟨e1,_⟩ | ⟨g,cp,cur,e1,_,_,hle,_⟩
  ·simp only[Value.slice.injEq]at e1;omega
  ·simp only[Value.slice.injEq]at e1;omega
 have HCL:Hid (∀(W:World) (a':Option Addr) (c':Nat),Same w W→(k<LB→∃g,aa=some ⟨g,0,none⟩∧a'=some ⟨g,k,none⟩)→Calls Tryz.prog 51 #[.slice a' (LB-k) c'] W fun x w'=>∃v',x=.returned v'∧Fresh W w' v' (bs.drop k)):=hid (fun W a' c' hW ha=>by
  have:=pclone_any W (.slice a' (LB-k) c') _ (bs.drop k) (by rw[hLB];exact(HAH.out.rest k (by omega) a' c' (by rw[←hLB];exact ha)).kept hW (fun _ _ _ f=>f)) (by rw[List.length_drop];omega)
  exact this)
 have HK:Hid (k=gone / 8):=hk
 have hkw:IntKind.i64.wrap (k:Int)=(k:Int):=by rw[IntKind.wrap_i64];omega
 have hkT:Int.tdiv (gone:Int) 8=(k:Int):=by rw[HK.out];rfl
 have i1:(0:Int)≤(k:Int):=by omega
 have i2:(k:Int)≤(LB:Int):=by omega
 have i3:(LB:Int)≤(capa:Int):=by omega
 have i4:(k:Int)≤(capa:Int):=by omega
 have hgs:gone≤8*LB:=by have:=s.gl;omega
 have HFIN:Hid (∀(w1:World) (v1:Value),Fresh w w1 v1 (bs.drop k)→∀(w2:World),Kept (·=h) w1 w2→Row w2 v1 (bs.drop (gone / 8))∧(∀k,v1.ownBlock=some k→w.heap.size≤k)∧Kept (·=h) w w2):=hid (fun w1 v1 hf w2 hk2=>⟨by
  rw[←HK.out]
  exact hf.row.kept hk2 (fun j hj e1=>by have:=hf.new j hj;omega),hf.new,Kept.trans hf.kept hk2 (fun _ _ f=>f.elim) (fun _ _ f=>f)⟩)
 have HAA:Hid (k<LB→∃g,aa=some ⟨g,0,none⟩):=hid (fun hlt=>by
  rcases s.ah.2 with⟨e1,hn⟩ | ⟨g,cp,cur,e1,_⟩
  ·omega
  ·simp only[Value.slice.injEq]at e1;exact⟨g,e1.1⟩)
 have HLB:Hid (LB=bs.length):=hLB
 clear s hk hLB
 have HSH:Hid ((aa=none∧LB=0∧capa=0)∨∃g,aa=some ⟨g,0,none⟩):=hid (by
  rcases HAH.out.2 with⟨e1,hn⟩ | ⟨g,cp,cur,e1,_⟩
  ·simp only[Value.slice.injEq]at e1;exact .inl ⟨e1.1,by have:=HLB.out;omega,e1.2.2⟩
  ·simp only[Value.slice.injEq]at e1;exact .inr ⟨g,e1.1⟩)
 rcases HSH.out with⟨rfl,rfl,rfl⟩ | ⟨g,rfl⟩
 ·have hk0:k=0:=by omega
  subst hk0
  have t0:Int.tdiv (gone:Int) 8=0:=hkT
  have t1:(gone:Int) / 8=0:=hkI
  have t2:IntKind.i64.wrap 0=0:=by decide
  clear HSH i1 i2 i3 i4 hcap hkl hkw hkT hkI
  go_enter Tryz.func52,Tryz.ntmps52
  go_wp2_with fail
  go_region_held3 (fun w'=>w'.cell? ⟨h,3,none⟩=some (.slice none 0 0)∧w'.cell? ⟨h,4,none⟩=some (.int .i64 (gone:Nat))) (first | (go_split_ands;exact⟨hf1.kept.cell (by assumption) (fun f=>f),hf1.kept.cell (by assumption) (fun f=>f)⟩) | go_keep)
   (first
    | (go_at_call 51;refine(HCL.out _ _ _ ((Kept.refl _ w).drew) ?_).mono ?_;exact fun hlt=>absurd hlt (by omega);rintro x w1 ⟨v1,rfl,hf1⟩))
  all_goals
   have HF1:Hid (Fresh w w1 v1 (bs.drop 0)):=hid ⟨hf1.row,Kept.undrew hf1.kept,hf1.new⟩
   have HS1:Hid (Sm w1 h most vl bv (.slice none bs.length 0) gone e):=hid (HS.out.sm.kept HF1.out.kept (fun f=>f))
   obtain⟨a1,cp1,hv1,_⟩:=hf1.row.shape
   generalize (bs.drop 0).length=n1 at hv1
   subst hv1
   have d0:=HS1.out.cell 0
   have d1:=HS1.out.cell 1
   have d2:=HS1.out.cell 2
   have d3:=HS1.out.cell 3
   have d4:=HS1.out.cell 4
   have d5:=HS1.out.cell 5
   simp at d0 d1 d2 d3 d4 d5
   have z0:=HS1.out.frozen 0
   have z1:=HS1.out.frozen 1
   have z2:=HS1.out.frozen 2
   have z3:=HS1.out.frozen 3
   have z4:=HS1.out.frozen 4
   have z5:=HS1.out.frozen 5
   clear hf1 c3 c4
   obtain⟨gm,hgm⟩:∃gm,gm=gone % 8:=⟨_,rfl⟩
   have hgI:(gone:Int) % 8=(gm:Int):=by omega
   have HGM:Hid (gm=gone % 8):=hgm
   clear hgm
   go_wp2_with fail
   go_end0
   have hks:Kept (·=h) w1 ((w1.setCell ⟨h,3,none⟩ (.slice a1 n1 cp1)).setCell ⟨h,4,none⟩ (.int .i64 (gm:Nat))):=((Kept.refl (·=h) w1).setCell ⟨h,3,none⟩ _ (.inl rfl)).setCell ⟨h,4,none⟩ _ (.inl rfl)
   have hsm:Sm ((w1.setCell ⟨h,3,none⟩ (.slice a1 n1 cp1)).setCell ⟨h,4,none⟩ (.int .i64 (gm:Nat))) h most vl bv (.slice a1 n1 cp1) gm e:=by
    have:=(HS1.out.set 3 (.slice a1 n1 cp1)).set 4 (.int .i64 (gm:Nat))
    simpa using this
   have hfin:=HFIN.out w1 _ HF1.out _ hks
   rw[HGM.out]at hsm
   exact⟨⟨_,rfl⟩,_,by rw[HGM.out];exact hsm,by rw[HGM.out]at hfin;rw[HGM.out];exact hfin⟩
 ·by_cases hkc:k<capa
  ·have j1:(k:Int)<(capa:Int):=by omega
   have j2:¬capa=k:=by omega
   have j3:¬capa-k=0:=by omega
   have j5:¬k=capa:=by omega
   have j4:¬((capa:Int)-(k:Int)=0):=by omega
   clear HSH
   go_enter Tryz.func52,Tryz.ntmps52
   go_wp2_with fail
   go_region_held3 (fun w'=>w'.cell? ⟨h,3,none⟩=some (.slice (some ⟨g,0,none⟩) LB capa)∧w'.cell? ⟨h,4,none⟩=some (.int .i64 (gone:Nat))) (first | (go_split_ands;exact⟨hf1.kept.cell (by assumption) (fun f=>f),hf1.kept.cell (by assumption) (fun f=>f)⟩) | go_keep)
    (first
     | (go_at_call 51;refine(HCL.out _ _ _ ((Kept.refl _ w).drew) ?_).mono ?_;exact fun _=>⟨g,rfl,rfl⟩;rintro x w1 ⟨v1,rfl,hf1⟩))
   all_goals
    have HF1:Hid (Fresh w w1 v1 (bs.drop k)):=hid ⟨hf1.row,Kept.undrew hf1.kept,hf1.new⟩
    have HS1:Hid (Sm w1 h most vl bv (.slice (some ⟨g,0,none⟩) bs.length capa) gone e):=hid (HS.out.sm.kept HF1.out.kept (fun f=>f))
    obtain⟨a1,cp1,hv1,_⟩:=hf1.row.shape
    generalize (bs.drop k).length=n1 at hv1
    subst hv1
    have d0:=HS1.out.cell 0
    have d1:=HS1.out.cell 1
    have d2:=HS1.out.cell 2
    have d3:=HS1.out.cell 3
    have d4:=HS1.out.cell 4
    have d5:=HS1.out.cell 5
    simp at d0 d1 d2 d3 d4 d5
    have z0:=HS1.out.frozen 0
    have z1:=HS1.out.frozen 1
    have z2:=HS1.out.frozen 2
    have z3:=HS1.out.frozen 3
    have z4:=HS1.out.frozen 4
    have z5:=HS1.out.frozen 5
    clear hf1 c3 c4
    obtain⟨gm,hgm⟩:∃gm,gm=gone % 8:=⟨_,rfl⟩
    have hgI:(gone:Int) % 8=(gm:Int):=by omega
    have HGM:Hid (gm=gone % 8):=hgm
    clear hgm
    go_wp2_with fail
    go_end0
    have hks:Kept (·=h) w1 ((w1.setCell ⟨h,3,none⟩ (.slice a1 n1 cp1)).setCell ⟨h,4,none⟩ (.int .i64 (gm:Nat))):=((Kept.refl (·=h) w1).setCell ⟨h,3,none⟩ _ (.inl rfl)).setCell ⟨h,4,none⟩ _ (.inl rfl)
    have hsm:Sm ((w1.setCell ⟨h,3,none⟩ (.slice a1 n1 cp1)).setCell ⟨h,4,none⟩ (.int .i64 (gm:Nat))) h most vl bv (.slice a1 n1 cp1) gm e:=by
     have:=(HS1.out.set 3 (.slice a1 n1 cp1)).set 4 (.int .i64 (gm:Nat))
     simpa using this
    have hfin:=HFIN.out w1 _ HF1.out _ hks
    rw[HGM.out]at hsm
    exact⟨⟨_,rfl⟩,_,by rw[HGM.out];exact hsm,by rw[HGM.out]at hfin;rw[HGM.out];exact hfin⟩
  ·have hkc2:capa=k:=by omega
   have hkc3:LB=k:=by omega
   subst hkc2
   subst hkc3
   have HCL0:Hid (∀(W:World) (a':Option Addr) (c':Nat),Same w W→Calls Tryz.prog 51 #[.slice a' 0 c'] W fun x w'=>∃v',x=.returned v'∧Fresh W w' v' (bs.drop LB)):=hid (fun W a' c' hW=>by
    have:=HCL.out W a' c' hW (fun hlt=>absurd hlt (Nat.lt_irrefl _))
    rw[Nat.sub_self]at this
    exact this)
   clear HSH hkc HCL
   go_enter Tryz.func52,Tryz.ntmps52
   go_wp2_with fail
   go_region_held3 (fun w'=>w'.cell? ⟨h,3,none⟩=some (.slice (some ⟨g,0,none⟩) LB LB)∧w'.cell? ⟨h,4,none⟩=some (.int .i64 (gone:Nat))) (first | (go_split_ands;exact⟨hf1.kept.cell (by assumption) (fun f=>f),hf1.kept.cell (by assumption) (fun f=>f)⟩) | go_keep)
    (first
     | (go_at_call 51;refine(HCL0.out _ _ _ ((Kept.refl _ w).drew)).mono ?_;rintro x w1 ⟨v1,rfl,hf1⟩))
   all_goals
    have HF1:Hid (Fresh w w1 v1 (bs.drop LB)):=hid ⟨hf1.row,Kept.undrew hf1.kept,hf1.new⟩
    have HS1:Hid (Sm w1 h most vl bv (.slice (some ⟨g,0,none⟩) bs.length LB) gone e):=hid (HS.out.sm.kept HF1.out.kept (fun f=>f))
    obtain⟨a1,cp1,hv1,_⟩:=hf1.row.shape
    generalize (bs.drop LB).length=n1 at hv1
    subst hv1
    have d0:=HS1.out.cell 0
    have d1:=HS1.out.cell 1
    have d2:=HS1.out.cell 2
    have d3:=HS1.out.cell 3
    have d4:=HS1.out.cell 4
    have d5:=HS1.out.cell 5
    simp at d0 d1 d2 d3 d4 d5
    have z0:=HS1.out.frozen 0
    have z1:=HS1.out.frozen 1
    have z2:=HS1.out.frozen 2
    have z3:=HS1.out.frozen 3
    have z4:=HS1.out.frozen 4
    have z5:=HS1.out.frozen 5
    clear hf1 c3 c4
    obtain⟨gm,hgm⟩:∃gm,gm=gone % 8:=⟨_,rfl⟩
    have hgI:(gone:Int) % 8=(gm:Int):=by omega
    have HGM:Hid (gm=gone % 8):=hgm
    clear hgm
    go_wp2_with fail
    go_end0
    have hks:Kept (·=h) w1 ((w1.setCell ⟨h,3,none⟩ (.slice a1 n1 cp1)).setCell ⟨h,4,none⟩ (.int .i64 (gm:Nat))):=((Kept.refl (·=h) w1).setCell ⟨h,3,none⟩ _ (.inl rfl)).setCell ⟨h,4,none⟩ _ (.inl rfl)
    have hsm:Sm ((w1.setCell ⟨h,3,none⟩ (.slice a1 n1 cp1)).setCell ⟨h,4,none⟩ (.int .i64 (gm:Nat))) h most vl bv (.slice a1 n1 cp1) gm e:=by
     have:=(HS1.out.set 3 (.slice a1 n1 cp1)).set 4 (.int .i64 (gm:Nat))
     simpa using this
    have hfin:=HFIN.out w1 _ HF1.out _ hks
    rw[HGM.out]at hsm
    exact⟨⟨_,rfl⟩,_,by rw[HGM.out];exact hsm,by rw[HGM.out]at hfin;rw[HGM.out];exact hfin⟩

set_option maxRecDepth 100000 in
set_option maxHeartbeats 2000000 in
theorem pkeep_done(w:World)(ρ:Part)(h most e:Nat)(va:Value)(bs out:List Nat)(gone:Nat)(vl bv:Value)(s:SW w ρ h most e va bs out gone vl bv)(hlen:bs.length≤2000000):
  Calls Tryz.prog 52 #[.pointer (some ⟨h,0,none⟩),.int .i64 0] w fun x w'=>(∃u,x=.returned u)∧∃va',Sm w' h 0 (.slice none 0 0) (.pointer none) va' 0 0∧Row w' va' (bs.drop (gone / 8))∧(∀k,va'.ownBlock=some k→w.heap.size≤k)∧Kept (·=h) w w':=by
 obtain⟨aa,capa,hva,_⟩:=s.ah.shape
 have HS:Hid (SW w ρ h most e va bs out gone vl bv):=s
 subst hva
 have hhl:=s.sm.lt
 have c3:=s.sm.cell 3
 have c4:=s.sm.cell 4
 simp at c3 c4
 have HAH:Hid (Row w (.slice aa bs.length capa) bs):=s.ah
 obtain⟨LB,hLB⟩:∃L,L=bs.length:=⟨_,rfl⟩
 rw[←hLB]at c3 hlen
 obtain⟨k,hk⟩:∃k,k=gone / 8:=⟨_,rfl⟩
 have hkI:(gone:Int) / 8=(k:Int):=by omega
 have hkl:k≤LB:=by have:=s.gl;omega
 have hcap:LB≤capa:=by
  rcases s.ah.2 with⟨e1,_⟩ | ⟨g,cp,cur,e1,_,_,hle,_⟩
  ·simp only[Value.slice.injEq]at e1;omega
  ·simp only[Value.slice.injEq]at e1;omega
 have HCL:Hid (∀(W:World) (a':Option Addr) (c':Nat),Same w W→(k<LB→∃g,aa=some ⟨g,0,none⟩∧a'=some ⟨g,k,none⟩)→Calls Tryz.prog 51 #[.slice a' (LB-k) c'] W fun x w'=>∃v',x=.returned v'∧Fresh W w' v' (bs.drop k)):=hid (fun W a' c' hW ha=>by
  have:=pclone_any W (.slice a' (LB-k) c') _ (bs.drop k) (by rw[hLB];exact(HAH.out.rest k (by omega) a' c' (by rw[←hLB];exact ha)).kept hW (fun _ _ _ f=>f)) (by rw[List.length_drop];omega)
  exact this)
 have HK:Hid (k=gone / 8):=hk
 have hkw:IntKind.i64.wrap (k:Int)=(k:Int):=by rw[IntKind.wrap_i64];omega
 have hkT:Int.tdiv (gone:Int) 8=(k:Int):=by rw[HK.out];rfl
 have i1:(0:Int)≤(k:Int):=by omega
 have i2:(k:Int)≤(LB:Int):=by omega
 have i3:(LB:Int)≤(capa:Int):=by omega
 have i4:(k:Int)≤(capa:Int):=by omega
 have hgs:gone≤8*LB:=by have:=s.gl;omega
 have HFIN:Hid (∀(w1:World) (v1:Value),Fresh w w1 v1 (bs.drop k)→∀(w2:World),Kept (·=h) w1 w2→Row w2 v1 (bs.drop (gone / 8))∧(∀k,v1.ownBlock=some k→w.heap.size≤k)∧Kept (·=h) w w2):=hid (fun w1 v1 hf w2 hk2=>⟨by
  rw[←HK.out]
  exact hf.row.kept hk2 (fun j hj e1=>by have:=hf.new j hj;omega),hf.new,Kept.trans hf.kept hk2 (fun _ _ f=>f.elim) (fun _ _ f=>f)⟩)
 have HAA:Hid (k<LB→∃g,aa=some ⟨g,0,none⟩):=hid (fun hlt=>by
  rcases s.ah.2 with⟨e1,hn⟩ | ⟨g,cp,cur,e1,_⟩
  ·omega
  ·simp only[Value.slice.injEq]at e1;exact⟨g,e1.1⟩)
 have HLB:Hid (LB=bs.length):=hLB
 clear s hk hLB
 have HSH:Hid ((aa=none∧LB=0∧capa=0)∨∃g,aa=some ⟨g,0,none⟩):=hid (by
  rcases HAH.out.2 with⟨e1,hn⟩ | ⟨g,cp,cur,e1,_⟩
  ·simp only[Value.slice.injEq]at e1;exact .inl ⟨e1.1,by have:=HLB.out;omega,e1.2.2⟩
  ·simp only[Value.slice.injEq]at e1;exact .inr ⟨g,e1.1⟩)
 rcases HSH.out with⟨rfl,rfl,rfl⟩ | ⟨g,rfl⟩
 ·have hk0:k=0:=by omega
  subst hk0
  have t0:Int.tdiv (gone:Int) 8=0:=hkT
  have t1:(gone:Int) / 8=0:=hkI
  have t2:IntKind.i64.wrap 0=0:=by decide
  clear HSH i1 i2 i3 i4 hcap hkl hkw hkT hkI
  go_enter Tryz.func52,Tryz.ntmps52
  go_wp2_with fail
  go_region_held3 (fun w'=>w'.cell? ⟨h,3,none⟩=some (.slice none 0 0)∧w'.cell? ⟨h,4,none⟩=some (.int .i64 (gone:Nat))) (first | (go_split_ands;exact⟨hf1.kept.cell (by assumption) (fun f=>f),hf1.kept.cell (by assumption) (fun f=>f)⟩) | go_keep)
   (first
    | (go_at_call 51;refine(HCL.out _ _ _ ((Kept.refl _ w).drew) ?_).mono ?_;exact fun hlt=>absurd hlt (by omega);rintro x w1 ⟨v1,rfl,hf1⟩))
  all_goals
   have HF1:Hid (Fresh w w1 v1 (bs.drop 0)):=hid ⟨hf1.row,Kept.undrew hf1.kept,hf1.new⟩
   have HS1:Hid (Sm w1 h most vl bv (.slice none bs.length 0) gone e):=hid (HS.out.sm.kept HF1.out.kept (fun f=>f))
   obtain⟨a1,cp1,hv1,_⟩:=hf1.row.shape
   generalize (bs.drop 0).length=n1 at hv1
   subst hv1
   have d0:=HS1.out.cell 0
   have d1:=HS1.out.cell 1
   have d2:=HS1.out.cell 2
   have d3:=HS1.out.cell 3
   have d4:=HS1.out.cell 4
   have d5:=HS1.out.cell 5
   simp at d0 d1 d2 d3 d4 d5
   have z0:=HS1.out.frozen 0
   have z1:=HS1.out.frozen 1
   have z2:=HS1.out.frozen 2
   have z3:=HS1.out.frozen 3
   have z4:=HS1.out.frozen 4
   have z5:=HS1.out.frozen 5
   clear hf1 c3 c4
   go_wp2_with fail
   go_end0
   have hks:Kept (·=h) w1 ((((((w1.setCell ⟨h,0,none⟩ (.int .i64 0)).setCell ⟨h,1,none⟩ (.slice none 0 0)).setCell ⟨h,2,none⟩ (.pointer none)).setCell ⟨h,3,none⟩ (.slice a1 n1 cp1)).setCell ⟨h,4,none⟩ (.int .i64 0)).setCell ⟨h,5,none⟩ (.int .i64 0)):=((((((Kept.refl (·=h) w1).setCell ⟨h,0,none⟩ _ (.inl rfl)).setCell ⟨h,1,none⟩ _ (.inl rfl)).setCell ⟨h,2,none⟩ _ (.inl rfl)).setCell ⟨h,3,none⟩ _ (.inl rfl)).setCell ⟨h,4,none⟩ _ (.inl rfl)).setCell ⟨h,5,none⟩ _ (.inl rfl)
   have hsm:Sm ((((((w1.setCell ⟨h,0,none⟩ (.int .i64 0)).setCell ⟨h,1,none⟩ (.slice none 0 0)).setCell ⟨h,2,none⟩ (.pointer none)).setCell ⟨h,3,none⟩ (.slice a1 n1 cp1)).setCell ⟨h,4,none⟩ (.int .i64 0)).setCell ⟨h,5,none⟩ (.int .i64 0)) h 0 (.slice none 0 0) (.pointer none) (.slice a1 n1 cp1) 0 0:=by
    have:=(((((HS1.out.set 0 (.int .i64 0)).set 1 (.slice none 0 0)).set 2 (.pointer none)).set 3 (.slice a1 n1 cp1)).set 4 (.int .i64 0)).set 5 (.int .i64 0)
    simp at this
    exact this
   have hfin:=HFIN.out w1 _ HF1.out _ hks
   exact⟨⟨_,rfl⟩,_,hsm,hfin⟩
 ·by_cases hkc:k<capa
  ·have j1:(k:Int)<(capa:Int):=by omega
   have j2:¬capa=k:=by omega
   have j3:¬capa-k=0:=by omega
   have j5:¬k=capa:=by omega
   have j4:¬((capa:Int)-(k:Int)=0):=by omega
   clear HSH
   go_enter Tryz.func52,Tryz.ntmps52
   go_wp2_with fail
   go_region_held3 (fun w'=>w'.cell? ⟨h,3,none⟩=some (.slice (some ⟨g,0,none⟩) LB capa)∧w'.cell? ⟨h,4,none⟩=some (.int .i64 (gone:Nat))) (first | (go_split_ands;exact⟨hf1.kept.cell (by assumption) (fun f=>f),hf1.kept.cell (by assumption) (fun f=>f)⟩) | go_keep)
    (first
     | (go_at_call 51;refine(HCL.out _ _ _ ((Kept.refl _ w).drew) ?_).mono ?_;exact fun _=>⟨g,rfl,rfl⟩;rintro x w1 ⟨v1,rfl,hf1⟩))
   all_goals
    have HF1:Hid (Fresh w w1 v1 (bs.drop k)):=hid ⟨hf1.row,Kept.undrew hf1.kept,hf1.new⟩
    have HS1:Hid (Sm w1 h most vl bv (.slice (some ⟨g,0,none⟩) bs.length capa) gone e):=hid (HS.out.sm.kept HF1.out.kept (fun f=>f))
    obtain⟨a1,cp1,hv1,_⟩:=hf1.row.shape
    generalize (bs.drop k).length=n1 at hv1
    subst hv1
    have d0:=HS1.out.cell 0
    have d1:=HS1.out.cell 1
    have d2:=HS1.out.cell 2
    have d3:=HS1.out.cell 3
    have d4:=HS1.out.cell 4
    have d5:=HS1.out.cell 5
    simp at d0 d1 d2 d3 d4 d5
    have z0:=HS1.out.frozen 0
    have z1:=HS1.out.frozen 1
    have z2:=HS1.out.frozen 2
    have z3:=HS1.out.frozen 3
    have z4:=HS1.out.frozen 4
    have z5:=HS1.out.frozen 5
    clear hf1 c3 c4
    go_wp2_with fail
    go_end0
    have hks:Kept (·=h) w1 ((((((w1.setCell ⟨h,0,none⟩ (.int .i64 0)).setCell ⟨h,1,none⟩ (.slice none 0 0)).setCell ⟨h,2,none⟩ (.pointer none)).setCell ⟨h,3,none⟩ (.slice a1 n1 cp1)).setCell ⟨h,4,none⟩ (.int .i64 0)).setCell ⟨h,5,none⟩ (.int .i64 0)):=((((((Kept.refl (·=h) w1).setCell ⟨h,0,none⟩ _ (.inl rfl)).setCell ⟨h,1,none⟩ _ (.inl rfl)).setCell ⟨h,2,none⟩ _ (.inl rfl)).setCell ⟨h,3,none⟩ _ (.inl rfl)).setCell ⟨h,4,none⟩ _ (.inl rfl)).setCell ⟨h,5,none⟩ _ (.inl rfl)
    have hsm:Sm ((((((w1.setCell ⟨h,0,none⟩ (.int .i64 0)).setCell ⟨h,1,none⟩ (.slice none 0 0)).setCell ⟨h,2,none⟩ (.pointer none)).setCell ⟨h,3,none⟩ (.slice a1 n1 cp1)).setCell ⟨h,4,none⟩ (.int .i64 0)).setCell ⟨h,5,none⟩ (.int .i64 0)) h 0 (.slice none 0 0) (.pointer none) (.slice a1 n1 cp1) 0 0:=by
     have:=(((((HS1.out.set 0 (.int .i64 0)).set 1 (.slice none 0 0)).set 2 (.pointer none)).set 3 (.slice a1 n1 cp1)).set 4 (.int .i64 0)).set 5 (.int .i64 0)
     simp at this
     exact this
    have hfin:=HFIN.out w1 _ HF1.out _ hks
    exact⟨⟨_,rfl⟩,_,hsm,hfin⟩
  ·have hkc2:capa=k:=by omega
   have hkc3:LB=k:=by omega
   subst hkc2
   subst hkc3
   have HCL0:Hid (∀(W:World) (a':Option Addr) (c':Nat),Same w W→Calls Tryz.prog 51 #[.slice a' 0 c'] W fun x w'=>∃v',x=.returned v'∧Fresh W w' v' (bs.drop LB)):=hid (fun W a' c' hW=>by
    have:=HCL.out W a' c' hW (fun hlt=>absurd hlt (Nat.lt_irrefl _))
    rw[Nat.sub_self]at this
    exact this)
   clear HSH hkc HCL
   go_enter Tryz.func52,Tryz.ntmps52
   go_wp2_with fail
   go_region_held3 (fun w'=>w'.cell? ⟨h,3,none⟩=some (.slice (some ⟨g,0,none⟩) LB LB)∧w'.cell? ⟨h,4,none⟩=some (.int .i64 (gone:Nat))) (first | (go_split_ands;exact⟨hf1.kept.cell (by assumption) (fun f=>f),hf1.kept.cell (by assumption) (fun f=>f)⟩) | go_keep)
    (first
     | (go_at_call 51;refine(HCL0.out _ _ _ ((Kept.refl _ w).drew)).mono ?_;rintro x w1 ⟨v1,rfl,hf1⟩))
   all_goals
    have HF1:Hid (Fresh w w1 v1 (bs.drop LB)):=hid ⟨hf1.row,Kept.undrew hf1.kept,hf1.new⟩
    have HS1:Hid (Sm w1 h most vl bv (.slice (some ⟨g,0,none⟩) bs.length LB) gone e):=hid (HS.out.sm.kept HF1.out.kept (fun f=>f))
    obtain⟨a1,cp1,hv1,_⟩:=hf1.row.shape
    generalize (bs.drop LB).length=n1 at hv1
    subst hv1
    have d0:=HS1.out.cell 0
    have d1:=HS1.out.cell 1
    have d2:=HS1.out.cell 2
    have d3:=HS1.out.cell 3
    have d4:=HS1.out.cell 4
    have d5:=HS1.out.cell 5
    simp at d0 d1 d2 d3 d4 d5
    have z0:=HS1.out.frozen 0
    have z1:=HS1.out.frozen 1
    have z2:=HS1.out.frozen 2
    have z3:=HS1.out.frozen 3
    have z4:=HS1.out.frozen 4
    have z5:=HS1.out.frozen 5
    clear hf1 c3 c4
    go_wp2_with fail
    go_end0
    have hks:Kept (·=h) w1 ((((((w1.setCell ⟨h,0,none⟩ (.int .i64 0)).setCell ⟨h,1,none⟩ (.slice none 0 0)).setCell ⟨h,2,none⟩ (.pointer none)).setCell ⟨h,3,none⟩ (.slice a1 n1 cp1)).setCell ⟨h,4,none⟩ (.int .i64 0)).setCell ⟨h,5,none⟩ (.int .i64 0)):=((((((Kept.refl (·=h) w1).setCell ⟨h,0,none⟩ _ (.inl rfl)).setCell ⟨h,1,none⟩ _ (.inl rfl)).setCell ⟨h,2,none⟩ _ (.inl rfl)).setCell ⟨h,3,none⟩ _ (.inl rfl)).setCell ⟨h,4,none⟩ _ (.inl rfl)).setCell ⟨h,5,none⟩ _ (.inl rfl)
    have hsm:Sm ((((((w1.setCell ⟨h,0,none⟩ (.int .i64 0)).setCell ⟨h,1,none⟩ (.slice none 0 0)).setCell ⟨h,2,none⟩ (.pointer none)).setCell ⟨h,3,none⟩ (.slice a1 n1 cp1)).setCell ⟨h,4,none⟩ (.int .i64 0)).setCell ⟨h,5,none⟩ (.int .i64 0)) h 0 (.slice none 0 0) (.pointer none) (.slice a1 n1 cp1) 0 0:=by
     have:=(((((HS1.out.set 0 (.int .i64 0)).set 1 (.slice none 0 0)).set 2 (.pointer none)).set 3 (.slice a1 n1 cp1)).set 4 (.int .i64 0)).set 5 (.int .i64 0)
     simp at this
     exact this
    have hfin:=HFIN.out w1 _ HF1.out _ hks
    exact⟨⟨_,rfl⟩,_,hsm,hfin⟩

set_option maxRecDepth 100000 in
set_option maxHeartbeats 2000000 in
theorem pkeep_fail(w:World)(ρ:Part)(h most e:Nat)(va:Value)(bs out:List Nat)(gone:Nat)(vl bv:Value)(er:Nat)(he0:er≠0)(he5:er≠55)(s:SW w ρ h most e va bs out gone vl bv)(hlen:bs.length≤2000000):
  Calls Tryz.prog 52 #[.pointer (some ⟨h,0,none⟩),.int .i64 (er:Nat)] w fun x w'=>(∃u,x=.returned u)∧∃va',Sm w' h 0 (.slice none 0 0) (.pointer none) (.slice none 0 0) 0 er∧Row w' va' (bs.drop (gone / 8))∧(∀k,va'.ownBlock=some k→w.heap.size≤k)∧Kept (·=h) w w':=by
 obtain⟨aa,capa,hva,_⟩:=s.ah.shape
 have HS:Hid (SW w ρ h most e va bs out gone vl bv):=s
 subst hva
 have hhl:=s.sm.lt
 have c3:=s.sm.cell 3
 have c4:=s.sm.cell 4
 simp at c3 c4
 have HAH:Hid (Row w (.slice aa bs.length capa) bs):=s.ah
 obtain⟨LB,hLB⟩:∃L,L=bs.length:=⟨_,rfl⟩
 rw[←hLB]at c3 hlen
 obtain⟨k,hk⟩:∃k,k=gone / 8:=⟨_,rfl⟩
 have hkI:(gone:Int) / 8=(k:Int):=by omega
 have hkl:k≤LB:=by have:=s.gl;omega
 have hcap:LB≤capa:=by
  rcases s.ah.2 with⟨e1,_⟩ | ⟨g,cp,cur,e1,_,_,hle,_⟩
  ·simp only[Value.slice.injEq]at e1;omega
  ·simp only[Value.slice.injEq]at e1;omega
 have HCL:Hid (∀(W:World) (a':Option Addr) (c':Nat),Same w W→(k<LB→∃g,aa=some ⟨g,0,none⟩∧a'=some ⟨g,k,none⟩)→Calls Tryz.prog 51 #[.slice a' (LB-k) c'] W fun x w'=>∃v',x=.returned v'∧Fresh W w' v' (bs.drop k)):=hid (fun W a' c' hW ha=>by
  have:=pclone_any W (.slice a' (LB-k) c') _ (bs.drop k) (by rw[hLB];exact(HAH.out.rest k (by omega) a' c' (by rw[←hLB];exact ha)).kept hW (fun _ _ _ f=>f)) (by rw[List.length_drop];omega)
  exact this)
 have HK:Hid (k=gone / 8):=hk
 have hkw:IntKind.i64.wrap (k:Int)=(k:Int):=by rw[IntKind.wrap_i64];omega
 have hkT:Int.tdiv (gone:Int) 8=(k:Int):=by rw[HK.out];rfl
 have i1:(0:Int)≤(k:Int):=by omega
 have i2:(k:Int)≤(LB:Int):=by omega
 have i3:(LB:Int)≤(capa:Int):=by omega
 have i4:(k:Int)≤(capa:Int):=by omega
 have hgs:gone≤8*LB:=by have:=s.gl;omega
 have HFIN:Hid (∀(w1:World) (v1:Value),Fresh w w1 v1 (bs.drop k)→∀(w2:World),Kept (·=h) w1 w2→Row w2 v1 (bs.drop (gone / 8))∧(∀k,v1.ownBlock=some k→w.heap.size≤k)∧Kept (·=h) w w2):=hid (fun w1 v1 hf w2 hk2=>⟨by
  rw[←HK.out]
  exact hf.row.kept hk2 (fun j hj e1=>by have:=hf.new j hj;omega),hf.new,Kept.trans hf.kept hk2 (fun _ _ f=>f.elim) (fun _ _ f=>f)⟩)
 have HAA:Hid (k<LB→∃g,aa=some ⟨g,0,none⟩):=hid (fun hlt=>by
  rcases s.ah.2 with⟨e1,hn⟩ | ⟨g,cp,cur,e1,_⟩
  ·omega
  ·simp only[Value.slice.injEq]at e1;exact⟨g,e1.1⟩)
 have HLB:Hid (LB=bs.length):=hLB
 have hd0:((er:Int)==0)=false:=by simp;omega
 have hd5:((er:Int)==55)=false:=by simp;omega
 clear s hk hLB
 have HSH:Hid ((aa=none∧LB=0∧capa=0)∨∃g,aa=some ⟨g,0,none⟩):=hid (by
  rcases HAH.out.2 with⟨e1,hn⟩ | ⟨g,cp,cur,e1,_⟩
  ·simp only[Value.slice.injEq]at e1;exact .inl ⟨e1.1,by have:=HLB.out;omega,e1.2.2⟩
  ·simp only[Value.slice.injEq]at e1;exact .inr ⟨g,e1.1⟩)
 rcases HSH.out with⟨rfl,rfl,rfl⟩ | ⟨g,rfl⟩
 ·have hk0:k=0:=by omega
  subst hk0
  have t0:Int.tdiv (gone:Int) 8=0:=hkT
  have t1:(gone:Int) / 8=0:=hkI
  have t2:IntKind.i64.wrap 0=0:=by decide
  clear HSH i1 i2 i3 i4 hcap hkl hkw hkT hkI
  go_enter Tryz.func52,Tryz.ntmps52
  go_wp2_with fail
  go_region_held3 (fun w'=>w'.cell? ⟨h,3,none⟩=some (.slice none 0 0)∧w'.cell? ⟨h,4,none⟩=some (.int .i64 (gone:Nat))) (first | (go_split_ands;exact⟨hf1.kept.cell (by assumption) (fun f=>f),hf1.kept.cell (by assumption) (fun f=>f)⟩) | go_keep)
   (first
    | (go_at_call 51;refine(HCL.out _ _ _ ((Kept.refl _ w).drew) ?_).mono ?_;exact fun hlt=>absurd hlt (by omega);rintro x w1 ⟨v1,rfl,hf1⟩))
  all_goals
   have HF1:Hid (Fresh w w1 v1 (bs.drop 0)):=hid ⟨hf1.row,Kept.undrew hf1.kept,hf1.new⟩
   have HS1:Hid (Sm w1 h most vl bv (.slice none bs.length 0) gone e):=hid (HS.out.sm.kept HF1.out.kept (fun f=>f))
   obtain⟨a1,cp1,hv1,_⟩:=hf1.row.shape
   generalize (bs.drop 0).length=n1 at hv1
   subst hv1
   have d0:=HS1.out.cell 0
   have d1:=HS1.out.cell 1
   have d2:=HS1.out.cell 2
   have d3:=HS1.out.cell 3
   have d4:=HS1.out.cell 4
   have d5:=HS1.out.cell 5
   simp at d0 d1 d2 d3 d4 d5
   have z0:=HS1.out.frozen 0
   have z1:=HS1.out.frozen 1
   have z2:=HS1.out.frozen 2
   have z3:=HS1.out.frozen 3
   have z4:=HS1.out.frozen 4
   have z5:=HS1.out.frozen 5
   clear hf1 c3 c4
   go_wp2_with fail
   go_end0
   have hks:Kept (·=h) w1 ((((((w1.setCell ⟨h,0,none⟩ (.int .i64 0)).setCell ⟨h,1,none⟩ (.slice none 0 0)).setCell ⟨h,2,none⟩ (.pointer none)).setCell ⟨h,3,none⟩ (.slice none 0 0)).setCell ⟨h,4,none⟩ (.int .i64 0)).setCell ⟨h,5,none⟩ (.int .i64 (er:Nat))):=((((((Kept.refl (·=h) w1).setCell ⟨h,0,none⟩ _ (.inl rfl)).setCell ⟨h,1,none⟩ _ (.inl rfl)).setCell ⟨h,2,none⟩ _ (.inl rfl)).setCell ⟨h,3,none⟩ _ (.inl rfl)).setCell ⟨h,4,none⟩ _ (.inl rfl)).setCell ⟨h,5,none⟩ _ (.inl rfl)
   have hsm:Sm ((((((w1.setCell ⟨h,0,none⟩ (.int .i64 0)).setCell ⟨h,1,none⟩ (.slice none 0 0)).setCell ⟨h,2,none⟩ (.pointer none)).setCell ⟨h,3,none⟩ (.slice none 0 0)).setCell ⟨h,4,none⟩ (.int .i64 0)).setCell ⟨h,5,none⟩ (.int .i64 (er:Nat))) h 0 (.slice none 0 0) (.pointer none) (.slice none 0 0) 0 er:=by
    have:=(((((HS1.out.set 0 (.int .i64 0)).set 1 (.slice none 0 0)).set 2 (.pointer none)).set 3 (.slice none 0 0)).set 4 (.int .i64 0)).set 5 (.int .i64 (er:Nat))
    simp at this
    exact this
   have hfin:=HFIN.out w1 _ HF1.out _ hks
   exact⟨⟨_,rfl⟩,_,hsm,hfin⟩
 ·by_cases hkc:k<capa
  ·have j1:(k:Int)<(capa:Int):=by omega
   have j2:¬capa=k:=by omega
   have j3:¬capa-k=0:=by omega
   have j5:¬k=capa:=by omega
   have j4:¬((capa:Int)-(k:Int)=0):=by omega
   clear HSH
   go_enter Tryz.func52,Tryz.ntmps52
   go_wp2_with fail
   go_region_held3 (fun w'=>w'.cell? ⟨h,3,none⟩=some (.slice (some ⟨g,0,none⟩) LB capa)∧w'.cell? ⟨h,4,none⟩=some (.int .i64 (gone:Nat))) (first | (go_split_ands;exact⟨hf1.kept.cell (by assumption) (fun f=>f),hf1.kept.cell (by assumption) (fun f=>f)⟩) | go_keep)
    (first
     | (go_at_call 51;refine(HCL.out _ _ _ ((Kept.refl _ w).drew) ?_).mono ?_;exact fun _=>⟨g,rfl,rfl⟩;rintro x w1 ⟨v1,rfl,hf1⟩))
   all_goals
    have HF1:Hid (Fresh w w1 v1 (bs.drop k)):=hid ⟨hf1.row,Kept.undrew hf1.kept,hf1.new⟩
    have HS1:Hid (Sm w1 h most vl bv (.slice (some ⟨g,0,none⟩) bs.length capa) gone e):=hid (HS.out.sm.kept HF1.out.kept (fun f=>f))
    obtain⟨a1,cp1,hv1,_⟩:=hf1.row.shape
    generalize (bs.drop k).length=n1 at hv1
    subst hv1
    have d0:=HS1.out.cell 0
    have d1:=HS1.out.cell 1
    have d2:=HS1.out.cell 2
    have d3:=HS1.out.cell 3
    have d4:=HS1.out.cell 4
    have d5:=HS1.out.cell 5
    simp at d0 d1 d2 d3 d4 d5
    have z0:=HS1.out.frozen 0
    have z1:=HS1.out.frozen 1
    have z2:=HS1.out.frozen 2
    have z3:=HS1.out.frozen 3
    have z4:=HS1.out.frozen 4
    have z5:=HS1.out.frozen 5
    clear hf1 c3 c4
    go_wp2_with fail
    go_end0
    have hks:Kept (·=h) w1 ((((((w1.setCell ⟨h,0,none⟩ (.int .i64 0)).setCell ⟨h,1,none⟩ (.slice none 0 0)).setCell ⟨h,2,none⟩ (.pointer none)).setCell ⟨h,3,none⟩ (.slice none 0 0)).setCell ⟨h,4,none⟩ (.int .i64 0)).setCell ⟨h,5,none⟩ (.int .i64 (er:Nat))):=((((((Kept.refl (·=h) w1).setCell ⟨h,0,none⟩ _ (.inl rfl)).setCell ⟨h,1,none⟩ _ (.inl rfl)).setCell ⟨h,2,none⟩ _ (.inl rfl)).setCell ⟨h,3,none⟩ _ (.inl rfl)).setCell ⟨h,4,none⟩ _ (.inl rfl)).setCell ⟨h,5,none⟩ _ (.inl rfl)
    have hsm:Sm ((((((w1.setCell ⟨h,0,none⟩ (.int .i64 0)).setCell ⟨h,1,none⟩ (.slice none 0 0)).setCell ⟨h,2,none⟩ (.pointer none)).setCell ⟨h,3,none⟩ (.slice none 0 0)).setCell ⟨h,4,none⟩ (.int .i64 0)).setCell ⟨h,5,none⟩ (.int .i64 (er:Nat))) h 0 (.slice none 0 0) (.pointer none) (.slice none 0 0) 0 er:=by
     have:=(((((HS1.out.set 0 (.int .i64 0)).set 1 (.slice none 0 0)).set 2 (.pointer none)).set 3 (.slice none 0 0)).set 4 (.int .i64 0)).set 5 (.int .i64 (er:Nat))
     simp at this
     exact this
    have hfin:=HFIN.out w1 _ HF1.out _ hks
    exact⟨⟨_,rfl⟩,_,hsm,hfin⟩
  ·have hkc2:capa=k:=by omega
   have hkc3:LB=k:=by omega
   subst hkc2
   subst hkc3
   have HCL0:Hid (∀(W:World) (a':Option Addr) (c':Nat),Same w W→Calls Tryz.prog 51 #[.slice a' 0 c'] W fun x w'=>∃v',x=.returned v'∧Fresh W w' v' (bs.drop LB)):=hid (fun W a' c' hW=>by
    have:=HCL.out W a' c' hW (fun hlt=>absurd hlt (Nat.lt_irrefl _))
    rw[Nat.sub_self]at this
    exact this)
   clear HSH hkc HCL
   go_enter Tryz.func52,Tryz.ntmps52
   go_wp2_with fail
   go_region_held3 (fun w'=>w'.cell? ⟨h,3,none⟩=some (.slice (some ⟨g,0,none⟩) LB LB)∧w'.cell? ⟨h,4,none⟩=some (.int .i64 (gone:Nat))) (first | (go_split_ands;exact⟨hf1.kept.cell (by assumption) (fun f=>f),hf1.kept.cell (by assumption) (fun f=>f)⟩) | go_keep)
    (first
     | (go_at_call 51;refine(HCL0.out _ _ _ ((Kept.refl _ w).drew)).mono ?_;rintro x w1 ⟨v1,rfl,hf1⟩))
   all_goals
    have HF1:Hid (Fresh w w1 v1 (bs.drop LB)):=hid ⟨hf1.row,Kept.undrew hf1.kept,hf1.new⟩
    have HS1:Hid (Sm w1 h most vl bv (.slice (some ⟨g,0,none⟩) bs.length LB) gone e):=hid (HS.out.sm.kept HF1.out.kept (fun f=>f))
    obtain⟨a1,cp1,hv1,_⟩:=hf1.row.shape
    generalize (bs.drop LB).length=n1 at hv1
    subst hv1
    have d0:=HS1.out.cell 0
    have d1:=HS1.out.cell 1
    have d2:=HS1.out.cell 2
    have d3:=HS1.out.cell 3
    have d4:=HS1.out.cell 4
    have d5:=HS1.out.cell 5
    simp at d0 d1 d2 d3 d4 d5
    have z0:=HS1.out.frozen 0
    have z1:=HS1.out.frozen 1
    have z2:=HS1.out.frozen 2
    have z3:=HS1.out.frozen 3
    have z4:=HS1.out.frozen 4
    have z5:=HS1.out.frozen 5
    clear hf1 c3 c4
    go_wp2_with fail
    go_end0
    have hks:Kept (·=h) w1 ((((((w1.setCell ⟨h,0,none⟩ (.int .i64 0)).setCell ⟨h,1,none⟩ (.slice none 0 0)).setCell ⟨h,2,none⟩ (.pointer none)).setCell ⟨h,3,none⟩ (.slice none 0 0)).setCell ⟨h,4,none⟩ (.int .i64 0)).setCell ⟨h,5,none⟩ (.int .i64 (er:Nat))):=((((((Kept.refl (·=h) w1).setCell ⟨h,0,none⟩ _ (.inl rfl)).setCell ⟨h,1,none⟩ _ (.inl rfl)).setCell ⟨h,2,none⟩ _ (.inl rfl)).setCell ⟨h,3,none⟩ _ (.inl rfl)).setCell ⟨h,4,none⟩ _ (.inl rfl)).setCell ⟨h,5,none⟩ _ (.inl rfl)
    have hsm:Sm ((((((w1.setCell ⟨h,0,none⟩ (.int .i64 0)).setCell ⟨h,1,none⟩ (.slice none 0 0)).setCell ⟨h,2,none⟩ (.pointer none)).setCell ⟨h,3,none⟩ (.slice none 0 0)).setCell ⟨h,4,none⟩ (.int .i64 0)).setCell ⟨h,5,none⟩ (.int .i64 (er:Nat))) h 0 (.slice none 0 0) (.pointer none) (.slice none 0 0) 0 er:=by
     have:=(((((HS1.out.set 0 (.int .i64 0)).set 1 (.slice none 0 0)).set 2 (.pointer none)).set 3 (.slice none 0 0)).set 4 (.int .i64 0)).set 5 (.int .i64 (er:Nat))
     simp at this
     exact this
    have hfin:=HFIN.out w1 _ HF1.out _ hks
    exact⟨⟨_,rfl⟩,_,hsm,hfin⟩

end Go.Proofs.YtggcbnhckcenmaaGreatDoor
