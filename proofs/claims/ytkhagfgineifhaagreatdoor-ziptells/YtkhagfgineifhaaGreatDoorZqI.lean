import Derived.Test.YtkhagfgineifhaaGreatDoorZqC
import Derived.Test.YtkhagfgineifhaaGreatDoorZpU
import Derived.Test.YtkhagfgineifhaaGreatDoorInPA
import Derived.Test.YtkhagfgineifhaaGreatDoorTpN
import Derived.Test.YtkhagfgineifhaaGreatDoorZpK
set_option maxHeartbeats 400000
set_option maxRecDepth 100000
namespace Go.Proofs.YtkhagfgineifhaaGreatDoor
open Go.RowKit
theorem UnpZ.bad{w w':World}{o:Except Nat (List Nat)}{e:Ending}{k:Nat}(h:o=.error k)(he:e=aG k)(hk:Same w w'):UnpZ w w' o e:=
 ⟨λd h'=>(by rw[h]at h';cases h'),λn h'=>by rw[h]at h';simp only[Except.error.injEq]at h';subst h';exact he,hk⟩
theorem UnpZ.good{w w':World}{o:Except Nat (List Nat)}{e:Ending}{d:List Nat}(h:o=.ok d)(he:e=.returned (.string (bH d)))(hk:Same w w'):UnpZ w w' o e:=
 ⟨λd' h'=>by rw[h]at h';simp only[Except.ok.injEq]at h';subst h';exact he,λn h'=>(by rw[h]at h';cases h'),hk⟩
theorem wj(w:World)(m:Mk)(a:Option Addr)(n c:Nat)(I:Nat→Prop)(bs:List Nat)(hs:Src w I (.slice a n c) bs)(hb:∀b∈bs,b<256)(hl:bs.length≤100000)(hn:n=bs.length)(hw:m.way=8)(hz:m.size≤8192)(ha:a≠none)(hT:Tab w):
  Calls Tryz.prog 30 #[.agg (jr m (.slice a n c))] w λe w'=>UnpZ w w' (df ⟨m,bs⟩) e:=by
 have w8:((m.way:Int)==8)=true:=by simp;omega
 obtain⟨W1,hW1⟩:∃W,W=w.alloc (.cells (jr m (.slice a n c)) 60):=⟨_,rfl⟩
 obtain⟨xb,ie⟩:∃b,b=w.heap.size:=⟨_,rfl⟩
 have HK1:Hid (Same w W1):=hid (by rw[hW1];exact(Kept.refl _ w).alloc _);have HX1:Hid (Blk W1 xb (jr m (.slice a n c)) 60):=hid (by rw[hW1,ie];exact Blk.new w _ _);have HI:=Ee W1 (.slice a n c) I bs m.size (hs.kept HK1.out (λ_ _ _ f=>f)) hb (λn9 c9 e=>by simp only[Value.slice.injEq]at e;exact absurd e.1 ha) (by omega) (by omega) (hT.kept HK1.out (λf=>f));have VD:IntKind.i64.wrap (m.size:Int)=(m.size:Int):=by rw[IntKind.wrap_i64];omega
 have HN:Hid (n=bs.length/\m.way=8/\bs.length<=100000):=hid ⟨hn,hw,hl⟩;have hn2:n<=100000:=by omega
 clear hs hb hl ha hT hn;unfold jr at hW1 ⊢;go_enter Tryz.func30,Tryz.ntmps30;go_wp2_with fail;rw[hw]at hW1;rw[<-ie];have e1:w.alloc (Obj.cells #[Value.int .u16 8,.int .u32 (m.sum:Nat),.int .u32 (m.packed:Nat),.int .u32 (m.size:Nat),.string (bH m.name),.slice a n c] 60)=W1:=hW1.symm;rw[e1];clear hW1 e1 ie;refine HI.mono ?_;intro e w2 h2;cases h2 with
 | fail t er he h0 hx hk=>
  subst hx;have HU:Hid (df ⟨m,bs⟩=.error 84):=hid (by
   have hr:=(F4 he).1;unfold df;rw[if_pos HN.out.2.1,if_neg (λh9=>h0 (by rw[<-hr];exact h9.1))])
  have HK2:Hid (Same w w2):=hid (Same.trans HK1.out hk);have LT:((er:Int)==0)=false:=(by simp;omega);have HO:=aL w2 84;clear he h0 hk HI HX1 hw;go_wp2_with fail;refine HO.mono ?_;rintro e w3 ⟨rfl,hw3⟩;subst hw3;clear HO;unfold aG;go_wp2_with fail;exact⟨rfl,UnpZ.bad HU.out rfl HK2.out⟩
 | done t v' he hx hr hv hk hww=>
  subst hx;obtain⟨r1,r2,r3⟩:=F4 he;have r2:=r2 (.inl rfl);have r3:=r3 rfl;have Sz:=Ea he;obtain⟨O,hO⟩:∃O,O=t.out:=⟨_,rfl⟩
  obtain⟨q,hq⟩:∃q,q=(t.c+7) / 8:=⟨_,rfl⟩
  rw[<-hO]at hr Sz r2;rw[<-hq];have HQ:Hid (df ⟨m,bs⟩=if q=bs.length/\O.length=m.size then(if more 0 O=m.sum then .ok O else .error 83)else .error 84):=hid (by
   unfold df;rw[if_pos HN.out.2.1];simp only;rw[r1,r2,r3,<-hq];simp)
  have HK2:Hid (Same w w2):=hid (Same.trans HK1.out hk);have HX2:Hid (Blk w2 xb (jr m (.slice a n c)) 60):=hid (HX1.out.kept hk (λf=>f));have HR:Hid (Row w2 v' O):=hr;have HOB:Hid (∀b∈O,b<256):=Sz;obtain⟨a3,c3,sk,_⟩:=hr.shape;obtain⟨lo,lO⟩:∃l,l=O.length:=⟨_,rfl⟩
  rw[<-lO]at sk HQ;subst sk;have HLO:Hid (lo=O.length):=lO;have x1:w2.cell? ⟨xb,1,none⟩=some (.int .u32 (m.sum:Nat)):=HX2.out.cell 1;have x3:w2.cell? ⟨xb,3,none⟩=some (.int .u32 (m.size:Nat)):=HX2.out.cell 3;have x5:w2.cell? ⟨xb,5,none⟩=some (.slice a n c):=HX2.out.cell 5;have HN2:=HN.out.1;clear he hr hv hk hww HI HX1 r1 r2 r3 Sz hO hq lO hw;by_cases q1:q=n
  ·subst q1;by_cases q2:lo=m.size
   ·have HU:Hid (df ⟨m,bs⟩=if more 0 O=m.sum then .ok O else .error 83):=hid (by rw[HQ.out,if_pos ⟨HN2,q2⟩]);have g2:((lo:Int)==(m.size:Int))=true:=(by simp;omega);have HO:=bh w2 (.int .i64 84);have Uh:lo<=8192:=(by omega);clear HQ q2 HN2;have HSN:Hid (∀wx,Same w2 wx->Calls Tryz.prog 35 #[.slice a3 lo c3] wx λe w'=>e=.returned (.int .u32 (more 0 O:Nat))/\w'=wx):=hid (λwx hk=>jb wx _ _ _ (Src.ofRow (HR.out.kept hk (λ_ _ f=>f))) HOB.out (by have:=HLO.out;omega));have HGS:Hid (∀wx,Same w2 wx->(convert 25 9 (.slice a3 lo c3)).run Tryz.prog wx=.ok (.string (bH O)) wx):=hid (λwx hk=>GX (Src.ofRow (HR.out.kept hk (λ_ _ f=>f))) HLO.out.symm);obtain⟨sm,gp⟩:∃s,s=more 0 O:=⟨_,rfl⟩
    rw[<-gp]at HSN HU;clear gp;go_wp2_with fail;refine HO.mono ?_;rintro e w3 ⟨rfl,hw3⟩;subst hw3;clear HO x3 x5;by_cases hq:sm=m.sum
    ·have Rs:((sm:Int)==(m.sum:Int))=true:=(by simp;omega);have HU:Hid (df ⟨m,bs⟩=.ok O):=hid (by rw[HU.out,if_pos hq]);clear hq;go_wp2_with fail;go_region_held3 (λw'=>w'.cell? ⟨xb,1,none⟩=some (.int .u32 (m.sum:Nat)))
      (first
       | (go_split_ands;assumption)
       | go_keep)
      (first
       | (go_at_call 35;refine(HSN.out _ (by first | exact Kept.refl _ _ | exact(Kept.refl _ _).drew | exact(Kept.refl _ _).drewN _)).mono ?_;rintro e w4 ⟨rfl,hw4⟩;subst hw4)
       | (go_at_call 29;refine(bh _ _).mono ?_;rintro e w5 ⟨rfl,jU⟩;subst jU))
     all_goals
      have gs:=HGS.out w3.drew ((Kept.refl _ w3).drew);go_wp2_with fail;go_ret;exact UnpZ.good HU.out rfl (Same.trans HK2.out ((Kept.refl _ w3).drew))
    ·have Rs:((sm:Int)==(m.sum:Int))=false:=(by simp;omega);have HU:Hid (df ⟨m,bs⟩=.error 83):=hid (by rw[HU.out,if_neg hq]);clear hq;go_wp2_with fail;go_region_dies
     ·refine(HSN.out _ ((Kept.refl _ w3).drew)).mono ?_;rintro e w4 ⟨rfl,hw4⟩;subst hw4;have q2:w3.drew.cell? ⟨xb,1,none⟩=some (.int .u32 (m.sum:Nat)):=x1;go_wp2_with fail;refine wpAny_ready (rs:=[4]) (by kernel_rfl) (by simp) ?_;refine AllReady.cons rfl (λK hK=>?_) AllReady.nil;go_simp;refine hK _ _ ?_;clear hK K;refine wpAny_ready (rs:=[5]) (by kernel_rfl) (by simp) ?_;refine AllReady.cons rfl (λK hK=>?_) AllReady.nil;go_simp;refine hK _ _ ?_;clear hK K;refine wpAny_ready (rs:=[6]) (by kernel_rfl) (by simp) ?_;refine AllReady.cons rfl (λK hK=>?_) AllReady.nil;go_simp;refine(aL _ 83).mono ?_;rintro e w5 ⟨rfl,jU⟩;subst jU;exact⟨rfl,UnpZ.bad HU.out rfl (Same.trans HK2.out ((Kept.refl _ w3).drew))⟩
     ·refine(HSN.out _ ((Kept.refl _ w3).drew)).mono ?_;rintro e w4 ⟨rfl,hw4⟩;subst hw4;have q2:w3.drew.cell? ⟨xb,1,none⟩=some (.int .u32 (m.sum:Nat)):=x1;go_wp2_with fail;refine wpAny_ready (rs:=[5]) (by kernel_rfl) (by simp) ?_;refine AllReady.cons rfl (λK hK=>?_) AllReady.nil;go_simp;refine hK _ _ ?_;clear hK K;refine wpAny_ready (rs:=[6]) (by kernel_rfl) (by simp) ?_;refine AllReady.cons rfl (λK hK=>?_) AllReady.nil;go_simp;refine(aL _ 83).mono ?_;rintro e w5 ⟨rfl,jU⟩;subst jU;exact⟨rfl,UnpZ.bad HU.out rfl (Same.trans HK2.out ((Kept.refl _ w3).drew))⟩
   ·have HU:Hid (df ⟨m,bs⟩=.error 84):=hid (by rw[HQ.out,if_neg (λh9=>q2 h9.2)]);have g2:((lo:Int)==(m.size:Int))=false:=(by simp;omega);have HO:=aL w2 84;clear HQ q2 HN2;go_wp2_with fail;refine HO.mono ?_;rintro e w3 ⟨rfl,hw3⟩;subst hw3;clear HO;unfold aG;go_wp2_with fail;exact⟨rfl,UnpZ.bad HU.out rfl HK2.out⟩
  ·have HU:Hid (df ⟨m,bs⟩=.error 84):=hid (by rw[HQ.out,if_neg (λh9=>q1 (by omega))]);have g1:((q:Int)==(n:Int))=false:=(by simp;omega);have HO:=aL w2 84;clear HQ q1 HN2;go_wp2_with fail;refine HO.mono ?_;rintro e w3 ⟨rfl,hw3⟩;subst hw3;clear HO;unfold aG;go_wp2_with fail;exact⟨rfl,UnpZ.bad HU.out rfl HK2.out⟩
end Go.Proofs.YtkhagfgineifhaaGreatDoor
