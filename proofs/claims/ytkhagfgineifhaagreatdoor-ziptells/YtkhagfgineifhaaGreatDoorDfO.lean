import Derived.Test.YtkhagfgineifhaaGreatDoorDfL
import Derived.Test.YtkhagfgineifhaaGreatDoorMtI
import Derived.Test.YtkhagfgineifhaaGreatDoorMtO
set_option maxHeartbeats 400000
set_option maxRecDepth 100000
namespace Go.Proofs.YtkhagfgineifhaaGreatDoor
open Go.RowKit
def bX(a b:List Nat):List Nat:=if b.length<a.length then b else a
theorem NB.later{wb w w':World}{v:Value}{bs:List Nat}(h:NB wb w v bs)(hk:Same w w'):NB wb w' v bs:=⟨h.row.kept hk (λ_ _ f=>f),h.byte,Same.trans h.same hk,h.new⟩
theorem NB.base{wa wb w:World}{v:Value}{bs:List Nat}(h:NB wb w v bs)(hk:Same wa wb):NB wa w v bs:=⟨h.row,h.byte,Same.trans hk h.same,λk e=>Nat.le_trans hk.size (h.new k e)⟩
abbrev LY(b:Nat):Value:=.func (.func 59) #[] #[.pointer (some ⟨b,0,none⟩)]
abbrev Mh(b:Nat):Value:=.func (.func 61) #[] #[.pointer (some ⟨b,0,none⟩)]
abbrev LV(b:Nat):Value:=.func (.func 63) #[] #[.pointer (some ⟨b,0,none⟩)]
theorem De(w:World)(h b1 b2:Nat)(P1 P2 P3:List Nat→Prop)
  (c0:w.cell? ⟨h,0,none⟩=some (LY b1)) (c1:w.cell? ⟨h,1,none⟩=some (Mh b2)) (c2:w.cell? ⟨h,2,none⟩=some (LV b2))
  (H1:∀W,Same w W->Calls Tryz.prog 59 #[.pointer (some ⟨b1,0,none⟩)] W λe w'=>∃v' x,e=.returned v'/\NB W w' v' x/\P1 x)
  (H2:∀W,Same w W->Calls Tryz.prog 61 #[.pointer (some ⟨b2,0,none⟩)] W λe w'=>∃v' x,e=.returned v'/\NB W w' v' x/\P2 x)
  (H3:∀W,Same w W->Calls Tryz.prog 63 #[.pointer (some ⟨b2,0,none⟩)] W λe w'=>∃v' x,e=.returned v'/\NB W w' v' x/\P3 x):
  Calls Tryz.prog 58 #[.slice (some ⟨h,0,none⟩) 3 3] w λe w'=>∃v' x1 x2 x3,e=.returned v'/\NB w w' v' (bX (bX x1 x2) x3)/\P1 x1/\P2 x2/\P3 x3:=by
 have HH1:=H1 w (Kept.refl _ w);have HH2:Hid (∀W,Same w W->Calls Tryz.prog 61 #[.pointer (some ⟨b2,0,none⟩)] W λe w'=>∃v' x,e=.returned v'/\NB W w' v' x/\P2 x):=H2;have HH3:Hid (∀W,Same w W->Calls Tryz.prog 63 #[.pointer (some ⟨b2,0,none⟩)] W λe w'=>∃v' x,e=.returned v'/\NB W w' v' x/\P3 x):=H3;clear H1 H2 H3;go_enter Tryz.func58,Tryz.ntmps58;go_wp2_with fail;refine HH1.mono ?_;rintro e w1 ⟨v1,x1,rfl,hn1,Fe⟩;have HN1:Hid (NB w w1 v1 x1):=hn1;have HP1:Hid (P1 x1):=Fe;have d1:=hn1.same.cell c1 (λf=>f);have d2:=hn1.same.cell c2 (λf=>f);have HB2:=HH2.out w1 hn1.same;obtain⟨a1,p1,fA,_⟩:=hn1.row.shape;obtain⟨L1,Se⟩:∃L,L=x1.length:=⟨_,rfl⟩
 rw[<-Se]at fA;subst fA;have HL1:Hid (L1=x1.length):=Se;clear hn1 Fe HH1 HH2 Se;go_wp2_with fail;refine wp_loop_rounds 3 ?_;rw[rounds_succ];go_wp2_with fail;refine HB2.mono ?_;rintro e w2 ⟨v2,x2,rfl,hn2,AY⟩;have HK2:Hid (Same w w2):=hid (Same.trans HN1.out.same hn2.same);have HN2:Hid (NB w w2 (.slice a1 L1 p1) x1/\NB w w2 v2 x2):=hid ⟨HN1.out.later hn2.same,hn2.base HN1.out.same⟩;have HP2:Hid (P2 x2):=AY;have d3:=hn2.same.cell d2 (λf=>f);have HB3:=HH3.out w2 HK2.out;obtain⟨a2,p2,rL,_⟩:=hn2.row.shape;obtain⟨L2,Q9⟩:∃L,L=x2.length:=⟨_,rfl⟩
 rw[<-Q9]at rL;subst rL;have HL2:Hid (L2=x2.length):=Q9;clear hn2 AY HB2 HH3 Q9 HN1;have HX:Hid (∃a L p,NB w w2 (.slice a L p) (bX x1 x2)/\L=(bX x1 x2).length/\(if L2<L1 then(a,L,p)=(a2,L2,p2) else(a,L,p)=(a1,L1,p1))):=hid (by
  unfold bX;rw[<-HL1.out,<-HL2.out];by_cases hlt:L2<L1
  ·rw[if_pos hlt];exact⟨a2,L2,p2,HN2.out.2,HL2.out,by rw[if_pos hlt]⟩
  ·rw[if_neg hlt];exact⟨a1,L1,p1,HN2.out.1,HL1.out,by rw[if_neg hlt]⟩)
 obtain⟨a,L,p,hnx,US,NR⟩:=HX.out;have HNX:Hid (NB w w2 (.slice a L p) (bX x1 x2)/\L=(bX x1 x2).length):=hid ⟨hnx,US⟩;clear HX hnx US;by_cases hlt:L2<L1
 all_goals
  first
   | rw[if_pos hlt]at NR
   | rw[if_neg hlt]at NR
  simp only[Prod.mk.injEq]at NR;obtain⟨rfl,rfl,rfl⟩:=NR;clear HN2 HL1 HL2;go_wp2_with fail;rw[rounds_succ];go_wp2_with fail;refine HB3.mono ?_;rintro e w3 ⟨v3,x3,rfl,hn3,OU⟩;have HN3:Hid (NB w w3 (.slice a L p) (bX x1 x2)/\NB w w3 v3 x3):=hid ⟨HNX.out.1.later hn3.same,hn3.base HK2.out⟩;have HP3:Hid (P3 x3):=OU;obtain⟨a3,p3,sk,_⟩:=hn3.row.shape;obtain⟨L3,QP⟩:∃L,L=x3.length:=⟨_,rfl⟩
  rw[<-QP]at sk;subst sk;have HBB:Hid ((L3<L->NB w w3 (.slice a3 L3 p3) (bX (bX x1 x2) x3))/\(¬L3<L->NB w w3 (.slice a L p) (bX (bX x1 x2) x3))):=hid (by
   rw[HNX.out.2,QP];refine⟨λh=>?_,λh=>?_⟩
   ·rw[show bX (bX x1 x2) x3=x3 from if_pos h];rw[<-QP];exact HN3.out.2
   ·rw[show bX (bX x1 x2) x3=bX x1 x2 from if_neg h];rw[<-HNX.out.2];exact HN3.out.1)
  clear hn3 OU HB3 HNX HN3 QP;by_cases EG:L3<L
  ·go_wp2_with fail;rw[rounds_succ];go_wp2_with fail;go_ret;exact⟨_,x1,x2,x3,rfl,HBB.out.1 EG,HP1.out,HP2.out,HP3.out⟩
  ·go_wp2_with fail;rw[rounds_succ];go_wp2_with fail;go_ret;exact⟨_,x1,x2,x3,rfl,HBB.out.2 EG,HP1.out,HP2.out,HP3.out⟩
end Go.Proofs.YtkhagfgineifhaaGreatDoor
