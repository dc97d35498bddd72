import Derived.Test.YtkhagfgineifhaaGreatDoorDfF
import Derived.Test.YtkhagfgineifhaaGreatDoorInPg
set_option maxHeartbeats 400000
set_option maxRecDepth 100000
namespace Go.Proofs.YtkhagfgineifhaaGreatDoor
open Go.RowKit
theorem kU(w:World)(N y:Nat)(hN:N≤1000):
  Calls Tryz.prog 120 #[.int .i64 (N:Nat),.int .i64 (y:Nat)] w λe w'=>∃g,e=.returned (.slice (some ⟨g,0,none⟩) N N)/\NRow w.heap.size w' (.slice (some ⟨g,0,none⟩) N N) (List.replicate N y)/\Same w w':=by
 have HR:=iv (w.alloc (.cells #[.int .i64 (y:Nat)] 3)) ⟨w.heap.size,0,none⟩ y N (bA w 3 (am y)) hN;go_enter Tryz.func120,Tryz.ntmps120;go_wp2_with fail;refine HR.mono ?_;rintro e w1 ⟨g,rfl,hr,hk⟩;have HR1:Hid (RowC (w.alloc (.cells #[.int .i64 (y:Nat)] 3)).heap.size 3 1 fL w1 (.slice (some ⟨g,0,none⟩) N N) (List.replicate N y)):=hr;have HK1:Hid (Same (w.alloc (.cells #[.int .i64 (y:Nat)] 3)) w1):=hk;clear hr hk HR;go_wp2_with fail;go_ret;exact⟨g,rfl,RowE.base HR1.out.nat (by simp),Same.trans ((Kept.refl _ w).alloc _) HK1.out⟩
theorem rt(w:World):
  Calls Tryz.prog 93 #[] w λe w'=>∃v,e=.returned v/\NRow w.heap.size w' v fixD/\Same w w':=by
 have HR:=iv (w.alloc (.cells #[.int .i64 5] 3)) ⟨w.heap.size,0,none⟩ 5 32 (bA w 3 (am 5)) (by decide);go_enter Tryz.func93,Tryz.ntmps93;go_wp2_with fail;refine HR.mono ?_;rintro e w1 ⟨g,rfl,hr,hk⟩;have HR1:Hid (RowC (w.alloc (.cells #[.int .i64 5] 3)).heap.size 3 1 fL w1 (.slice (some ⟨g,0,none⟩) 32 32) fixD):=hr;have HK1:Hid (Same (w.alloc (.cells #[.int .i64 5] 3)) w1):=hk;clear hr hk HR;go_wp2_with fail;go_ret;exact⟨_,rfl,RowE.base HR1.out.nat (by simp),Same.trans ((Kept.refl _ w).alloc _) HK1.out⟩
theorem rW(w:World):
  Calls Tryz.prog 92 #[] w λe w'=>∃v,e=.returned v/\NRow w.heap.size w' v fixL/\Same w w':=by
 have H1:=kU w 144 8 (by decide);have H2:=λwx:World=>kU wx 112 9 (by decide)
 have H3:=λwx:World=>kU wx 24 7 (by decide)
 have H4:=λwx:World=>kU wx 8 8 (by decide)
 go_enter Tryz.func92,Tryz.ntmps92;go_wp2_with fail;refine H1.mono ?_;rintro e w1 ⟨g1,rfl,hr1,hk1⟩;have HR1:Hid (NRow w.heap.size w1 (.slice (some ⟨g1,0,none⟩) 144 144) (List.replicate 144 8)):=hr1;have HK1:Hid (Same w w1):=hk1;clear hr1 hk1 H1;go_wp2_with fail;refine(H2 w1).mono ?_;rintro e w2 ⟨g2,rfl,hr2,hk2⟩;have HR2:Hid (NRow w1.heap.size w2 (.slice (some ⟨g2,0,none⟩) 112 112) (List.replicate 112 9)):=hr2;have HK2:Hid (Same w1 w2):=hk2;clear hr2 hk2 H2;go_wp2_with fail;refine(H3 w2).mono ?_;rintro e w3 ⟨g3,rfl,hr3,hk3⟩;have HR3:Hid (NRow w2.heap.size w3 (.slice (some ⟨g3,0,none⟩) 24 24) (List.replicate 24 7)):=hr3;have HK3:Hid (Same w2 w3):=hk3;clear hr3 hk3 H3;go_wp2_with fail;refine(H4 w3).mono ?_;rintro e w4 ⟨g4,rfl,hr4,hk4⟩;have HR4:Hid (NRow w3.heap.size w4 (.slice (some ⟨g4,0,none⟩) 8 8) (List.replicate 8 8)):=hr4;have HK4:Hid (Same w3 w4):=hk4;clear hr4 hk4 H4;have HCC:Hid (∀W:World,Same w4 W→∀h,W.cell? ⟨h,0,none⟩=some (.slice (some ⟨g1,0,none⟩) 144 144)→W.cell? ⟨h,1,none⟩=some (.slice (some ⟨g2,0,none⟩) 112 112)→W.cell? ⟨h,2,none⟩=some (.slice (some ⟨g3,0,none⟩) 24 24)→W.cell? ⟨h,3,none⟩=some (.slice (some ⟨g4,0,none⟩) 8 8) →
   Calls Tryz.prog 122 #[.slice (some ⟨h,0,none⟩) 4 4] W λe w'=>∃v',e=.returned v'/\NRow W.heap.size w' v' fixL/\Same W w'):=hid (λW hW h h0 h1 h2 h3=>by
  have hB:=Same.trans HK4.out hW;have hC:=Same.trans HK3.out hB;have hD:=Same.trans HK2.out hC;exact oQ W h 144 112 24 8 g1 g2 g3 g4 _ _ _ _ h0 h1 h2 h3 (RowE.base (HR1.out.same hD) (Nat.zero_le _)) (RowE.base (HR2.out.same hC) (Nat.zero_le _)) (RowE.base (HR3.out.same hB) (Nat.zero_le _)) (RowE.base (HR4.out.same hW) (Nat.zero_le _)) (by decide) (by decide) (by decide) (by decide) (by decide))
 have HK04:Hid (Same w w4):=hid (Same.trans HK1.out (Same.trans HK2.out (Same.trans HK3.out HK4.out)));clear HR1 HR2 HR3 HR4 HK1 HK2 HK3 HK4;go_wp2_with fail;refine(HCC.out _ ((Kept.refl _ w4).alloc _) w4.heap.size (by simp) (by simp) (by simp) (by simp)).mono ?_;rintro e w5 ⟨v5,rfl,hr5,hk5⟩;have yG:Same w4 w5:=Same.trans ((Kept.refl _ w4).alloc _) hk5;have HK5:Hid (Same w w5):=hid (Same.trans HK04.out yG);have HR5:Hid (NRow w.heap.size w5 v5 fixL):=hid (RowE.base hr5 (by have:=HK04.out.size;rw[World.size_alloc];omega));obtain⟨a5,jT,rfl,_⟩:=hr5.shape;clear hr5 hk5 HCC HK04 yG;go_wp2_with fail;go_ret;exact⟨_,rfl,HR5.out,HK5.out⟩
theorem NW.ws{wb w w':World}{p:Nat}{s s':Value}{X Y:List Nat}(h:NW wb w p s X)(hs:WS w w' p s s' Y):NW wb w' p s' Y:=by
 have gp:Same wb w':=Same.then h.same hs.kept (λk hk9 f=>by have:=h.own k f;omega);refine⟨hs.wr,hs.bit,gp,λk f=>?_⟩;rcases f with e | e
 ·rw[e];exact h.own p (.inl rfl)
 ·rcases hs.own k e with h9 | h9
  ·exact h.own k (.inr h9)
  ·exact Nat.le_trans h.same.size h9
theorem NRow.off{B:Nat}{w:World}{v:Value}{xs:List Nat}(h:NRow B w v xs){p:Nat}{s:Value}(hf:∀k,Fp p s k->k<B):SrcE am w (Off w p s) v xs:=by refine((SrcE.ofRow h).low).mono (λk hk=>⟨hk.2,λf=>?_⟩);have h1:=hf k f;have h2:=h.ge hk.1;omega
theorem TkSrc.off{wb w:World}{p:Nat}{s:Value}{X:List Nat}{I:Nat->Prop}{v:Value}{ts:List TK}(h:TkSrc wb I v ts)(hw:NW wb w p s X):TkSrc w (Off w p s) v ts:=
 (SrcC.kept fk (SrcC.low fk h) hw.same (λ_ _ _ f=>f)).mono (λk hk=>⟨Nat.lt_of_lt_of_le hk.2 hw.same.size,λf=>by have:=hw.own k f;omega⟩)
theorem CU(w:World)(v:Value)(I:Nat→Prop)(ts:List TK)(n:Nat)(hs:TkSrc w I v ts)(hm:ce 16384 ts 0=.ok n)(hb:∀t∈ts,t.lit<256):
  Calls Tryz.prog 62 #[v] w λe w'=>∃v' bs,e=.returned v'/\NB w w' v' bs/\mz bs (dG ts):=by
 have htk:=rx hm hb;have HB0:=oe w 1 (by decide);have HLT:Hid ((dG ts).length<=10000000):=hid (by
  have h1:=jw (lit:=fixL) (dist:=fixD) (key_le fix_ok.lit.le) (key_le fix_ok.le) ts (λt ht=>Bn hm htk t ht);have h2:=fI hm;have h3:=key_le fix_ok.lit.le 256;unfold dG;simp only[List.length_append,aq,List.length_cons,List.length_nil];omega)
 have HLY:Hid (∀w1 w3 p s l d B,NW w w1 p s ([1]++aj 1 2)->Same w1 w3->w1.heap.size<=B->NRow B w3 l fixL->NRow B w3 d fixD->Calls Tryz.prog 91 #[.pointer (some ⟨p,0,none⟩),v,l,d] w3 λe w'=>(∃u,e=.returned u)/\∃s',NW w w' p s' (dG ts)):=hid (λw1 w3 p s l d B h1 h2 hB h3 h4=>by
  have h5:=h1.same' h2;have CA:∀k,Fp p s k->k<B:=λk f=>Nat.lt_of_lt_of_le (h1.wr.fp_lt f) hB
  refine(lC w3 p s _ v l d ts fixL fixD n h5.wr h5.bit (by simp[aj]) (TkSrc.off hs h5) (h3.off CA) (h4.off CA) fix_ok htk hm).mono ?_;rintro e w' ⟨he,s',h6⟩;exact⟨he,s',h5.ws h6⟩)
 clear hs hm hb htk;go_enter Tryz.func62,Tryz.ntmps62;go_wp2_with fail;refine HB0.mono ?_;rintro e w1 ⟨p,s,rfl,hw1⟩;have HW1:Hid (NW w w1 p s ([1]++aj 1 2)):=hw1;have HF:=rW w1;clear hw1 HB0;go_wp2_with fail;refine HF.mono ?_;rintro e w2 ⟨l,rfl,hr2,hk2⟩;have HR2:Hid (NRow w1.heap.size w2 l fixL):=hr2;have HK2:Hid (Same w1 w2):=hk2;have HD:=rt w2;clear hr2 hk2 HF;go_wp2_with fail;refine HD.mono ?_;rintro e w3 ⟨d,rfl,hr3,hk3⟩;have HL:=HLY.out w1 w3 p s l d _ HW1.out (Same.trans HK2.out hk3) (Nat.le_refl _) (HR2.out.same hk3) (RowE.base hr3 HK2.out.size);clear hr3 hk3 HD HW1 HR2 HK2 HLY;go_wp2_with fail;refine HL.mono ?_;rintro e w4 ⟨⟨u4,rfl⟩,s4,hw4⟩;have HBY:=hw4.bytes w w4 p s4 _ (by have:=HLT.out;omega);have HBT:Hid (∀b∈dG ts,b<2):=hid hw4.bit;clear hw4 HL;go_wp2_with fail;refine HBY.mono ?_;rintro e w5 ⟨v5,bs,rfl,hnb,hn5,IP⟩;have HE:Hid (NB w w5 v5 bs/\mz bs (dG ts)):=hid ⟨hnb,GD bs _ hnb.byte HBT.out hn5 IP⟩;obtain⟨a5,c5,gt,_⟩:=hnb.row.shape;subst gt;clear hnb hn5 IP HBY;go_wp2_with fail;go_ret;exact⟨_,bs,rfl,HE.out.1,HE.out.2⟩
end Go.Proofs.YtkhagfgineifhaaGreatDoor
