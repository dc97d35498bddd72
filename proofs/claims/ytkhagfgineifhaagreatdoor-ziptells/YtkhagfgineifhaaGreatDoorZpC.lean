import Derived.Test.YtkhagfgineifhaaGreatDoorZpB
set_option maxHeartbeats 400000
set_option maxRecDepth 100000
namespace Go.Proofs.YtkhagfgineifhaaGreatDoor
open Go.RowKit
def ExpZ(N:Nat)(w w':World)(c:Nat)(o:Option (List Nat))(e:Ending):Prop:=
 (∀y,o=some y->∃a' cap',e=.returned (.tuple #[])/\Cur N w' c y a' cap'/\Kept (·=c) w w')/\(o=none->e=aG 81/\Kept (·=c) w w')
theorem ExpZ.good{N:Nat}{w w':World}{c:Nat}{o:Option (List Nat)}{y:List Nat}{e:Ending}(ht:o=some y){a':Option Addr}{cap':Nat}(he:e=.returned (.tuple #[]))(h2:Cur N w' c y a' cap')(h3:Kept (·=c) w w'):ExpZ N w w' c o e:=
 ⟨λy' h=>by rw[ht]at h;simp only[Option.some.injEq]at h;subst h;exact⟨a',cap',he,h2,h3⟩,λh=>by rw[ht]at h;cases h⟩
theorem ExpZ.bad{N:Nat}{w w':World}{c:Nat}{o:Option (List Nat)}{e:Ending}(ht:o=none)(he:e=aG 81)(h3:Kept (·=c) w w'):ExpZ N w w' c o e:=
 ⟨λy' h=>(by rw[ht]at h;cases h),λ_=>⟨he,h3⟩⟩
theorem j0{n v x:Nat}{r y:List Nat}(h:dY n r=some (x,y)):eX n v r=if x=v then some y else none:=by unfold eX;rw[h]
theorem ua{n v:Nat}{r:List Nat}(h:dY n r=none):eX n v r=none:=by unfold eX;rw[h]
theorem Same.k8{c:Nat}{w w':World}(h:Same w w'):Kept (·=c) w w':=h.mono (λ_ _ f=>f.elim)
theorem Kept.k8{c:Nat}{a b d:World}(h:Kept (·=c) a b)(k:Kept (·=c) b d):Kept (·=c) a d:=Kept.trans h k (λ_ _ e=>e) (λ_ _ e=>e)
theorem nY(N:Nat)(w:World)(c:Nat)(r:List Nat)(a:Option Addr)(cap v:Nat)(h:Cur N w c r a cap)(hv:v<4294967296):
  Calls Tryz.prog 67 #[.pointer (some ⟨c,0,none⟩),.int .u32 (v:Nat)] w λe w'=>ExpZ N w w' c (eX 4 v r) e:=by
 have HF:=gW N w c r a cap h;cases ht:dY 4 r with
 | none=>
  have HB:Hid (dY 4 r=none):=ht;clear h ht;go_enter Tryz.func67,Tryz.ntmps67;go_wp2_with fail;refine HF.mono ?_;intro e w1 h1;obtain⟨rfl,hk⟩:=h1.2 HB.out;have HK:Hid (Same w w1):=hk;clear h1 hk HF;unfold aG;go_wp2_with fail;exact⟨rfl,ExpZ.bad (ua HB.out) rfl HK.out.k8⟩
 | some p=>
  obtain⟨x,y⟩:=p;have HB:Hid (dY 4 r=some (x,y)):=ht;clear h ht;by_cases hx:x=v
  ·subst hx;go_enter Tryz.func67,Tryz.ntmps67;go_wp2_with fail;refine HF.mono ?_;intro e w1 h1;obtain⟨a',cap',rfl,EI,sC,hk⟩:=h1.1 x y HB.out;have HCU:Hid (Cur N w1 c y a' cap'):=sC;have HK:Hid (Kept (·=c) w w1):=hk;have HO:=bh w1 (.int .i64 81);clear h1 sC hk HF EI;go_wp2_with fail;refine HO.mono ?_;rintro e w2 ⟨rfl,hw2⟩;subst hw2;clear HO;go_wp2_with fail;go_end0;exact ExpZ.good (by rw[j0 HB.out,if_pos rfl]) rfl HCU.out HK.out
  ·have bx:((x:Int)==(v:Int))=false:=(by simp;omega);have HX:Hid (¬x=v):=hx;clear hx;go_enter Tryz.func67,Tryz.ntmps67;go_wp2_with fail;refine HF.mono ?_;intro e w1 h1;obtain⟨a',cap',rfl,EI,sC,hk⟩:=h1.1 x y HB.out;have HK:Hid (Kept (·=c) w w1):=hk;have HO:=aL w1 81;clear h1 sC hk HF EI;go_wp2_with fail;refine HO.mono ?_;rintro e w2 ⟨rfl,hw2⟩;subst hw2;clear HO;unfold aG;go_wp2_with fail;exact⟨rfl,ExpZ.bad (by rw[j0 HB.out,if_neg HX.out]) rfl HK.out⟩
theorem kO(N:Nat)(w:World)(c:Nat)(r:List Nat)(a:Option Addr)(cap v g:Nat)(h:Cur N w c r a cap)(hv:v<65536)(hg:w.cell? ⟨g,0,none⟩=some (.int .u16 (v:Nat))):
  Calls Tryz.prog 68 #[.pointer (some ⟨c,0,none⟩),.slice (some ⟨g,0,none⟩) 1 1] w λe w'=>ExpZ N w w' c (eX 2 v r) e:=by
 have HF:=kG N w c r a cap h;cases ht:dY 2 r with
 | none=>
  have HB:Hid (dY 2 r=none):=ht;clear h ht;go_enter Tryz.func68,Tryz.ntmps68;go_wp2_with fail;refine wp_loop_rounds 2 ?_;rw[rounds_succ];go_wp2_with fail;refine HF.mono ?_;intro e w1 h1;obtain⟨rfl,hk⟩:=h1.2 HB.out;have HK:Hid (Same w w1):=hk;clear h1 hk HF hg;unfold aG;go_wp2_with fail;exact⟨rfl,ExpZ.bad (ua HB.out) rfl HK.out.k8⟩
 | some p=>
  obtain⟨x,y⟩:=p;have HB:Hid (dY 2 r=some (x,y)):=ht;clear h ht;by_cases hx:x=v
  ·subst hx;go_enter Tryz.func68,Tryz.ntmps68;go_wp2_with fail;refine wp_loop_rounds 2 ?_;rw[rounds_succ];go_wp2_with fail;refine HF.mono ?_;intro e w1 h1;obtain⟨a',cap',rfl,EI,sC,hk⟩:=h1.1 x y HB.out;have HCU:Hid (Cur N w1 c y a' cap'):=sC;have HK:Hid (Kept (·=c) w w1):=hk;have HO:=bh w1 (.int .i64 81);clear h1 sC hk HF EI hg;go_wp2_with fail;refine HO.mono ?_;rintro e w2 ⟨rfl,hw2⟩;subst hw2;clear HO;go_wp2_with fail;rw[rounds_succ];go_wp2_with fail;go_end0;exact ExpZ.good (by rw[j0 HB.out,if_pos rfl]) rfl HCU.out HK.out
  ·have bx:((x:Int)==(v:Int))=false:=(by simp;omega);have HX:Hid (¬x=v):=hx;clear hx;go_enter Tryz.func68,Tryz.ntmps68;go_wp2_with fail;refine wp_loop_rounds 2 ?_;rw[rounds_succ];go_wp2_with fail;refine HF.mono ?_;intro e w1 h1;obtain⟨a',cap',rfl,EI,sC,hk⟩:=h1.1 x y HB.out;have HK:Hid (Kept (·=c) w w1):=hk;have HO:=aL w1 81;clear h1 sC hk HF EI hg;go_wp2_with fail;refine HO.mono ?_;rintro e w2 ⟨rfl,hw2⟩;subst hw2;clear HO;unfold aG;go_wp2_with fail;exact⟨rfl,ExpZ.bad (by rw[j0 HB.out,if_neg HX.out]) rfl HK.out⟩
def oD(v u:Nat)(r:List Nat):Option (List Nat):=dh (eX 2 v r) λr=>eX 2 u r
theorem sO(N:Nat)(w:World)(c:Nat)(r:List Nat)(a:Option Addr)(cap v u g:Nat)(h:Cur N w c r a cap)(hv:v<65536)(hu:u<65536)(Xn:g≠c)(hg:w.cell? ⟨g,0,none⟩=some (.int .u16 (v:Nat)))(pL:w.cell? ⟨g,1,none⟩=some (.int .u16 (u:Nat))):
  Calls Tryz.prog 68 #[.pointer (some ⟨c,0,none⟩),.slice (some ⟨g,0,none⟩) 2 2] w λe w'=>ExpZ N w w' c (oD v u r) e:=by
 have HF:=kG N w c r a cap h;have HG1:Hid (∀w1,Kept (·=c) w w1->w1.cell? ⟨g,1,none⟩=some (.int .u16 (u:Nat))):=hid (λw1 hk=>hk.cell pL (λe=>Xn e));clear pL;cases ht:dY 2 r with
 | none=>
  have HB:Hid (dY 2 r=none):=ht;clear h ht;go_enter Tryz.func68,Tryz.ntmps68;go_wp2_with fail;refine wp_loop_rounds 3 ?_;rw[rounds_succ];go_wp2_with fail;refine HF.mono ?_;intro e w1 h1;obtain⟨rfl,hk⟩:=h1.2 HB.out;have HK:Hid (Same w w1):=hk;clear h1 hk HF hg;unfold aG;go_wp2_with fail;exact⟨rfl,ExpZ.bad (td (ua HB.out)) rfl HK.out.k8⟩
 | some p=>
  obtain⟨x,y⟩:=p;have HB:Hid (dY 2 r=some (x,y)):=ht;clear h ht;by_cases hx:x=v
  ·subst hx;go_enter Tryz.func68,Tryz.ntmps68;go_wp2_with fail;refine wp_loop_rounds 3 ?_;rw[rounds_succ];go_wp2_with fail;refine HF.mono ?_;intro e w1 h1;obtain⟨a',cap',rfl,EI,sC,hk⟩:=h1.1 x y HB.out;have HK:Hid (Kept (·=c) w w1):=hk;have HO:=bh w1 (.int .i64 81);have HF2:=kG N w1 c y a' cap' sC;have HE1:Hid (eX 2 x r=some y):=hid (by rw[j0 HB.out,if_pos rfl]);clear h1 sC hk HF EI hg;go_wp2_with fail;refine HO.mono ?_;rintro e w2 ⟨rfl,hw2⟩;subst hw2;have pL:=HG1.out w2 HK.out;clear HO;go_wp2_with fail;rw[rounds_succ];go_wp2_with fail;refine HF2.mono ?_;intro e w3 h3;cases iP:dY 2 y with
   | none=>
    obtain⟨rfl,hk3⟩:=h3.2 iP;have HK3:Hid (Kept (·=c) w w3):=hid (HK.out.k8 hk3.k8);have HB2:Hid (dY 2 y=none):=iP;clear h3 hk3 HF2 pL iP;unfold aG;go_wp2_with fail;exact⟨rfl,ExpZ.bad (by unfold oD;rw[aA HE1.out];exact ua HB2.out) rfl HK3.out⟩
   | some p2=>
    obtain⟨x2,y2⟩:=p2;obtain⟨a2,eS,rfl,_,hcu2,hk3⟩:=h3.1 x2 y2 iP;have HK3:Hid (Kept (·=c) w w3):=hid (HK.out.k8 hk3);have HB2:Hid (dY 2 y=some (x2,y2)):=iP;have HCU:Hid (Cur N w3 c y2 a2 eS):=hcu2;clear h3 hk3 HF2 pL iP hcu2;by_cases gh:x2=u
    ·subst gh;have HO:=bh w3 (.int .i64 81);go_wp2_with fail;refine HO.mono ?_;rintro e w4 ⟨rfl,hw4⟩;subst hw4;clear HO;go_wp2_with fail;rw[rounds_succ];go_wp2_with fail;go_end0;exact ExpZ.good (by unfold oD;rw[aA HE1.out,j0 HB2.out,if_pos rfl]) rfl HCU.out HK3.out
    ·have bx:((x2:Int)==(u:Int))=false:=(by simp;omega);have HX:Hid (¬x2=u):=gh;have HO:=aL w3 81;clear gh;go_wp2_with fail;refine HO.mono ?_;rintro e w4 ⟨rfl,hw4⟩;subst hw4;clear HO;unfold aG;go_wp2_with fail;exact⟨rfl,ExpZ.bad (by unfold oD;rw[aA HE1.out,j0 HB2.out,if_neg HX.out]) rfl HK3.out⟩
  ·have bx:((x:Int)==(v:Int))=false:=(by simp;omega);have HX:Hid (¬x=v):=hx;clear hx;go_enter Tryz.func68,Tryz.ntmps68;go_wp2_with fail;refine wp_loop_rounds 3 ?_;rw[rounds_succ];go_wp2_with fail;refine HF.mono ?_;intro e w1 h1;obtain⟨a',cap',rfl,EI,sC,hk⟩:=h1.1 x y HB.out;have HK:Hid (Kept (·=c) w w1):=hk;have HO:=aL w1 81;clear h1 sC hk HF EI hg;go_wp2_with fail;refine HO.mono ?_;rintro e w2 ⟨rfl,hw2⟩;subst hw2;clear HO;unfold aG;go_wp2_with fail;exact⟨rfl,ExpZ.bad (by unfold oD;rw[td (by rw[j0 HB.out,if_neg HX.out])]) rfl HK.out⟩
end Go.Proofs.YtkhagfgineifhaaGreatDoor
