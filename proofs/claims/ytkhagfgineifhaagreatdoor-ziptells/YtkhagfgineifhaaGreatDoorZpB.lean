import Derived.Test.YtkhagfgineifhaaGreatDoorZpA
set_option maxHeartbeats 400000
set_option maxRecDepth 100000
namespace Go.Proofs.YtkhagfgineifhaaGreatDoor
open Go.RowKit
theorem qu{w w':World}(h:Below w.heap.size w w'):Same w w':=⟨h.os,h.tape,h.output,h.size,λk hk _=>h.block k hk⟩
def NumZ(N:Nat)(w w':World)(c n:Nat)(k:IntKind)(r:List Nat)(e:Ending):Prop:=
 (∀x y,dY n r=some (x,y)->∃a' cap',e=.returned (.int k (x:Nat))/\x<256 ^ n/\Cur N w' c y a' cap'/\Kept (·=c) w w')/\(dY n r=none->e=aG 81/\Same w w')
theorem NumZ.good{N:Nat}{w w':World}{c n x:Nat}{k:IntKind}{r y:List Nat}{e:Ending}(ht:dY n r=some (x,y)){a':Option Addr}{cap':Nat}(he:e=.returned (.int k (x:Nat)))(h1:x<256 ^ n)(h2:Cur N w' c y a' cap')(h3:Kept (·=c) w w'):NumZ N w w' c n k r e:=
 ⟨λx' y' h=>by rw[ht]at h;simp only[Option.some.injEq,Prod.mk.injEq]at h;obtain⟨rfl,rfl⟩:=h;exact⟨a',cap',he,h1,h2,h3⟩,λh=>by rw[ht]at h;cases h⟩
theorem NumZ.bad{N:Nat}{w w':World}{c n:Nat}{k:IntKind}{r:List Nat}{e:Ending}(ht:dY n r=none)(he:e=aG 81)(h3:Same w w'):NumZ N w w' c n k r e:=
 ⟨λx' y' h=>(by rw[ht]at h;cases h),λ_=>⟨he,h3⟩⟩
theorem Gb{n:Nat}{r x y:List Nat}(h:fi n r=some (x,y)):dY n r=some (aO x,y):=by unfold dY;rw[h]
theorem Hw{n:Nat}{r:List Nat}(h:fi n r=none):dY n r=none:=by unfold dY;rw[h]
theorem wV(x:List Nat)(n:Nat)(h:x.length=n):rn x 0 n=aO x:=by unfold rn eG;rw[if_pos (by omega)];simp only[Int.toNat_zero,List.drop_zero];rw[List.take_of_length_le (by omega)]
theorem kG(N:Nat)(w:World)(c:Nat)(r:List Nat)(a:Option Addr)(cap:Nat)(h:Cur N w c r a cap):
  Calls Tryz.prog 69 #[.pointer (some ⟨c,0,none⟩)] w λe w'=>NumZ N w w' c 2 .u16 r e:=by
 have HT:=eE N w c r a cap 2 h (by decide);have HN:Hid (N<=c):=hid h.new;cases ht:fi 2 r with
 | none=>
  have HB:Hid (fi 2 r=none):=ht;clear h ht;go_enter Tryz.func69,Tryz.ntmps69;go_wp2_with fail;refine HT.mono ?_;intro e w1 h1;obtain⟨rfl,hk⟩:=h1.2 HB.out;have HK:Hid (Same w w1):=hk;clear h1 hk HT;unfold aG;go_wp2_with fail;exact⟨rfl,NumZ.bad (Hw HB.out) rfl HK.out⟩
 | some p=>
  obtain⟨x,y⟩:=p;have HB:Hid (fi 2 r=some (x,y)):=ht;clear h ht;go_enter Tryz.func69,Tryz.ntmps69;go_wp2_with fail;refine HT.mono ?_;intro e w1 h1;obtain⟨v,a',cap',rfl,htk,sC,hk⟩:=h1.1 x y HB.out;have HTK:Hid (Tkn N w1 v 2 x):=htk;have HCU:Hid (Cur N w1 c y a' cap'):=sC;have HK:Hid (Kept (·=c) w w1):=hk;have HG:=DQ w1 v _ x htk.src htk.room htk.byte (by rw[htk.len];decide) 0;rw[wV x 2 htk.len]at HG;obtain⟨V,hV⟩:∃V,V=aO x:=⟨_,rfl⟩
  have HV:Hid (V=aO x/\V<256 ^ 2):=hid ⟨hV,by rw[hV,<-htk.len];exact mL x htk.byte⟩;rw[<-hV]at HG;obtain⟨E,hE⟩:∃E,E=tV x.length 0 2:=⟨_,rfl⟩
  rw[<-hE]at HG;obtain⟨va,vc,PX⟩:=htk.shp;subst PX;clear h1 htk sC hk HT hV hE;go_wp2_with fail;refine HG.mono ?_;rintro e w2 ⟨rfl,hb2⟩;have HK2:Hid (Same w1 w2):=hid (qu hb2);clear hb2 HG;go_wp2_with fail;go_ret;exact NumZ.good (Gb HB.out) (by rw[<-HV.out.1];rfl) (by rw[<-HV.out.1];exact HV.out.2) (HCU.out.kept HK2.out (λf=>f) (λ_ _ f=>f)) (Kept.trans HK.out HK2.out (λ_ _ e=>e) (λ_ _ f=>f.elim))
theorem gW(N:Nat)(w:World)(c:Nat)(r:List Nat)(a:Option Addr)(cap:Nat)(h:Cur N w c r a cap):
  Calls Tryz.prog 70 #[.pointer (some ⟨c,0,none⟩)] w λe w'=>NumZ N w w' c 4 .u32 r e:=by
 have HT:=eE N w c r a cap 4 h (by decide);have HN:Hid (N<=c):=hid h.new;cases ht:fi 4 r with
 | none=>
  have HB:Hid (fi 4 r=none):=ht;clear h ht;go_enter Tryz.func70,Tryz.ntmps70;go_wp2_with fail;refine HT.mono ?_;intro e w1 h1;obtain⟨rfl,hk⟩:=h1.2 HB.out;have HK:Hid (Same w w1):=hk;clear h1 hk HT;unfold aG;go_wp2_with fail;exact⟨rfl,NumZ.bad (Hw HB.out) rfl HK.out⟩
 | some p=>
  obtain⟨x,y⟩:=p;have HB:Hid (fi 4 r=some (x,y)):=ht;clear h ht;go_enter Tryz.func70,Tryz.ntmps70;go_wp2_with fail;refine HT.mono ?_;intro e w1 h1;obtain⟨v,a',cap',rfl,htk,sC,hk⟩:=h1.1 x y HB.out;have HTK:Hid (Tkn N w1 v 4 x):=htk;have HCU:Hid (Cur N w1 c y a' cap'):=sC;have HK:Hid (Kept (·=c) w w1):=hk;have HG:=Es w1 v _ x htk.src htk.room htk.byte (by rw[htk.len];decide) 0;rw[wV x 4 htk.len]at HG;obtain⟨V,hV⟩:∃V,V=aO x:=⟨_,rfl⟩
  have HV:Hid (V=aO x/\V<256 ^ 4):=hid ⟨hV,by rw[hV,<-htk.len];exact mL x htk.byte⟩;rw[<-hV]at HG;obtain⟨E,hE⟩:∃E,E=tV x.length 0 4:=⟨_,rfl⟩
  rw[<-hE]at HG;obtain⟨va,vc,PX⟩:=htk.shp;subst PX;clear h1 htk sC hk HT hV hE;go_wp2_with fail;refine HG.mono ?_;rintro e w2 ⟨rfl,hb2⟩;have HK2:Hid (Same w1 w2):=hid (qu hb2);clear hb2 HG;go_wp2_with fail;go_ret;exact NumZ.good (Gb HB.out) (by rw[<-HV.out.1];rfl) (by rw[<-HV.out.1];exact HV.out.2) (HCU.out.kept HK2.out (λf=>f) (λ_ _ f=>f)) (Kept.trans HK.out HK2.out (λ_ _ e=>e) (λ_ _ f=>f.elim))
end Go.Proofs.YtkhagfgineifhaaGreatDoor
