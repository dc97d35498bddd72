import Derived.Test.YtkhagfgineifhaaGreatDoorDfO
set_option maxHeartbeats 400000
set_option maxRecDepth 100000
namespace Go.Proofs.YtkhagfgineifhaaGreatDoor
open Go.RowKit
theorem C0{data:List Nat}(hb:∀b∈data,b<256)(f i:Nat):∀t∈bK data f i,t.lit<256:=by
 induction f generalizing i with
 | zero=>intro t ht;simp[bK]at ht
 | succ f ih=>
  intro t ht;unfold bK at ht;split at ht
  ·rename_i hi;split at ht
   ·rcases List.mem_cons.1 ht with rfl | h
    ·simp only;rw[List.getD_eq_getElem?_getD,List.getElem?_eq_getElem hi];exact hb _ (List.getElem_mem _)
    ·exact ih _ t h
   ·rcases List.mem_cons.1 ht with rfl | h
    ·show 0<256;decide
    ·exact ih _ t h
  ·simp at ht
theorem vQ{data:List Nat}(hb:∀b∈data,b<256)(hl:data.length<=16384):ce 16384 (cT data) 0=.ok data.length/\(∀t∈cT data,t.lit<256)/\xT (cT data) []=data:=by rw[xL hl];exact⟨Ad (by omega) (Nat.zero_le _) hl,C0 hb _ _,by have:=D7 (data:=data) (f:=data.length) (i:=0) (by omega) (Nat.zero_le _);simpa using this⟩
def PFix(ts:List TK)(x:List Nat):Prop:=mz x (dG ts)/\∀b∈x,b<256
def PDyn(ts:List TK)(x:List Nat):Prop:=(mz x (rY ts)/\∀b∈x,b<256)/\uj ts
theorem Gq(w:World)(b:Nat)(v:Value)(I:Nat→Prop)(data:List Nat)(hc:w.cell? ⟨b,0,none⟩=some v)(hs:Src w I v data)(hb:∀b∈data,b<256)(fB:∀n c,v=.slice none n c→n=0∧c=0)(ag:data.length≤16384):
  Calls Tryz.prog 59 #[.pointer (some ⟨b,0,none⟩)] w λe w'=>∃v' x,e=.returned v'/\NB w w' v' x/\x=bE data:=by
 have HS:=Ae w v I data hs hb fB ag;clear hs hb fB ag;go_enter Tryz.func59,Tryz.ntmps59;go_wp2_with fail;refine HS.mono ?_;rintro e w1 ⟨v1,rfl,hn⟩;have HN:Hid (NB w w1 v1 (bE data)):=hn;obtain⟨a1,p1,fA,_⟩:=hn.row.shape;subst fA;clear hn HS;go_wp2_with fail;go_ret;exact⟨_,_,rfl,HN.out,rfl⟩
theorem Hi(w:World)(b:Nat)(v:Value)(I:Nat→Prop)(ts:List TK)(n:Nat)(hc:w.cell? ⟨b,0,none⟩=some v)(hs:TkSrc w I v ts)(hm:ce 16384 ts 0=.ok n)(hb:∀t∈ts,t.lit<256):
  Calls Tryz.prog 61 #[.pointer (some ⟨b,0,none⟩)] w λe w'=>∃v' x,e=.returned v'/\NB w w' v' x/\PFix ts x:=by
 have HS:=CU w v I ts n hs hm hb;clear hs hm hb;go_enter Tryz.func61,Tryz.ntmps61;go_wp2_with fail;refine HS.mono ?_;rintro e w1 ⟨v1,bs,rfl,hn,hp⟩;have HN:Hid (NB w w1 v1 bs/\PFix ts bs):=hid ⟨hn,hp,hn.byte⟩;obtain⟨a1,p1,fA,_⟩:=hn.row.shape;subst fA;clear hn hp HS;go_wp2_with fail;go_ret;exact⟨_,_,rfl,HN.out.1,HN.out.2⟩
theorem FM(w:World)(b:Nat)(v:Value)(I:Nat→Prop)(ts:List TK)(n:Nat)(hc:w.cell? ⟨b,0,none⟩=some v)(hs:TkSrc w I v ts)(hm:ce 16384 ts 0=.ok n)(hb:∀t∈ts,t.lit<256)(hT:Tab w):
  Calls Tryz.prog 63 #[.pointer (some ⟨b,0,none⟩)] w λe w'=>∃v' x,e=.returned v'/\NB w w' v' x/\PDyn ts x:=by
 have HS:=xW w v I ts n hs hm hb hT;clear hs hm hb hT;go_enter Tryz.func63,Tryz.ntmps63;go_wp2_with fail;refine HS.mono ?_;rintro e w1 ⟨v1,bs,rfl,hn,hp,hh⟩;have HN:Hid (NB w w1 v1 bs/\PDyn ts bs):=hid ⟨hn,⟨hp,hn.byte⟩,hh⟩;obtain⟨a1,p1,fA,_⟩:=hn.row.shape;subst fA;clear hn hp hh HS;go_wp2_with fail;go_ret;exact⟨_,_,rfl,HN.out.1,HN.out.2⟩
def PDef(data bs:List Nat):Prop:=∃x2 x3,bs=bX (bX (bE data) x2) x3/\PFix (cT data) x2/\PDyn (cT data) x3
theorem yi(w:World)(v:Value)(I:Nat→Prop)(data:List Nat)(hs:Src w I v data)(hb:∀b∈data,b<256)(fB:∀n c,v=.slice none n c→n=0∧c=0)(ag:data.length≤16384)(hT:Tab w):
  Calls Tryz.prog 36 #[v] w λe w'=>∃v' bs,e=.returned (.tuple #[v',.int .i64 0])/\NB w w' v' bs/\PDef data bs:=by
 obtain⟨Qk,Jg,_⟩:=vQ hb ag;obtain⟨av,cv,A1,_⟩:=id hs;obtain⟨n,hn⟩:∃n,data.length=n:=⟨_,rfl⟩
 rw[hn]at A1;subst A1;obtain⟨W,hW⟩:∃W,W=w.alloc (.cells #[.slice av n cv] 25):=⟨_,rfl⟩
 have hkW:Same w W:=by rw[hW];exact(Kept.refl _ w).alloc _
 have HKW:Hid (Same w W):=hkW;have HBW:Hid (Blk W w.heap.size #[.slice av n cv] 25):=hid (by rw[hW];exact Blk.new w _ _);have HSW:Hid (Src W I (.slice av n cv) data):=hid (hs.kept hkW (λ_ _ _ f=>f));have HF:=Ev W (.slice av n cv) I data HSW.out hb (by omega);have HW1:Hid (∀W2,Same W W2->Calls Tryz.prog 59 #[.pointer (some ⟨w.heap.size,0,none⟩)] W2 λe w'=>∃v' x,e=.returned v'/\NB W2 w' v' x/\x=bE data):=hid (λW2 h2=>Gq W2 _ _ I data (by have:=(HBW.out.kept h2 (λf=>f)).cell 0;simpa using this) (HSW.out.kept h2 (λ_ _ _ f=>f)) hb fB ag);have HW2:Hid (∀W2 v2 b J,W2.cell? ⟨b,0,none⟩=some v2->TkSrc W2 J v2 (cT data)->Calls Tryz.prog 61 #[.pointer (some ⟨b,0,none⟩)] W2 λe w'=>∃v' x,e=.returned v'/\NB W2 w' v' x/\PFix (cT data) x):=hid (λW2 v2 b J h1 h2=>Hi W2 b v2 J _ _ h1 h2 Qk Jg);have HW3:Hid (∀W2 v2 b J,Same w W2->W2.cell? ⟨b,0,none⟩=some v2->TkSrc W2 J v2 (cT data)->Calls Tryz.prog 63 #[.pointer (some ⟨b,0,none⟩)] W2 λe w'=>∃v' x,e=.returned v'/\NB W2 w' v' x/\PDyn (cT data) x):=hid (λW2 v2 b J h0 h1 h2=>FM W2 b v2 J _ _ h1 h2 Qk Jg (hT.kept h0 (λf=>f)));have b0:=HBW.out.cell 0;simp at b0;have KT:n<=16384:=by omega
 clear hs hb fB ag hT Qk Jg hn hkW;go_enter Tryz.func36,Tryz.ntmps36;go_wp2_with fail;rw[<-hW];clear hW;refine HF.mono ?_;rintro e w1 ⟨v1,rfl,hr1,hk1⟩;have HR1:Hid (xR W.heap.size w1 v1 (cT data)):=hr1;have HK1:Hid (Same W w1):=hk1;have MF:∃a n c,v1=.slice a n c:=by obtain⟨a,c,e,_⟩:=SrcC.ofRow fk hr1;exact⟨a,_,c,e⟩
 obtain⟨a1,n1,c1,rfl⟩:=MF;clear hr1 hk1 HF b0;obtain⟨Wb,OA⟩:∃W,W=w1.alloc (.cells #[.slice a1 n1 c1] 101):=⟨_,rfl⟩
 have Ti:Same w1 Wb:=by rw[OA];exact(Kept.refl _ w1).alloc _
 have HBb:Hid (Blk Wb w1.heap.size #[.slice a1 n1 c1] 101):=hid (by rw[OA];exact Blk.new w1 _ _);obtain⟨Wc,Qn⟩:∃W,W=Wb.alloc (.cells #[LY w.heap.size,Mh w1.heap.size,LV w1.heap.size] 104):=⟨_,rfl⟩
 have Ff:Same Wb Wc:=by rw[Qn];exact(Kept.refl _ Wb).alloc _
 have HSb:Hid (TkSrc Wc (λ_=>True) (.slice a1 n1 c1) (cT data)):=hid ((SrcC.kept fk (SrcC.ofRow fk HR1.out) (Same.trans Ti Ff) (λ_ _ _ f=>f)).mono (λ_ _=>trivial));have HKc:Hid (Same W Wc):=hid (Same.trans HK1.out (Same.trans Ti Ff));have HBc:Hid (Blk Wc Wb.heap.size #[LY w.heap.size,Mh w1.heap.size,LV w1.heap.size] 104):=hid (by rw[Qn];exact Blk.new Wb _ _);have HBt:Hid (Blk Wc w1.heap.size #[.slice a1 n1 c1] 101):=hid (HBb.out.kept Ff (λf=>f));have HL:=De Wc Wb.heap.size w.heap.size w1.heap.size (λx=>x=bE data) (PFix (cT data)) (PDyn (cT data))
  (by have:=HBc.out.cell 0;simpa using this) (by have:=HBc.out.cell 1;simpa using this) (by have:=HBc.out.cell 2;simpa using this)
  (λW2 h2=>HW1.out W2 (Same.trans HKc.out h2))
  (λW2 h2=>HW2.out W2 _ _ _ (by have:=(HBt.out.kept h2 (λf=>f)).cell 0;simpa using this) (SrcC.kept fk HSb.out h2 (λ_ _ _ f=>f)))
  (λW2 h2=>HW3.out W2 _ _ _ (Same.trans HKW.out (Same.trans HKc.out h2)) (by have:=(HBt.out.kept h2 (λf=>f)).cell 0;simpa using this) (SrcC.kept fk HSb.out h2 (λ_ _ _ f=>f)))
 have OH:Wb.heap.size=w1.heap.size+1:=by rw[OA,World.size_alloc]
 have HKN:Hid (Same w Wc):=hid (Same.trans HKW.out HKc.out);clear Ti Ff HR1 HW1 HW2 HW3 HSb HBc HBt HBb;go_wp2_with fail;rw[<-OA,<-Qn,<-OH];clear OA Qn OH;refine HL.mono ?_;rintro e w2 ⟨v2,x1,x2,x3,rfl,hn2,rfl,AY,OU⟩;have HE:Hid (NB w w2 v2 (bX (bX (bE data) x2) x3)/\PDef data (bX (bX (bE data) x2) x3)):=hid ⟨hn2.base HKN.out,x2,x3,rfl,AY,OU⟩;obtain⟨a2,p2,rL,_⟩:=hn2.row.shape;subst rL;clear hn2 AY OU HL;go_wp2_with fail;go_ret2;exact⟨_,_,rfl,HE.out.1,HE.out.2⟩
end Go.Proofs.YtkhagfgineifhaaGreatDoor
