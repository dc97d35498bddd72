import Derived.Test.YtkhagfgineifhaaGreatDoorZpG
import Derived.Test.YtkhagfgineifhaaGreatDoorLPut
set_option maxHeartbeats 400000
set_option maxRecDepth 100000
namespace Go.Proofs.YtkhagfgineifhaaGreatDoor
open Go.RowKit
def FT(k:IntKind)(w:World)(g:Nat)(vs:List Nat):Prop:=∀j,j<vs.length->w.cell? ⟨g,j,none⟩=some (.int k (vs.getD j 0:Nat))
def gX(n:Nat)(vs:List Nat):List Nat:=vs.flatMap (aR · n)
theorem wD(n:Nat)(vs:List Nat)(i:Nat)(hi:i<vs.length):gX n (vs.take (i+1))=gX n (vs.take i)++aR (vs.getD i 0) n:=by unfold gX;rw[List.take_add_one,List.flatMap_append,List.getD_eq_getElem?_getD,List.getElem?_eq_getElem hi];simp
theorem cK(n:Nat)(vs:List Nat):(gX n vs).length=vs.length*n:=by
 unfold gX
 induction vs with
 | nil=>simp
 | cons a r ih=>rw[List.flatMap_cons,List.length_append,ih,az,List.length_cons,Nat.succ_mul,Nat.add_comm]
theorem lZ(w:World)(v:Value)(I:Nat→Prop)(cs:List Nat)(g:Nat)(vs:List Nat)(n:Nat)(hn:n=vs.length)(hs:Src w I v cs)(hl:FT .u16 w g vs)(hv:∀x∈vs,x<65536)(ag:cs.length≤10000000)(I9:n≤100):
  Calls Tryz.prog 37 #[v,.slice (some ⟨g,0,none⟩) n n] w λe w'=>∃v',e=.returned v'/\(∃J,Src w' J v' (cs++gX 2 vs))/\Same w w'/\(1<=n->Fresh w w' v' (cs++gX 2 vs)):=by
 have HS:Hid (Src w I v cs):=hs;have HL:Hid (FT .u16 w g vs):=hl;have HB:Hid (n=vs.length/\(∀x∈vs,x<65536)/\cs.length<=10000000):=hid ⟨hn,hv,ag⟩;clear hs hl hv ag hn;go_enter Tryz.func37,Tryz.ntmps37;go_wp2_with fail;go_loopg [0,9] n (λqq z0 z9 wr=>∃i:Nat,z9=.int .i64 (i:Nat)/\i<=n/\n-i<=qq/\Hid ((∃J,Src wr J z0 (cs++gX 2 (vs.take i)))/\Same w wr/\(1<=i->Fresh w wr z0 (cs++gX 2 (vs.take i)))))
 case atStart=>exact⟨0,rfl,by omega,by omega,hid ⟨⟨I,by simpa[gX]using HS.out⟩,Kept.refl _ _,λh=>by omega⟩⟩
 case round=>
  obtain⟨i,rfl,hi1,Lv,HI⟩:=hrel;obtain⟨vb,LP⟩:∃vb,vb=u0:=⟨_,rfl⟩
  rw[<-LP]at HI ⊢;clear LP;by_cases hi:i<n
  ·have nM:decide (i<n)=true:=(by simp;omega);obtain⟨x,hx⟩:∃x,x=vs.getD i 0:=⟨_,rfl⟩
   have hc:=HI.out.2.1.cell (HL.out i (by have:=HB.out.1;omega)) (λf=>f);rw[<-hx]at hc;have R6:x<65536:=HB.out.2.1 x (by rw[hx,List.getD_eq_getElem?_getD,List.getElem?_eq_getElem (by have:=HB.out.1;omega)];exact List.getElem_mem _);have EP:IntKind.i64.wrap ((i:Int)+1)=((i+1:Nat):Int):=(by rw[IntKind.wrap_i64];omega);have HX:Hid (x=vs.getD i 0):=hx;obtain⟨⟨J,hJ⟩,_,_⟩:=HI.out;have HPU:=Ei wr vb J _ hJ x rfl R6 (by rw[List.length_append,cK,List.length_take];have:=HB.out;omega);clear hx hJ;go_wp2_with fail;refine HPU.mono ?_;rintro e w2 ⟨v2,rfl,hf⟩;have HF:Hid (Fresh w w2 v2 (cs++gX 2 (vs.take (i+1)))):=hid (by
    rw[wD 2 vs i (by have:=HB.out.1;omega),<-List.append_assoc,<-HX.out];exact⟨hf.row,Same.trans HI.out.2.1 hf.kept,λk e=>Nat.le_trans HI.out.2.1.size (hf.new k e)⟩)
   clear hf HPU;go_wp2_with fail;go_roundg (gk-1)
   case measure=>omega
   case rel=>exact⟨i+1,by go_num,by omega,by omega,hid ⟨⟨_,Src.ofRow HF.out.row⟩,HF.out.kept,λ_=>HF.out⟩⟩
  ·have nM:decide (i<n)=false:=(by simp;omega);obtain rfl:i=n:=(by omega);go_wp2_with fail;go_ret;have ht:vs.take i=vs:=List.take_of_length_le (by have:=HB.out.1;omega);have h9:=HI.out;rw[ht]at h9;exact⟨_,rfl,h9.1,h9.2.1,h9.2.2⟩
theorem rg(w:World)(v:Value)(I:Nat→Prop)(cs:List Nat)(g:Nat)(vs:List Nat)(n:Nat)(hn:n=vs.length)(hs:Src w I v cs)(hl:FT .u32 w g vs)(hv:∀x∈vs,x<4294967296)(ag:cs.length≤10000000)(I9:n≤100):
  Calls Tryz.prog 40 #[v,.slice (some ⟨g,0,none⟩) n n] w λe w'=>∃v',e=.returned v'/\(∃J,Src w' J v' (cs++gX 4 vs))/\Same w w'/\(1<=n->Fresh w w' v' (cs++gX 4 vs)):=by
 have HS:Hid (Src w I v cs):=hs;have HL:Hid (FT .u32 w g vs):=hl;have HB:Hid (n=vs.length/\(∀x∈vs,x<4294967296)/\cs.length<=10000000):=hid ⟨hn,hv,ag⟩;clear hs hl hv ag hn;go_enter Tryz.func40,Tryz.ntmps40;go_wp2_with fail;go_loopg [0,9] n (λqq z0 z9 wr=>∃i:Nat,z9=.int .i64 (i:Nat)/\i<=n/\n-i<=qq/\Hid ((∃J,Src wr J z0 (cs++gX 4 (vs.take i)))/\Same w wr/\(1<=i->Fresh w wr z0 (cs++gX 4 (vs.take i)))))
 case atStart=>exact⟨0,rfl,by omega,by omega,hid ⟨⟨I,by simpa[gX]using HS.out⟩,Kept.refl _ _,λh=>by omega⟩⟩
 case round=>
  obtain⟨i,rfl,hi1,Lv,HI⟩:=hrel;obtain⟨vb,LP⟩:∃vb,vb=u0:=⟨_,rfl⟩
  rw[<-LP]at HI ⊢;clear LP;by_cases hi:i<n
  ·have nM:decide (i<n)=true:=(by simp;omega);obtain⟨x,hx⟩:∃x,x=vs.getD i 0:=⟨_,rfl⟩
   have hc:=HI.out.2.1.cell (HL.out i (by have:=HB.out.1;omega)) (λf=>f);rw[<-hx]at hc;have R6:x<4294967296:=HB.out.2.1 x (by rw[hx,List.getD_eq_getElem?_getD,List.getElem?_eq_getElem (by have:=HB.out.1;omega)];exact List.getElem_mem _);have EP:IntKind.i64.wrap ((i:Int)+1)=((i+1:Nat):Int):=(by rw[IntKind.wrap_i64];omega);have HX:Hid (x=vs.getD i 0):=hx;obtain⟨⟨J,hJ⟩,_,_⟩:=HI.out;have HPU:=kH wr vb J _ hJ x rfl R6 (by rw[List.length_append,cK,List.length_take];have:=HB.out;omega);clear hx hJ;go_wp2_with fail;refine HPU.mono ?_;rintro e w2 ⟨v2,rfl,hf⟩;have HF:Hid (Fresh w w2 v2 (cs++gX 4 (vs.take (i+1)))):=hid (by
    rw[wD 4 vs i (by have:=HB.out.1;omega),<-List.append_assoc,<-HX.out];exact⟨hf.row,Same.trans HI.out.2.1 hf.kept,λk e=>Nat.le_trans HI.out.2.1.size (hf.new k e)⟩)
   clear hf HPU;go_wp2_with fail;go_roundg (gk-1)
   case measure=>omega
   case rel=>exact⟨i+1,by go_num,by omega,by omega,hid ⟨⟨_,Src.ofRow HF.out.row⟩,HF.out.kept,λ_=>HF.out⟩⟩
  ·have nM:decide (i<n)=false:=(by simp;omega);obtain rfl:i=n:=(by omega);go_wp2_with fail;go_ret;have ht:vs.take i=vs:=List.take_of_length_le (by have:=HB.out.1;omega);have h9:=HI.out;rw[ht]at h9;exact⟨_,rfl,h9.1,h9.2.1,h9.2.2⟩
end Go.Proofs.YtkhagfgineifhaaGreatDoor
