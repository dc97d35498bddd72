import Derived.Test.YtkhagfgineifhaaGreatDoorZqE
import Derived.Test.YtkhagfgineifhaaGreatDoorRec
namespace Go.Proofs.YtkhagfgineifhaaGreatDoor
open Go.RowKit
structure Itv where
 m:Mk
 a:Option Addr
 n:Nat
 c:Nat
instance:Inhabited Itv:=⟨⟨⟨0,0,0,0,[]⟩,none,0,0⟩⟩
def Itv.v(x:Itv):Value:=.slice x.a x.n x.c
def mu(x:Itv):List Value:=[.int .u16 (x.m.way:Nat),.int .u32 (x.m.sum:Nat),.int .u32 (x.m.packed:Nat),.int .u32 (x.m.size:Nat),.string (bH x.m.name),.slice x.a x.n x.c]
theorem pV:dJ mu 6:=⟨λ_=>rfl,λx u hu=>by simp[mu]at hu;rcases hu with rfl | rfl | rfl | rfl | rfl | rfl<;>rfl,by decide⟩
theorem Tryz.infoItem:(Tryz.prog.info? 60).map (λi=>(i.zero,i.size,i.bytes))=some (some (.agg #[.int .u16 0,.int .u32 0,.int .u32 0,.int .u32 0,.string ⟨#[]⟩,.slice none 0 0]),6,56):=by kernel_rfl
theorem Tryz.infoEntry:(Tryz.prog.info? 42).map (λi=>(i.zero,i.size,i.bytes))=some (some (.agg #[.string ⟨#[]⟩,.string ⟨#[]⟩]),2,32):=by kernel_rfl
def yL(y:En):List Value:=[.string y.n,.string y.d]
theorem Fo:dJ yL 2:=⟨λ_=>rfl,λx u hu=>by simp[yL]at hu;rcases hu with rfl | rfl<;>rfl,by decide⟩
theorem RowC.at8{α:Type}{B:Nat}{t k:Nat}{enc:α->List Value}(ok:dJ enc k){w:World}{v:Value}{xs:List α}(h:RowC B t k enc w v xs)(j:Nat)(hj:j<xs.length):∃g cap,v=.slice (some ⟨g,0,none⟩) xs.length cap/\B<=g/\∀i,i<k->w.cell? ⟨g,j*k+i,none⟩=(enc xs[j])[i]?:=by
 rcases h.2 with⟨_,h0⟩ | ⟨g,cap,cur,hv,hb,_⟩
 ·omega
 ·refine⟨g,cap,hv,hb,λi hi=>?_⟩;have hg:=rz ok xs j i hj hi;have vw:i<(enc xs[j]).length:=(by rw[ok.len];exact hi);rw[List.getElem?_eq_getElem vw]at hg ⊢;have:=World.ownsRow.cells h (g:=g) (by rw[hv];rfl) (j*k+i) _ hg;rw[cf,Nat.zero_add]at this;exact this
theorem Itms.ofRow{B:Nat}{w:World}{a:Option Addr}{n c:Nat}{xs:List Itv}(h:RowC B 60 6 mu w (.slice a n c) xs)(hn:n=xs.length):Itms w a n (λj=>(xs.getD j default).m) (λj=>(xs.getD j default).v):=by
 subst hn;intro j hj;obtain⟨g,cap,hv,_,hc⟩:=h.at8 pV j hj;simp only[Value.slice.injEq]at hv;have e:xs.getD j default=xs[j]:=by rw[List.getD_eq_getElem?_getD,List.getElem?_eq_getElem hj];rfl
 simp only[e];refine⟨g,0,hv.1,?_,?_,?_,?_,?_,?_⟩
 ·have:=hc 0 (by decide);simpa[mu]using this
 ·have:=hc 1 (by decide);simpa[mu]using this
 ·have:=hc 2 (by decide);simpa[mu]using this
 ·have:=hc 3 (by decide);simpa[mu]using this
 ·have:=hc 4 (by decide);simpa[mu]using this
 ·have:=hc 5 (by decide);simpa[mu,Itv.v]using this
end Go.Proofs.YtkhagfgineifhaaGreatDoor
