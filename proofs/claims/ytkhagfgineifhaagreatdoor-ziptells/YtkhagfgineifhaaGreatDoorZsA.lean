import Derived.Test.YtkhagfgineifhaaGreatDoorZqI
import Derived.Test.YtkhagfgineifhaaGreatDoorZqN
import Derived.Test.YtkhagfgineifhaaGreatDoorZrB
namespace Go.Proofs.YtkhagfgineifhaaGreatDoor
open Go.RowKit
theorem G0{N:Nat}{w:World}{x:Itv}{y:It}(h:ItAt N w x y)(hT:Tab w):Calls Tryz.prog 30 #[.agg (jr x.m (.slice x.a x.n x.c))] w λe w'=>UnpZ w w' (df y) e:=by
 obtain⟨a,ha⟩:=h.ck;obtain⟨_,_,hw,hz,hp,_⟩:=iX ha;rcases hw with hw | hw
 ·exact sJ h hw
 ·rw[h.lab];have e:df y=df ⟨y.lab,y.bytes⟩:=rfl;rw[e];exact wj w y.lab x.a x.n x.c _ y.bytes h.src h.byte (by have:=h.pk;omega) h.len hw hz h.adr hT
theorem UnpOk.any{w:World}(hT:Tab w)(L:List It):UnpOk w L:=λ_ _ _ _ _ hi hk=>G0 hi (hT.kept hk (λf=>f))
theorem pG{E:Nat->En}{len:Nat}{L:List It}(h:lD E len L)(hc:fT E len=0){j:Nat}{x:It}(hx:L[j]? = some x):df x=.ok (sb (E j).d)/\x.lab.name=sb (E j).n/\j<len:=by have hj:=(List.getElem?_eq_some_iff.1 hx).1;rw[h.1]at hj;obtain⟨bs,hp,e⟩:=h.2 j x hx;rw[e];exact⟨JM hp ((kD hc).2 j hj).2,rfl,hj⟩
end Go.Proofs.YtkhagfgineifhaaGreatDoor
