import Derived.Test.YtkhagfgineifhaaGreatDoorLnRef
namespace Go.Proofs.YtkhagfgineifhaaGreatDoor
open Go.RowKit
theorem StSrc.get{w:World}{I:Nat->Prop}{ao:Option Addr}{n cap:Nat}{ss:List (Int×Int)}(h:StSrc w I (.slice ao n cap) ss)(i:Nat)(hi:i<ss.length):∃b o,ao=some ⟨b,o,none⟩/\I b/\w.cell? ⟨b,o+i*2,none⟩=some (.int .i64 ss[i].1)/\w.cell? ⟨b,o+i*2+1,none⟩=some (.int .i64 ss[i].2):=by obtain⟨ao',cap',e1,_,e2⟩:=h;injection e1 with e3 _ _;subst e3;obtain⟨b,o,e4,hI,e5⟩:=e2 (by intro e;rw[e]at hi;simp at hi);exact⟨b,o,e4,hI,e5 i hi 0 (by decide),e5 i hi 1 (by decide)⟩
end Go.Proofs.YtkhagfgineifhaaGreatDoor
