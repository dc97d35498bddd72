import Derived.Test.YtkhagfgineifhaaGreatDoorMtM
import Derived.Test.YtkhagfgineifhaaGreatDoorCln
import Derived.Test.YtkhagfgineifhaaGreatDoorBlk
import Derived.Test.YtkhagfgineifhaaGreatDoorCopyK
namespace Go.Proofs.YtkhagfgineifhaaGreatDoor
open Go.RowKit
def Ai(t:TK):List Value:=[.int .u8 (t.lit:Nat),.int .i64 t.len,.int .i64 t.dist]
def La(t:TK):Array Value:=#[.int .u8 (t.lit:Nat),.int .i64 t.len,.int .i64 t.dist]
theorem fk:dJ Ai 3:=⟨λ_=>rfl,λx u hu=>by simp[Ai]at hu;rcases hu with rfl | rfl | rfl<;>rfl,by decide⟩
abbrev xR(B:Nat):=RowC B 138 3 Ai
abbrev TkSrc:=@SrcC TK 3 Ai
theorem Tryz.infoTk:(Tryz.prog.info? 138).map (λi=>(i.zero,i.size,i.bytes))=some (some (.agg #[.int .u8 0,.int .i64 0,.int .i64 0]),3,24):=by kernel_rfl
end Go.Proofs.YtkhagfgineifhaaGreatDoor
