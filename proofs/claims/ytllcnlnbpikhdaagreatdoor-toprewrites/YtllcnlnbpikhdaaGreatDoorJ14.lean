import Derived.Test.YtllcnlnbpikhdaaGreatDoorJ12
import Derived.Test.YtllcnlnbpikhdaaGreatDoorJ13
namespace Go.Proofs.YtllcnlnbpikhdaaGreatDoor
open Go.RowKit
def y6(t:TK):List Value:=[.int .u8 (t.lit:Nat),.int .i64 t.len,.int .i64 t.dist]
def Ko(t:TK):Array Value:=#[.int .u8 (t.lit:Nat),.int .i64 t.len,.int .i64 t.dist]
theorem fd:dI y6 3:=⟨λ_=>rfl,λx u hu=>by simp[y6]at hu;rcases hu with rfl | rfl | rfl<;>rfl,by decide⟩
abbrev xG(B:Nat):=RowC B 133 3 y6
abbrev TkSrc:=@SrcC TK 3 y6
theorem Tryz.infoTk:(Tryz.prog.info? 133).map (λi=>(i.zero,i.size,i.bytes))=some (some (.agg #[.int .u8 0,.int .i64 0,.int .i64 0]),3,24):=by kernel_rfl
theorem TkSrc.at{w w':World}{I:Nat→Prop}{ao:Option Addr}{n cap:Nat}{ts:List TK}(h:TkSrc w I (.slice ao n cap) ts)(hk:Same w w')(j:Nat)(hj:j<ts.length):
  ∃b o,ao=some ⟨b,o,none⟩/\w'.cell? ⟨b,o+j*3,none⟩=some (.int .u8 (ts[j].lit:Nat))/\w'.cell? ⟨b,o+j*3+1,none⟩=some (.int .i64 ts[j].len)/\w'.cell? ⟨b,o+j*3+2,none⟩=some (.int .i64 ts[j].dist):=by
 obtain⟨ao',cap',e1,_,e2⟩:=h.kept fd hk (λ_ _ _ f=>f);injection e1 with e3 _ _;subst e3;obtain⟨b,o,e4,_,e5⟩:=e2 (by intro e;rw[e]at hj;simp at hj);have:=e5 j hj;exact⟨b,o,e4,this 0 (by decide),this 1 (by decide),this 2 (by decide)⟩
end Go.Proofs.YtllcnlnbpikhdaaGreatDoor
