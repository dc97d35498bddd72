import Derived.Test.YtkhagfgineifhaaGreatDoorLnM
import Derived.Test.YtkhagfgineifhaaGreatDoorRec
namespace Go.Proofs.YtkhagfgineifhaaGreatDoor
open Go.RowKit
def km(s:Int×Int):List Value:=[.int .i64 s.1,.int .i64 s.2]
theorem stC_ok:dJ km 2:=⟨λ_=>rfl,λx u hu=>by simp[km]at hu;rcases hu with rfl | rfl<;>rfl,by decide⟩
abbrev fN(B:Nat):=RowC B 226 2 km
abbrev StSrc:=@SrcC (Int×Int) 2 km
theorem Tryz.infoSt:(Tryz.prog.info? 226).map (λi=>(i.zero,i.size,i.bytes))=some (some (.agg #[.int .i64 0,.int .i64 0]),2,16):=by kernel_rfl
theorem kt(w:World)(x y:Int):aS (w.alloc (.cells #[.int .i64 x,.int .i64 y] 226)) ⟨w.heap.size,0,none⟩ ([(x,y)].flatMap km):=by
 intro j u hu
 match j,hu with
 | 0,hu=>simp[km]at hu;subst hu;simp[cf]
 | 1,hu=>simp[km]at hu;subst hu;simp[cf]
 | j+2,hu=>simp[km]at hu
theorem ea{ops:Array Oper}{rest:List Oper}{o:Oper}{a:Act}{Q:Exit→Act→World→Prop}(w:World)(B:Nat)(jS:o.guard=none)(s x:Operand)
  (ho:o.op=.call {callee:=.builtin .append,args:=#[s,x],argTypes:=#[180,180]})
  (v:Value) (ss:List (Int×Int)) (hs:a.eval s=v) (hrow:fN B w v ss) (ad:Addr) (y:Int×Int) (hx:a.eval x=.slice (some ad) 1 1) (eY:aS w ad ([y].flatMap km)) (ag:ss.length+1<=1000000000) (hB:B<=w.heap.size)
  (h:∀v' w',fN B w' v' (ss++[y])->w.grownBy w' v.ownBlock->wpList Tryz.prog ops Q rest (a.put o.dst v') w'):wpList Tryz.prog ops Q (o::rest) a w:=
 dW w km 2 stC_ok (by decide) B 180 226 (.agg #[.int .i64 0,.int .i64 0]) 16 Tryz.underlying180 Tryz.infoSt rfl (by decide) jS s x ho v ss hs hrow ad 1 1 [y] hx rfl eY ag hB h
abbrev jd(B:Nat)(k:Nat):Prop:=B<=k
def cG(zs:List Int):Bool:=!(zs.any (d6 0 15))
theorem fh(zs:List Int):cG zs=true↔∀z∈zs,0<=z/\z<=15:=by
 simp only[cG,Bool.not_eq_true',List.any_eq_false,d6];constructor
 ·intro h z hz;have:=h z hz;simp at this;omega
 ·intro h z hz;have:=h z hz;simp;omega
end Go.Proofs.YtkhagfgineifhaaGreatDoor
