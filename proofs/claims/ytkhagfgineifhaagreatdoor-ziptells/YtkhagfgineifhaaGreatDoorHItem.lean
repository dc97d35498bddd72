import Derived.Test.YtkhagfgineifhaaGreatDoorHPack
import Derived.Test.YtkhagfgineifhaaGreatDoorHRis
import Derived.Deep.RegionLaw
namespace Go.Proofs.YtkhagfgineifhaaGreatDoor
open Go.RowKit
def BN(x:Nat×Bool):List Value:=[.int .i64 (x.1:Int),.bool x.2]
def cQ(its:List (Nat×Bool)):List Value:=its.flatMap BN
theorem uz(its:List (Nat×Bool))(j:Nat)(h:j<its.length):(cQ its)[j*2]? = some (.int .i64 (its[j].1:Int))/\(cQ its)[j*2+1]? = some (.bool its[j].2):=by
 induction its generalizing j with
 | nil=>simp at h
 | cons a r ih=>
  cases j with
  | zero=>simp[cQ,BN]
  | succ j=>
   have:=ih j (by simpa using h);have e:cQ (a::r)=.int .i64 (a.1:Int)::.bool a.2::cQ r:=rfl;rw[e,show(j+1)*2=j*2+1+1 by omega];simpa using this
abbrev TRow(B:Nat)(w:World)(v:Value)(its:List (Nat×Bool)):Prop:=w.ownsRow B 261 2 v its.length (cQ its)
theorem TRow.kept{F:Nat->Prop}{B:Nat}{w w':World}{v:Value}{its:List (Nat×Bool)}(h:TRow B w v its)(hk:Kept F w w')(hn:∀k,v.ownBlock=some k->¬F k):TRow B w' v its:=by
 refine⟨h.1,?_⟩;rcases h.2 with A5 | ⟨g,cap,cur,rfl,hb,sv,rest⟩
 ·exact .inl A5
 ·refine .inr ⟨g,cap,cur,rfl,hb,?_,rest⟩;rw[hk.block g (Array.getElem?_eq_some_iff.1 sv).1 (hn g rfl)];exact sv
theorem TRow.nil{B:Nat}{w:World}:TRow B w (.slice none 0 0) []:=World.ownsRow_nil w B _ 2
theorem TRow.lt{B:Nat}{w:World}{v:Value}{its:List (Nat×Bool)}(h:TRow B w v its){k:Nat}(hk:v.ownBlock=some k):k<w.heap.size:=(World.ownsRow.lt h k hk).2
theorem TRow.ge{B:Nat}{w:World}{v:Value}{its:List (Nat×Bool)}(h:TRow B w v its){k:Nat}(hk:v.ownBlock=some k):B<=k:=(World.ownsRow.lt h k hk).1
theorem TRow.shape{B:Nat}{w:World}{v:Value}{its:List (Nat×Bool)}(h:TRow B w v its):∃ao cap,v=.slice ao its.length cap/\its.length<=cap/\(its≠[]->∃g,ao=some ⟨g,0,none⟩/\g<w.heap.size/\∀j (_:j<its.length),w.cell? ⟨g,j*2,none⟩=some (.int .i64 (its[j].1:Int))/\w.cell? ⟨g,j*2+1,none⟩=some (.bool its[j].2)):=by
 rcases id h.2 with⟨rfl,hn⟩ | ⟨g,cap,cur,rfl,_,_,h1,h2,_⟩
 ·exact⟨none,0,by rw[hn],by omega,λhb=>absurd (List.eq_nil_of_length_eq_zero hn) hb⟩
 ·refine⟨_,cap,rfl,h1,λ_=>⟨g,rfl,h.lt rfl,λj hj=>?_⟩⟩;have hc:=uz its j hj;exact⟨by rw[World.ownsRow.cellAt h (j*2) (by omega)];exact hc.1,by rw[World.ownsRow.cellAt h (j*2+1) (by omega)];exact hc.2⟩
theorem Tryz.infoT:(Tryz.prog.info? 261).map (λi=>(i.zero,i.size,i.bytes))=some (some (.agg #[.int .i64 0,.bool false]),2,16):=by kernel_rfl
theorem mT(w:World)(x:Nat)(b:Bool):aS (w.alloc (.cells #[.int .i64 (x:Int),.bool b] 261)) ⟨w.heap.size,0,none⟩ (BN (x,b)):=by
 intro j u hu
 match j,hu with
 | 0,hu=>simp[BN]at hu;subst hu;simp[cf]
 | 1,hu=>simp[BN]at hu;subst hu;simp[cf]
 | j+2,hu=>simp[BN]at hu
theorem ee{ops:Array Oper}{rest:List Oper}{o:Oper}{a:Act}{Q:Exit→Act→World→Prop}(w:World)(B:Nat)(jS:o.guard=none)(s x:Operand)
  (ho:o.op=.call {callee:=.builtin .append,args:=#[s,x],argTypes:=#[259,259]})
  (v:Value) (its:List (Nat×Bool)) (hs:a.eval s=v) (hrow:TRow B w v its) (ad:Addr) (y:Nat×Bool) (hx:a.eval x=.slice (some ad) 1 1) (eY:aS w ad (BN y)) (ag:its.length+1<=1000000000) (hB:B<=w.heap.size)
  (h:∀v' w',TRow B w' v' (its++[y])->w.grownBy w' v.ownBlock->wpList Tryz.prog ops Q rest (a.put o.dst v') w'):wpList Tryz.prog ops Q (o::rest) a w:=by
 obtain⟨i0,hi,fG,iN,gj⟩:=info_parts Tryz.infoT;refine wpList_append_own w jS s x 259 ho B 261 i0 _ 2 16 Tryz.underlying259 hi fG iN gj rfl (by decide) v its.length (cQ its) hs hrow ad 1 1 (BN y) hx rfl eY (by intro u hu;simp[BN]at hu;rcases hu with rfl | rfl<;>rfl) (by simp only[maxLen];omega) (by omega) hB ?_;intro v' w' h1 h2 _;refine h v' w' ?_ h2;have e:cQ (its++[y])=cQ its++BN y:=by simp[cQ]
 unfold TRow;rw[List.length_append,e];exact h1
theorem ov{ops:Array Oper}{o:Oper}{a:Act}{w:World}{K:Act→World→Prop}{Q:Exit→Act→World→Prop}{E:Prop}(B:Nat)(jS:o.guard=none)(s x:Operand)
  (ho:o.op=.call {callee:=.builtin .append,args:=#[s,x],argTypes:=#[259,259]})
  (v:Value) (its:List (Nat×Bool)) (hs:a.eval s=v) (hrow:TRow B w v its) (ad:Addr) (y:Nat×Bool) (hx:a.eval x=.slice (some ad) 1 1) (eY:aS w ad (BN y)) (ag:its.length+1<=1000000000) (hB:B<=w.heap.size)
  (h:∀v' w',TRow B w' v' (its++[y])->w.grownBy w' v.ownBlock->K (a.put o.dst v') w'):if Region.wanted o (yielded ops a.tmps)=true then Oper.wp Tryz.prog o a w K Q else E:=by
 have hw:Region.wanted o (yielded ops a.tmps)=true:=by simp[Region.wanted,jS]
 rw[if_pos hw];obtain⟨i0,hi,fG,iN,gj⟩:=info_parts Tryz.infoT;refine wp_append_own w s x 259 ho B 261 i0 _ 2 16 Tryz.underlying259 hi fG iN gj rfl (by decide) v its.length (cQ its) hs hrow ad 1 1 (BN y) hx rfl eY (by intro u hu;simp[BN]at hu;rcases hu with rfl | rfl<;>rfl) (by simp only[maxLen];omega) (by omega) hB ?_;intro v' w' h1 h2 _;refine h v' w' ?_ h2;have e:cQ (its++[y])=cQ its++BN y:=by simp[cQ]
 unfold TRow;rw[List.length_append,e];exact h1
end Go.Proofs.YtkhagfgineifhaaGreatDoor
