import Derived.Test.YtkhagfgineifhaaGreatDoorProg
import Derived.Test.YtkhagfgineifhaaGreatDoorBase
namespace Go.Proofs.YtkhagfgineifhaaGreatDoor
open Go.RowKit
theorem Tryz.info8:(Tryz.prog.info? 5).map (λi=>(i.zero,i.size,i.bytes))=some (some (.int .u8 0),1,1):=by kernel_rfl
theorem cf(b o j:Nat):(⟨b,o,none⟩:Addr).add j=⟨b,o+j,none⟩:=by unfold Addr.add;simp
def gg(w:World)(a:Addr)(cs:List Nat):Prop:=∀j u,(cs.map be)[j]? = some u->w.cell? (a.add j)=some u
theorem gI(w:World)(ty:TypeId)(v:Value)(bs:List Nat)(hrow:Row w v bs)(a:Addr)(c:Nat)(cs:List Nat)(eY:gg w a cs)(ag:bs.length+cs.length≤1000000000000):
  ∃v' w',(Builtin.append_ #[25,25] ty #[v,.slice (some a) cs.length c]).run Tryz.prog w=.ok v' w'/\Row w' v' (bs++cs)/\w.grownBy w' v.ownBlock /\
   (v'.ownBlock=v.ownBlock\/v'.ownBlock=some w.heap.size):=by
 obtain⟨i0,hi,fG,iN,gj⟩:=info_parts Tryz.info8;have hl:(cs.map be).length=cs.length*1:=by simp
 have Ni:bs.length+cs.length<=maxLen:=by simp only[maxLen];omega
 obtain⟨v',w',hr,ho,hg,_⟩:=run_append_own (P:=Tryz.prog) w 0 25 ty 5 i0 (.int .u8 0) 1 1 Tryz.underlying25 hi fG iN gj rfl (by decide) v bs.length (bs.map be) hrow a cs.length c (cs.map be) hl eY (kV _) Ni (by omega) (Nat.zero_le _);refine⟨v',w',hr,by simpa[Row]using ho,hg,?_⟩;have dA:i0.size=1:=iN;rcases hrow.2 with⟨rfl,hn⟩ | ⟨g,cap,cur,rfl,_⟩
 ·by_cases hm:cs.length=0
  ·have e0:cs=[]:=List.eq_nil_of_length_eq_zero hm;have Qm:bs=[]:=List.eq_nil_of_length_eq_zero hn;subst e0 Qm;rcases ho.2 with⟨e,_⟩ | ⟨g',cap',cur',e,_,hh,_⟩
   ·exact .inl (by rw[e])
   ·by_cases hlt:g'<w.heap.size
    ·exfalso;have hr2:(Builtin.append_ #[25,25] ty #[.slice none 0 0,.slice (some a) ([]:List Nat).length c]).run Tryz.prog w=.ok (.slice none 0 0) w:=by
      simp[Builtin.append_,run_underlying Tryz.underlying25,sizeOf,typeInfo,hi,Builtin.lenOf,Builtin.firstCells,loadCells,loadCellsFrom]
     rw[hr]at hr2;simp only[Result.ok.injEq]at hr2;rw[e]at hr2;simp at hr2
    ·exfalso;have hr2:(Builtin.append_ #[25,25] ty #[.slice none 0 0,.slice (some a) ([]:List Nat).length c]).run Tryz.prog w=.ok (.slice none 0 0) w:=by
      simp[Builtin.append_,run_underlying Tryz.underlying25,sizeOf,typeInfo,hi,Builtin.lenOf,Builtin.firstCells,loadCells,loadCellsFrom]
     rw[hr]at hr2;simp only[Result.ok.injEq]at hr2;rw[e]at hr2;simp at hr2
  ·have hr2:=run_append_nil (P:=Tryz.prog) w 25 ty 5 i0 (.int .u8 0) Tryz.underlying25 hi fG a cs.length c (cs.map be) (by rw[dA];simp) eY (by omega) (by omega) (by rw[gj];omega);rw[hr]at hr2;simp only[Result.ok.injEq]at hr2;exact .inr (by rw[hr2.1];rfl)
 ·by_cases iD:bs.length+cs.length<=cap
  ·obtain⟨w2,hr2,_⟩:=run_append_fits (P:=Tryz.prog) w 0 25 ty 5 i0 1 Tryz.underlying25 hi iN g bs.length cap (bs.map be) hrow a cs.length c (cs.map be) hl eY (kV _) iD;rw[hr]at hr2;simp only[Result.ok.injEq]at hr2;exact .inl (by rw[hr2.1];rfl)
  ·have hr2:=run_append_grow (P:=Tryz.prog) w 25 ty 5 i0 (.int .u8 0) Tryz.underlying25 hi fG ⟨g,0,none⟩ bs.length cap (bs.map be) (by rw[dA];simp) (hrow.cells (g:=g) rfl) a cs.length c (cs.map be) (by rw[dA];simp) eY (by omega) (by omega) (growslice_fits (by omega) (by rw[gj];omega));rw[hr]at hr2;simp only[Result.ok.injEq]at hr2;exact .inr (by rw[hr2.1];rfl)
theorem eH{ops:Array Oper}{rest:List Oper}{o:Oper}{a:Act}{Q:Exit→Act→World→Prop}(w:World)(jS:o.guard=none)(s x:Operand)
  (ho:o.op=.call {callee:=.builtin .append,args:=#[s,x],argTypes:=#[25,25]})
  (v:Value) (bs:List Nat) (hs:a.eval s=v) (hrow:Row w v bs) (ad:Addr) (m c:Nat) (cs:List Nat) (hx:a.eval x=.slice (some ad) m c) (hm:cs.length=m) (eY:gg w ad cs) (ag:bs.length+cs.length<=1000000000000)
  (h:∀v' w',Row w' v' (bs++cs)->w.grownBy w' v.ownBlock->(v'.ownBlock=v.ownBlock\/v'.ownBlock=some w.heap.size)->wpList Tryz.prog ops Q rest (a.put o.dst v') w'):wpList Tryz.prog ops Q (o::rest) a w:=by
 subst hm;refine wpList_plain jS λK hK=>?_
 obtain⟨v',w',hr,h2,h3,h4⟩:=gI w o.type v bs hrow ad c cs eY ag;unfold Oper.wp execOp;simp only[ho,resolve,invoke,builtin,Sem.run_bind,Sem.run_pure,Result.andThen_ok,List.map_toArray,List.map_cons,List.map_nil,hs,hx,hr];exact hK _ _ (h v' w' h2 h3 h4)
theorem iq(w:World)(n:Nat):gg (w.alloc (.cells #[.int .u8 n] 5)) ⟨w.heap.size,0,none⟩ [n]:=by
 intro j u hu
 match j,hu with
 | 0,hu=>simp[be]at hu;subst hu;simp[cf]
end Go.Proofs.YtkhagfgineifhaaGreatDoor
