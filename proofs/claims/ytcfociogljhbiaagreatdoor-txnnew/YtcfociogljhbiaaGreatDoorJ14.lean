/-
  Of the proof: parts StepC.
-/
import Derived.Deep.RegionLaw
import Derived.Maps.AppendAt
import Derived.Test.YtcfociogljhbiaaGreatDoorJ2

namespace Go.Proofs.YtcfociogljhbiaaGreatDoor
open Go.RowKit Go.Maps

theorem step_callC{ops:Array Oper}{o:Oper}{a:Act}{w:World}{K:Act→World→Prop}{Q:Exit→Act→World→Prop}{E:Prop}(hgd:o.guard=none)(f:FuncId)(args:Array Value)(hrun:(execOp a.eval o).run Tryz.prog w=.ok (.enter f args) w)(post:Ending→World→Prop)(H:Calls Tryz.prog f args w post)
  (h:∀e w',post e w'→∃v,e=.returned v∧K (a.put o.dst v) w'):if Region.wanted o (yielded ops a.tmps)=true then Oper.wp Tryz.prog o a w K Q else E:=by
 have hw:Region.wanted o (yielded ops a.tmps)=true:=by simp[Region.wanted,hgd]
 rw[if_pos hw]
 unfold Oper.wp
 rw[hrun,Oper.upon_enter]
 refine H.mono ?_
 intro e w' hp
 obtain⟨v,rfl,hk⟩:=h e w' hp
 exact hk

theorem step_appendC{α:Type}{ops:Array Oper}{o:Oper}{a:Act}{w:World}{K:Act→World→Prop}{Q:Exit→Act→World→Prop}{E:Prop}(enc:α→List Value)(k:Nat)(ok:EncOk enc k)(B sT eT:Nat)(z:Value)(bytes:Nat)
  (hU:Tryz.prog.underlying sT=some (.slice eT)) (hI:(Tryz.prog.info? eT).map (fun i=>(i.zero,i.size,i.bytes))=some (some z,k,bytes)) (hz:z.cells.size=k) (hby:bytes≤1000) (hgd:o.guard=none) (s x:Operand)
  (ho:o.op=.call {callee:=.builtin .append,args:=#[s,x],argTypes:=#[sT,sT]})
  (v:Value) (xs:List α) (hs:a.eval s=v) (hrow:RowC B eT k enc w v xs) (ad:Addr) (m c:Nat) (cs:List α) (hx:a.eval x=.slice (some ad) m c) (hm:cs.length=m) (hcs:CellsAt w ad (cs.flatMap enc)) (hlen:xs.length+cs.length≤1000000000) (hB:B≤w.heap.size)
  (h:∀v' w',RowC B eT k enc w' v' (xs++cs)→w.grownBy w' v.ownBlock→(∀j,v'.ownBlock=some j→v.ownBlock=some j∨w.heap.size≤j)→K (a.put o.dst v') w'):if Region.wanted o (yielded ops a.tmps)=true then Oper.wp Tryz.prog o a w K Q else E:=by
 have hw:Region.wanted o (yielded ops a.tmps)=true:=by simp[Region.wanted,hgd]
 rw[if_pos hw]
 subst hm
 obtain⟨i0,hi,hz0,hz1,hz2⟩:=info_parts hI
 have hmul:(xs.length+cs.length)*bytes≤1000000000*1000:=Nat.mul_le_mul hlen hby
 obtain⟨v',w',hr,h2,h3,_,h5⟩:=run_append_own_at (P:=Tryz.prog) w B sT o.type eT i0 z k bytes hU hi hz0 hz1 hz2 hz ok.pos v xs.length (xs.flatMap enc) hrow ad cs.length c (cs.flatMap enc) (flat_length ok cs) hcs (flat_one ok cs) (by simp only[maxLen];omega) (by omega) hB
 unfold Oper.wp
 simp[execOp,ho,resolve,invoke,builtin,hs,hx,hr,Result.andThen]
 refine h v' w' ?_ h3 (fun j e=>?_)
 ·unfold RowC
  rw[List.length_append,List.flatMap_append]
  exact h2
 ·rcases h5 with h6 | h6
  ·exact .inl (by rw[←h6];exact e)
  ·rw[h6]at e
   simp only[Option.some.injEq]at e
   exact .inr (by omega)

end Go.Proofs.YtcfociogljhbiaaGreatDoor
