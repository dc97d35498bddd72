import Derived.Test.YtggcbnhckcenmaaGreatDoorOwn2
namespace Go.Proofs.YtggcbnhckcenmaaGreatDoor
open Go.RowKit

theorem wpList_append_any{ops:Array Oper}{rest:List Oper}{o:Oper}{a:Act}{Q:Exit→Act→World→Prop}(w:World)(hgd:o.guard=none)(s x:Operand)
  (ho:o.op=.call {callee:=.builtin .append,args:=#[s,x],argTypes:=#[22,22]})
  (v:Value) (bs:List Nat) (hs:a.eval s=v) (hrow:Row w v bs) (I:Nat→Prop) (xv:Value) (cs:List Nat) (hx:a.eval x=xv) (hnil:∀n c,xv=.slice none n c→n=0∧c=0) (hsrc:Src w I xv cs) (hlen:bs.length+cs.length≤1000000000000)
  (h:∀v' w',Row w' v' (bs++cs)→w.grownBy w' v.ownBlock→(v'.ownBlock=v.ownBlock∨v'.ownBlock=some w.heap.size)→wpList Tryz.prog ops Q rest (a.put o.dst v') w'):wpList Tryz.prog ops Q (o::rest) a w:=by
 obtain⟨ao,cap,rfl,hc⟩:=id hsrc
 cases ao with
 | some ad=>
  refine wpList_append_row w hgd s x ho v bs hs hrow ad cs.length cap cs hx rfl ?_ hlen h
  by_cases h0:cs=[]
  ·subst h0;intro j u hu;simp at hu
  ·obtain⟨a',e,hb⟩:=(Src.at hsrc).2 h0
   injection e with e
   subst e
   exact hb
 | none=>
  obtain⟨h0,h1⟩:=hnil _ _ rfl
  have hcs:cs=[]:=List.eq_nil_of_length_eq_zero h0
  subst hcs h1
  obtain⟨i0,hi,hz0,hz1,hz2⟩:=info_parts Tryz.info8
  refine wpList_plain hgd fun K hK=>?_
  have hr:=run_append_owned_none (P:=Tryz.prog) w 0 22 o.type 5 i0 1 Tryz.underlying22 hi v bs.length (bs.map byteV) hrow
  unfold Oper.wp execOp
  simp only[ho,resolve,invoke,builtin,Sem.run_bind,Sem.run_pure,Result.andThen_ok,List.map_toArray,List.map_cons,List.map_nil,hs,hx,List.length_nil,hr]
  exact hK _ _ (h v w (by simpa using hrow) (World.grownBy.refl _ _) (.inl rfl))

structure Fresh(w w':World)(v:Value)(bs:List Nat):Prop where
 row:Row w' v bs
 kept:Kept (fun _=>False) w w'
 new:∀k,v.ownBlock=some k→w.heap.size≤k

end Go.Proofs.YtggcbnhckcenmaaGreatDoor
