import Derived.Test.YtkhagfgineifhaaGreatDoorSam
namespace Go.Proofs.YtkhagfgineifhaaGreatDoor
open Go.RowKit
theorem bU{α:Type}{ops:Array Oper}{rest:List Oper}{o:Oper}{a:Act}{Q:Exit→Act→World→Prop}(w:World)(enc:α→Value)(AX:∀(l:List α),∀u∈l.map enc,u.oneCell'=true)(B sT eT:Nat)(z:Value)(bytes:Nat)
  (hU:Tryz.prog.underlying sT=some (.slice eT)) (hI:(Tryz.prog.info? eT).map (λi=>(i.zero,i.size,i.bytes))=some (some z,1,bytes)) (hz:z.cells.size=1) (tK:bytes<=24) (jS:o.guard=none) (s x:Operand)
  (ho:o.op=.call {callee:=.builtin .append,args:=#[s,x],argTypes:=#[sT,sT]})
  (v:Value) (xs:List α) (hs:a.eval s=v) (hrow:RowE B eT enc w v xs) (I:Nat->Prop) (ao:Option Addr) (n c:Nat) (cs:List α) (hx:a.eval x=.slice ao n c) (hsrc:SrcE enc w I (.slice ao n c) cs) (h0:ao=none->c=0) (ag:xs.length+cs.length<=1000000000) (hB:B<=w.heap.size)
  (h:∀v' w',RowE B eT enc w' v' (xs++cs)->w.grownBy w' v.ownBlock->wpList Tryz.prog ops Q rest (a.put o.dst v') w'):wpList Tryz.prog ops Q (o::rest) a w:=by
 obtain⟨hn,hat⟩:=hsrc.at;cases ao with
 | some ad=>
  refine aY w enc AX B sT eT z bytes hU hI hz tK jS s x ho v xs hs hrow ad n c cs hx hn.symm ?_ ag hB h;by_cases h0:cs=[]
  ·subst h0;intro j u hu;simp at hu
  ·obtain⟨a',e,hb⟩:=hat h0;injection e with e;subst e;exact hb
 | none=>
  have e0:cs=[]:=Classical.byContradiction (λbm=>by obtain⟨_,e,_⟩:=hat bm;cases e);subst e0;have hc:=h0 rfl;have nG:n=0:=hn;subst hc nG;obtain⟨i0,hi,fG,iN,gj⟩:=info_parts hI;refine wpList_plain jS λK hK=>?_
  have hr:=run_append_owned_none (P:=Tryz.prog) w B sT o.type eT i0 1 hU hi v xs.length (xs.map enc) hrow;unfold Oper.wp execOp;simp only[ho,resolve,invoke,builtin,Sem.run_bind,Sem.run_pure,Result.andThen_ok,List.map_toArray,List.map_cons,List.map_nil,hs,hx,hr];exact hK _ _ (h v w (by simpa using hrow) (World.grownBy.refl _ _))
theorem md{ops:Array Oper}{rest:List Oper}{o:Oper}{a:Act}{Q:Exit→Act→World→Prop}(w:World)(B:Nat)(jS:o.guard=none)(s x:Operand)
  (ho:o.op=.call {callee:=.builtin .append,args:=#[s,x],argTypes:=#[143,143]})
  (v:Value) (xs:List Nat) (hs:a.eval s=v) (hrow:NRow B w v xs) (I:Nat->Prop) (ao:Option Addr) (n c:Nat) (cs:List Nat) (hx:a.eval x=.slice ao n c) (hsrc:SrcE am w I (.slice ao n c) cs) (h0:ao=none->c=0) (ag:xs.length+cs.length<=1000000000) (hB:B<=w.heap.size)
  (h:∀v' w',NRow B w' v' (xs++cs)->w.grownBy w' v.ownBlock->wpList Tryz.prog ops Q rest (a.put o.dst v') w'):wpList Tryz.prog ops Q (o::rest) a w:=
 bU w am dK B 143 3 (am 0) 8 Tryz.underlying143 Tryz.infoN rfl (by decide) jS s x ho v xs hs hrow I ao n c cs hx hsrc h0 ag hB h
theorem SrcE.part{w:World}{I:Nat->Prop}{b o cap:Nat}{l:List Nat}(h:SrcE am w I (.slice (some ⟨b,o,none⟩) l.length cap) l)(k:Nat)(hk:k<=l.length):SrcE am w I (.slice (some ⟨b,o,none⟩) k cap) (l.take k):=by obtain⟨ao,cap',e,hc,bZ⟩:=h;simp only[Value.slice.injEq]at e;obtain⟨rfl,_,rfl⟩:=e;refine⟨_,_,by rw[List.length_take,Nat.min_eq_left hk],by rw[List.length_take];omega,λbm=>?_⟩;obtain⟨b',o',e,h1,h2⟩:=bZ (by intro e;subst e;simp at bm);refine⟨b',o',e,h1,λj hj=>?_⟩;rw[List.length_take]at hj;rw[h2 j (by omega),List.getElem_take]
theorem SrcE.tail{w:World}{I:Nat->Prop}{b o cap:Nat}{l:List Nat}(h:SrcE am w I (.slice (some ⟨b,o,none⟩) l.length cap) l)(k px:Nat)(hk:k<=l.length)(hp:k<l.length->px=o+k):SrcE am w I (.slice (some ⟨b,px,none⟩) (l.length-k) (cap-k)) (l.drop k):=by
 obtain⟨ao,cap',e,hc,bZ⟩:=h;simp only[Value.slice.injEq]at e;obtain⟨rfl,_,rfl⟩:=e;refine⟨_,_,by rw[List.length_drop],by rw[List.length_drop];omega,λbm=>?_⟩;have yD:k<l.length:=by
  rcases Nat.lt_or_ge k l.length with h | h
  ·exact h
  ·rw[List.drop_eq_nil_of_le h]at bm;exact absurd rfl bm
 obtain⟨b',o',e,h1,h2⟩:=bZ (by intro e;subst e;simp at bm);simp only[Option.some.injEq,Addr.mk.injEq,and_true]at e;obtain⟨rfl,rfl⟩:=e;refine⟨b,px,rfl,h1,λj hj=>?_⟩;rw[List.length_drop]at hj;rw[hp yD,Nat.add_assoc,h2 (k+j) (by omega),List.getElem_drop]
end Go.Proofs.YtkhagfgineifhaaGreatDoor
