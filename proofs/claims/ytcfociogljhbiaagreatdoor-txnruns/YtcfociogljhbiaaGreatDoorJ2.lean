/-
  Of the proof: parts Txt, Own, HRow, Sam, Blk, Rec, ChM, AppN, Apt, Bk2.
-/
import Derived.Test.YtcfociogljhbiaaGreatDoorProg
import Derived.Test.YtcfociogljhbiaaGreatDoorJ1

namespace Go.Proofs.YtcfociogljhbiaaGreatDoor
def sb(s:ByteArray):List Nat:=s.data.toList.map UInt8.toNat

theorem sb_size(s:ByteArray):(sb s).length=s.size:=by simp[sb]

end Go.Proofs.YtcfociogljhbiaaGreatDoor

namespace Go.Proofs.YtcfociogljhbiaaGreatDoor
open Go.RowKit
theorem addAt(b o j:Nat):(⟨b,o,none⟩:Addr).add j=⟨b,o+j,none⟩:=by unfold Addr.add;simp

end Go.Proofs.YtcfociogljhbiaaGreatDoor

namespace Go.Proofs.YtcfociogljhbiaaGreatDoor
open Go.RowKit

theorem hid{p:Prop}(h:p):Hid p:=h

def intV(z:Int):Value:=.int .i64 z
abbrev RowE{α:Type}(B:Nat)(t:TypeId)(enc:α→Value)(w:World)(v:Value)(xs:List α):Prop:=w.ownsRow B t 1 v xs.length (xs.map enc)

section
variable {α:Type} {B:Nat} {t:TypeId} {enc:α→Value} {w:World} {v:Value} {xs:List α}

theorem RowE.kept{F:Nat→Prop}{w':World}(h:RowE B t enc w v xs)(hk:Kept F w w')(hn:∀k,v.ownBlock=some k→¬F k):RowE B t enc w' v xs:=by
 refine⟨h.1,?_⟩
 rcases h.2 with hn' | ⟨g,cap,cur,rfl,hb,hgg,rest⟩
 ·exact .inl hn'
 ·refine .inr ⟨g,cap,cur,rfl,hb,?_,rest⟩
  rw[hk.block g (Array.getElem?_eq_some_iff.1 hgg).1 (hn g rfl)]
  exact hgg

theorem RowE.base{B':Nat}(h:RowE B t enc w v xs)(hb:B'≤B):RowE B' t enc w v xs:=by
 refine⟨h.1,?_⟩
 rcases h.2 with hn' | ⟨g,cap,cur,rfl,hb',rest⟩
 ·exact .inl hn'
 ·exact .inr ⟨g,cap,cur,rfl,Nat.le_trans hb hb',rest⟩

theorem RowE.nil:RowE B t enc w (.slice none 0 0) ([]:List α):=World.ownsRow_nil w B t 1

theorem RowE.lt(h:RowE B t enc w v xs){k:Nat}(hk:v.ownBlock=some k):k<w.heap.size:=(World.ownsRow.lt h k hk).2
theorem RowE.ge(h:RowE B t enc w v xs){k:Nat}(hk:v.ownBlock=some k):B≤k:=(World.ownsRow.lt h k hk).1

theorem RowE.shape(h:RowE B t enc w v xs):∃ao cap,v=.slice ao xs.length cap∧(xs≠[]→∃g,ao=some ⟨g,0,none⟩)∧(ao=none→cap=0)∧xs.length≤cap∧cap≤maxLen:=by
 rcases h.2 with⟨rfl,hn⟩ | ⟨g,cap,cur,rfl,_,_,h1,h2,_⟩
 ·exact⟨none,0,by rw[hn],fun hb=>absurd (List.eq_nil_of_length_eq_zero hn) hb,fun _=>rfl,by omega,by omega⟩
 ·exact⟨_,cap,rfl,fun _=>⟨g,rfl⟩,(fun e=>by cases e),h1,h2⟩

theorem RowE.len{g n cap:Nat}(h:RowE B t enc w (.slice (Option.some ⟨g,0,none⟩) n cap) xs):xs.length=n:=by
 rcases h.2 with⟨e,_⟩ | ⟨_,_,_,e,_⟩
 ·simp at e
 ·injection e with _ e _;exact e.symm

theorem RowE.cell{g n cap:Nat}(h:RowE B t enc w (.slice (Option.some ⟨g,0,none⟩) n cap) xs)(j:Nat)(hj:j<xs.length):w.cell? ⟨g,j,none⟩=Option.some (enc xs[j]):=by
 have hl:=h.len
 subst hl
 rw[h.cellAt j (by omega)]
 simp[hj]

theorem RowE.recode{β:Type}{enc':β→Value}{ys:List β}(h:RowE B t enc w v xs)(e:ys.map enc'=xs.map enc):RowE B t enc' w v ys:=by
 have hl:ys.length=xs.length:=by have:=congrArg List.length e;simpa using this
 unfold RowE
 rw[hl,e]
 exact h

def SrcE(enc:α→Value)(w:World)(I:Nat→Prop)(v:Value)(xs:List α):Prop:=
 ∃ao cap,v=.slice ao xs.length cap∧xs.length≤cap∧(xs≠[]→∃b o,ao=Option.some ⟨b,o,none⟩∧I b∧∀j (_:j<xs.length),w.cell? ⟨b,o+j,none⟩=Option.some (enc xs[j]))

theorem SrcE.ofRow(h:RowE B t enc w v xs):SrcE enc w (fun k=>v.ownBlock=Option.some k) v xs:=by
 obtain⟨ao,cap,hv,hg,_,hc,_⟩:=h.shape
 refine⟨ao,cap,hv,hc,fun hne=>?_⟩
 obtain⟨g,hg⟩:=hg hne
 subst hg hv
 refine⟨g,0,rfl,rfl,fun j hj=>?_⟩
 rw[Nat.zero_add]
 exact RowE.cell h j hj

theorem SrcE.kept{F I:Nat→Prop}{w':World}(h:SrcE enc w I v xs)(hk:Kept F w w')(hn:∀k,I k→k<w.heap.size→¬F k):SrcE enc w' I v xs:=by
 obtain⟨ao,cap,hv,hcap,hc⟩:=h
 refine⟨ao,cap,hv,hcap,fun hne=>?_⟩
 obtain⟨b,o,h1,h2,h3⟩:=hc hne
 have hlen:0<xs.length:=List.length_pos_iff.2 hne
 have hb:b<w.heap.size:=World.block_lt_of_cell? w _ (h3 0 hlen)
 exact⟨b,o,h1,h2,fun j hj=>hk.cell (h3 j hj) (hn b h2 hb)⟩

theorem SrcE.get{I:Nat→Prop}(h:SrcE enc w I v xs)(j:Nat)(hj:j<xs.length):∃b o cap,v=.slice (Option.some ⟨b,o,none⟩) xs.length cap∧I b∧b<w.heap.size∧w.cell? ⟨b,o+j,none⟩=Option.some (enc xs[j]):=by
 obtain⟨ao,cap,hv,hcap,hc⟩:=h
 obtain⟨b,o,rfl,h2,h3⟩:=hc (by intro e;subst e;simp at hj)
 exact⟨b,o,cap,hv,h2,World.block_lt_of_cell? w _ (h3 j hj),h3 j hj⟩

end

def CellsAt(w:World)(a:Addr)(cs:List Value):Prop:=∀j u,cs[j]? = some u→w.cell? (a.add j)=some u

theorem cellsAt_new(w:World)(t:TypeId)(u:Value):CellsAt (w.alloc (.cells #[u] t)) ⟨w.heap.size,0,none⟩ [u]:=by
 intro j x hx
 match j,hx with
 | 0,hx=>simp at hx;subst hx;simp[addAt]

theorem wpList_append_e{α:Type}{ops:Array Oper}{rest:List Oper}{o:Oper}{a:Act}{Q:Exit→Act→World→Prop}(w:World)(enc:α→Value)(hone:∀(l:List α),∀u∈l.map enc,u.oneCell'=true)(B sT eT:Nat)(z:Value)(bytes:Nat)
  (hU:Tryz.prog.underlying sT=some (.slice eT)) (hI:(Tryz.prog.info? eT).map (fun i=>(i.zero,i.size,i.bytes))=some (some z,1,bytes)) (hz:z.cells.size=1) (hby:bytes≤24) (hgd:o.guard=none) (s x:Operand)
  (ho:o.op=.call {callee:=.builtin .append,args:=#[s,x],argTypes:=#[sT,sT]})
  (v:Value) (xs:List α) (hs:a.eval s=v) (hrow:RowE B eT enc w v xs) (ad:Addr) (m c:Nat) (cs:List α) (hx:a.eval x=.slice (some ad) m c) (hm:cs.length=m) (hcs:CellsAt w ad (cs.map enc)) (hlen:xs.length+cs.length≤1000000000) (hB:B≤w.heap.size)
  (h:∀v' w',RowE B eT enc w' v' (xs++cs)→w.grownBy w' v.ownBlock→wpList Tryz.prog ops Q rest (a.put o.dst v') w'):wpList Tryz.prog ops Q (o::rest) a w:=by
 subst hm
 obtain⟨i0,hi,hz0,hz1,hz2⟩:=info_parts hI
 have hmul:(xs.length+cs.length)*bytes≤1000000000*24:=Nat.mul_le_mul hlen hby
 refine wpList_append_own w hgd s x sT ho B eT i0 z 1 bytes hU hi hz0 hz1 hz2 hz (by decide) v xs.length (xs.map enc) hs hrow ad cs.length c (cs.map enc) hx (by simp) hcs (hone _) (by simp only[maxLen];omega) (by omega) hB ?_
 intro v' w' h1 h2 _
 refine h v' w' ?_ h2
 unfold RowE
 rw[List.length_append,List.map_append]
 exact h1

end Go.Proofs.YtcfociogljhbiaaGreatDoor

namespace Go.Proofs.YtcfociogljhbiaaGreatDoor
open Go.RowKit

abbrev Same(w w':World):Prop:=Kept (fun _=>False) w w'

theorem Same.trans{a b c:World}(h:Same a b)(k:Same b c):Same a c:=Kept.trans h k (fun _ _ h=>h) (fun _ _ h=>h)

theorem Same.then{a b c:World}{F:Nat→Prop}(h:Same a b)(k:Kept F b c)(hF:∀x,x<a.heap.size→¬F x):Same a c:=Kept.trans h k (fun _ _ h=>h) (fun x hx f=>hF x hx f)

theorem SrcE.same{α:Type}{enc:α→Value}{w w':World}{I:Nat→Prop}{v:Value}{xs:List α}(h:SrcE enc w I v xs)(hk:Same w w'):SrcE enc w' I v xs:=h.kept hk (fun _ _ _ f=>f)

theorem RowE.same{α:Type}{enc:α→Value}{B t:Nat}{w w':World}{v:Value}{xs:List α}(h:RowE B t enc w v xs)(hk:Same w w'):RowE B t enc w' v xs:=h.kept hk (fun _ _ f=>f)

end Go.Proofs.YtcfociogljhbiaaGreatDoor

namespace Go.Proofs.YtcfociogljhbiaaGreatDoor
open Go.RowKit

def Blk(w:World)(h:Nat)(cs:Array Value)(t:TypeId):Prop:=w.heap[h]? = some (.cells cs t (0,0))

theorem Blk.lt{w:World}{h:Nat}{cs:Array Value}{t:TypeId}(b:Blk w h cs t):h<w.heap.size:=(Array.getElem?_eq_some_iff.1 b).1

theorem Blk.cell{w:World}{h:Nat}{cs:Array Value}{t:TypeId}(b:Blk w h cs t)(i:Nat):w.cell? ⟨h,i,none⟩=cs[i]?:=by
 unfold Blk at b
 simp[World.cell?,b]

theorem Blk.frozen{w:World}{h:Nat}{cs:Array Value}{t:TypeId}(b:Blk w h cs t)(i:Nat):w.frozen? ⟨h,i,none⟩=false:=by
 unfold Blk at b
 simp[World.frozen?,b]

theorem Blk.kept{F:Nat→Prop}{w w':World}{h:Nat}{cs:Array Value}{t:TypeId}(b:Blk w h cs t)(hk:Kept F w w')(hF:¬F h):Blk w' h cs t:=by
 unfold Blk
 rw[hk.block h b.lt hF]
 exact b

theorem Blk.set{w:World}{h:Nat}{cs:Array Value}{t:TypeId}(b:Blk w h cs t)(i:Nat)(u:Value):Blk (w.setCell ⟨h,i,none⟩ u) h (cs.setIfInBounds i u) t:=by
 unfold Blk at b ⊢
 simp[World.setCell,Array.getElem?_modify,b]

theorem Blk.new(w:World)(cs:Array Value)(t:TypeId):Blk (w.alloc (.cells cs t)) w.heap.size cs t:=by
 unfold Blk World.alloc
 simp

end Go.Proofs.YtcfociogljhbiaaGreatDoor

namespace Go.Proofs.YtcfociogljhbiaaGreatDoor
open Go.RowKit

structure EncOk{α:Type}(enc:α→List Value)(k:Nat):Prop where
 len:∀x,(enc x).length=k
 one:∀x,∀u∈enc x,u.oneCell'=true
 pos:0<k

theorem flat_length{α:Type}{enc:α→List Value}{k:Nat}(h:EncOk enc k)(xs:List α):(xs.flatMap enc).length=xs.length*k:=by
 induction xs with
 | nil=>simp
 | cons a r ih=>rw[List.flatMap_cons,List.length_append,ih,h.len,List.length_cons,Nat.succ_mul];omega

theorem flat_get{α:Type}{enc:α→List Value}{k:Nat}(h:EncOk enc k)(xs:List α)(j i:Nat)(hj:j<xs.length)(hi:i<k):(xs.flatMap enc)[j*k+i]? = (enc xs[j])[i]?:=by
 induction xs generalizing j with
 | nil=>simp at hj
 | cons a r ih=>
  rw[List.flatMap_cons]
  cases j with
  | zero=>
   rw[Nat.zero_mul,Nat.zero_add,List.getElem?_append_left (by rw[h.len];exact hi)]
   rfl
  | succ j=>
   rw[List.getElem?_append_right (by rw[h.len,Nat.succ_mul];omega),h.len,show(j+1)*k+i-k=j*k+i by rw[Nat.succ_mul];omega,ih j (by simpa using hj)]
   rfl

theorem flat_one{α:Type}{enc:α→List Value}{k:Nat}(h:EncOk enc k)(xs:List α):∀u∈xs.flatMap enc,u.oneCell'=true:=by
 intro u hu
 obtain⟨x,_,hx⟩:=List.mem_flatMap.1 hu
 exact h.one x u hx

abbrev RowC{α:Type}(B:Nat)(t:TypeId)(k:Nat)(enc:α→List Value)(w:World)(v:Value)(xs:List α):Prop:=w.ownsRow B t k v xs.length (xs.flatMap enc)

def SrcC{α:Type}(k:Nat)(enc:α→List Value)(w:World)(I:Nat→Prop)(v:Value)(xs:List α):Prop:=
 ∃ao cap,v=.slice ao xs.length cap∧xs.length≤cap∧(xs≠[]→∃b o,ao=Option.some ⟨b,o,none⟩∧I b∧∀j (_:j<xs.length) i (_:i<k),w.cell? ⟨b,o+(j*k+i),none⟩=(enc xs[j])[i]?)

section
variable {α:Type} {B:Nat} {t k:Nat} {enc:α→List Value} {w:World} {v:Value} {xs:List α}

theorem RowC.kept{F:Nat→Prop}{w':World}(h:RowC B t k enc w v xs)(hk:Kept F w w')(hn:∀j,v.ownBlock=some j→¬F j):RowC B t k enc w' v xs:=by
 refine⟨h.1,?_⟩
 rcases h.2 with hn' | ⟨g,cap,cur,rfl,hb,hgg,rest⟩
 ·exact .inl hn'
 ·refine .inr ⟨g,cap,cur,rfl,hb,?_,rest⟩
  rw[hk.block g (Array.getElem?_eq_some_iff.1 hgg).1 (hn g rfl)]
  exact hgg

theorem RowC.base{B':Nat}(h:RowC B t k enc w v xs)(hb:B'≤B):RowC B' t k enc w v xs:=by
 refine⟨h.1,?_⟩
 rcases h.2 with hn' | ⟨g,cap,cur,rfl,hb',rest⟩
 ·exact .inl hn'
 ·exact .inr ⟨g,cap,cur,rfl,Nat.le_trans hb hb',rest⟩

theorem RowC.nil:RowC B t k enc w (.slice none 0 0) ([]:List α):=World.ownsRow_nil w B t k

theorem RowC.lt(h:RowC B t k enc w v xs){j:Nat}(hj:v.ownBlock=some j):j<w.heap.size:=(World.ownsRow.lt h j hj).2
theorem RowC.ge(h:RowC B t k enc w v xs){j:Nat}(hj:v.ownBlock=some j):B≤j:=(World.ownsRow.lt h j hj).1

theorem RowC.shape(h:RowC B t k enc w v xs):∃ao cap,v=.slice ao xs.length cap∧(xs≠[]→∃g,ao=some ⟨g,0,none⟩)∧(ao=none→cap=0)∧xs.length≤cap∧cap≤maxLen:=by
 rcases h.2 with⟨rfl,hn⟩ | ⟨g,cap,cur,rfl,_,_,h1,h2,_⟩
 ·exact⟨none,0,by rw[hn],fun hb=>absurd (List.eq_nil_of_length_eq_zero hn) hb,fun _=>rfl,by omega,by omega⟩
 ·exact⟨_,cap,rfl,fun _=>⟨g,rfl⟩,(fun e=>by cases e),h1,h2⟩

theorem RowC.len{g n cap:Nat}(h:RowC B t k enc w (.slice (Option.some ⟨g,0,none⟩) n cap) xs):xs.length=n:=by
 rcases h.2 with⟨e,_⟩ | ⟨_,_,_,e,_⟩
 ·simp at e
 ·injection e with _ e _;exact e.symm

theorem RowC.cell{g n cap:Nat}(ok:EncOk enc k)(h:RowC B t k enc w (.slice (Option.some ⟨g,0,none⟩) n cap) xs)(j i:Nat)(hj:j<xs.length)(hi:i<k):w.cell? ⟨g,j*k+i,none⟩=(enc xs[j])[i]?:=by
 have hl:=h.len
 subst hl
 have hlt:j*k+i<xs.length*k:=by
  have:(j+1)*k≤xs.length*k:=Nat.mul_le_mul_right k hj
  rw[Nat.succ_mul]at this
  omega
 rw[h.cellAt (j*k+i) hlt,flat_get ok xs j i hj hi]

theorem RowC.frozen{g n cap:Nat}(h:RowC B t k enc w (.slice (Option.some ⟨g,0,none⟩) n cap) xs)(j:Nat):w.frozen? ⟨g,j,none⟩=false:=by
 have hl:=h.len
 subst hl
 exact World.ownsRow.frozenAt h j

theorem SrcC.ofRow(ok:EncOk enc k)(h:RowC B t k enc w v xs):SrcC k enc w (fun j=>v.ownBlock=Option.some j) v xs:=by
 obtain⟨ao,cap,hv,hg,_,hc,_⟩:=h.shape
 refine⟨ao,cap,hv,hc,fun hne=>?_⟩
 obtain⟨g,hg⟩:=hg hne
 subst hg hv
 refine⟨g,0,rfl,rfl,fun j hj i hi=>?_⟩
 rw[Nat.zero_add]
 exact RowC.cell ok h j i hj hi

theorem SrcC.mono{I J:Nat→Prop}(h:SrcC k enc w I v xs)(hJ:∀j,I j→J j):SrcC k enc w J v xs:=by
 obtain⟨ao,cap,hv,hcap,hc⟩:=h
 refine⟨ao,cap,hv,hcap,fun hne=>?_⟩
 obtain⟨b,o,h1,h2,h3⟩:=hc hne
 exact⟨b,o,h1,hJ b h2,h3⟩

theorem SrcC.kept(ok:EncOk enc k){F I:Nat→Prop}{w':World}(h:SrcC k enc w I v xs)(hk:Kept F w w')(hn:∀j,I j→j<w.heap.size→¬F j):SrcC k enc w' I v xs:=by
 obtain⟨ao,cap,hv,hcap,hc⟩:=h
 refine⟨ao,cap,hv,hcap,fun hne=>?_⟩
 obtain⟨b,o,h1,h2,h3⟩:=hc hne
 refine⟨b,o,h1,h2,fun j hj i hi=>?_⟩
 have hc:=h3 j hj i hi
 have hl:=ok.len xs[j]
 rw[List.getElem?_eq_getElem (by omega)]at hc ⊢
 exact hk.cell hc (hn b h2 (World.block_lt_of_cell? w _ hc))

end

theorem wpList_append_c{α:Type}{ops:Array Oper}{rest:List Oper}{o:Oper}{a:Act}{Q:Exit→Act→World→Prop}(w:World)(enc:α→List Value)(k:Nat)(ok:EncOk enc k)(_hk:k≤100)(B sT eT:Nat)(z:Value)(bytes:Nat)
  (hU:Tryz.prog.underlying sT=some (.slice eT)) (hI:(Tryz.prog.info? eT).map (fun i=>(i.zero,i.size,i.bytes))=some (some z,k,bytes)) (hz:z.cells.size=k) (hby:bytes≤1000) (hgd:o.guard=none) (s x:Operand)
  (ho:o.op=.call {callee:=.builtin .append,args:=#[s,x],argTypes:=#[sT,sT]})
  (v:Value) (xs:List α) (hs:a.eval s=v) (hrow:RowC B eT k enc w v xs) (ad:Addr) (m c:Nat) (cs:List α) (hx:a.eval x=.slice (some ad) m c) (hm:cs.length=m) (hcs:CellsAt w ad (cs.flatMap enc)) (hlen:xs.length+cs.length≤1000000000) (hB:B≤w.heap.size)
  (h:∀v' w',RowC B eT k enc w' v' (xs++cs)→w.grownBy w' v.ownBlock→wpList Tryz.prog ops Q rest (a.put o.dst v') w'):wpList Tryz.prog ops Q (o::rest) a w:=by
 subst hm
 obtain⟨i0,hi,hz0,hz1,hz2⟩:=info_parts hI
 have hmul:(xs.length+cs.length)*bytes≤1000000000*1000:=Nat.mul_le_mul hlen hby
 refine wpList_append_own w hgd s x sT ho B eT i0 z k bytes hU hi hz0 hz1 hz2 hz ok.pos v xs.length (xs.flatMap enc) hs hrow ad cs.length c (cs.flatMap enc) hx (flat_length ok cs) hcs (flat_one ok cs) (by simp only[maxLen];omega) (by omega) hB ?_
 intro v' w' h1 h2 _
 refine h v' w' ?_ h2
 unfold RowC
 rw[List.length_append,List.flatMap_append]
 exact h1

end Go.Proofs.YtcfociogljhbiaaGreatDoor

namespace Go.Proofs.YtcfociogljhbiaaGreatDoor
open Go.RowKit

structure Ver where
 t:Int
 there:Bool
 data:ByteArray
 deriving DecidableEq

instance:Inhabited Ver:=⟨⟨0,false,⟨#[]⟩⟩⟩

def ver0:Ver:=⟨0,false,⟨#[]⟩⟩

def verE(v:Ver):List Value:=[.int .i64 v.t,.bool v.there,.string v.data]
theorem verE_ok:EncOk verE 3:=⟨fun _=>rfl,fun x u hu=>by simp[verE]at hu;rcases hu with rfl | rfl | rfl<;>rfl,by decide⟩

def upV(l:List Ver)(t:Int):Nat:=l.countP (fun v=>decide (v.t≤t))

def newV(l:List Ver)(t:Int):Ver:=if upV l t=0 then ver0 else l.getD (upV l t-1) ver0

theorem upV_le(l:List Ver)(t:Int):upV l t≤l.length:=List.countP_le_length

def RisV(l:List Ver):Prop:=l.Pairwise (fun a b=>a.t<b.t)

theorem upV_take{l:List Ver}(h:RisV l)(t:Int):l.take (upV l t)=l.filter (fun v=>decide (v.t≤t)):=by
 induction l with
 | nil=>rfl
 | cons a r ih=>
  have h2:=List.pairwise_cons.1 h
  unfold upV
  by_cases e:a.t≤t
  ·rw[List.countP_cons_of_pos (by simpa using e),List.take_succ_cons,List.filter_cons_of_pos (by simpa using e)]
   congr 1
   exact ih h2.2
  ·have hn:∀v∈r,¬(decide (v.t≤t)=true):=fun v hv=>by have:=h2.1 v hv;simp;omega
   rw[List.countP_cons_of_neg (by simpa using e),List.filter_cons_of_neg (by simpa using e),List.countP_eq_zero.2 hn,List.filter_eq_nil_iff.2 hn]
   rfl

theorem upV_lt{l:List Ver}(h:RisV l)(t:Int)(i:Nat)(hi:i<l.length):i<upV l t↔l[i].t≤t:=by
 induction l generalizing i with
 | nil=>simp at hi
 | cons a r ih=>
  have h2:=List.pairwise_cons.1 h
  unfold upV
  by_cases e:a.t≤t
  ·rw[List.countP_cons_of_pos (by simpa using e)]
   cases i with
   | zero=>simp[e]
   | succ i=>
    have:=ih h2.2 i (by simpa using hi)
    unfold upV at this
    simp only[List.getElem_cons_succ]
    omega
  ·have hn:∀v∈r,¬(decide (v.t≤t)=true):=fun v hv=>by have:=h2.1 v hv;simp;omega
   rw[List.countP_cons_of_neg (by simpa using e),List.countP_eq_zero.2 hn]
   cases i with
   | zero=>simp;omega
   | succ i=>
    simp only[List.getElem_cons_succ]
    have hi2:i<r.length:=by simpa using hi
    have:=h2.1 r[i] (List.getElem_mem _)
    omega

theorem upV_range{l:List Ver}(h:RisV l)(t:Int):(List.range l.length).countP (fun i=>!decide (t<(l.getD i ver0).t))=upV l t:=by
 have e:∀m,m≤l.length→(List.range m).countP (fun i=>!decide (t<(l.getD i ver0).t))=min m (upV l t):=by
  intro m
  induction m with
  | zero=>intro _;simp
  | succ m ih=>
   intro hm
   have hg:l.getD m ver0=l[m]:=by simp[List.getD,show m<l.length by omega]
   have hl:=upV_lt h t m (by omega)
   rw[List.range_succ,List.countP_append,ih (by omega),List.countP_singleton,hg]
   by_cases e:l[m].t≤t
   ·have:=hl.2 e
    rw[if_pos (by simp;omega)]
    omega
   ·have:¬m<upV l t:=fun e2=>e (hl.1 e2)
    rw[if_neg (by simp;omega)]
    omega
 rw[e l.length (Nat.le_refl _)]
 have:=upV_le l t
 omega

theorem newV_filter{l:List Ver}(h:RisV l)(t:Int):newV l t=((l.filter (fun v=>decide (v.t≤t))).getLast?).getD ver0:=by
 rw[←upV_take h t]
 unfold newV
 have hle:=upV_le l t
 split
 ·rename_i e
  rw[e]
  simp
 ·rw[List.getLast?_take]
  rw[if_neg (by assumption),List.getD]
  cases hg:l[upV l t-1]? with
  | some v=>simp
  | none=>rw[List.getElem?_eq_none_iff]at hg;omega

def putV(l:List Ver)(v:Ver):List Ver:=l.filter (fun x=>decide (x.t≤v.t-1))++[v]

def pruV(l:List Ver)(f:Int):List Ver:=l.drop (if (newV l f).there then upV l f-1 else upV l f)

theorem filter_ris{l:List Ver}(h:RisV l)(p:Ver→Bool):RisV (l.filter p):=List.Pairwise.filter _ h

theorem putV_ris{l:List Ver}(h:RisV l)(v:Ver):RisV (putV l v):=by
 unfold putV RisV
 rw[List.pairwise_append]
 refine⟨filter_ris h _,List.pairwise_singleton _ _,fun a ha b hb=>?_⟩
 rw[List.mem_singleton]at hb
 subst hb
 have:=(List.mem_filter.1 ha).2
 simp at this
 omega

theorem pruV_ris{l:List Ver}(h:RisV l)(f:Int):RisV (pruV l f):=List.Pairwise.drop h

theorem putV_len(l:List Ver)(v:Ver):(putV l v).length≤l.length+1:=by
 unfold putV
 rw[List.length_append]
 have:=List.length_filter_le (fun x=>decide (x.t≤v.t-1)) l
 simp only[List.length_singleton]
 omega

theorem pruV_len(l:List Ver)(f:Int):(pruV l f).length≤l.length:=by
 unfold pruV
 rw[List.length_drop]
 omega

theorem putV_mem{l:List Ver}{v x:Ver}(h:x∈putV l v):x=v∨(x∈l∧x.t≤v.t-1):=by
 unfold putV at h
 rcases List.mem_append.1 h with h | h
 ·have:=List.mem_filter.1 h
  exact .inr ⟨this.1,by simpa using this.2⟩
 ·exact .inl (by simpa using h)

theorem pruV_mem{l:List Ver}{f:Int}{x:Ver}(h:x∈pruV l f):x∈l:=List.mem_of_mem_drop h

def visV(l:List Ver)(t:Int):Option ByteArray:=if (newV l t).there then some (newV l t).data else none

theorem newV_put_old{l:List Ver}(h:RisV l)(v:Ver)(hl:∀x∈l,x.t≤v.t){t:Int}(ht:t<v.t):newV (putV l v) t=newV l t:=by
 rw[newV_filter (putV_ris h v),newV_filter h]
 congr 2
 unfold putV
 rw[List.filter_append,List.filter_filter,show List.filter (fun v=>decide (v.t≤t)) [v]=[]from List.filter_eq_nil_iff.2 (fun x hx=>by rw[List.mem_singleton]at hx;subst hx;simp;omega),List.append_nil]
 refine List.filter_congr (fun x _=>?_)
 by_cases e:x.t≤t
 ·simp[e];omega
 ·simp[e]

theorem newV_put_new{l:List Ver}(h:RisV l)(v:Ver){t:Int}(ht:v.t≤t):newV (putV l v) t=v:=by
 rw[newV_filter (putV_ris h v)]
 unfold putV
 rw[List.filter_append,List.filter_cons_of_pos (by simpa using ht),List.filter_nil,List.getLast?_concat]
 rfl

theorem visV_prune{l:List Ver}(h:RisV l){f t:Int}(ht:f≤t):visV (pruV l f) t=visV l t:=by
 have hle:=upV_le l f
 have hmono:upV l f≤upV l t:=by
  unfold upV
  exact List.countP_mono_left (fun v _ hv=>by simp at hv ⊢;omega)
 have hle2:=upV_le l t
 obtain⟨k,hk⟩:∃k,k=if (newV l f).there then upV l f-1 else upV l f:=⟨_,rfl⟩
 have hkle:k≤upV l f:=by rw[hk];split<;>omega
 have e0:pruV l f=l.drop k:=by unfold pruV;rw[hk]
 have eu:upV (l.drop k) t=upV l t-k:=by
  have h1:(l.take k++l.drop k).countP (fun v=>decide (v.t≤t))=upV l t:=by rw[List.take_append_drop];rfl
  rw[List.countP_append]at h1
  have h2:(l.take k).countP (fun v=>decide (v.t≤t))=(l.take k).length:=by
   rw[List.countP_eq_length]
   intro v hv
   obtain⟨i,hi,rfl⟩:=List.mem_iff_getElem.1 hv
   rw[List.length_take]at hi
   have:=(upV_lt h t i (by omega)).1 (by omega)
   simpa using this
  rw[List.length_take]at h2
  unfold upV at *
  omega
 rw[e0]
 by_cases hkt:k<upV l t
 ·have:newV (l.drop k) t=newV l t:=by
   unfold newV
   rw[eu,if_neg (by omega),if_neg (by omega)]
   rw[List.getD,List.getD,List.getElem?_drop]
   congr 2
   omega
  unfold visV
  rw[this]
 ·have e1:upV l t=k:=by omega
  have e2:newV (l.drop k) t=ver0:=by unfold newV;rw[eu,if_pos (by omega)]
  have e3:upV l t=upV l f:=by omega
  have e4:newV l t=newV l f:=by unfold newV;rw[e3]
  have e5:(newV l f).there=false:=by
   cases hth:(newV l f).there with
   | false=>rfl
   | true=>
    rw[hth]at hk
    simp only[if_true]at hk
    have:upV l f≠0:=by
     intro e
     unfold newV at hth
     rw[if_pos e]at hth
     cases hth
    omega
  unfold visV
  rw[e2,e4,e5]
  rfl

end Go.Proofs.YtcfociogljhbiaaGreatDoor

namespace Go.Proofs.YtcfociogljhbiaaGreatDoor
open Go.RowKit

theorem run_append_none12(w:World)(base:Nat)(t ty e:TypeId)(i:TypeInfo)(size c:Nat)(ht:Tryz.prog.underlying t=some (.slice e))(hi:Tryz.prog.info? e=some i)(v:Value)(n:Nat)(xs:List Value)(hown:w.ownsRow base e size v n xs):(Builtin.append_ #[t,t] ty #[v,.slice none 0 c]).run Tryz.prog w=.ok v w:=by
 rcases hown.2 with⟨rfl,rfl⟩ | ⟨g,cap,cur,rfl,_,_,hnc,_⟩
 ·simp[Builtin.append_,run_underlying ht,sizeOf,typeInfo,hi,Builtin.lenOf,Builtin.firstCells]
 ·simp[Builtin.append_,run_underlying ht,sizeOf,typeInfo,hi,Builtin.lenOf,Builtin.firstCells,hnc,storeCells]

theorem wpList_append_12{α:Type}{ops:Array Oper}{rest:List Oper}{o:Oper}{a:Act}{Q:Exit→Act→World→Prop}(w:World)(enc:α→List Value)(k:Nat)(ok:EncOk enc k)(hk:k≤100)(B sT eT:Nat)(z:Value)(bytes:Nat)
  (hU:Tryz.prog.underlying sT=some (.slice eT)) (hI:(Tryz.prog.info? eT).map (fun i=>(i.zero,i.size,i.bytes))=some (some z,k,bytes)) (hz:z.cells.size=k) (hby:bytes≤1000) (hgd:o.guard=none) (s x:Operand)
  (ho:o.op=.call {callee:=.builtin .append,args:=#[s,x],argTypes:=#[sT,sT]})
  (v:Value) (xs:List α) (hs:a.eval s=v) (hrow:RowC B eT k enc w v xs) (ao:Option Addr) (n c:Nat) (cs:List α) (hx:a.eval x=.slice ao n c) (hn:cs.length=n) (hsrc:∀ad,ao=some ad→CellsAt w ad (cs.flatMap enc)) (h0:ao=none→cs=[]) (hlen:xs.length+cs.length≤1000000000) (hB:B≤w.heap.size)
  (h:∀v' w',RowC B eT k enc w' v' (xs++cs)→w.grownBy w' v.ownBlock→wpList Tryz.prog ops Q rest (a.put o.dst v') w'):wpList Tryz.prog ops Q (o::rest) a w:=by
 cases ao with
 | some ad=>exact wpList_append_c w enc k ok hk B sT eT z bytes hU hI hz hby hgd s x ho v xs hs hrow ad n c cs hx hn (hsrc ad rfl) hlen hB h
 | none=>
  have e0:=h0 rfl
  subst e0
  have hn0:n=0:=hn.symm
  subst hn0
  obtain⟨i0,hi,hz0,hz1,hz2⟩:=info_parts hI
  refine wpList_plain hgd fun K hK=>?_
  have hr:=run_append_none12 w B sT o.type eT i0 k c hU hi v xs.length (xs.flatMap enc) hrow
  unfold Oper.wp execOp
  simp only[ho,resolve,invoke,builtin,Sem.run_bind,Sem.run_pure,Result.andThen_ok,List.map_toArray,List.map_cons,List.map_nil,hs,hx,hr]
  exact hK _ _ (h v w (by simpa using hrow) (World.grownBy.refl _ _))

end Go.Proofs.YtcfociogljhbiaaGreatDoor

namespace Go.Proofs.YtcfociogljhbiaaGreatDoor
open Go.RowKit

theorem RowC.ty{α:Type}{B t k:Nat}{enc:α→List Value}{w:World}{v:Value}{xs:List α}(h:RowC B t k enc w v xs){j:Nat}(hj:v.ownBlock=some j):∃cur,w.heap[j]? = some (.cells cur t (0,0)):=by
 rcases h.2 with⟨rfl,_⟩ | ⟨g,cap,cur,rfl,_,hg,_⟩
 ·cases hj
 ·cases hj
  exact⟨cur,hg⟩

theorem RowC.offB{α:Type}{B t k:Nat}{enc:α→List Value}{w:World}{v:Value}{xs:List α}(h:RowC B t k enc w v xs){q:Nat}{cs:Array Value}{t':TypeId}(hb:Blk w q cs t')(hne:t≠t'):v.ownBlock≠some q:=fun e=>by
 obtain⟨cur,hc⟩:=h.ty e
 unfold Blk at hb
 rw[hb]at hc
 injection hc with hc
 injection hc with _ hc _
 exact hne hc.symm

theorem RowC.offR{α β:Type}{B B' t t' k k':Nat}{enc:α→List Value}{enc':β→List Value}{w:World}{v v':Value}{xs:List α}{ys:List β}(h:RowC B t k enc w v xs)(h':RowC B' t' k' enc' w v' ys)(hne:t≠t'):∀j,v.ownBlock=some j→v'.ownBlock≠some j:=fun j e e'=>by
 obtain⟨cur,hc⟩:=h.ty e
 obtain⟨cur',hc'⟩:=h'.ty e'
 rw[hc]at hc'
 injection hc' with hc'
 injection hc' with _ hc' _
 exact hne hc'

end Go.Proofs.YtcfociogljhbiaaGreatDoor

namespace Go.Proofs.YtcfociogljhbiaaGreatDoor
open Go.RowKit
theorem set2{w:World}{g:Nat}{a0 a1 x0 x1:Value}{t:TypeId}(hb:Blk w g #[a0,a1] t):Blk ((w.setCell ⟨g,0,none⟩ x0).setCell ⟨g,1,none⟩ x1) g #[x0,x1] t∧Kept (·=g) w ((w.setCell ⟨g,0,none⟩ x0).setCell ⟨g,1,none⟩ x1):=by
 refine⟨?_,((Kept.refl (·=g) w).setCell _ _ (.inl rfl)).setCell _ _ (.inl rfl)⟩
 have h9:=(hb.set 0 x0).set 1 x1
 simpa using h9

end Go.Proofs.YtcfociogljhbiaaGreatDoor
