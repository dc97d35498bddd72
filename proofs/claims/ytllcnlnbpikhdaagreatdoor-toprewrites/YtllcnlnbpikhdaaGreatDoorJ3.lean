import Derived.Test.YtllcnlnbpikhdaaGreatDoorProg
import Derived.Test.YtllcnlnbpikhdaaGreatDoorJ2
set_option maxHeartbeats 1000000
namespace Go.Proofs.YtllcnlnbpikhdaaGreatDoor
open Go.RowKit
theorem Tryz.info8:(Tryz.prog.info? 5).map (λi=>(i.zero,i.size,i.bytes))=some (some (.int .u8 0),1,1):=by kernel_rfl
theorem cL(b o j:Nat):(⟨b,o,none⟩:Addr).add j=⟨b,o+j,none⟩:=by unfold Addr.add;simp
def fP(w:World)(a:Addr)(cs:List Nat):Prop:=∀j u,(cs.map bj)[j]? = some u->w.cell? (a.add j)=some u
theorem gv(w:World)(ty:TypeId)(v:Value)(bs:List Nat)(hrow:Row w v bs)(a:Addr)(c:Nat)(cs:List Nat)(eO:fP w a cs)(ag:bs.length+cs.length≤1000000000000):
  ∃v' w',(Builtin.append_ #[22,22] ty #[v,.slice (some a) cs.length c]).run Tryz.prog w=.ok v' w'/\Row w' v' (bs++cs)/\w.grownBy w' v.ownBlock /\
   (v'.ownBlock=v.ownBlock\/v'.ownBlock=some w.heap.size):=by
 obtain⟨i0,hi,iq,iG,fW⟩:=info_parts Tryz.info8;have hl:(cs.map bj).length=cs.length*1:=by simp
 have LN:bs.length+cs.length<=maxLen:=by simp only[maxLen];omega
 obtain⟨v',w',hr,ho,hg,_⟩:=run_append_own (P:=Tryz.prog) w 0 22 ty 5 i0 (.int .u8 0) 1 1 Tryz.underlying22 hi iq iG fW rfl (by decide) v bs.length (bs.map bj) hrow a cs.length c (cs.map bj) hl eO (kr _) LN (by omega) (Nat.zero_le _);refine⟨v',w',hr,by simpa[Row]using ho,hg,?_⟩;have cX:i0.size=1:=iG;rcases hrow.2 with⟨rfl,hn⟩ | ⟨g,cap,cur,rfl,_⟩
 ·by_cases hm:cs.length=0
  ·have e0:cs=[]:=List.eq_nil_of_length_eq_zero hm;have PI:bs=[]:=List.eq_nil_of_length_eq_zero hn;subst e0 PI;rcases ho.2 with⟨e,_⟩ | ⟨g',cap',cur',e,_,hh,_⟩
   ·exact .inl (by rw[e])
   ·by_cases hlt:g'<w.heap.size
    ·exfalso;have hr2:(Builtin.append_ #[22,22] ty #[.slice none 0 0,.slice (some a) ([]:List Nat).length c]).run Tryz.prog w=.ok (.slice none 0 0) w:=by
      simp[Builtin.append_,run_underlying Tryz.underlying22,sizeOf,typeInfo,hi,Builtin.lenOf,Builtin.firstCells,loadCells,loadCellsFrom]
     rw[hr]at hr2;simp only[Result.ok.injEq]at hr2;rw[e]at hr2;simp at hr2
    ·exfalso;have hr2:(Builtin.append_ #[22,22] ty #[.slice none 0 0,.slice (some a) ([]:List Nat).length c]).run Tryz.prog w=.ok (.slice none 0 0) w:=by
      simp[Builtin.append_,run_underlying Tryz.underlying22,sizeOf,typeInfo,hi,Builtin.lenOf,Builtin.firstCells,loadCells,loadCellsFrom]
     rw[hr]at hr2;simp only[Result.ok.injEq]at hr2;rw[e]at hr2;simp at hr2
  ·have hr2:=run_append_nil (P:=Tryz.prog) w 22 ty 5 i0 (.int .u8 0) Tryz.underlying22 hi iq a cs.length c (cs.map bj) (by rw[cX];simp) eO (by omega) (by omega) (by rw[fW];omega);rw[hr]at hr2;simp only[Result.ok.injEq]at hr2;exact .inr (by rw[hr2.1];rfl)
 ·by_cases ir:bs.length+cs.length<=cap
  ·obtain⟨w2,hr2,_⟩:=run_append_fits (P:=Tryz.prog) w 0 22 ty 5 i0 1 Tryz.underlying22 hi iG g bs.length cap (bs.map bj) hrow a cs.length c (cs.map bj) hl eO (kr _) ir;rw[hr]at hr2;simp only[Result.ok.injEq]at hr2;exact .inl (by rw[hr2.1];rfl)
  ·have hr2:=run_append_grow (P:=Tryz.prog) w 22 ty 5 i0 (.int .u8 0) Tryz.underlying22 hi iq ⟨g,0,none⟩ bs.length cap (bs.map bj) (by rw[cX];simp) (hrow.cells (g:=g) rfl) a cs.length c (cs.map bj) (by rw[cX];simp) eO (by omega) (by omega) (growslice_fits (by omega) (by rw[fW];omega));rw[hr]at hr2;simp only[Result.ok.injEq]at hr2;exact .inr (by rw[hr2.1];rfl)
theorem eA{ops:Array Oper}{rest:List Oper}{o:Oper}{a:Act}{Q:Exit→Act→World→Prop}(w:World)(jL:o.guard=none)(s x:Operand)
  (ho:o.op=.call {callee:=.builtin .append,args:=#[s,x],argTypes:=#[22,22]})
  (v:Value) (bs:List Nat) (hs:a.eval s=v) (hrow:Row w v bs) (ad:Addr) (m c:Nat) (cs:List Nat) (hx:a.eval x=.slice (some ad) m c) (hm:cs.length=m) (eO:fP w ad cs) (ag:bs.length+cs.length<=1000000000000)
  (h:∀v' w',Row w' v' (bs++cs)->w.grownBy w' v.ownBlock->(v'.ownBlock=v.ownBlock\/v'.ownBlock=some w.heap.size)->wpList Tryz.prog ops Q rest (a.put o.dst v') w'):wpList Tryz.prog ops Q (o::rest) a w:=by
 subst hm;refine wpList_plain jL λK hK=>?_
 obtain⟨v',w',hr,h2,h3,h4⟩:=gv w o.type v bs hrow ad c cs eO ag;unfold Oper.wp execOp;simp only[ho,resolve,invoke,builtin,Sem.run_bind,Sem.run_pure,Result.andThen_ok,List.map_toArray,List.map_cons,List.map_nil,hs,hx,hr];exact hK _ _ (h v' w' h2 h3 h4)
theorem ip(w:World)(n:Nat):fP (w.alloc (.cells #[.int .u8 n] 5)) ⟨w.heap.size,0,none⟩ [n]:=by
 intro j u hu
 match j,hu with
 | 0,hu=>simp[bj]at hu;subst hu;simp[cL]
theorem Tryz.size8:(Tryz.prog.info? 5).map (·.size)=some 1:=by kernel_rfl
def Src(w:World)(I:Nat->Prop)(v:Value)(cs:List Nat):Prop:=
 ∃ao cap,v=.slice ao cs.length cap/\(cs≠[]->∃b o,ao=some ⟨b,o,none⟩/\I b/\∀j (_:j<cs.length),w.cell? ⟨b,o+j,none⟩=some (.int .u8 (cs[j]:Nat)))
theorem Src.ofRow{w:World}{v:Value}{bs:List Nat}(h:Row w v bs):Src w (λk=>v.ownBlock=some k) v bs:=by obtain⟨ao,cap,hv,hg⟩:=h.shape;refine⟨ao,cap,hv,λbh=>?_⟩;obtain⟨g,hg⟩:=hg bh;subst hg hv;refine⟨g,0,rfl,rfl,λj hj=>?_⟩;rw[Nat.zero_add];exact Row.cell h j hj
theorem Src.mono{w:World}{I J:Nat->Prop}{v:Value}{cs:List Nat}(h:Src w I v cs)(hJ:∀k,I k->J k):Src w J v cs:=by obtain⟨ao,cap,hv,hc⟩:=h;refine⟨ao,cap,hv,λbh=>?_⟩;obtain⟨b,o,h1,h2,h3⟩:=hc bh;exact⟨b,o,h1,hJ b h2,h3⟩
theorem Src.kept{F I:Nat->Prop}{w w':World}{v:Value}{cs:List Nat}(h:Src w I v cs)(hk:Kept F w w')(hn:∀k,I k->k<w.heap.size->¬F k):Src w' I v cs:=by obtain⟨ao,cap,hv,hc⟩:=h;refine⟨ao,cap,hv,λbh=>?_⟩;obtain⟨b,o,h1,h2,h3⟩:=hc bh;have ag:0<cs.length:=List.length_pos_iff.2 bh;have hb:b<w.heap.size:=World.block_lt_of_cell? w _ (h3 0 ag);exact⟨b,o,h1,h2,λj hj=>hk.cell (h3 j hj) (hn b h2 hb)⟩
theorem Src.at{w:World}{I:Nat->Prop}{ao:Option Addr}{n cap:Nat}{cs:List Nat}(h:Src w I (.slice ao n cap) cs):n=cs.length/\(cs≠[]->∃a,ao=some a/\fP w a cs):=by obtain⟨ao',cap',hv,hc⟩:=h;injection hv with h1 h2 h3;subst h1;refine⟨h2,λbh=>?_⟩;obtain⟨b,o,h4,_,h6⟩:=hc bh;refine⟨_,h4,λj u hu=>?_⟩;obtain⟨hj,hu⟩:=List.getElem?_eq_some_iff.1 hu;rw[cL,h6 j (by simpa using hj),<-hu];simp[bj]
theorem Fg{w:World}{g n cap:Nat}{xs:List Value}{bs:List Nat}(h:w.ownsRow 0 5 1 (.slice (some ⟨g,0,none⟩) n cap) n xs)(hx:xs=bs.map bj):Row w (.slice (some ⟨g,0,none⟩) n cap) bs:=by subst hx;have:=h.1;simp at this;unfold Row;rw[this];exact h
theorem ii{ops:Array Oper}{rest:List Oper}{o:Oper}{a:Act}{Q:Exit→Act→World→Prop}(w:World)(hg:o.guard=none)(l c:Operand)(ni:o.op=Op.makeSlice 22 l c)(kl kc:IntKind)(L C:Int)(n:Nat)
  (hl:a.eval l=.int kl L) (hc:a.eval c=.int kc C) (hL:L=(n:Int)) (hC:C=(n:Int)) (hn:n<=1000000000000)
  (hK:∀w',Row w' (.slice (some ⟨w.heap.size,0,none⟩) n n) (List.replicate n 0)->w.grownBy w' none->w.heap.size<w'.heap.size->wpList Tryz.prog ops Q rest (a.put o.dst (.slice (some ⟨w.heap.size,0,none⟩) n n)) w'):wpList Tryz.prog ops Q (o::rest) a w:=by
 obtain⟨i0,hi,iq,iG,fW⟩:=info_parts Tryz.info8;refine wpList_make_full w hg l c 22 ni 0 5 i0 (.int .u8 0) 1 Tryz.underlying22 hi iq iG kl kc L C n hl hc hL hC (by rw[fW];omega) (by simp only[maxLen];omega) (Nat.zero_le _) ?_;intro w' h1 h2;refine hK w' (Fg h1 ?_) h2 (World.ownsRow.lt h1 w.heap.size rfl).2;have e:(Value.int .u8 0).cells=#[.int .u8 0]:=rfl;rw[e,Nat.mul_one,toList_madeCells_one];simp[bj]
theorem ev{ops:Array Oper}{rest:List Oper}{o:Oper}{a:Act}{Q:Exit→Act→World→Prop}(w:World)(jL:o.guard=none)(d s:Operand)(ho:o.op=.call {callee:=.builtin .copy,args:=#[d,s],argTypes:=#[22,22]})
  (g n cap:Nat) (sp:Option Addr) (m c:Nat) (ds cs:List Nat) (I:Nat->Prop) (hd:a.eval d=.slice (some ⟨g,0,none⟩) n cap) (hs:a.eval s=.slice sp m c)
  (hrow:Row w (.slice (some ⟨g,0,none⟩) n cap) ds) (hsrc:Src w I (.slice sp m c) cs) (md:cs.length<=ds.length)
  (hK:∀w',Row w' (.slice (some ⟨g,0,none⟩) n cap) (cs++ds.drop cs.length)->w.grownBy w' (some g)->w'.heap.size=w.heap.size->wpList Tryz.prog ops Q rest (a.put o.dst (goInt cs.length)) w'):wpList Tryz.prog ops Q (o::rest) a w:=by
 obtain⟨rfl,hat⟩:=hsrc.at;rcases hrow.2 with⟨h',_⟩ | ⟨g',cap',cur,h',hb,rN,Et,KQ,eO,lz⟩
 ·simp at h'
 ·simp only[Value.slice.injEq,Option.some.injEq,Addr.mk.injEq,and_true]at h';obtain⟨rfl,rfl,rfl⟩:=h';by_cases h0:cs=[]
  ·subst h0;refine wpList_copy_nothing jL d s _ _ ho 5 Tryz.underlying22 Tryz.size8 _ _ _ _ _ _ hd hs (by simp) ?_;exact hK w (by simpa using hrow) (World.grownBy.refl _ _) rfl
  ·obtain⟨ad,rfl,Mq⟩:=hat h0;refine wpList_copy_own jL d s _ _ ho 5 Tryz.underlying22 Tryz.size8 g 0 _ _ ad _ _ hd hs cur 5 rN (cs.map bj) (by rw[List.length_map];exact(Nat.min_eq_left md).symm) Mq (by simp;omega) (kr _) ?_;rw[show(goInt (cs.map bj).length)=goInt cs.length by simp];have e1:(cs++ds.drop cs.length).length=ds.length:=(by simp;omega);refine hK _ ?_ ⟨rfl,rfl,rfl,by simp,λk _ hk=>setRow_other w g k _ (λe=>hk (by simp[e]))⟩ (by simp);unfold Row;rw[e1];refine⟨by simp;omega,.inr ⟨g,cap,_,rfl,hb,setRow_heap w g cur _ 5 _ rN,Et,KQ,?_,?_⟩⟩
   ·simp;omega
   ·simp only[Nat.mul_one]at lz ⊢;simp only[List.take_zero,List.nil_append,Nat.zero_add,List.length_map];rw[List.map_append,List.map_drop,<-lz,List.drop_take,List.take_append,List.take_of_length_le (by simpa using md)];simp
theorem pN{P:Program}{ops:Array Oper}{rest:List Oper}{a:Act}{Q:Exit→Act→World→Prop}{w:World}{dst:Option Tmp}{d s:Operand}{dT sT ty:TypeId}{pos:String}{after:Array Edge}
  (h:wpList P ops Q ({dst:=dst,op:=.call {callee:=.builtin .copy,args:=#[d,s],argTypes:=#[dT,sT]},type:=ty,pos:=pos,after:=after,guard:=none}::rest) a w):
  wpList P ops Q ({dst:=dst,op:=.call {callee:=.builtin .copy,args:=#[d,s],argTypes:=#[dT,sT]},type:=ty,pos:=pos,after:=after,guard:=none}::rest) a w:=h
theorem wh(w:World)(z:Int)(n:Nat)(h:z=(n:Nat)):fP (w.alloc (.cells #[.int .u8 z] 5)) ⟨w.heap.size,0,none⟩ [n]:=by subst h;exact ip w n
theorem bE{ops:Array Oper}{rest:List Oper}{o:Oper}{a:Act}{Q:Exit→Act→World→Prop}(w:World)(jL:o.guard=none)(s x:Operand)
  (ho:o.op=.call {callee:=.builtin .append,args:=#[s,x],argTypes:=#[22,22]})
  (v:Value) (bs:List Nat) (hs:a.eval s=v) (hrow:Row w v bs) (I:Nat->Prop) (xv:Value) (cs:List Nat) (hx:a.eval x=xv) (fh:∀n c,xv=.slice none n c->n=0/\c=0) (hsrc:Src w I xv cs) (ag:bs.length+cs.length<=1000000000000)
  (h:∀v' w',Row w' v' (bs++cs)->w.grownBy w' v.ownBlock->(v'.ownBlock=v.ownBlock\/v'.ownBlock=some w.heap.size)->wpList Tryz.prog ops Q rest (a.put o.dst v') w'):wpList Tryz.prog ops Q (o::rest) a w:=by
 obtain⟨ao,cap,rfl,hc⟩:=id hsrc;cases ao with
 | some ad=>
  refine eA w jL s x ho v bs hs hrow ad cs.length cap cs hx rfl ?_ ag h;by_cases h0:cs=[]
  ·subst h0;intro j u hu;simp at hu
  ·obtain⟨a',e,hb⟩:=(Src.at hsrc).2 h0;injection e with e;subst e;exact hb
 | none=>
  obtain⟨h0,h1⟩:=fh _ _ rfl;have eO:cs=[]:=List.eq_nil_of_length_eq_zero h0;subst eO h1;obtain⟨i0,hi,iq,iG,fW⟩:=info_parts Tryz.info8;refine wpList_plain jL λK hK=>?_
  have hr:=run_append_owned_none (P:=Tryz.prog) w 0 22 o.type 5 i0 1 Tryz.underlying22 hi v bs.length (bs.map bj) hrow;unfold Oper.wp execOp;simp only[ho,resolve,invoke,builtin,Sem.run_bind,Sem.run_pure,Result.andThen_ok,List.map_toArray,List.map_cons,List.map_nil,hs,hx,List.length_nil,hr];exact hK _ _ (h v w (by simpa using hrow) (World.grownBy.refl _ _) (.inl rfl))
theorem Row.cut{w:World}{g n cap:Nat}{bs cs:List Nat}(h:Row w (.slice (some ⟨g,0,none⟩) n cap) (bs++cs)):Row w (.slice (some ⟨g,0,none⟩) bs.length cap) bs:=by
 rcases h.2 with⟨h',_⟩ | ⟨g',cap',cur,h',hb,rN,Et,KQ,eO,lz⟩
 ·simp at h'
 ·simp only[Value.slice.injEq,Option.some.injEq,Addr.mk.injEq,and_true]at h';obtain⟨rfl,rfl,rfl⟩:=h';refine⟨by simp,.inr ⟨g,cap,cur,rfl,hb,rN,?_,KQ,eO,?_⟩⟩
  ·simp at Et;omega
  ·simp only[Nat.mul_one,List.length_append]at lz ⊢;have e:List.take bs.length cur.toList=List.take bs.length (List.take (bs.length+cs.length) cur.toList):=(by rw[List.take_take];congr 1;omega);rw[e,lz,List.map_append,List.take_append,List.take_of_length_le (by simp)];simp
theorem nF{ops:Array Oper}{rest:List Oper}{o:Oper}{a:Act}{Q:Exit→Act→World→Prop}(w:World)(hg:o.guard=none)(l c:Operand)(ni:o.op=Op.makeSlice 22 l c)(kl kc:IntKind)(L C:Int)(n m:Nat)
  (hl:a.eval l=.int kl L) (hc:a.eval c=.int kc C) (hL:L=(n:Int)) (hC:C=(m:Int)) (Eq:n<=m) (hn:m<=1000000000000)
  (hK:∀w',Row w' (.slice (some ⟨w.heap.size,0,none⟩) n m) (List.replicate n 0)->w.grownBy w' none->w.heap.size<w'.heap.size->wpList Tryz.prog ops Q rest (a.put o.dst (.slice (some ⟨w.heap.size,0,none⟩) n m)) w'):wpList Tryz.prog ops Q (o::rest) a w:=by
 obtain⟨i0,hi,iq,iG,fW⟩:=info_parts Tryz.info8;have hr:=run_make (P:=Tryz.prog) w 22 5 i0 (.int .u8 0) Tryz.underlying22 hi iq kl kc n m (by omega) (by omega) (by rw[fW];omega) (by omega);obtain⟨w1,hr1,J2,rM⟩:=run_make_full (P:=Tryz.prog) w 0 22 5 i0 (.int .u8 0) 1 Tryz.underlying22 hi iq iG kl kc m (by rw[fW];omega) (by simp only[maxLen];omega) (Nat.zero_le _);have hr2:=run_make (P:=Tryz.prog) w 22 5 i0 (.int .u8 0) Tryz.underlying22 hi iq kl kc m m (by omega) (Int.le_refl _) (by rw[fW];omega) (by omega);rw[hr1]at hr2;simp only[Result.ok.injEq]at hr2;simp only[Int.toNat_natCast]at hr hr2;rw[<-hr2.2]at hr;have e:(Value.int .u8 0).cells=#[.int .u8 0]:=rfl;rw[e,Nat.mul_one,toList_madeCells_one]at J2;have Mo:Row w1 (.slice (some ⟨w.heap.size,0,none⟩) m m) (List.replicate n 0++List.replicate (m-n) 0):=by refine Fg J2 ?_;rw[List.replicate_append_replicate,show n+(m-n)=m by omega];simp[bj]
 have KI:=Row.cut Mo;rw[List.length_replicate]at KI;refine wpList_plain hg λK hK'=>?_
 unfold Oper.wp;subst hL hC;simp[execOp,ni,hl,hc,hr,Result.andThen];exact hK' _ _ (hK w1 KI rM (World.ownsRow.lt J2 w.heap.size rfl).2)
structure Fresh(w w':World)(v:Value)(bs:List Nat):Prop where
 row:Row w' v bs
 kept:Kept (λ_=>False) w w'
 new:∀k,v.ownBlock=some k->w.heap.size<=k
theorem Fresh.app{w wr w1:World}{v1 v':Value}{bs cs:List Nat}{o:Obj}(h:Fresh w wr v1 bs)(hrow:Row w1 v' (bs++cs))(hg:(wr.alloc o).grownBy w1 v1.ownBlock)(ho:v'.ownBlock=v1.ownBlock\/v'.ownBlock=some (wr.alloc o).heap.size):Fresh w w1 v' (bs++cs):=by
 have cX:=h.kept.size;refine⟨hrow,Kept.grown (h.kept.alloc o) hg (λk e=>.inr (h.new k e)),?_⟩;rcases ho with e | e
 ·intro k hk;exact h.new k (by rw[<-e,hk])
 ·intro k hk;rw[e]at hk;simp at hk;omega
theorem vL(w:World)(v:Value)(I:Nat→Prop)(cs:List Nat)(hsrc:Src w I v cs)(x n:Nat)(hn:n≤8)(hx:x<18446744073709551616)(ag:cs.length≤100000000):
  Calls Tryz.prog 60 #[v,.int .u64 (x:Nat),.int .i64 (n:Nat)] w λe w'=>∃v',e=.returned v'/\Fresh w w' v' (cs++aQ x n):=by
 obtain⟨ao,cap,rfl,_⟩:=id hsrc;have HS:Hid (Src w I (.slice ao cs.length cap) cs):=hsrc;clear hsrc;go_enter Tryz.func60,Tryz.ntmps60;go_wp2_with (first | (at_make;refine nF _ rfl _ _ rfl _ _ _ _ cs.length (cs.length+n) rfl rfl (by omega) (by omega) (by omega) (by omega) ?_;intro w1 hr1 rM hs1;have HR:Hid (Row w1 (.slice (some ⟨w.heap.size,0,none⟩) cs.length (cs.length+n)) (List.replicate cs.length 0)):=hr1;have HK:Hid (Kept (λ_=>False) w w1):=(Kept.refl _ w).grown rM (by simp);clear hr1 rM) | (with_reducible refine pN ?_;refine ev _ rfl (.tmp 15) (.tmp 16) rfl w.heap.size cs.length (cs.length+n) ao cs.length cap (List.replicate cs.length 0) cs I rfl rfl HR.out (HS.out.kept HK.out (λ_ _ _ h=>h)) (by simp) ?_));intro w2 hr2 td hs2;have HF:Hid (Fresh w w2 (.slice (some ⟨w.heap.size,0,none⟩) cs.length (cs.length+n)) cs):=by refine⟨by simpa using hr2,HK.out.grown td (λk e=>.inr (by simp at e;omega)),?_⟩;intro k hk;simp[Value.ownBlock]at hk;omega
 clear hr2 td hs2 HR HK;go_wp2_with fail;go_loopg [1,7,19] n (λk y o z wr=>∃i u:Nat,i<=n/\n-i<=k/\z=.int .i64 (i:Nat)/\y=.int .u64 (u:Nat)/\u=x / 256 ^ i/\Fresh w wr o (cs++aQ x i))
 case atStart=>exact⟨0,x,by omega,by omega,rfl,rfl,by simp,by simpa[aQ]using HF.out⟩
 case round=>
  obtain⟨i,u,hi,G4,rfl,rfl,hu,hg⟩:=hrel;have HU:Hid (u=x / 256 ^ i):=hu;have xW:u<18446744073709551616:=(by rw[hu];exact Nat.lt_of_le_of_lt (Nat.div_le_self _ _) hx);have HG:Hid (Fresh w wr u7 (cs++aQ x i)):=hg;have HL2:Hid ((cs++aQ x i).length+[u % 256].length<=1000000000000):=(by show _<=_;rw[List.length_append,aA];simp;omega);clear hu hg hx HF;by_cases hlt:i<n
  ·go_wp2_with (at_builtin;refine eA _ rfl (.tmp 21) (.tmp 24) rfl u7 (cs++aQ x i) rfl (World.ownsRow.alloc HG.out.row _) ⟨wr.heap.size,0,none⟩ 1 1 [u % 256] rfl rfl (wh _ _ _ (by omega)) HL2.out ?_;intro v' w1 hrow me iF)
   have R:Hid (Fresh w w1 v' (cs++aQ x (i+1))):=(by have h:=HG.out.app hrow me iF;rw[List.append_assoc,HU.out]at h;exact h);clear hrow me iF HL2;go_wp2;go_roundg (gk-1)
   case measure=>omega
   case rel=>exact⟨i+1,u / 256,by omega,by omega,by go_num,by go_num,by rw[HU.out,Nat.div_div_eq_div_mul,<-Nat.pow_succ],R.out⟩
  ·have ye:i=n:=(by omega);subst ye;go_wp2;go_ret;exact⟨_,rfl,HG.out⟩
theorem Dc{X:Int}(w:World)(v:Value)(I:Nat→Prop)(cs:List Nat)(hsrc:Src w I v cs)(x:Nat)(hX:X=(x:Nat))(hx:x<65536)(ag:cs.length≤100000000):
  Calls Tryz.prog 59 #[v,.int .u16 X] w λe w'=>∃v',e=.returned v'/\Fresh w w' v' (cs++aQ x 2):=by
 subst hX;have HC:=vL w v I cs hsrc x 2 (by omega) (by omega) ag;go_enter Tryz.func59,Tryz.ntmps59;go_wp2_with fail;refine HC.mono ?_;rintro e w' ⟨v',rfl,h⟩;go_wp2_with fail;go_ret;exact⟨_,rfl,h⟩
theorem kG{X:Int}(w:World)(v:Value)(I:Nat→Prop)(cs:List Nat)(hsrc:Src w I v cs)(x:Nat)(hX:X=(x:Nat))(hx:x<4294967296)(ag:cs.length≤100000000):
  Calls Tryz.prog 34 #[v,.int .u32 X] w λe w'=>∃v',e=.returned v'/\Fresh w w' v' (cs++aQ x 4):=by
 subst hX;have HC:=vL w v I cs hsrc x 4 (by omega) (by omega) ag;go_enter Tryz.func34,Tryz.ntmps34;go_wp2_with fail;refine HC.mono ?_;rintro e w' ⟨v',rfl,h⟩;go_wp2_with fail;go_ret;exact⟨_,rfl,h⟩
theorem hid{p:Prop}(h:p):Hid p:=h
def bI(z:Int):Value:=.int .i64 z
def am(n:Nat):Value:=.int .i64 (n:Int)
def mu(n:Nat):Value:=.int .u32 (n:Int)
theorem mY(l:List Int):∀u∈l.map bI,u.oneCell'=true:=by intro u hu;obtain⟨b,_,rfl⟩:=List.mem_map.1 hu;rfl
theorem dJ(l:List Nat):∀u∈l.map am,u.oneCell'=true:=by intro u hu;obtain⟨b,_,rfl⟩:=List.mem_map.1 hu;rfl
def Io(x:Option Addr×Nat×Nat):Value:=.slice x.1 x.2.1 x.2.2
theorem IM(l:List (Option Addr×Nat×Nat)):∀u∈l.map Io,u.oneCell'=true:=by intro u hu;obtain⟨b,_,rfl⟩:=List.mem_map.1 hu;rfl
abbrev RowE{α:Type}(B:Nat)(t:TypeId)(enc:α->Value)(w:World)(v:Value)(xs:List α):Prop:=w.ownsRow B t 1 v xs.length (xs.map enc)
section
variable {α:Type} {B:Nat} {t:TypeId} {enc:α->Value} {w:World} {v:Value} {xs:List α}
theorem RowE.kept{F:Nat->Prop}{w':World}(h:RowE B t enc w v xs)(hk:Kept F w w')(hn:∀k,v.ownBlock=some k->¬F k):RowE B t enc w' v xs:=by
 refine⟨h.1,?_⟩;rcases h.2 with Ao | ⟨g,cap,cur,rfl,hb,rN,rest⟩
 ·exact .inl Ao
 ·refine .inr ⟨g,cap,cur,rfl,hb,?_,rest⟩;rw[hk.block g (Array.getElem?_eq_some_iff.1 rN).1 (hn g rfl)];exact rN
theorem RowE.base{B':Nat}(h:RowE B t enc w v xs)(hb:B'<=B):RowE B' t enc w v xs:=by
 refine⟨h.1,?_⟩;rcases h.2 with Ao | ⟨g,cap,cur,rfl,iH,rest⟩
 ·exact .inl Ao
 ·exact .inr ⟨g,cap,cur,rfl,Nat.le_trans hb iH,rest⟩
theorem RowE.drewN(k:Nat)(h:RowE B t enc w v xs):RowE B t enc (w.drewN k) v xs:=h
theorem RowE.nil:RowE B t enc w (.slice none 0 0) ([]:List α):=World.ownsRow_nil w B t 1
theorem RowE.lt(h:RowE B t enc w v xs){k:Nat}(hk:v.ownBlock=some k):k<w.heap.size:=(World.ownsRow.lt h k hk).2
theorem RowE.ge(h:RowE B t enc w v xs){k:Nat}(hk:v.ownBlock=some k):B<=k:=(World.ownsRow.lt h k hk).1
theorem RowE.shape(h:RowE B t enc w v xs):∃ao cap,v=.slice ao xs.length cap/\(xs≠[]->∃g,ao=some ⟨g,0,none⟩)/\(ao=none->cap=0)/\xs.length<=cap/\cap<=maxLen:=by
 rcases h.2 with⟨rfl,hn⟩ | ⟨g,cap,cur,rfl,_,_,h1,h2,_⟩
 ·exact⟨none,0,by rw[hn],λhb=>absurd (List.eq_nil_of_length_eq_zero hn) hb,λ_=>rfl,by omega,by omega⟩
 ·exact⟨_,cap,rfl,λ_=>⟨g,rfl⟩,(λe=>by cases e),h1,h2⟩
theorem RowE.some(h:RowE B t enc w v xs)(hn:xs≠[]):∃g cap,v=.slice (some ⟨g,0,none⟩) xs.length cap/\B<=g/\g<w.heap.size/\xs.length<=cap:=by obtain⟨ao,cap,rfl,h1,_,h2,_⟩:=h.shape;obtain⟨g,rfl⟩:=h1 hn;exact⟨g,cap,rfl,h.ge rfl,h.lt rfl,h2⟩
theorem RowE.len{g n cap:Nat}(h:RowE B t enc w (.slice (Option.some ⟨g,0,none⟩) n cap) xs):xs.length=n:=by
 rcases h.2 with⟨e,_⟩ | ⟨_,_,_,e,_⟩
 ·simp at e
 ·injection e with _ e _;exact e.symm
theorem RowE.cell{g n cap:Nat}(h:RowE B t enc w (.slice (Option.some ⟨g,0,none⟩) n cap) xs)(j:Nat)(hj:j<xs.length):w.cell? ⟨g,j,none⟩=Option.some (enc xs[j]):=by have hl:=h.len;subst hl;rw[h.cellAt j (by omega)];simp[hj]
theorem RowE.frozen{g n cap:Nat}(h:RowE B t enc w (.slice (Option.some ⟨g,0,none⟩) n cap) xs)(j:Nat):w.frozen? ⟨g,j,none⟩=false:=by have hl:=h.len;subst hl;exact World.ownsRow.frozenAt h j
theorem RowE.lay{g n cap:Nat}(h:RowE B t enc w (.slice (Option.some ⟨g,0,none⟩) n cap) xs)(j:Nat)(x:α):RowE B t enc (w.setCell ⟨g,j,none⟩ (enc x)) (.slice (Option.some ⟨g,0,none⟩) n cap) (xs.set j x):=by have hl:=h.len;subst hl;have:=(World.ownsRow.stored h j (enc x)).1;rw[<-List.map_set]at this;unfold RowE;rw[List.length_set];exact this
theorem RowE.cut{g n cap:Nat}{ys:List α}(h:RowE B t enc w (.slice (Option.some ⟨g,0,none⟩) n cap) (xs++ys)):RowE B t enc w (.slice (Option.some ⟨g,0,none⟩) xs.length cap) xs:=by
 rcases h.2 with⟨h',_⟩ | ⟨g',cap',cur,h',hb,rN,Et,KQ,eO,lz⟩
 ·simp at h'
 ·simp only[Value.slice.injEq,Option.some.injEq,Addr.mk.injEq,and_true]at h';obtain⟨rfl,rfl,rfl⟩:=h';refine⟨by simp,.inr ⟨g,cap,cur,rfl,hb,rN,?_,KQ,eO,?_⟩⟩
  ·simp at Et;omega
  ·simp only[Nat.mul_one,List.length_append]at lz ⊢;have e:List.take xs.length cur.toList=List.take xs.length (List.take (xs.length+ys.length) cur.toList):=(by rw[List.take_take];congr 1;omega);rw[e,lz,List.map_append,List.take_append,List.take_of_length_le (by simp)];simp
theorem RowE.recode{β:Type}{enc':β->Value}{ys:List β}(h:RowE B t enc w v xs)(e:ys.map enc'=xs.map enc):RowE B t enc' w v ys:=by
 have hl:ys.length=xs.length:=by have:=congrArg List.length e;simpa using this
 unfold RowE;rw[hl,e];exact h
def SrcE(enc:α->Value)(w:World)(I:Nat->Prop)(v:Value)(xs:List α):Prop:=
 ∃ao cap,v=.slice ao xs.length cap/\xs.length<=cap/\(xs≠[]->∃b o,ao=Option.some ⟨b,o,none⟩/\I b/\∀j (_:j<xs.length),w.cell? ⟨b,o+j,none⟩=Option.some (enc xs[j]))
theorem SrcE.ofRow(h:RowE B t enc w v xs):SrcE enc w (λk=>v.ownBlock=Option.some k) v xs:=by obtain⟨ao,cap,hv,hg,_,hc,_⟩:=h.shape;refine⟨ao,cap,hv,hc,λbh=>?_⟩;obtain⟨g,hg⟩:=hg bh;subst hg hv;refine⟨g,0,rfl,rfl,λj hj=>?_⟩;rw[Nat.zero_add];exact RowE.cell h j hj
theorem SrcE.mono{I J:Nat->Prop}(h:SrcE enc w I v xs)(hJ:∀k,I k->J k):SrcE enc w J v xs:=by obtain⟨ao,cap,hv,cj,hc⟩:=h;refine⟨ao,cap,hv,cj,λbh=>?_⟩;obtain⟨b,o,h1,h2,h3⟩:=hc bh;exact⟨b,o,h1,hJ b h2,h3⟩
theorem SrcE.kept{F I:Nat->Prop}{w':World}(h:SrcE enc w I v xs)(hk:Kept F w w')(hn:∀k,I k->k<w.heap.size->¬F k):SrcE enc w' I v xs:=by obtain⟨ao,cap,hv,cj,hc⟩:=h;refine⟨ao,cap,hv,cj,λbh=>?_⟩;obtain⟨b,o,h1,h2,h3⟩:=hc bh;have ag:0<xs.length:=List.length_pos_iff.2 bh;have hb:b<w.heap.size:=World.block_lt_of_cell? w _ (h3 0 ag);exact⟨b,o,h1,h2,λj hj=>hk.cell (h3 j hj) (hn b h2 hb)⟩
theorem SrcE.low{I:Nat->Prop}(h:SrcE enc w I v xs):SrcE enc w (λk=>I k/\k<w.heap.size) v xs:=by obtain⟨ao,cap,hv,cj,hc⟩:=h;refine⟨ao,cap,hv,cj,λbh=>?_⟩;obtain⟨b,o,h1,h2,h3⟩:=hc bh;have ag:0<xs.length:=List.length_pos_iff.2 bh;exact⟨b,o,h1,⟨h2,World.block_lt_of_cell? w _ (h3 0 ag)⟩,h3⟩
theorem SrcE.recode{β:Type}{enc':β->Value}{ys:List β}{I:Nat->Prop}(h:SrcE enc w I v xs)(e:ys.map enc'=xs.map enc):SrcE enc' w I v ys:=by
 have hl:ys.length=xs.length:=by have:=congrArg List.length e;simpa using this
 obtain⟨ao,cap,hv,cj,hc⟩:=h;refine⟨ao,cap,by rw[hl];exact hv,by omega,λbh=>?_⟩;obtain⟨b,o,h1,h2,h3⟩:=hc (by intro e0;subst e0;simp at hl;exact bh hl);refine⟨b,o,h1,h2,λj hj=>?_⟩;rw[h3 j (by omega)];have e1:(ys.map enc')[j]? = (xs.map enc)[j]?:=by rw[e]
 rw[List.getElem?_map,List.getElem?_map,List.getElem?_eq_getElem hj,List.getElem?_eq_getElem (by omega)]at e1;simpa using e1.symm
theorem SrcE.get{I:Nat->Prop}(h:SrcE enc w I v xs)(j:Nat)(hj:j<xs.length):∃b o cap,v=.slice (Option.some ⟨b,o,none⟩) xs.length cap/\I b/\b<w.heap.size/\w.cell? ⟨b,o+j,none⟩=Option.some (enc xs[j]):=by obtain⟨ao,cap,hv,cj,hc⟩:=h;obtain⟨b,o,rfl,h2,h3⟩:=hc (by intro e;subst e;simp at hj);exact⟨b,o,cap,hv,h2,World.block_lt_of_cell? w _ (h3 j hj),h3 j hj⟩
end
def aR(w:World)(a:Addr)(cs:List Value):Prop:=∀j u,cs[j]? = some u->w.cell? (a.add j)=some u
theorem bw(w:World)(t:TypeId)(u:Value):aR (w.alloc (.cells #[u] t)) ⟨w.heap.size,0,none⟩ [u]:=by
 intro j x hx
 match j,hx with
 | 0,hx=>simp at hx;subst hx;simp[cL]
theorem SrcE.at{α:Type}{enc:α->Value}{w:World}{I:Nat->Prop}{ao:Option Addr}{n cap:Nat}{cs:List α}(h:SrcE enc w I (.slice ao n cap) cs):n=cs.length/\(cs≠[]->∃a,ao=some a/\aR w a (cs.map enc)):=by obtain⟨ao',cap',hv,_,hc⟩:=h;injection hv with h1 h2 h3;subst h1;refine⟨h2,λbh=>?_⟩;obtain⟨b,o,h4,_,h6⟩:=hc bh;refine⟨_,h4,λj u hu=>?_⟩;obtain⟨hj,hu⟩:=List.getElem?_eq_some_iff.1 hu;rw[cL,h6 j (by simpa using hj),<-hu];simp
theorem aX{α:Type}{ops:Array Oper}{rest:List Oper}{o:Oper}{a:Act}{Q:Exit→Act→World→Prop}(w:World)(enc:α→Value)(G7:∀(l:List α),∀u∈l.map enc,u.oneCell'=true)(B sT eT:Nat)(z:Value)(bytes:Nat)
  (hU:Tryz.prog.underlying sT=some (.slice eT)) (hI:(Tryz.prog.info? eT).map (λi=>(i.zero,i.size,i.bytes))=some (some z,1,bytes)) (hz:z.cells.size=1) (tf:bytes<=24) (jL:o.guard=none) (s x:Operand)
  (ho:o.op=.call {callee:=.builtin .append,args:=#[s,x],argTypes:=#[sT,sT]})
  (v:Value) (xs:List α) (hs:a.eval s=v) (hrow:RowE B eT enc w v xs) (ad:Addr) (m c:Nat) (cs:List α) (hx:a.eval x=.slice (some ad) m c) (hm:cs.length=m) (eO:aR w ad (cs.map enc)) (ag:xs.length+cs.length<=1000000000) (hB:B<=w.heap.size)
  (h:∀v' w',RowE B eT enc w' v' (xs++cs)->w.grownBy w' v.ownBlock->wpList Tryz.prog ops Q rest (a.put o.dst v') w'):wpList Tryz.prog ops Q (o::rest) a w:=by
 subst hm;obtain⟨i0,hi,iq,iG,fW⟩:=info_parts hI;have Ee:(xs.length+cs.length)*bytes<=1000000000*24:=Nat.mul_le_mul ag tf;refine wpList_append_own w jL s x sT ho B eT i0 z 1 bytes hU hi iq iG fW hz (by decide) v xs.length (xs.map enc) hs hrow ad cs.length c (cs.map enc) hx (by simp) eO (G7 _) (by simp only[maxLen];omega) (by omega) hB ?_;intro v' w' h1 h2 _;refine h v' w' ?_ h2;unfold RowE;rw[List.length_append,List.map_append];exact h1
theorem dm{α:Type}{ops:Array Oper}{rest:List Oper}{o:Oper}{a:Act}{Q:Exit→Act→World→Prop}(w:World)(enc:α→Value)(x0:α)(B sT eT:Nat)(bytes:Nat)
  (hU:Tryz.prog.underlying sT=some (.slice eT)) (hI:(Tryz.prog.info? eT).map (λi=>(i.zero,i.size,i.bytes))=some (some (enc x0),1,bytes)) (hz:(enc x0).cells=#[enc x0]) (tf:bytes<=24)
  (hg:o.guard=none) (l c:Operand) (ni:o.op=Op.makeSlice sT l c) (kl kc:IntKind) (L C:Int) (n:Nat)
  (hl:a.eval l=.int kl L) (hc:a.eval c=.int kc C) (hL:L=(n:Int)) (hC:C=(n:Int)) (hn:n<=1000000000) (hB:B<=w.heap.size)
  (hK:∀w',RowE B eT enc w' (.slice (some ⟨w.heap.size,0,none⟩) n n) (List.replicate n x0)->w.grownBy w' none->w.heap.size<w'.heap.size->wpList Tryz.prog ops Q rest (a.put o.dst (.slice (some ⟨w.heap.size,0,none⟩) n n)) w'):wpList Tryz.prog ops Q (o::rest) a w:=by
 obtain⟨i0,hi,iq,iG,fW⟩:=info_parts hI;have Ee:n*bytes<=1000000000*24:=Nat.mul_le_mul hn tf;refine wpList_make_full w hg l c sT ni B eT i0 (enc x0) 1 hU hi iq iG kl kc L C n hl hc hL hC (by rw[fW];have:=Nat.mul_comm n bytes;omega) (by simp only[maxLen];omega) hB ?_;intro w' h1 h2;refine hK w' ?_ h2 (World.ownsRow.lt h1 w.heap.size rfl).2;rw[hz,Nat.mul_one,toList_madeCells_one]at h1;unfold RowE;simpa using h1
theorem Tryz.infoI:(Tryz.prog.info? 3).map (λi=>(i.zero,i.size,i.bytes))=some (some (bI 0),1,8):=by kernel_rfl
theorem Tryz.infoN:(Tryz.prog.info? 3).map (λi=>(i.zero,i.size,i.bytes))=some (some (am 0),1,8):=by kernel_rfl
theorem Tryz.infoW:(Tryz.prog.info? 35).map (λi=>(i.zero,i.size,i.bytes))=some (some (mu 0),1,4):=by kernel_rfl
abbrev NRow(B:Nat):=RowE B 3 am
abbrev oR(B:Nat):=RowE B 3 bI
abbrev Ag(B:Nat):=RowE B 35 mu
abbrev Same(w w':World):Prop:=Kept (λ_=>False) w w'
theorem Same.of{F:Nat->Prop}{w w':World}(h:Kept F w w')(hF:∀k,k<w.heap.size->¬F k):Same w w':=h.mono (λk hk f=>hF k hk f)
theorem Same.trans{a b c:World}(h:Same a b)(k:Same b c):Same a c:=Kept.trans h k (λ_ _ h=>h) (λ_ _ h=>h)
theorem Same.then{a b c:World}{F:Nat->Prop}(h:Same a b)(k:Kept F b c)(hF:∀x,x<a.heap.size->¬F x):Same a c:=Kept.trans h k (λ_ _ h=>h) (λx hx f=>hF x hx f)
theorem SrcE.same{α:Type}{enc:α->Value}{w w':World}{I:Nat->Prop}{v:Value}{xs:List α}(h:SrcE enc w I v xs)(hk:Same w w'):SrcE enc w' I v xs:=h.kept hk (λ_ _ _ f=>f)
theorem RowE.same{α:Type}{enc:α->Value}{B t:Nat}{w w':World}{v:Value}{xs:List α}(h:RowE B t enc w v xs)(hk:Same w w'):RowE B t enc w' v xs:=h.kept hk (λ_ _ f=>f)
def Blk(w:World)(h:Nat)(cs:Array Value)(t:TypeId):Prop:=w.heap[h]? = some (.cells cs t (0,0))
theorem Blk.lt{w:World}{h:Nat}{cs:Array Value}{t:TypeId}(b:Blk w h cs t):h<w.heap.size:=(Array.getElem?_eq_some_iff.1 b).1
theorem Blk.cell{w:World}{h:Nat}{cs:Array Value}{t:TypeId}(b:Blk w h cs t)(i:Nat):w.cell? ⟨h,i,none⟩=cs[i]?:=by unfold Blk at b;simp[World.cell?,b]
theorem Blk.frozen{w:World}{h:Nat}{cs:Array Value}{t:TypeId}(b:Blk w h cs t)(i:Nat):w.frozen? ⟨h,i,none⟩=false:=by unfold Blk at b;simp[World.frozen?,b]
theorem Blk.kept{F:Nat->Prop}{w w':World}{h:Nat}{cs:Array Value}{t:TypeId}(b:Blk w h cs t)(hk:Kept F w w')(hF:¬F h):Blk w' h cs t:=by unfold Blk;rw[hk.block h b.lt hF];exact b
theorem Blk.set{w:World}{h:Nat}{cs:Array Value}{t:TypeId}(b:Blk w h cs t)(i:Nat)(u:Value):Blk (w.setCell ⟨h,i,none⟩ u) h (cs.setIfInBounds i u) t:=by unfold Blk at b ⊢;simp[World.setCell,Array.getElem?_modify,b]
theorem Blk.new(w:World)(cs:Array Value)(t:TypeId):Blk (w.alloc (.cells cs t)) w.heap.size cs t:=by unfold Blk World.alloc;simp
theorem Blk.drewN{w:World}{h:Nat}{cs:Array Value}{t:TypeId}(b:Blk w h cs t)(n:Nat):Blk (w.drewN n) h cs t:=b
end Go.Proofs.YtllcnlnbpikhdaaGreatDoor
namespace Go.Proofs.YtllcnlnbpikhdaaGreatDoor
def key(ns:List Nat)(s:Nat):Nat:=ns.getD s 0
def Lt(ns:List Nat)(a b:Nat):Prop:=key ns a<key ns b\/key ns a=key ns b/\a<b
instance (ns:List Nat) (a b:Nat):Decidable (Lt ns a b):=inferInstanceAs (Decidable (_\/_))
theorem Lt.trans{ns:List Nat}{a b c:Nat}(h:Lt ns a b)(k:Lt ns b c):Lt ns a c:=by unfold Lt at *;omega
theorem Lt.irrefl(ns:List Nat)(a:Nat):¬Lt ns a a:=by unfold Lt;omega
theorem Lt.asymm{ns:List Nat}{a b:Nat}(h:Lt ns a b):¬Lt ns b a:=by unfold Lt at *;omega
theorem Lt.total(ns:List Nat)(a b:Nat)(h:a≠b):Lt ns a b\/Lt ns b a:=by unfold Lt;omega
theorem Lt.iff_of_gt{ns:List Nat}{x y:Nat}(h:x<y):Lt ns y x↔key ns y<key ns x:=by unfold Lt;omega
theorem Lt.of_not{ns:List Nat}{x y:Nat}(h:x<y)(hn:¬key ns y<key ns x):Lt ns x y:=by unfold Lt;omega
abbrev Sorted(ns:List Nat)(l:List Nat):Prop:=l.Pairwise (Lt ns)
def Ahead(l r:List Nat):Prop:=∀x∈l,∀y∈r,x<y
def AllLt(ns:List Nat)(l r:List Nat):Prop:=∀x∈l,∀y∈r,Lt ns x y
theorem Sorted.append{ns l r:List Nat}(hl:Sorted ns l)(hr:Sorted ns r)(h:AllLt ns l r):Sorted ns (l++r):=List.pairwise_append.2 ⟨hl,hr,h⟩
theorem Sorted.left{ns l r:List Nat}(h:Sorted ns (l++r)):Sorted ns l:=(List.pairwise_append.1 h).1
theorem Sorted.right{ns l r:List Nat}(h:Sorted ns (l++r)):Sorted ns r:=(List.pairwise_append.1 h).2.1
theorem Sorted.cross{ns l r:List Nat}(h:Sorted ns (l++r)):AllLt ns l r:=(List.pairwise_append.1 h).2.2
theorem Sorted.eq{ns l r:List Nat}(hl:Sorted ns l)(hr:Sorted ns r)(hp:l.Perm r):l=r:=
 hp.eq_of_pairwise (λ_ _ _ _ h k=>absurd k h.asymm) hl hr
theorem AllLt.perm{ns l l' r r':List Nat}(h:AllLt ns l r)(hl:l'.Perm l)(hr:r'.Perm r):AllLt ns l' r':=
 λx hx y hy=>h x (hl.mem_iff.1 hx) y (hr.mem_iff.1 hy)
theorem Ahead.perm{l l' r r':List Nat}(h:Ahead l r)(hl:l'.Perm l)(hr:r'.Perm r):Ahead l' r':=
 λx hx y hy=>h x (hl.mem_iff.1 hx) y (hr.mem_iff.1 hy)
theorem Ahead.sub{l l' r r':List Nat}(h:Ahead l r)(hl:∀x∈l',x∈l)(hr:∀x∈r',x∈r):Ahead l' r':=
 λx hx y hy=>h x (hl x hx) y (hr y hy)
theorem Sorted.at{ns l:List Nat}(h:Sorted ns l){i j:Nat}(Hf:i<j)(hj:j<l.length):Lt ns (l[i]'(by omega)) l[j]:=
 List.pairwise_iff_getElem.1 h i j (by omega) hj Hf
theorem i8{ns A B:List Nat}(i j:Nat)(hA:Sorted ns A)(hB:Sorted ns B)(h1:i=0∨B.length≤j∨∃(x:0<i∧i≤A.length∧j<B.length),Lt ns (A[i-1]'(by omega)) (B[j]'(by omega)))
  (h2:j=0\/A.length<=i\/∃(x:0<j/\j<=B.length/\i<A.length),Lt ns (B[j-1]'(by omega)) (A[i]'(by omega))):
  AllLt ns (A.take i++B.take j) (A.drop i++B.drop j):=by
 have Ui:AllLt ns (A.take i) (A.drop i):=Sorted.cross (by rw[List.take_append_drop];exact hA);have UA:AllLt ns (B.take j) (B.drop j):=Sorted.cross (by rw[List.take_append_drop];exact hB);have le_last:∀(L:List Nat) (n:Nat) (h:Sorted ns L) (hn:0<n) (hl:n<=L.length) (x:Nat),x∈L.take n->x=L[n-1]'(by omega)\/Lt ns x (L[n-1]'(by omega)):=by
  intro L n h hn hl x hx;obtain⟨k,hk,rfl⟩:=List.getElem_of_mem hx;simp at hk;rw[List.getElem_take];by_cases e:k=n-1
  ·left;subst e;rfl
  ·right;exact h.at (by omega) (by omega)
 have ge_first:∀(L:List Nat) (n:Nat) (h:Sorted ns L) (hn:n<L.length) (x:Nat),x∈L.drop n->x=L[n]\/Lt ns L[n] x:=by
  intro L n h hn x hx;obtain⟨k,hk,rfl⟩:=List.getElem_of_mem hx;simp at hk;rw[List.getElem_drop];by_cases e:k=0
  ·left;subst e;rfl
  ·right;exact h.at (by omega) (by omega)
 have We:AllLt ns (A.take i) (B.drop j):=by
  intro x hx y hy;rcases h1 with rfl | h | ⟨⟨ha,hb,hc⟩,hlt⟩
  ·simp at hx
  ·rw[List.drop_eq_nil_of_le h]at hy;simp at hy
  ·rcases le_last A i hA ha hb x hx with rfl | h3
   ·rcases ge_first B j hB hc y hy with rfl | h4
    ·exact hlt
    ·exact hlt.trans h4
   ·rcases ge_first B j hB hc y hy with rfl | h4
    ·exact h3.trans hlt
    ·exact(h3.trans hlt).trans h4
 have Vy:AllLt ns (B.take j) (A.drop i):=by
  intro x hx y hy;rcases h2 with rfl | h | ⟨⟨ha,hb,hc⟩,hlt⟩
  ·simp at hx
  ·rw[List.drop_eq_nil_of_le h]at hy;simp at hy
  ·rcases le_last B j hB ha hb x hx with rfl | h3
   ·rcases ge_first A i hA hc y hy with rfl | h4
    ·exact hlt
    ·exact hlt.trans h4
   ·rcases ge_first A i hA hc y hy with rfl | h4
    ·exact h3.trans hlt
    ·exact(h3.trans hlt).trans h4
 intro x hx y hy;rcases List.mem_append.1 hx with hx | hx<;>rcases List.mem_append.1 hy with hy | hy
 ·exact Ui x hx y hy
 ·exact We x hx y hy
 ·exact Vy x hx y hy
 ·exact UA x hx y hy
def Ah(ns:List Nat)(x:Nat):List Nat->List Nat
 | []=>[x]
 | y::r=>if Lt ns x y then x::y::r else y::Ah ns x r
theorem sC(ns:List Nat)(x:Nat)(l:List Nat):(Ah ns x l).Perm (x::l):=by
 induction l with
 | nil=>exact List.Perm.refl _
 | cons y r ih=>
  unfold Ah;split
  ·exact List.Perm.refl _
  ·exact(ih.cons y).trans (List.Perm.swap x y r)
theorem wI(ns:List Nat)(x:Nat)(l:List Nat)(h:Sorted ns l)(hx:x∉l):Sorted ns (Ah ns x l):=by
 induction l with
 | nil=>simp[Ah,Sorted]
 | cons y r ih=>
  have hy:=List.pairwise_cons.1 h;unfold Ah;split
  ·rename_i hlt;refine List.pairwise_cons.2 ⟨λz hz=>?_,h⟩;rcases List.mem_cons.1 hz with rfl | hz
   ·exact hlt
   ·exact hlt.trans (hy.1 z hz)
  ·rename_i hlt;have bh:x≠y:=λe=>hx (by simp[e])
   have MG:Lt ns y x:=(Lt.total ns x y bh).resolve_left hlt;refine List.pairwise_cons.2 ⟨λz hz=>?_,ih hy.2 (λe=>hx (List.mem_cons_of_mem _ e))⟩;rcases List.mem_cons.1 ((sC ns x r).mem_iff.1 hz)with rfl | hz
   ·exact MG
   ·exact hy.1 z hz
def eK(ns:List Nat):List Nat:=(List.range ns.length).filter (λs=>key ns s != 0)
def AH(ns:List Nat):List Nat->List Nat
 | []=>[]
 | x::r=>Ah ns x (AH ns r)
def aD(ns:List Nat):List Nat:=AH ns (eK ns)
theorem qt(ns l:List Nat):(AH ns l).Perm l:=by
 induction l with
 | nil=>exact List.Perm.refl _
 | cons x r ih=>exact(sC ns x _).trans (ih.cons x)
theorem tw(ns l:List Nat)(h:l.Nodup):Sorted ns (AH ns l):=by
 induction l with
 | nil=>exact List.Pairwise.nil
 | cons x r ih=>
  have:=List.nodup_cons.1 h;exact wI ns x _ (ih this.2) (λe=>this.1 ((qt ns r).mem_iff.1 e))
theorem vN(ns:List Nat):(eK ns).Pairwise (· < ·):=List.Pairwise.filter _ List.pairwise_lt_range
theorem ov(ns:List Nat):(eK ns).Nodup:=(vN ns).imp (λh=>Nat.ne_of_lt h)
theorem fA(ns:List Nat):(aD ns).Perm (eK ns):=qt ns _
theorem gH(ns:List Nat):Sorted ns (aD ns):=tw ns _ (ov ns)
theorem K0{ns l:List Nat}(h:Sorted ns l)(hp:l.Perm (eK ns)):l=aD ns:=h.eq (gH ns) (hp.trans (fA ns).symm)
theorem sq{ns:List Nat}{s:Nat}:s∈eK ns↔s<ns.length/\key ns s≠0:=by simp[eK]
theorem aU{ns:List Nat}{s:Nat}:s∈aD ns↔s<ns.length/\key ns s≠0:=by rw[(fA ns).mem_iff,sq]
theorem mz(ns:List Nat):(eK ns).length<=ns.length:=by have:=List.length_filter_le (λs=>key ns s != 0) (List.range ns.length);simpa[eK]using this
theorem cI(ns:List Nat):(aD ns).length<=ns.length:=by rw[(fA ns).length_eq];exact mz ns
theorem Do(ns:List Nat):(aD ns).Nodup:=(fA ns).nodup_iff.2 (ov ns)
theorem aY{ns:List Nat}{s:Nat}(h:s<ns.length):key ns s=ns[s]:=by simp[key,h]
example:aD [2,1,3,3]=[1,0,2,3]:=by decide
example:aD [5,1,1,1]=[1,2,3,0]:=by decide
end Go.Proofs.YtllcnlnbpikhdaaGreatDoor
namespace Go.Proofs.YtllcnlnbpikhdaaGreatDoor
open Go.RowKit
structure dI{α:Type}(enc:α->List Value)(k:Nat):Prop where
 len:∀x,(enc x).length=k
 one:∀x,∀u∈enc x,u.oneCell'=true
 pos:0<k
theorem aK{α:Type}{enc:α->List Value}{k:Nat}(h:dI enc k)(xs:List α):(xs.flatMap enc).length=xs.length*k:=by
 induction xs with
 | nil=>simp
 | cons a r ih=>rw[List.flatMap_cons,List.length_append,ih,h.len,List.length_cons,Nat.succ_mul];omega
theorem qB{α:Type}{enc:α->List Value}{k:Nat}(h:dI enc k)(xs:List α)(j i:Nat)(hj:j<xs.length)(hi:i<k):(xs.flatMap enc)[j*k+i]? = (enc xs[j])[i]?:=by
 induction xs generalizing j with
 | nil=>simp at hj
 | cons a r ih=>
  rw[List.flatMap_cons];cases j with
  | zero=>
   rw[Nat.zero_mul,Nat.zero_add,List.getElem?_append_left (by rw[h.len];exact hi)];rfl
  | succ j=>
   rw[List.getElem?_append_right (by rw[h.len,Nat.succ_mul];omega),h.len,show(j+1)*k+i-k=j*k+i by rw[Nat.succ_mul];omega,ih j (by simpa using hj)];rfl
theorem gI{α:Type}{enc:α->List Value}{k:Nat}(h:dI enc k)(xs:List α):∀u∈xs.flatMap enc,u.oneCell'=true:=by intro u hu;obtain⟨x,_,hx⟩:=List.mem_flatMap.1 hu;exact h.one x u hx
abbrev RowC{α:Type}(B:Nat)(t:TypeId)(k:Nat)(enc:α->List Value)(w:World)(v:Value)(xs:List α):Prop:=w.ownsRow B t k v xs.length (xs.flatMap enc)
def SrcC{α:Type}(k:Nat)(enc:α->List Value)(w:World)(I:Nat->Prop)(v:Value)(xs:List α):Prop:=
 ∃ao cap,v=.slice ao xs.length cap/\xs.length<=cap/\(xs≠[]->∃b o,ao=Option.some ⟨b,o,none⟩/\I b/\∀j (_:j<xs.length) i (_:i<k),w.cell? ⟨b,o+(j*k+i),none⟩=(enc xs[j])[i]?)
section
variable {α:Type} {B:Nat} {t k:Nat} {enc:α->List Value} {w:World} {v:Value} {xs:List α}
theorem RowC.kept{F:Nat->Prop}{w':World}(h:RowC B t k enc w v xs)(hk:Kept F w w')(hn:∀j,v.ownBlock=some j->¬F j):RowC B t k enc w' v xs:=by
 refine⟨h.1,?_⟩;rcases h.2 with Ao | ⟨g,cap,cur,rfl,hb,rN,rest⟩
 ·exact .inl Ao
 ·refine .inr ⟨g,cap,cur,rfl,hb,?_,rest⟩;rw[hk.block g (Array.getElem?_eq_some_iff.1 rN).1 (hn g rfl)];exact rN
theorem RowC.base{B':Nat}(h:RowC B t k enc w v xs)(hb:B'<=B):RowC B' t k enc w v xs:=by
 refine⟨h.1,?_⟩;rcases h.2 with Ao | ⟨g,cap,cur,rfl,iH,rest⟩
 ·exact .inl Ao
 ·exact .inr ⟨g,cap,cur,rfl,Nat.le_trans hb iH,rest⟩
theorem RowC.nil:RowC B t k enc w (.slice none 0 0) ([]:List α):=World.ownsRow_nil w B t k
theorem RowC.lt(h:RowC B t k enc w v xs){j:Nat}(hj:v.ownBlock=some j):j<w.heap.size:=(World.ownsRow.lt h j hj).2
theorem RowC.ge(h:RowC B t k enc w v xs){j:Nat}(hj:v.ownBlock=some j):B<=j:=(World.ownsRow.lt h j hj).1
theorem RowC.shape(h:RowC B t k enc w v xs):∃ao cap,v=.slice ao xs.length cap/\(xs≠[]->∃g,ao=some ⟨g,0,none⟩)/\(ao=none->cap=0)/\xs.length<=cap/\cap<=maxLen:=by
 rcases h.2 with⟨rfl,hn⟩ | ⟨g,cap,cur,rfl,_,_,h1,h2,_⟩
 ·exact⟨none,0,by rw[hn],λhb=>absurd (List.eq_nil_of_length_eq_zero hn) hb,λ_=>rfl,by omega,by omega⟩
 ·exact⟨_,cap,rfl,λ_=>⟨g,rfl⟩,(λe=>by cases e),h1,h2⟩
theorem RowC.len{g n cap:Nat}(h:RowC B t k enc w (.slice (Option.some ⟨g,0,none⟩) n cap) xs):xs.length=n:=by
 rcases h.2 with⟨e,_⟩ | ⟨_,_,_,e,_⟩
 ·simp at e
 ·injection e with _ e _;exact e.symm
theorem RowC.cell{g n cap:Nat}(ok:dI enc k)(h:RowC B t k enc w (.slice (Option.some ⟨g,0,none⟩) n cap) xs)(j i:Nat)(hj:j<xs.length)(hi:i<k):w.cell? ⟨g,j*k+i,none⟩=(enc xs[j])[i]?:=by
 have hl:=h.len;subst hl;have hlt:j*k+i<xs.length*k:=by have:(j+1)*k<=xs.length*k:=Nat.mul_le_mul_right k hj;rw[Nat.succ_mul]at this;omega
 rw[h.cellAt (j*k+i) hlt,qB ok xs j i hj hi]
theorem SrcC.ofRow(ok:dI enc k)(h:RowC B t k enc w v xs):SrcC k enc w (λj=>v.ownBlock=Option.some j) v xs:=by obtain⟨ao,cap,hv,hg,_,hc,_⟩:=h.shape;refine⟨ao,cap,hv,hc,λbh=>?_⟩;obtain⟨g,hg⟩:=hg bh;subst hg hv;refine⟨g,0,rfl,rfl,λj hj i hi=>?_⟩;rw[Nat.zero_add];exact RowC.cell ok h j i hj hi
theorem SrcC.mono{I J:Nat->Prop}(h:SrcC k enc w I v xs)(hJ:∀j,I j->J j):SrcC k enc w J v xs:=by obtain⟨ao,cap,hv,cj,hc⟩:=h;refine⟨ao,cap,hv,cj,λbh=>?_⟩;obtain⟨b,o,h1,h2,h3⟩:=hc bh;exact⟨b,o,h1,hJ b h2,h3⟩
theorem SrcC.block(ok:dI enc k){I:Nat->Prop}(h:SrcC k enc w I v xs)(bh:xs≠[]):∃b o cap,v=.slice (Option.some ⟨b,o,none⟩) xs.length cap/\I b/\b<w.heap.size:=by obtain⟨ao,cap,hv,cj,hc⟩:=h;obtain⟨b,o,rfl,h2,h3⟩:=hc bh;have ag:0<xs.length:=List.length_pos_iff.2 bh;have hc:=h3 0 ag 0 ok.pos;have hl:=ok.len xs[0];have hp:=ok.pos;rw[List.getElem?_eq_getElem (by omega)]at hc;exact⟨b,o,cap,hv,h2,World.block_lt_of_cell? w _ hc⟩
theorem SrcC.kept(ok:dI enc k){F I:Nat->Prop}{w':World}(h:SrcC k enc w I v xs)(hk:Kept F w w')(hn:∀j,I j->j<w.heap.size->¬F j):SrcC k enc w' I v xs:=by obtain⟨ao,cap,hv,cj,hc⟩:=h;refine⟨ao,cap,hv,cj,λbh=>?_⟩;obtain⟨b,o,h1,h2,h3⟩:=hc bh;refine⟨b,o,h1,h2,λj hj i hi=>?_⟩;have hc:=h3 j hj i hi;have hl:=ok.len xs[j];rw[List.getElem?_eq_getElem (by omega)]at hc ⊢;exact hk.cell hc (hn b h2 (World.block_lt_of_cell? w _ hc))
theorem SrcC.low(ok:dI enc k){I:Nat->Prop}(h:SrcC k enc w I v xs):SrcC k enc w (λj=>I j/\j<w.heap.size) v xs:=by obtain⟨ao,cap,hv,cj,hc⟩:=h;refine⟨ao,cap,hv,cj,λbh=>?_⟩;obtain⟨b,o,h1,h2,h3⟩:=hc bh;have ag:0<xs.length:=List.length_pos_iff.2 bh;have re:=h3 0 ag 0 ok.pos;have hl:=ok.len xs[0];have hp:=ok.pos;rw[List.getElem?_eq_getElem (by omega)]at re;exact⟨b,o,h1,⟨h2,World.block_lt_of_cell? w _ re⟩,h3⟩
end
theorem dR{α:Type}{ops:Array Oper}{rest:List Oper}{o:Oper}{a:Act}{Q:Exit→Act→World→Prop}(w:World)(enc:α→List Value)(k:Nat)(ok:dI enc k)(_hk:k≤100)(B sT eT:Nat)(z:Value)(bytes:Nat)
  (hU:Tryz.prog.underlying sT=some (.slice eT)) (hI:(Tryz.prog.info? eT).map (λi=>(i.zero,i.size,i.bytes))=some (some z,k,bytes)) (hz:z.cells.size=k) (tf:bytes<=1000) (jL:o.guard=none) (s x:Operand)
  (ho:o.op=.call {callee:=.builtin .append,args:=#[s,x],argTypes:=#[sT,sT]})
  (v:Value) (xs:List α) (hs:a.eval s=v) (hrow:RowC B eT k enc w v xs) (ad:Addr) (m c:Nat) (cs:List α) (hx:a.eval x=.slice (some ad) m c) (hm:cs.length=m) (eO:aR w ad (cs.flatMap enc)) (ag:xs.length+cs.length<=1000000000) (hB:B<=w.heap.size)
  (h:∀v' w',RowC B eT k enc w' v' (xs++cs)->w.grownBy w' v.ownBlock->wpList Tryz.prog ops Q rest (a.put o.dst v') w'):wpList Tryz.prog ops Q (o::rest) a w:=by
 subst hm;obtain⟨i0,hi,iq,iG,fW⟩:=info_parts hI;have Ee:(xs.length+cs.length)*bytes<=1000000000*1000:=Nat.mul_le_mul ag tf;refine wpList_append_own w jL s x sT ho B eT i0 z k bytes hU hi iq iG fW hz ok.pos v xs.length (xs.flatMap enc) hs hrow ad cs.length c (cs.flatMap enc) hx (aK ok cs) eO (gI ok cs) (by simp only[maxLen];omega) (by omega) hB ?_;intro v' w' h1 h2 _;refine h v' w' ?_ h2;unfold RowC;rw[List.length_append,List.flatMap_append];exact h1
theorem bU{α:Type}{ops:Array Oper}{rest:List Oper}{o:Oper}{a:Act}{Q:Exit→Act→World→Prop}(w:World)(enc:α→Value)(G7:∀(l:List α),∀u∈l.map enc,u.oneCell'=true)(B sT eT:Nat)(z:Value)(bytes:Nat)
  (hU:Tryz.prog.underlying sT=some (.slice eT)) (hI:(Tryz.prog.info? eT).map (λi=>(i.zero,i.size,i.bytes))=some (some z,1,bytes)) (hz:z.cells.size=1) (tf:bytes<=24) (jL:o.guard=none) (s x:Operand)
  (ho:o.op=.call {callee:=.builtin .append,args:=#[s,x],argTypes:=#[sT,sT]})
  (v:Value) (xs:List α) (hs:a.eval s=v) (hrow:RowE B eT enc w v xs) (I:Nat->Prop) (ao:Option Addr) (n c:Nat) (cs:List α) (hx:a.eval x=.slice ao n c) (hsrc:SrcE enc w I (.slice ao n c) cs) (h0:ao=none->c=0) (ag:xs.length+cs.length<=1000000000) (hB:B<=w.heap.size)
  (h:∀v' w',RowE B eT enc w' v' (xs++cs)->w.grownBy w' v.ownBlock->wpList Tryz.prog ops Q rest (a.put o.dst v') w'):wpList Tryz.prog ops Q (o::rest) a w:=by
 obtain⟨hn,hat⟩:=hsrc.at;cases ao with
 | some ad=>
  refine aX w enc G7 B sT eT z bytes hU hI hz tf jL s x ho v xs hs hrow ad n c cs hx hn.symm ?_ ag hB h;by_cases h0:cs=[]
  ·subst h0;intro j u hu;simp at hu
  ·obtain⟨a',e,hb⟩:=hat h0;injection e with e;subst e;exact hb
 | none=>
  have e0:cs=[]:=Classical.byContradiction (λbh=>by obtain⟨_,e,_⟩:=hat bh;cases e);subst e0;have hc:=h0 rfl;have m6:n=0:=hn;subst hc m6;obtain⟨i0,hi,iq,iG,fW⟩:=info_parts hI;refine wpList_plain jL λK hK=>?_
  have hr:=run_append_owned_none (P:=Tryz.prog) w B sT o.type eT i0 1 hU hi v xs.length (xs.map enc) hrow;unfold Oper.wp execOp;simp only[ho,resolve,invoke,builtin,Sem.run_bind,Sem.run_pure,Result.andThen_ok,List.map_toArray,List.map_cons,List.map_nil,hs,hx,hr];exact hK _ _ (h v w (by simpa using hrow) (World.grownBy.refl _ _))
theorem lS{ops:Array Oper}{rest:List Oper}{o:Oper}{a:Act}{Q:Exit→Act→World→Prop}(w:World)(B:Nat)(jL:o.guard=none)(s x:Operand)
  (ho:o.op=.call {callee:=.builtin .append,args:=#[s,x],argTypes:=#[138,138]})
  (v:Value) (xs:List Nat) (hs:a.eval s=v) (hrow:NRow B w v xs) (I:Nat->Prop) (ao:Option Addr) (n c:Nat) (cs:List Nat) (hx:a.eval x=.slice ao n c) (hsrc:SrcE am w I (.slice ao n c) cs) (h0:ao=none->c=0) (ag:xs.length+cs.length<=1000000000) (hB:B<=w.heap.size)
  (h:∀v' w',NRow B w' v' (xs++cs)->w.grownBy w' v.ownBlock->wpList Tryz.prog ops Q rest (a.put o.dst v') w'):wpList Tryz.prog ops Q (o::rest) a w:=
 bU w am dJ B 138 3 (am 0) 8 Tryz.underlying138 Tryz.infoN rfl (by decide) jL s x ho v xs hs hrow I ao n c cs hx hsrc h0 ag hB h
theorem SrcE.part{w:World}{I:Nat->Prop}{b o cap:Nat}{l:List Nat}(h:SrcE am w I (.slice (some ⟨b,o,none⟩) l.length cap) l)(k:Nat)(hk:k<=l.length):SrcE am w I (.slice (some ⟨b,o,none⟩) k cap) (l.take k):=by obtain⟨ao,cap',e,hc,bO⟩:=h;simp only[Value.slice.injEq]at e;obtain⟨rfl,_,rfl⟩:=e;refine⟨_,_,by rw[List.length_take,Nat.min_eq_left hk],by rw[List.length_take];omega,λbh=>?_⟩;obtain⟨b',o',e,h1,h2⟩:=bO (by intro e;subst e;simp at bh);refine⟨b',o',e,h1,λj hj=>?_⟩;rw[List.length_take]at hj;rw[h2 j (by omega),List.getElem_take]
theorem SrcE.tail{w:World}{I:Nat->Prop}{b o cap:Nat}{l:List Nat}(h:SrcE am w I (.slice (some ⟨b,o,none⟩) l.length cap) l)(k px:Nat)(hk:k<=l.length)(hp:k<l.length->px=o+k):SrcE am w I (.slice (some ⟨b,px,none⟩) (l.length-k) (cap-k)) (l.drop k):=by
 obtain⟨ao,cap',e,hc,bO⟩:=h;simp only[Value.slice.injEq]at e;obtain⟨rfl,_,rfl⟩:=e;refine⟨_,_,by rw[List.length_drop],by rw[List.length_drop];omega,λbh=>?_⟩;have xU:k<l.length:=by
  rcases Nat.lt_or_ge k l.length with h | h
  ·exact h
  ·rw[List.drop_eq_nil_of_le h]at bh;exact absurd rfl bh
 obtain⟨b',o',e,h1,h2⟩:=bO (by intro e;subst e;simp at bh);simp only[Option.some.injEq,Addr.mk.injEq,and_true]at e;obtain⟨rfl,rfl⟩:=e;refine⟨b,px,rfl,h1,λj hj=>?_⟩;rw[List.length_drop]at hj;rw[hp xU,Nat.add_assoc,h2 (k+j) (by omega),List.getElem_drop]
end Go.Proofs.YtllcnlnbpikhdaaGreatDoor
namespace Go.Proofs.YtllcnlnbpikhdaaGreatDoor
abbrev Up(l:List Nat):Prop:=l.Pairwise (·<=·)
def mg:List Nat->List Nat->List (Nat×Bool)
 | l,[]=>l.map (λa=>(a,false))
 | l,p::ps=>(l.takeWhile (λa=>decide (a<=p))).map (λa=>(a,false))++(p,true)::mg (l.dropWhile (λa=>decide (a<=p))) ps
theorem pH(l:List Nat):(l.map (λa=>(a,false))).map (·.1)=l:=by
 induction l with
 | nil=>rfl
 | cons a r ih=>rw[List.map_cons,List.map_cons,ih]
theorem iw(l:List Nat):mg l []=l.map (λa=>(a,false)):=by simp[mg]
theorem kD{a p:Nat}(l ps:List Nat)(h:a<=p):mg (a::l) (p::ps)=(a,false)::mg l (p::ps):=by simp[mg,h]
theorem kk{a p:Nat}(l ps:List Nat)(h:¬a<=p):mg (a::l) (p::ps)=(p,true)::mg (a::l) ps:=by simp[mg,h]
theorem mj(p:Nat)(ps:List Nat):mg [] (p::ps)=(p,true)::mg [] ps:=by simp[mg]
theorem qn{motive:List Nat→List Nat→Prop}(h1:∀l,motive l [])(h2:∀a l p ps,a≤p→motive l (p::ps)→motive (a::l) (p::ps))
  (h3:∀a l p ps,¬a<=p->motive (a::l) ps->motive (a::l) (p::ps)) (h4:∀p ps,motive [] ps->motive [] (p::ps)) (l ps:List Nat):motive l ps:=by
 induction ps generalizing l with
 | nil=>exact h1 l
 | cons p ps ih=>
  induction l with
  | nil=>exact h4 p ps (ih [])
  | cons a l ihl=>
   by_cases h:a<=p
   ·exact h2 a l p ps h ihl
   ·exact h3 a l p ps h (ih (a::l))
theorem sN(l ps:List Nat):((mg l ps).filter (λx=>!x.2)).map (·.1)=l:=by
 refine qn (motive:=λl ps=>((mg l ps).filter (λx=>!x.2)).map (·.1)=l) ?_ ?_ ?_ ?_ l ps
 ·intro l;rw[iw,List.filter_eq_self.2 (by simp)];exact pH l
 ·intro a l p ps h ih;rw[kD _ _ h,List.filter_cons_of_pos (by simp),List.map_cons,ih]
 ·intro a l p ps h ih;rw[kk _ _ h,List.filter_cons_of_neg (by simp),ih]
 ·intro p ps ih;rw[mj,List.filter_cons_of_neg (by simp),ih]
theorem FZ(l ps:List Nat):((mg l ps).filter (λx=>x.2)).map (·.1)=ps:=by
 refine qn (motive:=λl ps=>((mg l ps).filter (λx=>x.2)).map (·.1)=ps) ?_ ?_ ?_ ?_ l ps
 ·intro l;rw[iw,List.filter_eq_nil_iff.2 (by simp)];rfl
 ·intro a l p ps h ih;rw[kD _ _ h,List.filter_cons_of_neg (by simp),ih]
 ·intro a l p ps h ih;rw[kk _ _ h,List.filter_cons_of_pos (by simp),List.map_cons,ih]
 ·intro p ps ih;rw[mj,List.filter_cons_of_pos (by simp),List.map_cons,ih]
theorem mF(l ps:List Nat):((mg l ps).map (·.1)).Perm (l++ps):=by
 refine qn (motive:=λl ps=>((mg l ps).map (·.1)).Perm (l++ps)) ?_ ?_ ?_ ?_ l ps
 ·intro l;rw[iw,pH,List.append_nil]
 ·intro a l p ps h ih;rw[kD _ _ h];exact ih.cons a
 ·intro a l p ps h ih;rw[kk _ _ h,List.map_cons];exact(ih.cons p).trans (List.perm_middle (l₁:=a::l)).symm
 ·intro p ps ih;rw[mj];exact ih.cons p
theorem sU(l ps:List Nat):(mg l ps).length=l.length+ps.length:=by have:=(mF l ps).length_eq;simpa using this
theorem Ku(l ps:List Nat)(hl:Up l)(hp:Up ps):Up ((mg l ps).map (·.1)):=by
 revert hl hp
 refine qn (motive:=λl ps=>Up l->Up ps->Up ((mg l ps).map (·.1))) ?_ ?_ ?_ ?_ l ps
 ·intro l hl _;rw[iw,pH];exact hl
 ·intro a l p ps h ih hl hp;have ha:=List.pairwise_cons.1 hl;have hb:=List.pairwise_cons.1 hp;rw[kD _ _ h,List.map_cons];refine List.pairwise_cons.2 ⟨λx hx=>?_,ih ha.2 hp⟩;rcases List.mem_append.1 ((mF l (p::ps)).mem_iff.1 hx)with h1 | h1
  ·exact ha.1 x h1
  ·rcases List.mem_cons.1 h1 with rfl | h1
   ·exact h
   ·exact Nat.le_trans h (hb.1 x h1)
 ·intro a l p ps h ih hl hp;have ha:=List.pairwise_cons.1 hl;have hb:=List.pairwise_cons.1 hp;rw[kk _ _ h,List.map_cons];refine List.pairwise_cons.2 ⟨λx hx=>?_,ih hl hb.2⟩;rcases List.mem_append.1 ((mF (a::l) ps).mem_iff.1 hx)with h1 | h1
  ·rcases List.mem_cons.1 h1 with rfl | h1
   ·omega
   ·have:=ha.1 x h1;omega
  ·exact hb.1 x h1
 ·intro p ps ih hl hp;have hb:=List.pairwise_cons.1 hp;rw[mj,List.map_cons];refine List.pairwise_cons.2 ⟨λx hx=>?_,ih hl hb.2⟩;rcases List.mem_append.1 ((mF [] ps).mem_iff.1 hx)with h1 | h1
  ·simp at h1
  ·exact hb.1 x h1
def pk(X:List (Nat×Bool))(T:Nat):Nat:=(X.take T).countP (λx=>x.2)
def lf(X:List (Nat×Bool))(T:Nat):Nat:=(X.take T).countP (λx=>!x.2)
theorem FS(X:List (Nat×Bool))(T:Nat)(h:T<=X.length):lf X T+pk X T=T:=by
 have e:(X.take T).length=T:=by simp;omega
 have:=List.length_eq_countP_add_countP (λx:Nat×Bool=>x.2) (l:=X.take T);have h2:lf X T=(X.take T).countP (λa=>decide ¬(a.2=true)):=by unfold lf;congr 1;funext x;cases x.2<;>rfl
 unfold pk at *
 omega
theorem CE(l ps:List Nat)(hl:Up l)(k T:Nat)(hk:k<ps.length)(hT:k+1<=pk (mg l ps) T):l.countP (λa=>decide (a<=ps[k]))<=lf (mg l ps) T:=by
 revert hl k T
 refine qn (motive:=λl ps=>Up l->∀(k T:Nat) (hk:k<ps.length),k+1<=pk (mg l ps) T->l.countP (λa=>decide (a<=ps[k]))<=lf (mg l ps) T) ?_ ?_ ?_ ?_ l ps
 ·intro l _ k T hk;simp at hk
 ·intro a l p ps h ih hl k T hk hT;rw[kD _ _ h]at hT ⊢;cases T with
  | zero=>simp[pk]at hT
  | succ T=>
   have h1:k+1<=pk (mg l (p::ps)) T:=(by simpa[pk]using hT);have h2:=ih (List.pairwise_cons.1 hl).2 k T hk h1;have h3:lf ((a,false)::mg l (p::ps)) (T+1)=lf (mg l (p::ps)) T+1:=(by simp[lf]);rw[h3];have:=List.countP_cons (p:=λa=>decide (a<=(p::ps)[k])) (a:=a) (l:=l);rw[this];split<;>omega
 ·intro a l p ps h ih hl k T hk hT;rw[kk _ _ h]at hT ⊢;cases T with
  | zero=>simp[pk]at hT
  | succ T=>
   have h3:lf ((p,true)::mg (a::l) ps) (T+1)=lf (mg (a::l) ps) T:=(by simp[lf]);rw[h3];cases k with
   | zero=>
    have:(a::l).countP (λx=>decide (x<=(p::ps)[0]))=0:=by
     refine List.countP_eq_zero.2 (λx hx hc=>?_);have hc:x<=p:=(by simpa using hc);rcases List.mem_cons.1 hx with rfl | hx
     ·exact h hc
     ·have:=(List.pairwise_cons.1 hl).1 x hx;omega
    rw[this];omega
   | succ k=>
    have h1 : k + 1 ≤ pk (mg (a :: l) ps) T := by have h4:k+1+1≤pk (mg (a::l) ps) T+1:=by simpa[pk]using hT
                                                  omega
    exact ih hl k T (by simpa using hk) h1
 ·intro p ps ih hl k T hk hT;simp
def cR:List Nat->List Nat
 | a::b::r=>(a+b)::cR r
 | _=>[]
theorem bX:∀l:List Nat,(cR l).length=l.length / 2
 | []=>rfl
 | [_]=>by simp[cR]
 | a::b::r=>by simp only[cR,List.length_cons,bX r];omega
theorem fY:∀(l:List Nat) (k:Nat) (h:k<(cR l).length),(cR l)[k]=l[2*k]'(by have:=bX l;omega)+l[2*k+1]'(by have:=bX l;omega)
 | [],k,h=>by simp[cR]at h
 | [_],k,h=>by simp[cR]at h
 | a::b::r,0,h=>by simp[cR]
 | a::b::r,k+1,h=>by have h2:k<(cR r).length:=(by simpa[cR]using h);have:=fY r k h2;simp only[cR,List.getElem_cons_succ,this,show 2*(k+1)=2*k+1+1 by omega]
theorem GC(l:List Nat)(h:Up l):Up (cR l):=by
 refine List.pairwise_iff_getElem.2 (λi j hi hj Hf=>?_);rw[fY l i hi,fY l j hj];have hl:=bX l;have g:=fun(x y:Nat) (hx:x<l.length) (hy:y<l.length) (tj:x<y)=>List.pairwise_iff_getElem.1 h x y hx hy tj
 have h1:=g (2*i) (2*j) (by omega) (by omega) (by omega);have h2:=g (2*i+1) (2*j+1) (by omega) (by omega) (by omega);omega
def cK(ws:List Nat):Nat->List (Nat×Bool)
 | 0=>mg ws []
 | t+1=>mg ws (cR ((cK ws t).map (·.1)))
theorem GK(ws:List Nat)(h:Up ws):∀t,Up ((cK ws t).map (·.1))
 | 0=>Ku ws [] h List.Pairwise.nil
 | t+1=>Ku ws _ h (GC _ (GK ws h t))
theorem jv(ws:List Nat)(t:Nat):(cK ws (t+1)).length=ws.length+(cK ws t).length / 2:=by simp[cK,sU,bX]
theorem jy(ws:List Nat):(cK ws 0).length=ws.length:=by simp[cK,iw]
theorem lP(ws:List Nat)(t:Nat):2 ^ t*(2*ws.length)<=2 ^ t*(cK ws t).length+ws.length+(2 ^ t-1)/\(cK ws t).length<=2*ws.length:=by
 induction t with
 | zero=>rw[jy];simp;omega
 | succ t ih=>
  rw[jv,Nat.pow_succ];have hp:0<2 ^ t:=Nat.two_pow_pos t;generalize (cK ws t).length=L at *
  generalize ws.length=m at *
  generalize 2 ^ t=q at *
  have h1:L<=2*(L / 2)+1:=(by omega);have h2:q*L<=q*(2*(L / 2)+1):=Nat.mul_le_mul_left _ h1;have e1:q*2*(2*m)=2*(q*(2*m)):=(by rw[Nat.mul_assoc,<-Nat.mul_left_comm]);have e2:q*2*(m+L / 2)=q*(2*m)+q*(2*(L / 2)):=(by rw[Nat.mul_assoc,<-Nat.mul_add];congr 1;omega);have e3:q*(2*(L / 2)+1)=q*(2*(L / 2))+q:=(by rw[Nat.mul_add,Nat.mul_one]);refine⟨?_,by omega⟩;omega
theorem AX(ws:List Nat)(t:Nat)(h:ws.length<=2 ^ (t+1)):2*ws.length-2<=(cK ws t).length:=by
 have h1:=(lP ws t).1;have hp:0<2 ^ t:=Nat.two_pow_pos t;rw[Nat.pow_succ]at h;generalize (cK ws t).length=L at *
 generalize ws.length=m at *
 generalize 2 ^ t=q at *
 refine Classical.byContradiction (λhc=>?_);have h2:L+3<=2*m:=by omega
 have h3:q*(L+3)<=q*(2*m):=Nat.mul_le_mul_left _ h2;rw[Nat.mul_add]at h3;omega
theorem Bz(ws:List Nat)(t T:Nat):2*pk (cK ws (t+1)) T<=(cK ws t).length:=by
 have h1:pk (cK ws (t+1)) T<=(cK ws (t+1)).countP (λx=>x.2):=by unfold pk;exact List.Sublist.countP_le (List.take_sublist _ _)
 have h2:(cK ws (t+1)).countP (λx=>x.2)=(cR ((cK ws t).map (·.1))).length:=by rw[<-FZ ws (cR ((cK ws t).map (·.1))),List.length_map,List.countP_eq_length_filter];rfl
 rw[bX,List.length_map]at h2;omega
theorem A6(ws:List Nat)(T:Nat):pk (cK ws 0) T=0:=by unfold pk;refine List.countP_eq_zero.2 (λx hx=>?_);have:=List.mem_of_mem_take hx;simp[cK,iw]at this;obtain⟨a,_,rfl⟩:=this;simp
theorem wv(l ps:List Nat)(T:Nat):(((mg l ps).take T).filter (λx=>!x.2)).map (·.1)=l.take (lf (mg l ps) T):=by
 have h:=sN l ps;have e:(mg l ps).filter (λx=>!x.2)=((mg l ps).take T).filter (λx=>!x.2)++((mg l ps).drop T).filter (λx=>!x.2):=by rw[<-List.filter_append,List.take_append_drop]
 rw[e,List.map_append]at h;generalize hA:(((mg l ps).take T).filter (λx=>!x.2)).map (·.1)=A at *
 have hl:lf (mg l ps) T=A.length:=by rw[<-hA,List.length_map,lf,List.countP_eq_length_filter]
 rw[hl,<-h,List.take_left'];rfl
theorem Kq(l ps:List Nat)(T:Nat):lf (mg l ps) T<=l.length:=by
 have h:lf (mg l ps) T<=(mg l ps).countP (λx=>!x.2):=by unfold lf;exact List.Sublist.countP_le (List.take_sublist _ _)
 have h2:=congrArg List.length (sN l ps);rw[List.length_map,<-List.countP_eq_length_filter]at h2;omega
theorem kF(ws:List Nat)(t T:Nat):lf (cK ws t) T<=ws.length:=by
 cases t with
 | zero=>exact Kq ws [] T
 | succ t=>exact Kq ws _ T
theorem JE(ws:List Nat)(hu:Up ws)(t T:Nat):lf (cK ws t) (2*pk (cK ws (t+1)) T)<=lf (cK ws (t+1)) T:=by
 generalize hp:pk (cK ws (t+1)) T=p at *
 cases p with
 | zero=>simp[lf]
 | succ p=>
  have md:=Bz ws t T;rw[hp]at md;have rH:p<(cR ((cK ws t).map (·.1))).length:=(by rw[bX,List.length_map];omega);have h1:=CE ws (cR ((cK ws t).map (·.1))) hu p T rH (by rw[show mg ws (cR ((cK ws t).map (·.1)))=cK ws (t+1)from rfl,hp];exact Nat.le_refl _);refine Nat.le_trans ?_ h1;have Ec:=fY ((cK ws t).map (·.1)) p rH;have Xh:=GK ws hu t;have MU:∃ps,cK ws t=mg ws ps:=by
   cases t with
   | zero=>exact⟨[],rfl⟩
   | succ t=>exact⟨_,rfl⟩
  obtain⟨ps,IE⟩:=MU;have SZ:=wv ws ps (2*(p+1));rw[<-IE]at SZ;have Eg:∀a∈ws.take (lf (cK ws t) (2*(p+1))),decide (a<=(cR ((cK ws t).map (·.1)))[p])=true:=by
   intro a ha;rw[<-SZ]at ha;obtain⟨x,hx,rfl⟩:=List.mem_map.1 ha;have fX:=(List.mem_filter.1 hx).1;obtain⟨j,hj,rfl⟩:=List.getElem_of_mem fX;simp only[List.length_take]at hj;rw[List.getElem_take];have ce:((cK ws t)[j]'(by omega)).1<=((cK ws t).map (·.1))[2*p+1]'(by rw[List.length_map];omega):=by
    by_cases e:j=2*p+1
    ·subst e;simp
    ·have:=List.pairwise_iff_getElem.1 Xh j (2*p+1) (by rw[List.length_map];omega) (by rw[List.length_map];omega) (by omega);simpa using this
   simp only[decide_eq_true_eq];omega
  have h2:(ws.take (lf (cK ws t) (2*(p+1)))).countP (λa=>decide (a<=(cR ((cK ws t).map (·.1)))[p]))=lf (cK ws t) (2*(p+1)):=(by rw[List.countP_eq_length.2 Eg,List.length_take];have:=kF ws t (2*(p+1));omega);rw[<-h2];exact List.Sublist.countP_le (List.take_sublist _ _)
def ee(ws:List Nat):Nat->Nat->Nat->Nat
 | 0,T,i=>if i<lf (cK ws 0) T then 1 else 0
 | t+1,T,i=>(if i<lf (cK ws (t+1)) T then 1 else 0)+ee ws t (2*pk (cK ws (t+1)) T) i
def DG(ws:List Nat):Nat->Nat->Nat->Nat
 | 0,T,i=>if i<lf (cK ws 0) T then 1 else 0
 | t+1,T,i=>(if i<lf (cK ws (t+1)) T then 2 ^ (t+1)else 0)+DG ws t (2*pk (cK ws (t+1)) T) i
theorem BM(ws:List Nat)(t T i:Nat):ee ws t T i<=t+1:=by
 induction t generalizing T with
 | zero=>unfold ee;split<;>omega
 | succ t ih=>
  have:=ih (2*pk (cK ws (t+1)) T);unfold ee;split<;>omega
theorem Cz(ws:List Nat)(hu:Up ws)(t T i:Nat)(h:lf (cK ws t) T<=i):ee ws t T i=0/\DG ws t T i=0:=by
 induction t generalizing T with
 | zero=>unfold ee DG;rw[if_neg (by omega)];exact⟨rfl,rfl⟩
 | succ t ih=>
  have h2:=JE ws hu t T;have:=ih (2*pk (cK ws (t+1)) T) (by omega);unfold ee DG;rw[if_neg (by omega),if_neg (by omega),this.1,this.2];exact⟨rfl,rfl⟩
theorem Fo(ws:List Nat)(hu:Up ws)(t T i:Nat):DG ws t T i+2 ^ (t+1-ee ws t T i)=2 ^ (t+1):=by
 induction t generalizing T with
 | zero=>unfold DG ee;split<;>simp
 | succ t ih=>
  by_cases h:i<lf (cK ws (t+1)) T
  ·have:=ih (2*pk (cK ws (t+1)) T);have hg:=BM ws t (2*pk (cK ws (t+1)) T) i;unfold DG ee;rw[if_pos h,if_pos h,show t+1+1-(1+ee ws t (2*pk (cK ws (t+1)) T) i)=t+1-ee ws t (2*pk (cK ws (t+1)) T) i by omega,Nat.pow_succ 2 (t+1)];omega
  ·have:=Cz ws hu (t+1) T i (by omega);rw[this.1,this.2];simp
def eh(m:Nat)(f:Nat->Nat):Nat:=((List.range m).map f).sum
theorem dK(m:Nat)(f:Nat->Nat):eh (m+1) f=eh m f+f m:=by simp[eh,List.range_succ]
theorem uY(m:Nat)(f g:Nat->Nat):eh m (λi=>f i+g i)=eh m f+eh m g:=by
 induction m with
 | zero=>rfl
 | succ m ih=>rw[dK,dK,dK,ih];omega
theorem lG(m c:Nat):eh m (λ_=>c)=m*c:=by
 induction m with
 | zero=>simp[eh]
 | succ m ih=>rw[dK,ih,Nat.add_mul,Nat.one_mul]
theorem gP(m:Nat)(f g:Nat->Nat)(h:∀i,i<m->f i=g i):eh m f=eh m g:=by unfold eh;congr 1;exact List.map_congr_left (λi hi=>h i (by simpa using hi))
theorem qo(m a c:Nat)(h:a<=m):eh m (λi=>if i<a then c else 0)=a*c:=by
 induction m with
 | zero => have:a=0:=by omega
           subst this;simp[eh]
 | succ m ih=>
  rw[dK];by_cases e:a=m+1
  ·subst e;rw[gP m _ (λ_=>c) (λi hi=>if_pos (by omega)),lG,if_pos (by omega),Nat.add_mul,Nat.one_mul]
  ·rw[ih (by omega),if_neg (by omega)];omega
theorem Jd(ws:List Nat)(t T:Nat)(hT:T<=(cK ws t).length):eh ws.length (DG ws t T)=T*2 ^ t:=by
 induction t generalizing T with
 | zero=>
  have h1:=FS (cK ws 0) T hT;rw[A6]at h1;have e:DG ws 0 T=λi=>if i<lf (cK ws 0) T then 1 else 0:=by funext i;rfl
  rw[e,qo _ _ _ (kF ws 0 T)];simp;omega
 | succ t ih=>
  have h1:=FS (cK ws (t+1)) T hT;have h2:=ih (2*pk (cK ws (t+1)) T) (Bz ws t T);have e:DG ws (t+1) T=λi=>(if i<lf (cK ws (t+1)) T then 2 ^ (t+1)else 0)+DG ws t (2*pk (cK ws (t+1)) T) i:=by funext i;rfl
  rw[e,uY,qo _ _ _ (kF ws (t+1) T),h2];have e2:2*pk (cK ws (t+1)) T*2 ^ t=pk (cK ws (t+1)) T*2 ^ (t+1):=(by rw[Nat.pow_succ,Nat.mul_comm 2,Nat.mul_assoc,Nat.mul_comm 2]);rw[e2,<-Nat.add_mul,h1]
theorem qk(ws:List Nat)(hu:Up ws)(t:Nat)(h2:2<=ws.length)(hm:ws.length<=2 ^ (t+1)):eh ws.length (λi=>2 ^ (t+1-ee ws t (2*ws.length-2) i))=2 ^ (t+1):=by
 have h1:=Jd ws t (2*ws.length-2) (AX ws t hm);have h3:eh ws.length (λi=>DG ws t (2*ws.length-2) i+2 ^ (t+1-ee ws t (2*ws.length-2) i))=ws.length*2 ^ (t+1):=by rw[gP _ _ (λ_=>2 ^ (t+1)) (λi _=>Fo ws hu t _ i),lG]
 rw[uY]at h3;have h4:eh ws.length (λi=>DG ws t (2*ws.length-2) i)=(2*ws.length-2)*2 ^ t:=h1;rw[h4]at h3;have e:(2*ws.length-2)*2 ^ t=(ws.length-1)*2 ^ (t+1):=by rw[show 2*ws.length-2=(ws.length-1)*2 by omega,Nat.pow_succ,Nat.mul_assoc,Nat.mul_comm 2]
 rw[e]at h3;have e2:ws.length*2 ^ (t+1)=(ws.length-1)*2 ^ (t+1)+2 ^ (t+1):=by conv=>lhs;rw[show ws.length=(ws.length-1)+1 by omega,Nat.add_mul,Nat.one_mul]
 omega
theorem IR(m:Nat)(f:Nat->Nat)(i:Nat)(h:i<m):f i<=eh m f:=by
 induction m with
 | zero=>omega
 | succ m ih=>
  rw[dK];by_cases e:i=m
  ·subst e;omega
  ·have:=ih (by omega);omega
theorem wL(m:Nat)(f:Nat->Nat)(i j:Nat)(Hf:i<j)(h:j<m):f i+f j<=eh m f:=by
 induction m with
 | zero=>omega
 | succ m ih=>
  rw[dK];by_cases e:j=m
  ·subst e;have:=IR j f i Hf;omega
  ·have:=ih (by omega);omega
theorem EP(ws:List Nat)(hu:Up ws)(t:Nat)(h2:2<=ws.length)(hm:ws.length<=2 ^ (t+1))(i:Nat)(hi:i<ws.length):1<=ee ws t (2*ws.length-2) i:=by
 refine Classical.byContradiction (λhc=>?_);have h0:ee ws t (2*ws.length-2) i=0:=by omega
 have hk:=qk ws hu t h2 hm;have uu:=λj=>Nat.two_pow_pos (t+1-ee ws t (2*ws.length-2) j)
 by_cases e:i=0
 ·have:=wL ws.length (λi=>2 ^ (t+1-ee ws t (2*ws.length-2) i)) 0 1 (by omega) (by omega);have h3:=uu 1;subst e;simp only[h0,Nat.sub_zero]at this;omega
 ·have:=wL ws.length (λi=>2 ^ (t+1-ee ws t (2*ws.length-2) i)) 0 i (by omega) hi;have h3:=uu 0;simp only[h0,Nat.sub_zero]at this;omega
end Go.Proofs.YtllcnlnbpikhdaaGreatDoor
