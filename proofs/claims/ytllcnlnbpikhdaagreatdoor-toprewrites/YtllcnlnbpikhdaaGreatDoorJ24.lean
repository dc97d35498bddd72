import Derived.Lib.AppendZerosOnto
import Derived.Lib.Walk
import Derived.Test.YtllcnlnbpikhdaaGreatDoorJ23
set_option maxHeartbeats 4000000
set_option maxRecDepth 100000
namespace Go.Proofs.YtllcnlnbpikhdaaGreatDoor
open Go.RowKit
theorem CP(w:World)(n:Nat)(h1:1≤n)(hn:n≤100000000):
  Calls Tryz.prog 37 #[.slice none 0 0,.int .i64 (n:Nat)] w λe w'=>(∃G,e=.returned (.slice (some ⟨w.heap.size,0,none⟩) 0 G)/\Fresh w w' (.slice (some ⟨w.heap.size,0,none⟩) 0 G) []):=by
 obtain⟨i0,hi,iq,iG,fW⟩:=info_parts Tryz.info8;have ei:(0+n)*i0.bytes<=140737488355328:=by rw[fW];omega
 have hold:(Builtin.firstCells i0.size 0 (.slice none 0 0)).run Tryz.prog w.drew=.ok ([]:List Value).toArray w.drew:=run_firstCells_none w.drew i0.size 0 0 0;have JU:∀ty,(Builtin.append_ #[22,3] ty #[.slice none 0 0,.int .i64 (n:Nat)]).run Tryz.prog w =
   .ok (.slice (some ⟨w.heap.size,0,none⟩) (0+n) (grownCap w (0+n) 0 5)) (w.drew.alloc (.cells (([]:List Value).toArray++Builtin.zeroCells (bj 0).cells n++Builtin.zeroCells (bj 0).cells (grownCap w (0+n) 0 5-(0+n))) 5)):=λty=>
  Lib.run_append_grow_zeros w 22 3 ty 5 i0 _ .i64 .i64 Tryz.underlying22 Tryz.underlying3 hi iq none 0 0 [] hold n (by omega) (by omega) (by omega) (by omega) (by rw[fW];omega) (growslice_fits (by omega) ei)
 have ND:0+n<=grownCap w (0+n) 0 5:=grownCap_ge w _ _ _;have LT:grownCap w (0+n) 0 5<=maxLen:=grownCap_le_maxLen w _ _ _ (by unfold maxLen;omega);obtain⟨G,hG⟩:∃G,G=grownCap w (0+n) 0 5:=⟨_,rfl⟩
 rw[<-hG]at JU ND LT;rw[Nat.zero_add]at JU ND;obtain⟨cur,kU⟩:∃cur,cur=([]:List Value).toArray++Builtin.zeroCells (bj 0).cells n++Builtin.zeroCells (bj 0).cells (G-n):=⟨_,rfl⟩
 have eO:cur.size=G:=by rw[kU];have e:(bj 0).cells.size=1:=rfl;simp[Builtin.zeroCells,e];omega
 rw[<-kU]at JU;have HROW:Hid (Fresh w (w.drew.alloc (.cells cur 5)) (.slice (some ⟨w.heap.size,0,none⟩) 0 G) []):=hid ⟨⟨rfl,.inr ⟨w.heap.size,G,cur,rfl,Nat.zero_le _,Blk.new w.drew cur 5,Nat.zero_le _,LT,by rw[eO,Nat.mul_one],by simp⟩⟩,((Kept.refl _ w).drew).alloc _,λk e=>by simp only[Value.ownBlock,Option.some.injEq]at e;omega⟩;clear hold ei hi iq iG fW hG kU eO LT;go_enter Tryz.func37,Tryz.ntmps37;go_wp2_with (at_builtin;refine Lib.wpList_append_run _ rfl _ _ _ _ rfl _ _ rfl rfl _ _ (JU _) ?_)
 all_goals
  go_ret;exact⟨G,rfl,HROW.out⟩
theorem ff{ops:Array Oper}{rest:List Oper}{o:Oper}{a:Act}{Q:Exit→Act→World→Prop}(w:World)(jL:o.guard=none)(s x:Operand)
  (ho:o.op=.call {callee:=.builtin .append,args:=#[s,x],argTypes:=#[22,22]})
  (w0:World) (v:Value) (bs:List Nat) (hs:a.eval s=v) (hf:Fresh w0 w v bs) (I:Nat->Prop) (xv:Value) (cs:List Nat) (hx:a.eval x=xv) (fh:∀n c,xv=.slice none n c->n=0/\c=0) (hsrc:Src w I xv cs) (ag:bs.length+cs.length<=1000000000000)
  (h:∀v' w',Fresh w0 w' v' (bs++cs)->wpList Tryz.prog ops Q rest (a.put o.dst v') w'):wpList Tryz.prog ops Q (o::rest) a w:=by
 refine bE w jL s x ho v bs hs hf.row I xv cs hx fh hsrc ag ?_;intro v' w' h1 h2 h3;refine h v' w' ⟨h1,hf.kept.grown h2 (λk e=>.inr (hf.new k e)),λk e=>?_⟩;rcases h3 with e3 | e3
 ·exact hf.new k (by rw[<-e3];exact e)
 ·rw[e3]at e;have:=hf.kept.size;simp only[Option.some.injEq]at e;omega
theorem wu(w:World)(h:Nat)(aa ab ac:Option Addr)(la lb lc ca cb cc:Nat)(I J K:Nat→Prop)(xa xb xc:List Nat)
  (re:w.cell? ⟨h,0,none⟩=some (.slice aa la ca)) (eH:w.cell? ⟨h,1,none⟩=some (.slice ab lb cb)) (cm:w.cell? ⟨h,2,none⟩=some (.slice ac lc cc))
  (hA:Src w I (.slice aa la ca) xa) (hB:Src w J (.slice ab lb cb) xb) (hC:Src w K (.slice ac lc cc) xc) (nA:∀n c,Value.slice aa la ca=.slice none n c->n=0/\c=0) (nB:∀n c,Value.slice ab lb cb=.slice none n c->n=0/\c=0) (nC:∀n c,Value.slice ac lc cc=.slice none n c->n=0/\c=0) (h1:1<=lc) (OZ:la<=10000000) (rL:lb<=10000000) (Of:lc<=1000):
  Calls Tryz.prog 20 #[.slice (some ⟨h,0,none⟩) 3 3] w λe w'=>∃v',e=.returned v'/\Fresh w w' v' (xa++xb++xc):=by
 have HL:Hid (xa.length=la/\xb.length=lb/\xc.length=lc):=hid (by
  obtain⟨_,_,e1,_⟩:=id hA;obtain⟨_,_,e2,_⟩:=id hB;obtain⟨_,_,e3,_⟩:=id hC;simp only[Value.slice.injEq]at e1 e2 e3;exact⟨e1.2.1.symm,e2.2.1.symm,e3.2.1.symm⟩)
 have HA:Hid (Src w I (.slice aa la ca) xa/\∀n c,Value.slice aa la ca=.slice none n c->n=0/\c=0):=hid ⟨hA,nA⟩;have HB:Hid (Src w J (.slice ab lb cb) xb/\∀n c,Value.slice ab lb cb=.slice none n c->n=0/\c=0):=hid ⟨hB,nB⟩;have HC:Hid (Src w K (.slice ac lc cc) xc/\∀n c,Value.slice ac lc cc=.slice none n c->n=0/\c=0):=hid ⟨hC,nC⟩;obtain⟨t1,lX⟩:∃t,t=la+lb:=⟨_,rfl⟩
 obtain⟨t2,iE⟩:∃t,t=t1+lc:=⟨_,rfl⟩
 have hI1:(la:Int)+(lb:Int)=(t1:Int):=by omega
 have RT:(t1:Int)+(lc:Int)=(t2:Int):=by omega
 have ly:IntKind.i64.wrap (la:Int)=(la:Int):=by rw[IntKind.wrap_i64];omega
 have hw1:IntKind.i64.wrap (t1:Int)=(t1:Int):=by rw[IntKind.wrap_i64];omega
 have hw2:IntKind.i64.wrap (t2:Int)=(t2:Int):=by rw[IntKind.wrap_i64];omega
 have HGR:=CP w t2 (by omega) (by omega);have l6:t1<=20000000:=by omega
 have ur:t2<=30000000:=by omega
 clear hA hB hC nA nB nC lX iE;go_enter Tryz.func20,Tryz.ntmps20;go_wp2_with fail;refine wp_loop_rounds 4 ?_;rw[rounds_succ];go_wp2_with fail;rw[rounds_succ];go_wp2_with fail;rw[rounds_succ];go_wp2_with fail;rw[rounds_succ];go_wp2_with fail;refine HGR.mono ?_;rintro e w1 ⟨G,rfl,hf1⟩;have HF1:Hid (Fresh w w1 (.slice (some ⟨w.heap.size,0,none⟩) 0 G) []):=hf1;have c0:=hf1.kept.cell re (λf=>f);have c1:=hf1.kept.cell eH (λf=>f);have c2:=hf1.kept.cell cm (λf=>f);clear hf1 HGR;go_wp2_with fail;refine wp_loop_rounds 4 ?_;rw[rounds_succ];go_wp2_with (at_builtin;refine ff _ rfl (.tmp 31) (.tmp 32) rfl w _ [] rfl HF1.out I _ xa rfl HA.out.2 (HA.out.1.kept HF1.out.kept (λ_ _ _ f=>f)) (by have:=HL.out;simp;omega) ?_;intro v3 w3 hf3;have HF3:Hid (Fresh w w3 v3 xa):=hid (by simpa using hf3);have d0:=HF3.out.kept.cell re (λf=>f);have d1:=HF3.out.kept.cell eH (λf=>f);have d2:=HF3.out.kept.cell cm (λf=>f);clear hf3);rw[rounds_succ];go_wp2_with (at_builtin;refine ff _ rfl (.tmp 31) (.tmp 32) rfl w _ xa rfl HF3.out J _ xb rfl HB.out.2 (HB.out.1.kept HF3.out.kept (λ_ _ _ f=>f)) (by have:=HL.out;omega) ?_;intro v4 w4 hf4;have HF4:Hid (Fresh w w4 v4 (xa++xb)):=hf4;have d0:=HF4.out.kept.cell re (λf=>f);have d1:=HF4.out.kept.cell eH (λf=>f);have d2:=HF4.out.kept.cell cm (λf=>f);clear hf4);rw[rounds_succ];go_wp2_with (at_builtin;refine ff _ rfl (.tmp 31) (.tmp 32) rfl w _ (xa++xb) rfl HF4.out K _ xc rfl HC.out.2 (HC.out.1.kept HF4.out.kept (λ_ _ _ f=>f)) (by have:=HL.out;rw[List.length_append];omega) ?_;intro v5 w5 hf5;have HF5:Hid (Fresh w w5 v5 (xa++xb++xc)):=hf5;have d0:=HF5.out.kept.cell re (λf=>f);have d1:=HF5.out.kept.cell eH (λf=>f);have d2:=HF5.out.kept.cell cm (λf=>f);clear hf5);rw[rounds_succ];go_wp2_with fail;go_ret;exact⟨_,rfl,HF5.out⟩
end Go.Proofs.YtllcnlnbpikhdaaGreatDoor
