/-
  Of the proof: parts ChX.
-/
import Derived.Shelf.SlIter.Stops
import Derived.RangeFuncNested
import Derived.RangeFuncKeeps
import Derived.Test.YtcfociogljhbiaaGreatDoorJ22

namespace Go.Proofs.YtcfociogljhbiaaGreatDoor
open Go.RowKit Go.Maps Go.Sort Go.Shelf

def KeysAre(L:List (Bx×Nat))(xs:List Bx):Prop:=xs.Nodup∧(∀b,b∈xs↔∃a,getK b L=some a)∧xs.length≤L.length

set_option maxRecDepth 100000 in
set_option maxHeartbeats 2000000 in
theorem keysB_in(n l Bm mb:Nat)(hn:1≤n)(L:List (Bx×Nat))(J Jx:List Bx→World→Prop)
  (hY:∀pre x W,J pre W→pre.length<L.length→YieldAt Fence.wide (n-1) Tryz.prog l #[bxV x] W fun e W'=>
   (e=.returned (.bool true)∧J (pre++[x]) W'∧KeepsWalks W W')∨(e=.returned (.bool false)∧Jx (pre++[x]) W'))
  (W:World) (hJ:AbidesFrom W.heap.size J) (hm:W.cell? ⟨Bm,0,none⟩=some (.map (some mb))) (hown:MpK 128 mpC kB W mb L) (h0:J [] W):
  CallsIn Fence.wide n Tryz.prog 136 #[.func (.yield l) #[] #[],.pointer (some ⟨Bm,0,none⟩)] W fun e W'=>(∃v,e=.returned v) ∧
   ((∃xs:List Bx,KeysAre L xs∧J xs W')∨(∃pre:List Bx,True∧Jx pre W')):=by
 refine callsIn_of_wp Tryz.func136 rfl trivial ?_ rfl
 simp only[Tryz.ntmps136,List.size_toArray,List.length_cons,List.length_nil,Nat.reduceAdd,Nat.reduceSub,Array.replicate_succ,Array.replicate_zero,List.push_toArray,List.append_toArray,List.nil_append,List.cons_append]
 have HO:Hid (MpK 128 mpC kB W mb L):=hown
 clear hown
 gi_wp2_with (first
  | (gi_at_range;refine wpListIn_range_own _ rfl _ 140 rfl 128 176 boxKey Tryz.underlying140 mpC mb L.length (mpD kB L) rfl HO.out ?_;intro w0 hrg0 hg0 hs0)
  | gi_in)
 go_frame
 gi_loopw [3] (fun _ wr=>∃(left:Lit→Bool) (cnt:Nat) (ss:List Bx),wr.ranges Tryz.prog 128 mpC mb W.heap.size L.length (mpD kB L) left cnt∧ss.length+cnt≤L.length∧(ss.Nodup∧∀b,b∈ss↔(∃a,getK b L=some a)∧left (kB b)=false)∧J ss wr)
  (fun _ wr=>wr.rangeLeft mb W.heap.size)
 case atStart=>
  refine⟨_,_,[],hrg0,?_,⟨List.Pairwise.nil,fun b=>?_⟩,hJ [] W w0 none h0 hg0 (fun r e=>by cases e)⟩
  ·rw[mpD_size];simp
  ·constructor
   ·intro e;cases e
   ·rintro⟨⟨a,ha⟩,hl⟩
    have:=has_mp klB L _ (getK_mem ha)
    simp only at this
    rw[this]at hl
    cases hl
 case round=>
  obtain⟨left,cnt,ss,hrg,hcs,hC,hJs⟩:=hrel
  gi_wp2_with (first
   | (gi_at_next;refine wpListIn_next_ranges _ rfl _ rfl 128 boxKey mpC (fun x:Value=>x) (fun x:Value=>x) (fun key kl _=>⟨key,rfl⟩) (fun v y _=>⟨v,rfl⟩) mb W.heap.size L.length (mpD kB L) left cnt rfl hrg ?_ ?_)
   | gi_in)
  ·intro hc0 hl0
   gi_wp2
   go_end0
   exact⟨⟨_,rfl⟩,.inl ⟨ss,⟨hC.1,fun b=>by rw[hC.2 b];exact⟨fun e=>e.1,fun e=>⟨e,hl0 _⟩⟩,by omega⟩,hJs⟩⟩
  ·intro x c kl yd yp w2 cnt2 hkey hlk hv hat hrg2 hlt hg2 hs2 hen
   obtain⟨b,rfl,rfl⟩:=keyB_inv hkey
   obtain⟨a,hgn,_⟩:=mpD_has klB hat
   have hJ2:J ss w2:=hJ ss wr w2 (some W.heap.size) hJs hg2 (fun r e=>by cases e;exact⟨Nat.le_refl _,hrg.iter_walk⟩)
   have hJ3:J ss (w2.alloc (.cells #[.string b.tn,.string b.ar] 128)):=hJ ss w2 _ none hJ2 (World.grownBy_alloc w2 _ none) (fun r e=>by cases e)
   obtain⟨fn,tmps,assign,body,hy,hR⟩:=hY ss b _ hJ3 (by omega)
   unfold bxV at hy
   clear hs2 hJ2 hJ3 hkey
   gi_wp2
   refine hR.mono ?_
   have hC2:(ss++[b]).Nodup∧∀b',b'∈ss++[b]↔(∃a,getK b' L=some a)∧(left (kB b') && !(kB b').sameKey (kB b))=false:=by
    have hnl:b∉ss:=fun e=>by have:=(hC.2 b).1 e;rw[hlk]at this;cases this.2
    refine⟨?_,fun b'=>?_⟩
    ·rw[List.nodup_append]
     refine⟨hC.1,by simp,fun x hx y hy e=>?_⟩
     rw[List.mem_singleton]at hy
     exact hnl (by rw[←hy,←e];exact hx)
    ·rw[List.mem_append,List.mem_singleton,left_step klB,hC.2]
     constructor
     ·rintro(e | e)
      ·exact⟨e.1,.inl e.2⟩
      ·subst e;exact⟨⟨a,hgn⟩,.inr rfl⟩
     ·rintro⟨e1,e2 | e2⟩
      ·exact .inl ⟨e1,e2⟩
      ·exact .inr e2
   rintro e W3 (⟨rfl,hJ3,hk3⟩ | ⟨rfl,hJx3⟩)
   ·gi_wp2
    have hrg3:=(hrg2.alloc (.cells #[.string b.tn,.string b.ar] 128)).of_walks hk3
    go_roundw
    case rel=>exact⟨_,cnt2,ss++[b],hrg3,by simp;omega,hC2,hJ3⟩
    case measure=>rw[hrg3.left_eq,hrg.left_eq];exact hlt
   ·gi_wp2
    refine bodyPost_ret (results_none rfl _ _ _) rfl ?_
    exact⟨⟨_,rfl⟩,.inr ⟨ss++[b],trivial,hJx3⟩⟩

theorem keysB_stops(n Bm mb:Nat)(hn:1≤n)(L:List (Bx×Nat))(w:World)(hBm:Bm<w.heap.size)(hm:w.cell? ⟨Bm,0,none⟩=some (.map (some mb)))(hown:MpK 128 mpC kB w mb L):
  SeqStopsK Fence.wide n Tryz.prog 136 #[.pointer (some ⟨Bm,0,none⟩)] (fun b=>#[bxV b]) KeepsWalks (KeysAre L) (fun _=>True) L.length w:=fun l J Jx W hW hJ _ hY h0=>by
 have hown':MpK 128 mpC kB W mb L:=by
  have hbl:=hown.lt
  obtain⟨es,clock,hb,Ft,hs,hD⟩:=hown
  exact⟨es,clock,(hW.block mb hbl).trans hb,Ft,hs,hD⟩
 exact keysB_in n l Bm mb hn L J Jx hY W hJ ((hW.cell (p:=⟨Bm,0,none⟩) hBm).trans hm) hown' h0

def bxE(b:Bx):List Value:=[.string b.tn,.string b.ar]
theorem bxE_ok:EncOk bxE 2:=⟨fun _=>rfl,fun x u hu=>by simp[bxE]at hu;rcases hu with rfl | rfl<;>rfl,by decide⟩
theorem Tryz.infoBox:(Tryz.prog.info? 128).map (fun i=>(i.zero,i.size,i.bytes))=some (some (.agg #[.string ⟨#[]⟩,.string ⟨#[]⟩]),2,32):=by kernel_rfl

def ApB(w:World)(B:Nat)(xs:List Bx)(W:World):Prop:=∃v,Blk W B #[v] 153∧RowC w.heap.size 128 2 bxE W v xs∧Same w W

theorem ApB.own(w:World)(B B0:Nat)(hB:w.heap.size≤B0):OwnFrom B0 (ApB w B):=fun xs W W' row h hg hr=>by
 obtain⟨v,h1,h2,h3⟩:=h
 have hk:Kept (fun k=>row=some k) W W':=(Kept.refl _ W).grown hg (fun k e=>.inl e)
 refine⟨v,h1.kept hk (fun e=>?_),h2.kept hk (fun k e e2=>?_),Kept.trans h3 hk (fun _ _ f=>f) (fun k hlt e=>?_)⟩
 ·obtain⟨_,o,ho,hc⟩:=hr B e
  have h4:=h1
  unfold Blk at h4
  rw[h4]at ho
  cases ho
  cases hc
 ·obtain⟨_,o,ho,hc⟩:=hr k e2
  rcases h2.2 with⟨rfl,_⟩ | ⟨g,cap,cur,rfl,_,hg2,_⟩
  ·cases e
  ·simp only[Value.ownBlock,Option.some.injEq]at e
   rw[←e,hg2]at ho
   cases ho
   cases hc
 ·have:=(hr k e).1;omega

theorem cellsAt_box(w:World)(b:Bx):CellsAt (w.alloc (.cells #[.string b.tn,.string b.ar] 128)) ⟨w.heap.size,0,none⟩ ([b].flatMap bxE):=by
 intro j u hj
 match j,hj with
 | 0,hj=>simp[bxE]at hj;subst hj;simp[addAt]
 | 1,hj=>simp[bxE]at hj;subst hj;simp[addAt]
 | j+2,hj=>simp[bxE]at hj

theorem rowBox_ne{w:World}{N B:Nat}{v u:Value}{xs:List Bx}(h:RowC N 128 2 bxE w v xs)(hb:Blk w B #[u] 153):¬v.ownBlock=some B:=by
 intro e
 rcases h.2 with⟨rfl,_⟩ | ⟨g,cap,cur,rfl,_,hg,_⟩
 ·cases e
 ·simp only[Value.ownBlock,Option.some.injEq]at e
  unfold Blk at hb
  rw[e,hb]at hg
  cases hg

theorem wpListIn_appendB{F:Fence}{n:Nat}{ops:Array Oper}{rest:List Oper}{o:Oper}{a:Act}{Q:Exit→Act→World→Prop}(w:World)(s x:Operand)(hgd:o.guard=none)
  (ho:o.op=.call {callee:=.builtin .append,args:=#[s,x],argTypes:=#[153,153]}) (B:Nat)
  (v:Value) (xs:List Bx) (hs:a.eval s=v) (hrow:RowC B 128 2 bxE w v xs) (ad:Addr) (b:Bx) (hx:a.eval x=.slice (some ad) 1 1) (hcs:CellsAt w ad ([b].flatMap bxE)) (hlen:xs.length≤1000000) (hB:B≤w.heap.size)
  (h:∀v' w',RowC B 128 2 bxE w' v' (xs++[b])→w.grownBy w' v.ownBlock→wpListIn F n Tryz.prog ops Q rest (a.put o.dst v') w'):wpListIn F n Tryz.prog ops Q (o::rest) a w:=by
 obtain⟨i0,hi,hz0,hz1,hz2⟩:=info_parts Tryz.infoBox
 refine wpListIn_append_own w hgd s x 153 ho B 128 i0 (.agg #[.string ⟨#[]⟩,.string ⟨#[]⟩]) 2 32 Tryz.underlying153 hi hz0 hz1 hz2 rfl (by decide) v xs.length (xs.flatMap bxE) hs hrow ad 1 1 ([b].flatMap bxE) hx rfl hcs (flat_one bxE_ok [b]) (by simp only[maxLen];omega) (by omega) hB ?_
 intro v' w' h1 h2 _
 refine h v' w' ?_ h2
 unfold RowC
 rw[List.length_append,List.flatMap_append]
 exact h1

set_option maxRecDepth 100000 in
set_option maxHeartbeats 4000000 in
theorem appendSeqB(gf:Nat)(lb:Array Value)(eg:∀args w,(callFunc gf args).run Tryz.prog w=.ok (.enter gf args) w)(S:List Bx→Prop)(N:Nat)(hN:N≤100000)(w:World)(hseq:SeqStopsK Fence.wide 4 Tryz.prog gf lb (fun b=>#[bxV b]) KeepsWalks S (fun _=>True) N w):
  CallsIn Fence.wide 5 Tryz.prog 159 #[.slice none 0 0,.func (.func gf) #[] lb] w fun e w'=>∃v xs,e=.returned v∧S xs∧RowC w.heap.size 128 2 bxE w' v xs∧Same w w':=by
 refine callsIn_of_wp_marks Tryz.func159 rfl trivial ?_ rfl
 simp only[Tryz.ntmps159,List.size_toArray,List.length_cons,List.length_nil,Nat.reduceAdd,Nat.reduceSub,Array.replicate_succ,Array.replicate_zero,List.push_toArray,List.append_toArray,List.nil_append,List.cons_append]
 gi_wp2
 obtain⟨W0,hW0⟩:∃W,W=w.alloc (.cells #[.slice none 0 0] 153):=⟨_,rfl⟩
 rw[←hW0]
 have hs0:W0.heap.size=w.heap.size+1:=by rw[hW0];simp
 have hb0:Below w.heap.size w W0:=by rw[hW0];exact(Below.refl _ w).alloc (Nat.le_refl _) _
 have h00:ApB w w.heap.size [] W0:=⟨_,by rw[hW0];exact Blk.new w _ _,RowC.nil,by rw[hW0];exact(Kept.refl _ w).alloc _⟩
 obtain⟨B,hB⟩:∃B,B=w.heap.size:=⟨_,rfl⟩
 rw[←hB]at h00 ⊢
 have HB0:Hid (B=w.heap.size∧W0.heap.size=w.heap.size+1):=hid ⟨hB,hs0⟩
 clear hB hW0
 refine wpIn_rangeFunc_ownH (α:=Bx) (encs:=fun b=>#[bxV b]) (Kp:=KeepsWalks) (S:=S) (Sp:=fun _=>True) (N:=N) (w0:=w) rfl (by decide) rfl trivial eg hseq (fun h k=>h.trans k) (fun W l o o' _ h1 _ h3=>KeepsWalks.putObj o' h1 h3) hb0 (fun x=>rfl)
  (ApB w B) (fun _ _ _=>False) (ApB.own w _ _ (by have:=HB0.out;omega)) (fun _ _ _ _ _ f=>f.elim) h00 (fun x a' W=>∃g,a'={tmps:=#[.slice none 0 0,.func (.func gf) #[] lb,.pointer (some ⟨B,0,none⟩),undef,.slice none 0 0,.pointer (some ⟨g,0,none⟩),.func (.func gf) #[] lb,bxV x,undef,undef,undef,undef,undef],defers:=[]}∧B<g∧Blk W g #[.string x.tn,.string x.ar] 128) ?_ ?_ ?_ ?_ ?_
 ·intro x a' u W W' row h hg hr
  obtain⟨g,h1,h2,h3⟩:=h
  have hk:Kept (fun k=>row=some k) W W':=(Kept.refl _ W).grown hg (fun k e=>.inl e)
  refine⟨g,h1,h2,h3.kept hk (fun e=>?_)⟩
  obtain⟨_,o,ho,hc⟩:=hr g e
  have h4:=h3
  unfold Blk at h4
  rw[h4]at ho
  cases ho
  cases hc
 ·intro l pre x W K hi hK
  have hi2:=hi
  obtain⟨v,h1,h2,h3⟩:=hi2
  have hlt:=h1.lt
  have hKW:=hK _ (W.alloc (.cells #[.string x.tn,.string x.ar] 128)) ⟨by simp,fun k o _ h _=>by rw[Below.heap_alloc _ _ k (Array.getElem?_eq_some_iff.1 h).1];exact h⟩ (KeepsWalks.alloc _ _) (ApB.own w B w.heap.size (Nat.le_refl _) pre W _ none hi (World.grownBy_alloc W _ none) (fun r e=>by cases e)) ⟨W.heap.size,rfl,hlt,Blk.new W _ _⟩
  clear hi hK h1 h2 h3 hlt hseq
  unfold bxV at *
  gi_wp2_with gi_round_op_a
  exact hKW
 ·intro l pre x a' W hl hloop hi hax hpre
  obtain⟨g,rfl,hBg,hbg⟩:=hax
  obtain⟨v,hb,hrow,hsame⟩:=hi
  obtain⟨a0,c0,hv,_⟩:=hrow.shape
  obtain⟨l0,hl0⟩:∃x,x=pre.length:=⟨_,rfl⟩
  rw[←hl0]at hv
  subst hv
  have cB:W.cell? ⟨B,0,none⟩=some (.slice a0 l0 c0):=hb.cell 0
  have zB:=hb.frozen 0
  have c0':=hbg.cell 0
  have c1':=hbg.cell 1
  simp at c0' c1'
  have HR:Hid (RowC w.heap.size 128 2 bxE W (.slice a0 l0 c0) pre∧Same w W∧Blk W B #[.slice a0 l0 c0] 153):=hid ⟨hrow,hsame,hb⟩
  have HQ:Hid (pre.length<N∧B=w.heap.size):=hid ⟨hpre,HB0.out.1⟩
  clear hb hrow hsame hbg hl0 hseq hloop hpre
  gi_wp2_with (first
   | (gi_at_builtin;refine wpListIn_appendB _ (.tmp 8) (.tmp 10) rfl rfl w.heap.size (.slice a0 l0 c0) pre rfl (HR.out.1.kept (show Same _ _ from(Kept.refl _ _).alloc _) (fun _ _ f=>f)) ⟨W.heap.size,0,none⟩ x rfl (cellsAt_box _ _) (by have:=HQ.out.1;omega) (by have:=HR.out.2.1.size;simp;omega) ?_;intro v5 w5 hr5 hg5
      have hk5:Kept (fun k=>(Value.slice a0 l0 c0).ownBlock=some k) W w5:=Kept.trans (F:=fun _=>False) ((Kept.refl _ W).alloc _) ((Kept.refl _ _).grown hg5 (fun k e=>.inl e)) (fun _ _ f=>False.elim f) (fun _ _ e=>e)
      have hnB:¬(Value.slice a0 l0 c0).ownBlock=some B:=fun e=>rowBox_ne HR.out.1 HR.out.2.2 e
      have cB:=(HR.out.2.2.kept hk5 hnB).cell 0
      have zB:=(HR.out.2.2.kept hk5 hnB).frozen 0
      simp at cB
      obtain⟨a5,c5,hv5,_⟩:=hr5.shape
      subst hv5
      go_frame)
   | gi_round_op_a)
  have hrc:∀k,(Value.slice a0 l0 c0).ownBlock=some k→∃cur t fr,W.heap[k]? = some (.cells cur t fr):=fun k e=>by
   rcases HR.out.1.2 with⟨e2,_⟩ | ⟨g',cap,cur,e2,_,hg,_⟩
   ·rw[e2]at e;cases e
   ·rw[e2]at e
    simp only[Value.ownBlock,Option.some.injEq]at e
    rw[←e];exact⟨_,_,_,hg⟩
  have hk6:Kept (fun k=>(Value.slice a0 l0 c0).ownBlock=some k∨k=B) W (w5.setCell ⟨B,0,none⟩ (.slice a5 (pre.length+1) c5)):=(hk5.mono (fun _ _ e=>.inl e)).setCell _ _ (.inl (.inr rfl))
  have hkeep:∀(k:Nat) (o:Obj),W.heap[k]? = some o→o.isCells=false→(w5.setCell ⟨B,0,none⟩ (.slice a5 (pre.length+1) c5)).heap[k]? = some o:=fun k o ho hc=>by
   rw[hk6.block k (Array.getElem?_eq_some_iff.1 ho).1 (fun e=>?_)]
   ·exact ho
   ·rcases e with e | e
    ·obtain⟨cur,t,fr,h9⟩:=hrc k e
     rw[h9]at ho;cases ho;cases hc
    ·have h9:=HR.out.2.2
     unfold Blk at h9
     rw[e,h9]at ho;cases ho;cases hc
  refine⟨⟨hk6.size,fun k o _ ho hc=>hkeep k o ho hc⟩,⟨hk6.size,fun k o ho hw=>hkeep k o ho (by cases o<;>simp_all[Obj.isWalk,Obj.isCells])⟩,.slice a5 (pre.length+1) c5,?_,?_,?_⟩
  ·have h9:=(HR.out.2.2.kept hk5 hnB).set 0 (.slice a5 (pre.length+1) c5)
   simpa using h9
  ·have hr6:RowC w.heap.size 128 2 bxE w5 (.slice a5 (pre.length+1) c5) (pre++[x]):=by simpa using hr5
   exact hr6.kept (F:=(·=B)) ((Kept.refl _ _).setCell _ _ (.inl rfl)) (fun j e e2=>by subst e2;exact rowBox_ne hr6 (HR.out.2.2.kept hk5 hnB) e)
  ·refine Kept.trans HR.out.2.1 hk6 (fun _ _ f=>f) (fun k hlt e=>?_)
   rcases e with e | e
   ·have:=HR.out.1.ge e;omega
   ·have:=HQ.out.2;omega
 ·intro D xs W hD hS hi hd
  obtain⟨v,hb,hrow,hsame⟩:=hi
  obtain⟨a0,c0,hv,_⟩:=hrow.shape
  obtain⟨l0,hl0⟩:∃x,x=xs.length:=⟨_,rfl⟩
  rw[←hl0]at hv
  subst hv
  have cB:W.cell? ⟨B,0,none⟩=some (.slice a0 l0 c0):=hb.cell 0
  have HF:Hid (S xs∧RowC w.heap.size 128 2 bxE W (.slice a0 l0 c0) xs∧Same w W):=hid ⟨hS,hrow,hsame⟩
  have HD:Hid (w.heap.size≤D∧W.heap[D]? = some (.deferred (some []))):=hid ⟨by have:=HB0.out;omega,hd⟩
  clear hb hrow hsame hl0 hS hd hD hseq
  gi_wp2
  refine⟨by simp,.inl ⟨_,_,rfl,run_takeDeferred HD.out.2,?_⟩⟩
  have hg:=grownBy_putObj_a W D (.deferred none)
  have hk:Kept (·=D) W (W.putObj D (.deferred none)):=(Kept.refl _ W).grown hg (fun k e=>.inl (by simpa using e.symm))
  refine⟨_,results_tmp rfl _ _ _,?_⟩
  refine⟨.slice a0 l0 c0,xs,rfl,HF.out.1,HF.out.2.1.kept hk (fun k e e2=>?_),Kept.trans HF.out.2.2 hk (fun _ _ f=>f) (fun k hlt e=>by have:=HD.out.1;omega)⟩
  subst e2
  rcases HF.out.2.1.2 with⟨e3,_⟩ | ⟨g',cap,cur,e3,_,hg3,_⟩
  ·rw[e3]at e;cases e
  ·rw[e3]at e
   simp only[Value.ownBlock,Option.some.injEq]at e
   rw[e,HD.out.2]at hg3
   cases hg3
 ·exact fun _ _ _ _ _ _ f=>f.elim

theorem collectB(L:List (Bx×Nat))(mb:Nat)(w:World)(hL:L.length≤100000)(hown:MpK 128 mpC kB w mb L):
  Calls Tryz.prog 134 #[.func (.func 136) #[] #[.pointer (some ⟨w.heap.size,0,none⟩)]] (w.alloc (.cells #[.map (some mb)] 140)) fun e w'=>∃v xs,e=.returned v∧KeysAre L xs∧RowC (w.heap.size+1) 128 2 bxE w' v xs∧Same w w':=by
 have hA:=appendSeqB 136 #[.pointer (some ⟨w.heap.size,0,none⟩)] (enters_of Tryz.func136 (by kernel_rfl) rfl) (KeysAre L) L.length hL (w.alloc (.cells #[.map (some mb)] 140))
  (keysB_stops 4 w.heap.size mb (by decide) L _ (by simp) ((Blk.new w #[.map (some mb)] 140).cell 0) (hown.kept (F:=fun _=>False) ((Kept.refl _ _).alloc _) (fun f=>f)))
 have HA:=callsIn_wide.1 hA
 rw[World.size_alloc]at HA
 clear hA hown
 go_enter Tryz.func134,Tryz.ntmps134
 go_wp2_with fail
 refine HA.mono ?_
 rintro e w' ⟨v,xs,rfl,h1,h2,h3⟩
 have HF:Hid (KeysAre L xs∧RowC (w.heap.size+1) 128 2 bxE w' v xs∧Same w w'):=hid ⟨h1,h2,Same.trans ((Kept.refl _ w).alloc _) h3⟩
 obtain⟨a0,c0,hv,_⟩:=h2.shape
 obtain⟨l0,hl0⟩:∃x,x=xs.length:=⟨_,rfl⟩
 rw[←hl0]at hv
 subst hv
 clear h1 h2 h3 HA hl0
 go_wp2_with fail
 go_ret
 exact⟨_,xs,rfl,HF.out⟩

end Go.Proofs.YtcfociogljhbiaaGreatDoor
