import Derived.RangeFuncBox
import Derived.RangeFuncLeaves
import Derived.Shelf.Abstract
import Derived.WalkKit
import Derived.OwnWalkIn
import Derived.TacticsInMore
import Derived.LoopNIn
import Derived.LoopIn
import Derived.Test.YtllcnlnbpikhdaaGreatDoorJ30
import Derived.Test.YtllcnlnbpikhdaaGreatDoorJ18
set_option maxHeartbeats 4000000
set_option maxRecDepth 100000
namespace Go.Proofs.YtllcnlnbpikhdaaGreatDoor
open Go.RowKit Go.Shelf
attribute [local go_sem] Oper.semAt_some
def Keep2(b1 b2:Nat)(W W':World):Prop:=W'.heap[b1]? = W.heap[b1]?/\W'.heap[b2]? = W.heap[b2]?
theorem Keep2.trans{b1 b2:Nat}{A B C:World}(h:Keep2 b1 b2 A B)(k:Keep2 b1 b2 B C):Keep2 b1 b2 A C:=⟨k.1.trans h.1,k.2.trans h.2⟩
def mI(vs:List (Option Addr×Nat×Nat))(k:Nat):Array Value:=#[.int .i64 ((vs.length-1-k:Nat):Int),Io (vs.getD (vs.length-1-k) (none,0,0))]
theorem Cc(F:Fence)(n:Nat)(h7:F.fn 193)(kS:F.round=none)(hn:1≤n)(l Bs g cap:Nat)(vs:List (Option Addr×Nat×Nat))(ag:vs.length≤1000)(J:Nat→World→Prop)
  (hY:∀k W1,k<vs.length->J k W1->YieldAt F (n-1) Tryz.prog l (mI vs k) W1 λe W'=>e=.returned (.bool true)/\J (k+1) W'/\Keep2 Bs g W1 W')
  (W:World) (O5:W.cell? ⟨Bs,0,none⟩=some (.slice (some ⟨g,0,none⟩) vs.length cap)) (hc:∀j (_:j<vs.length),W.cell? ⟨g,j,none⟩=some (Io vs[j])) (h0:J 0 W):
  CallsIn F n Tryz.prog 193 #[.func (.yield l) #[] #[],.pointer (some ⟨Bs,0,none⟩)] W λe W'=>(∃v,e=.returned v)/\J vs.length W':=by
 refine callsIn_of_wp Tryz.func193 rfl h7 ?_ kS;simp only[Tryz.ntmps193,List.size_toArray,List.length_cons,List.length_nil,Nat.reduceAdd,Nat.reduceSub,Array.replicate_succ,Array.replicate_zero,List.push_toArray,List.append_toArray,List.nil_append,List.cons_append];gi_wp2;gi_loopw [3] (λi wr=>∃k:Nat,k<=vs.length/\i=.int .i64 ((vs.length:Int)-1-k)/\J k wr/\Keep2 Bs g W wr)
  (λi _=>(intOf i+1).toNat)
 case atStart=>exact⟨0,Nat.zero_le _,by simp,h0,rfl,rfl⟩
 case round=>
  obtain⟨k,hk,rfl,D7,hnx⟩:=hrel;have Qe:=(World.cell?_of_block (a:=⟨Bs,0,none⟩) hnx.1).trans O5;by_cases hlt:k<vs.length
  ·obtain⟨m,hm⟩:∃m,m=vs.length-1-k:=⟨_,rfl⟩
   have g8:(vs.length:Int)-1-k=(m:Nat):=(by omega);have Lw:m<vs.length:=(by omega);obtain⟨fn,tmps,assign,body,hy,hR⟩:=hY k wr hlt D7;obtain⟨xa,xn,xc,hx⟩:∃xa xn xc,vs[m]=(xa,xn,xc):=⟨_,_,_,rfl⟩
   have qZ:wr.cell? ⟨g,m,none⟩=some (.slice xa xn xc):=(by have:=(World.cell?_of_block (a:=⟨g,m,none⟩) hnx.2).trans (hc m Lw);rw[hx]at this;exact this);have As:mI vs k=#[.int .i64 (m:Int),.slice xa xn xc]:=(by unfold mI;rw[<-hm];simp[List.getD,Lw,hx,Io]);rw[As]at hy;rw[g8];have HM:Hid (m=vs.length-1-k):=hm;clear hm g8 As hx;gi_wp2;refine hR.mono ?_;rintro e W3 ⟨rfl,Ea,hk3⟩;gi_wp2;go_roundw
   case rel=>exact⟨k+1,by omega,by have:=HM.out;simp;omega,Ea,hnx.trans hk3⟩
   case measure=>simp[intOf]
  ·obtain rfl:k=vs.length:=by omega
   gi_wp2
   go_end0;exact⟨⟨_,rfl⟩,D7⟩
theorem tN(F:Fence)(n:Nat)(h5:F.fn 176)(kS:F.round=none)(a:Option Addr)(len cap:Nat)(w:World):
  CallsIn F n Tryz.prog 176 #[.slice a len cap] w λe w'=>e=.returned (.func (.func 193) #[] #[.pointer (some ⟨w.heap.size,0,none⟩)])/\w'=w.alloc (.cells #[.slice a len cap] 215):=by
 refine callsIn_of_wp Tryz.func176 rfl h5 ?_ kS;simp only[Tryz.ntmps176,List.size_toArray,List.length_cons,List.length_nil,Nat.reduceAdd,Nat.reduceSub,Array.replicate_succ,Array.replicate_zero,List.push_toArray,List.append_toArray,List.nil_append,List.cons_append];gi_wp2;go_ret;exact⟨rfl,rfl⟩
attribute [local go_sem] Oper.semAt_some
def dP(ns:List Nat)(p:Nat->Nat):List Nat:=(List.range ns.length).map (λs=>if key ns s=0 then 0 else p ((aD ns).idxOf s))
theorem oo(ns:List Nat)(p:Nat->Nat):(dP ns p).length=ns.length:=by simp[dP]
theorem tC(ns:List Nat)(j:Nat)(h:j<(aD ns).length):(aD ns).idxOf (aD ns)[j]=j:=(Do ns).idxOf_getElem j h
theorem ER(ns:List Nat)(p:Nat->Nat)(j:Nat)(h:j<(aD ns).length)(hl:(aD ns)[j]<(dP ns p).length):(dP ns p)[(aD ns)[j]]=p j:=by have h0:=(aU.1 (List.getElem_mem h)).2;simp only[dP,List.getElem_map,List.getElem_range];rw[if_neg h0,tC ns j h]
theorem wK(ns:List Nat)(p:Nat->Nat)(j v:Nat)(h:j<(aD ns).length):(dP ns p).set (aD ns)[j] v=dP ns (λi=>if i=j then v else p i):=by
 unfold dP;refine List.ext_getElem (by simp) (λs h1 h2=>?_);simp only[List.getElem_set,List.getElem_map,List.getElem_range];have h0:=(aU.1 (List.getElem_mem h)).2;by_cases e:(aD ns)[j]=s
 ·subst e;rw[if_pos rfl,if_neg h0,tC ns j h,if_pos rfl]
 ·rw[if_neg e];by_cases hk:key ns s=0
  ·rw[if_pos hk,if_pos hk]
  ·rw[if_neg hk,if_neg hk];have hm:s∈aD ns:=aU.2 ⟨by simpa using h2,hk⟩;rw[if_neg];intro hi;apply e;have hlt:(aD ns).idxOf s<(aD ns).length:=List.idxOf_lt_length_of_mem hm;have:=List.getElem_idxOf hlt;simp only[hi]at this;exact this
theorem jj(ns:List Nat)(p q:Nat->Nat)(h:∀i,i<(aD ns).length->p i=q i):dP ns p=dP ns q:=by
 unfold dP;refine List.map_congr_left (λs hs=>?_);by_cases hk:key ns s=0
 ·rw[if_pos hk,if_pos hk]
 ·rw[if_neg hk,if_neg hk];have hm:s∈aD ns:=aU.2 ⟨by simpa using hs,hk⟩;exact h _ (List.idxOf_lt_length_of_mem hm)
theorem nX(ns:List Nat):dP ns (λ_=>0)=List.replicate ns.length 0:=by unfold dP;simp[List.map_const']
theorem NRow.apartT{B B':Nat}{w:World}{v v':Value}{its:List (Nat×Bool)}{xs:List Nat}(h:TRow B w v its)(h':NRow B' w v' xs){j g:Nat}(hj:v.ownBlock=some j)(hg:v'.ownBlock=some g):j≠g:=by
 rintro rfl;rcases h.2 with⟨rfl,_⟩ | ⟨g1,c1,OC,rfl,_,e1,_⟩
 ·simp[Value.ownBlock]at hj
 ·rcases h'.2 with⟨rfl,_⟩ | ⟨g2,c2,Mm,rfl,_,e2,_⟩
  ·simp[Value.ownBlock]at hg
  ·simp[Value.ownBlock]at hj hg;subst hj hg;rw[e1]at e2;simp at e2
theorem NRow.apartL{B B':Nat}{w:World}{v v':Value}{vs:List (Option Addr×Nat×Nat)}{xs:List Nat}(h:rq B w v vs)(h':NRow B' w v' xs){j g:Nat}(hj:v.ownBlock=some j)(hg:v'.ownBlock=some g):j≠g:=by
 rintro rfl;rcases h.2 with⟨rfl,_⟩ | ⟨g1,c1,OC,rfl,_,e1,_⟩
 ·simp[Value.ownBlock]at hj
 ·rcases h'.2 with⟨rfl,_⟩ | ⟨g2,c2,Mm,rfl,_,e2,_⟩
  ·simp[Value.ownBlock]at hg
  ·simp[Value.ownBlock]at hj hg;subst hj hg;rw[e1]at e2;simp at e2
structure LI(ns:List Nat)(most:Nat)(w3:World)(go bt n cn:Nat)(k:Nat)(W:World)(T:Nat)(p:Nat->Nat):Prop where
 ct:W.cell? ⟨bt,0,none⟩=some (.int .i64 (T:Nat))
 ft:W.frozen? ⟨bt,0,none⟩=false
 row:NRow 0 W (.slice (some ⟨go,0,none⟩) n cn) (dP ns p)
 kept:Kept (λj=>j=go\/j=bt) w3 W
 hT:T<=600
 hp:∀i,p i<=k
 more:k<most->T<=(cK (aP ns) (most-1-k)).length/\∀i,p i+ee (aP ns) (most-1-k) T i=ee (aP ns) (most-1) (2*(aP ns).length-2) i
 done:k=most->∀i,p i=ee (aP ns) (most-1) (2*(aP ns).length-2) i
theorem LI.own(ns:List Nat)(most:Nat)(w3:World)(go bt n cn:Nat):OwnFrom w3.heap.size (λk W=>∃T p,LI ns most w3 go bt n cn k W T p):=by
 rintro k W W' row ⟨T,p,h⟩ hg hr;have us:∀b v,W.cell? ⟨b,0,none⟩=some v->some b≠row:=by intro b v hc e;obtain⟨_,o,ho,Tp⟩:=hr b e.symm;simp only[World.cell?,ho]at hc;cases o<;>simp_all[Obj.isCells]
 have Md:some go≠row:=by
  intro e;obtain⟨_,o,ho,Tp⟩:=hr go e.symm;rcases h.row.2 with⟨e1,_⟩ | ⟨g2,c2,Mm,e1,_,e2,_⟩
  ·simp at e1
  ·simp only[Value.slice.injEq,Option.some.injEq,Addr.mk.injEq,and_true]at e1;obtain⟨rfl,_⟩:=e1;rw[ho]at e2;simp at e2;subst e2;simp[Obj.isCells]at Tp
 have Nc:=us bt _ h.ct;have hbl:bt<W.heap.size:=World.block_lt_of_cell? W _ h.ct;refine⟨T,p,?_,?_,World.ownsRow.kept h.row hg (.inr Md),h.kept.grown hg (λj e=>.inr (hr j e).1),h.hT,h.hp,h.more,h.done⟩
 ·exact hg.cell h.ct Nc
 ·exact(World.frozen?_of_block (hg.block bt hbl Nc)).trans h.ft
attribute [local go_sem] Oper.semAt_some
theorem Jj(X:List (Nat×Bool))(j:Nat)(h:j<X.length):pk X (j+1)=pk X j+(if X[j].2 then 1 else 0):=by unfold pk;rw[List.take_succ_eq_append_getElem h,List.countP_append];cases hb:X[j].2<;>simp[hb]
theorem tz(X:List (Nat×Bool))(T:Nat):pk X T<=T:=Nat.le_trans List.countP_le_length (by simp;omega)
theorem K5(ws:List Nat)(t:Nat):ws.length<=(cK ws t).length:=by
 cases t with
 | zero=>rw[jy];exact Nat.le_refl _
 | succ t=>rw[jv];omega
theorem LI.next{ns:List Nat}{most:Nat}{w3:World}{go bt n cn k:Nat}{W W':World}{T:Nat}{p:Nat→Nat}(h:LI ns most w3 go bt n cn k W T p)(hk:k<most)(hns:(aP ns).length≤288)
  (ct:W'.cell? ⟨bt,0,none⟩=some (.int .i64 ((2*pk (cK (aP ns) (most-1-k)) T:Nat):Int))) (ft:W'.frozen? ⟨bt,0,none⟩=false)
  (row:NRow 0 W' (.slice (some ⟨go,0,none⟩) n cn) (dP ns (λi=>p i+if i<lf (cK (aP ns) (most-1-k)) T then 1 else 0))) (kept:Kept (λj=>j=go\/j=bt) w3 W'):
  LI ns most w3 go bt n cn (k+1) W' (2*pk (cK (aP ns) (most-1-k)) T) (λi=>p i+if i<lf (cK (aP ns) (most-1-k)) T then 1 else 0):=by
 obtain⟨h1,h2⟩:=h.more hk;refine⟨ct,ft,row,kept,?_,?_,?_,?_⟩
 ·have h3:=tz (cK (aP ns) (most-1-k)) T;by_cases e:most-1-k=0
  ·rw[e,A6];omega
  ·have h4:=Bz (aP ns) (most-1-k-1) T;rw[show most-1-k-1+1=most-1-k by omega]at h4;have h5:=(lP (aP ns) (most-1-k-1)).2;omega
 ·intro i;have:=h.hp i;split<;>omega
 ·intro hk2;have e:most-1-k=(most-1-(k+1))+1:=(by omega);rw[e]at h2 ⊢;refine⟨Bz _ _ _,λi=>?_⟩;have h3:=h2 i;have e3:ee (aP ns) (most-1-(k+1)+1) T i=(if i<lf (cK (aP ns) (most-1-(k+1)+1)) T then 1 else 0)+ee (aP ns) (most-1-(k+1)) (2*pk (cK (aP ns) (most-1-(k+1)+1)) T) i:=rfl;rw[e3]at h3;omega
 ·intro hk2 i;have e:most-1-k=0:=(by omega);have h3:=h2 i;rw[e]at h3 ⊢;have e3:ee (aP ns) 0 T i=if i<lf (cK (aP ns) 0) T then 1 else 0:=rfl;rw[e3]at h3;exact h3
theorem vQ(F:Fence)(fm:Nat)(Wp:F.fn 142)(h5:F.fn 176)(h7:F.fn 193)(kS:F.round=none)(Qg:3≤fm)
  (w:World) (ns:List Nat) (most go n cn gl capl:Nat) (vu:Value) (I:Nat->Prop) (Bl Bo:Nat) (vs:List (Option Addr×Nat×Nat)) (hrow:NRow Bo w (.slice (some ⟨go,0,none⟩) n cn) (List.replicate n 0)) (hn:n=ns.length) (hns:ns.length<=288)
  (hu:SrcE am w I vu (aD ns)) (hI:∀k,I k->k≠go) (hl:rq Bl w (.slice (some ⟨gl,0,none⟩) most capl) vs) (JV:Levs Bl w ns vs) (g8:2<=(aD ns).length) (hm1:1<=most) (xY:most<=15) (cJ:(aD ns).length<=2 ^ most):
  CallsIn F fm Tryz.prog 142 #[.slice (some ⟨go,0,none⟩) n cn,vu,.slice (some ⟨gl,0,none⟩) most capl] w λe w'=>(∃v,e=.returned v)/\NRow 0 w' (.slice (some ⟨go,0,none⟩) n cn) (dP ns (ee (aP ns) (most-1) (2*(aP ns).length-2)))/\Kept (·=go) w w':=by
 have h1:1<=fm:=by omega
 obtain⟨bu,ou,capu,M9,_,_,_⟩:=hu.get 0 (by omega);subst M9;have IB:vs.length=most:=hl.len;have Md:go<w.heap.size:=hrow.lt rfl;have S4:gl<w.heap.size:=hl.lt rfl;have TN:gl≠go:=NRow.apartL hl hrow rfl rfl;have Lw:(aD ns).length<=288:=Nat.le_trans (cI ns) hns;have NY:(aD ns).length<=capu:=by obtain⟨_,_,e,h,_⟩:=hu;simp only[Value.slice.injEq]at e;omega
 have HU:Hid (SrcE am w (λk=>I k/\k<w.heap.size) (.slice (some ⟨bu,ou,none⟩) (aD ns).length capu) (aD ns)):=hu.low;have HLV:Hid (Levs Bl w ns vs):=JV;have HL:Hid (rq Bl w (.slice (some ⟨gl,0,none⟩) most capl) vs):=hl;have HRW:Hid (NRow Bo w (.slice (some ⟨go,0,none⟩) n cn) (List.replicate n 0)):=hrow;obtain⟨m,hm⟩:∃m,m=(aD ns).length:=⟨_,rfl⟩
 have HM:Hid (m=(aD ns).length):=hm;rw[<-hm]at g8 Lw NY cJ HU ⊢;have HFIT:Hid (m<=2 ^ most):=cJ;have HN:Hid (n=ns.length):=hn;have HI:Hid (∀k,I k->k≠go):=hI;have HVL:Hid (vs.length=most):=IB;clear hu JV hl hrow hm cJ hn hI IB;refine callsIn_of_wp_marks Tryz.func142 rfl Wp ?_ kS;simp only[Tryz.ntmps142,List.size_toArray,List.length_cons,List.length_nil,Nat.reduceAdd,Nat.reduceSub,Array.replicate_succ,Array.replicate_zero,List.push_toArray,List.append_toArray,List.nil_append,List.cons_append];gi_wp2_with (gi_at_call 176;refine(tN F (fm-1) h5 kS _ _ _ _).mono ?_;rintro e w' ⟨rfl,rfl⟩);obtain⟨w3,hw3⟩:∃w3,w3=(((w.alloc (.cells #[.slice (some ⟨go,0,none⟩) n cn] 138)).alloc (.cells #[.slice (some ⟨bu,ou,none⟩) m capu] 138)).alloc (.cells #[.int .i64 (2*(m:Int)-2)] 3)).alloc (.cells #[.slice (some ⟨gl,0,none⟩) most capl] 215):=⟨_,rfl⟩
 have B6:∀(W:World) (o:Obj),(W.alloc o).heap.size=W.heap.size+1:=λW o=>World.size_alloc W o
 have ka:∀(W:World) (o:Obj),Same W (W.alloc o):=λW o=>(Kept.refl _ W).alloc o
 have l7:∀(W:World) (v:Value) (t:TypeId),(W.alloc (.cells #[v] t)).cell? ⟨W.heap.size,0,none⟩=some v:=λW v t=>by simp
 have QQ:∀(W:World) (v:Value) (t:TypeId),(W.alloc (.cells #[v] t)).frozen? ⟨W.heap.size,0,none⟩=false:=λW v t=>by simp
 have F3:Same w w3∧w3.heap.size=w.heap.size+1+1+1+1∧w3.cell? ⟨w.heap.size,0,none⟩=some (.slice (some ⟨go,0,none⟩) n cn)∧w3.cell? ⟨w.heap.size+1,0,none⟩=some (.slice (some ⟨bu,ou,none⟩) m capu) ∧
   w3.cell? ⟨w.heap.size+1+1,0,none⟩=some (.int .i64 ((2*m-2:Nat):Int))/\w3.frozen? ⟨w.heap.size+1+1,0,none⟩=false/\w3.cell? ⟨w.heap.size+1+1+1,0,none⟩=some (.slice (some ⟨gl,0,none⟩) most capl):=by
  have e2:(2*(m:Int)-2)=((2*m-2:Nat):Int):=(by omega);rw[e2]at hw3;generalize hA:w.alloc (.cells #[.slice (some ⟨go,0,none⟩) n cn] 138)=wa at hw3;generalize hB:wa.alloc (.cells #[.slice (some ⟨bu,ou,none⟩) m capu] 138)=wb at hw3;generalize hC:wb.alloc (.cells #[.int .i64 ((2*m-2:Nat):Int)] 3)=wc at hw3;have s1:wa.heap.size=w.heap.size+1:=(by rw[<-hA,B6]);have s2:wb.heap.size=w.heap.size+1+1:=(by rw[<-hB,B6,s1]);have s3:wc.heap.size=w.heap.size+1+1+1:=(by rw[<-hC,B6,s2]);have k1:Same w wa:=(by rw[<-hA];exact ka _ _);have k2:Same wa wb:=(by rw[<-hB];exact ka _ _);have k3:Same wb wc:=(by rw[<-hC];exact ka _ _);have k4:Same wc w3:=(by rw[hw3];exact ka _ _);have c1:wa.cell? ⟨w.heap.size,0,none⟩=some (.slice (some ⟨go,0,none⟩) n cn):=(by rw[<-hA];exact l7 _ _ _);have c2:wb.cell? ⟨wa.heap.size,0,none⟩=some (.slice (some ⟨bu,ou,none⟩) m capu):=(by rw[<-hB];exact l7 _ _ _);have c3:wc.cell? ⟨wb.heap.size,0,none⟩=some (.int .i64 ((2*m-2:Nat):Int)):=(by rw[<-hC];exact l7 _ _ _);have f3:wc.frozen? ⟨wb.heap.size,0,none⟩=false:=(by rw[<-hC];exact QQ _ _ _);have c4:w3.cell? ⟨wc.heap.size,0,none⟩=some (.slice (some ⟨gl,0,none⟩) most capl):=(by rw[hw3];exact l7 _ _ _);rw[s1]at c2;rw[s2]at c3 f3;rw[s3]at c4;refine⟨Same.trans k1 (Same.trans k2 (Same.trans k3 k4)),by rw[hw3,B6,s3],(Same.trans k2 (Same.trans k3 k4)).cell c1 (λh=>h),(Same.trans k3 k4).cell c2 (λh=>h),k4.cell c3 (λh=>h),?_,c4⟩;exact(k4.frozen (p:=⟨w.heap.size+1+1,0,none⟩) (by rw[s3];simp) (λh=>h)).trans f3
 rw[<-hw3];clear hw3 B6 ka l7 QQ;generalize hb3:w.heap.size+1+1+1=b3 at *
 generalize hb2:w.heap.size+1+1=b2 at *
 generalize hb1:w.heap.size+1=b1 at *
 have HF3:Hid (Same w w3/\w3.heap.size=b3+1):=⟨F3.1,F3.2.1⟩
 obtain⟨_,_,UY,Vz,Wk,Xm,VR⟩:=F3;have nj:w.heap.size<b1/\b1<b2/\b2<b3/\b3<w3.heap.size:=by have:=HF3.out.2;omega
 clear hb3 hb2 hb1;have OQ:(aP ns).length=m:=by rw[ba];exact HM.out.symm
 refine yI kS h1 (gf:=193) (lb:=#[.pointer (some ⟨b3,0,none⟩)]) rfl h7 (enters_of Tryz.func193 (by kernel_rfl) rfl) most (mI vs) (λ_=>rfl) (Keep2 b3 gl) Keep2.trans
  (λW l o hl=>⟨World.putObj_heap_other (by omega),World.putObj_heap_other (by omega)⟩) (λk W=>∃T p,LI ns most w3 go b2 n cn k W T p) (LI.own ns most w3 go b2 n cn)
  ⟨2*m-2,fun _=>0,Wk,Xm,by rw[nX,←HN.out];exact RowE.base (HRW.out.same HF3.out.1) (Nat.zero_le _),Kept.refl _ _,by omega,fun _=>by omega,fun _=>⟨by
    have h:=AX (aP ns) (most-1) (by rw[OQ,show most-1+1=most by omega];exact HFIT.out);rw[OQ]at h;exact h,λi=>by rw[OQ];simp⟩,λh=>by omega⟩
  (λk=>{tmps:=#[.slice (some ⟨go,0,none⟩) n cn,.slice (some ⟨bu,ou,none⟩) m capu,.slice (some ⟨gl,0,none⟩) most capl,.pointer (some ⟨w.heap.size,0,none⟩),.pointer (some ⟨b1,0,none⟩),undef,.pointer (some ⟨b2,0,none⟩),undef,
   .slice (vs.getD (vs.length-1-k) (none,0,0)).1 (vs.getD (vs.length-1-k) (none,0,0)).2.1 (vs.getD (vs.length-1-k) (none,0,0)).2.2,undef,undef,undef,undef,undef,.slice (some ⟨bu,ou,none⟩) m capu,.int .i64 (m:Nat),.int .i64 (2*(m:Int)),.int .i64 (2*(m:Int)-2),
   .slice (some ⟨gl,0,none⟩) most capl,.func (.func 193) #[] #[.pointer (some ⟨b3,0,none⟩)],.int .i64 ((vs.length-1-k:Nat):Int),
   .slice (vs.getD (vs.length-1-k) (none,0,0)).1 (vs.getD (vs.length-1-k) (none,0,0)).2.1 (vs.getD (vs.length-1-k) (none,0,0)).2.2,undef,undef,undef,undef,undef,undef,undef,undef,undef,undef,undef,undef,undef,undef,undef,undef,undef,undef,undef,undef,undef,undef,undef,undef,undef,undef,undef,undef,undef,undef,undef,undef],defers:=[]}) ?seq ?assign ?body ?done
 case seq=>
  intro l J W hW hY hJ;have fq:W.cell? ⟨b3,0,none⟩=some (.slice (some ⟨gl,0,none⟩) vs.length capl):=(by rw[HVL.out];exact(hW.cell (p:=⟨b3,0,none⟩) nj.2.2.2).trans VR);have:=Cc F (fm-1) h7 kS (by omega) l b3 gl capl vs (by have:=HVL.out;omega) J (λk W1 hk hj=>hY k W1 (by rw[<-HVL.out];exact hk) hj) W fq
   (λj hj=>(hW.cell (p:=⟨gl,j,none⟩) (by show gl<_;omega)).trans (HF3.out.1.cell (HL.out.cell j hj) (λh=>h))) hJ
  rw[HVL.out]at this;exact this
 case assign=>
  intro l k W K hk hK;unfold mI Io;gi_wp2;exact hK
 case body=>
  rintro l k W hk ⟨T,p,hLI⟩;have hlt:most-1-k<vs.length:=(by have:=HVL.out;omega);obtain⟨la,ln,lc,hv⟩:∃la ln lc,vs[most-1-k]=(la,ln,lc):=⟨_,_,_,rfl⟩
  have Ec:vs.getD (vs.length-1-k) (none,0,0)=(la,ln,lc):=(by rw[HVL.out];simp[List.getD,hlt,hv]);have htr0:TRow Bl w (.slice la ln lc) (cK (aP ns) (most-1-k)):=(by have h:=HLV.out _ hlt;rw[hv]at h;exact h);have htr:TRow Bl W (.slice la ln lc) (cK (aP ns) (most-1-k)):=TRow.kept (TRow.kept htr0 HF3.out.1 (λ_ _ h=>h)) hLI.kept (λj hj e=>by
   rcases e with rfl | rfl
   ·exact NRow.apartT htr0 HRW.out hj rfl rfl
   ·have:=htr0.lt hj;omega)
  rw[Ec];dsimp only;have M0:0<(cK (aP ns) (most-1-k)).length:=(by have:=K5 (aP ns) (most-1-k);omega);obtain⟨PG,_⟩:=hLI.more hk;have HLI:Hid (LI ns most w3 go b2 n cn k W T p):=hLI;generalize hX:cK (aP ns) (most-1-k)=X at htr M0 PG;have HX:Hid (cK (aP ns) (most-1-k)=X):=hX;obtain⟨ax,capx,SV,S9,us⟩:=htr.shape;obtain⟨gx,Xn,XF,bO⟩:=us (by intro e;rw[e]at M0;simp at M0);simp only[Value.slice.injEq]at SV;obtain⟨rfl,rfl,rfl⟩:=SV;subst Xn;have HC:Hid (∀j (_:j<X.length),W.cell? ⟨gx,j*2,none⟩=some (.int .i64 (X[j].1:Int))/\W.cell? ⟨gx,j*2+1,none⟩=some (.bool X[j].2)):=bO;have ct:=hLI.ct;have Ya:=hLI.hT;have Ys:T<=lc:=(by omega);clear us bO htr htr0 hX hv Ec hLI hlt;gi_wp2;gi_loopw [9,26] (λz9 z26 wx=>∃j:Nat,j<=T/\z9=.int .i64 (pk X j:Nat)/\z26=.int .i64 (j:Nat)/\Hid (Same W wx)) (λ_ z26 _=>T-(intOf z26).toNat)
  case atStart=>exact⟨0,by omega,by simp[pk],rfl,Kept.refl _ _⟩
  case round=>
   obtain⟨j,hj,rfl,rfl,HS⟩:=hrel;by_cases hjT:j<T
   ·have TI:j<X.length:=(by omega);obtain⟨c1,c2⟩:=HC.out j TI;have d1:=HS.out.cell c1 (λh=>h);have d2:=HS.out.cell c2 (λh=>h);have LM:=Jj X j TI;have rH:=tz X j;obtain⟨xw,KL⟩:∃x,x=X[j].1:=⟨_,rfl⟩
    rw[<-KL]at d1;clear c1 c2 KL;cases hb:X[j].2 with
    | true=>
     rw[hb]at d2 LM;have HPK:Hid (pk X (j+1)=pk X j+1):=hid (by simpa using LM);clear LM hb;generalize pk X j=pj at *
     gi_wp2
     go_roundw
     case rel=>exact⟨j+1,by omega,by rw[HPK.out];go_num,by go_num,hid (by first | exact(HS.out.alloc _) | exact((HS.out.alloc _).setCell _ _ (.inr HS.out.size)).setCell _ _ (.inr HS.out.size))⟩
     case measure=>simp[intOf];omega
    | false=>
     rw[hb]at d2 LM;have HPK:Hid (pk X (j+1)=pk X j):=hid (by simpa using LM);clear LM hb;generalize pk X j=pj at *
     gi_wp2
     go_roundw
     case rel=>exact⟨j+1,by omega,by rw[HPK.out],by go_num,hid (by first | exact(HS.out.alloc _) | exact((HS.out.alloc _).setCell _ _ (.inr HS.out.size)).setCell _ _ (.inr HS.out.size))⟩
     case measure=>simp[intOf];omega
   ·have Qx:j=T:=(by omega);subst Qx;have rH:=tz X j;have Uu:=FS X j PG;obtain⟨aa,P7⟩:∃aa,aa=lf X j:=⟨_,rfl⟩
    obtain⟨pp,PJ⟩:∃pp,pp=pk X j:=⟨_,rfl⟩
    rw[<-P7,<-PJ]at Uu;rw[<-PJ]at rH ⊢;have Yf:aa<=m:=by have h1:=kF (aP ns) (most-1-k) j;rw[HX.out,<-P7,OQ]at h1;exact h1
    have HAA:Hid (aa=lf X j):=P7;have HPP:Hid (pp=pk X j):=PJ;have ju:((j:Int)-(pp:Int))=(aa:Int):=(by omega);have hk0:=HLI.out.kept;have Sr:wr.cell? ⟨b2,0,none⟩=some (.int .i64 (j:Nat)):=HS.out.cell ct (λh=>h);have Vo:wr.frozen? ⟨b2,0,none⟩=false:=(HS.out.frozen (p:=⟨b2,0,none⟩) (World.block_lt_of_cell? W _ ct) (λh=>h)).trans HLI.out.ft;have du:wr.cell? ⟨b1,0,none⟩=some (.slice (some ⟨bu,ou,none⟩) m capu):=HS.out.cell (hk0.cell Vz (by show ¬(b1=go\/b1=b2);omega)) (λh=>h);have dv:wr.cell? ⟨w.heap.size,0,none⟩=some (.slice (some ⟨go,0,none⟩) n cn):=HS.out.cell (hk0.cell UY (by show ¬(w.heap.size=go\/w.heap.size=b2);omega)) (λh=>h);have HU2:Hid (SrcE am wr (λk=>I k/\k<w.heap.size) (.slice (some ⟨bu,ou,none⟩) m capu) (aD ns)):=hid (by
     refine SrcE.same (SrcE.kept (SrcE.same HU.out HF3.out.1) hk0 (λx hx _ e=>?_)) HS.out;rcases e with e | e
     ·exact HI.out x hx.1 e
     ·omega)
    have HR0:Hid (NRow 0 wr (.slice (some ⟨go,0,none⟩) n cn) (dP ns p)):=hid (HLI.out.row.same HS.out);have rP:aa<=capu:=(by omega);clear P7 PJ hk0 ct;gi_wp2;gi_loopw [41] (λz wy=>∃q:Nat,q<=aa/\z=.int .i64 (q:Nat)/\Hid (NRow 0 wy (.slice (some ⟨go,0,none⟩) n cn) (dP ns (λi=>p i+if i<q then 1 else 0)))/\Hid (Kept (·=go) wr wy)) (λz _=>aa-(intOf z).toNat)
    case atStart=>exact⟨0,by omega,rfl,hid (by simpa using HR0.out),Kept.refl _ _⟩
    case round=>
     obtain⟨q,hq,rfl,HR,HK⟩:=hrel;have Xu:=HK.out.cell dv (by show ¬w.heap.size=go;omega);by_cases M7:q<aa
     ·have Oc:q<(aD ns).length:=(by have:=HM.out;omega);obtain⟨bq,oq,cq,eq,_,_,cs⟩:=(SrcE.kept HU2.out HK.out (λx hx _ e=>HI.out x hx.1 e)).get q Oc;simp only[Value.slice.injEq,Option.some.injEq,Addr.mk.injEq,and_true]at eq;obtain⟨⟨rfl,rfl⟩,jt,rfl⟩:=eq;clear jt;obtain⟨sy,jd⟩:∃sy,sy=(aD ns)[q]:=⟨_,rfl⟩
      rw[<-jd]at cs;unfold am at cs;have hsr:=aU.1 (by rw[jd];exact List.getElem_mem _:sy∈aD ns);have Ip:sy<n:=(by have:=HN.out;omega);have BP:sy<(dP ns (λi=>p i+if i<q then 1 else 0)).length:=(by rw[oo];exact hsr.1);obtain⟨y,hy⟩:∃y,y=p q:=⟨_,rfl⟩
      have Yq:y<=k:=(by rw[hy];exact HLI.out.hp q);have cy:wr.cell? ⟨go,sy,none⟩=some (.int .i64 (y:Nat)):=(by rw[HR.out.cell sy BP];unfold am;congr 3;subst jd;rw[ER ns _ q Oc BP,hy];simp);have fy:=HR.out.frozen sy;have HR2:Hid (NRow 0 (wr.setCell ⟨go,sy,none⟩ (.int .i64 ((y:Int)+1))) (.slice (some ⟨go,0,none⟩) n cn) (dP ns (λi=>p i+if i<q+1 then 1 else 0))):=hid (by
       have h:=HR.out.lay sy (y+1);subst jd;rw[wK ns _ q (y+1) Oc]at h;rw[jj ns (λi=>p i+if i<q+1 then 1 else 0) (λi=>if i=q then y+1 else p i+if i<q then 1 else 0) (λi _=>by
        by_cases e:i=q
        ·subst e;simp[hy]
        ·by_cases e2:i<q
         ·simp[e,e2,show i<q+1 by omega]
         ·simp[e,e2,show ¬i<q+1 by omega])]
       exact h)
      clear jd hsr BP hy;gi_wp2;go_roundw
      case rel=>exact⟨q+1,by omega,by go_num,HR2,HK.out.setCell _ _ (.inl rfl)⟩
      case measure=>simp[intOf];omega
     ·have QI:q=aa:=(by omega);subst QI;have U4:=HK.out.cell Sr (by show ¬b2=go;omega);have UM:wr.frozen? ⟨b2,0,none⟩=false:=(HK.out.frozen (p:=⟨b2,0,none⟩) (World.block_lt_of_cell? _ _ Sr) (by show ¬b2=go;omega)).trans Vo;have HKW:Hid (Kept (·=go) W wr):=hid (Kept.trans HS.out HK.out (λ_ _ h=>h.elim) (λ_ _ h=>h));have HK3:Hid (Kept (λj=>j=go\/j=b2) w3 wr):=hid (HLI.out.kept.trans HKW.out (λ_ _ h=>h) (λ_ _ h=>.inl h));have WV:go<w3.heap.size:=(by omega);gi_wp2;have WI:((2:Int)*(pp:Int))=((2*pp:Nat):Int):=(by omega);rw[WI];refine⟨rfl,?_,?_,2*pp,λi=>p i+if i<q then 1 else 0,?_⟩
      ·have hkk:Kept (λj=>j=go\/j=b2) W (wr.setCell ⟨b2,0,none⟩ (.int .i64 ((2*pp:Nat):Int))):=(HKW.out.mono (λ_ _ h=>.inl h)).setCell _ _ (.inl (.inr rfl));refine⟨hkk.size,λx o hB hx _=>?_⟩;exact(hkk.block x (Array.getElem?_eq_some_iff.1 hx).1 (by omega)).trans hx
      ·have hkk:Kept (λj=>j=go\/j=b2) W (wr.setCell ⟨b2,0,none⟩ (.int .i64 ((2*pp:Nat):Int))):=(HKW.out.mono (λ_ _ h=>.inl h)).setCell _ _ (.inl (.inr rfl));have KK:=HLI.out.kept.size;exact⟨hkk.block b3 (by omega) (by omega),hkk.block gl (by omega) (by omega)⟩
      ·have hX:=HX.out;have h1:=HLI.out.next (W':=wr.setCell ⟨b2,0,none⟩ (.int .i64 ((2*pp:Nat):Int))) hk (by omega) (by rw[hX,<-HPP.out];exact World.cell?_setCell_same' _ _ _ (by rw[U4];rfl)) (by rw[World.frozen?_setCell];exact UM)
        (by rw[hX,<-HAA.out];exact HR.out.kept ((Kept.refl (·=b2) wr).setCell ⟨b2,0,none⟩ _ (.inl rfl)) (λx hx e=>by simp[Value.ownBlock]at hx;omega)) (HK3.out.setCell _ _ (.inl (.inr rfl)))
       rw[hX,<-HPP.out,<-HAA.out]at h1;exact h1
 case done=>
  rintro D W hD ⟨T,p,hLI⟩ hK;have HFIN:Hid (NRow 0 W (.slice (some ⟨go,0,none⟩) n cn) (dP ns (ee (aP ns) (most-1) (2*(aP ns).length-2)))/\Kept (λj=>j=go\/j=b2) w3 W):=hid ⟨by
   have h:=hLI.row;rw[jj ns p _ (λi _=>hLI.done rfl i)]at h;exact h,hLI.kept⟩
  clear hLI;gi_wp2;refine⟨by simp,.inl ⟨_,_,rfl,run_takeDeferred hK,?_⟩⟩;refine⟨_,results_none rfl _ _ _,⟨_,rfl⟩,?_,?_⟩
  ·exact World.ownsRow.kept HFIN.out.1 (grownBy_putObj' W D _) (.inr (by simp[Value.ownBlock];omega))
  ·have hk1:Kept (·=go) w W:=Kept.trans HF3.out.1 HFIN.out.2 (λ_ _ h=>h.elim) (λx hx h=>by rcases h with h | h;exact h;omega);exact hk1.grown (grownBy_putObj' W D _) (λx e=>.inr (by cases e;omega))
theorem tn(w:World)(ns:List Nat)(most go n cn gl capl:Nat)(vu:Value)(I:Nat→Prop)(Bl Bo:Nat)(vs:List (Option Addr×Nat×Nat))(hrow:NRow Bo w (.slice (some ⟨go,0,none⟩) n cn) (List.replicate n 0))(hn:n=ns.length)(hns:ns.length≤288)
  (hu:SrcE am w I vu (aD ns)) (hI:∀k,I k->k≠go) (hl:rq Bl w (.slice (some ⟨gl,0,none⟩) most capl) vs) (JV:Levs Bl w ns vs) (g8:2<=(aD ns).length) (hm1:1<=most) (xY:most<=15) (cJ:(aD ns).length<=2 ^ most):
  Calls Tryz.prog 142 #[.slice (some ⟨go,0,none⟩) n cn,vu,.slice (some ⟨gl,0,none⟩) most capl] w λe w'=>(∃v,e=.returned v)/\NRow 0 w' (.slice (some ⟨go,0,none⟩) n cn) (dP ns (ee (aP ns) (most-1) (2*(aP ns).length-2)))/\Kept (·=go) w w':=by
 refine(callsIn_wide (n:=3)).1 ?_;exact vQ Fence.wide 3 trivial trivial trivial rfl (by omega) w ns most go n cn gl capl vu I Bl Bo vs hrow hn hns hu hI hl JV g8 hm1 xY cJ
end Go.Proofs.YtllcnlnbpikhdaaGreatDoor
namespace Go.Proofs.YtllcnlnbpikhdaaGreatDoor
open Go.RowKit
def dO(ns:List Nat)(most:Nat):List Nat:=
 if (aD ns).length<=1 then dP ns (λ_=>1)else dP ns (ee (aP ns) (most-1) (2*(aP ns).length-2))
theorem ig(ns:List Nat)(most:Nat):(dO ns most).length=ns.length:=by unfold dO;split<;>exact oo _ _
theorem Gz(k:Nat)(h:k<=15):wrap64 ((2:Int) ^ k)=((2 ^ k:Nat):Int):=by
 have h1:(2:Int) ^ k=((2 ^ k:Nat):Int):=by simp
 have h2:2 ^ k<=2 ^ 15:=Nat.pow_le_pow_right (by omega) h;have h3:(2:Nat) ^ 15=32768:=by decide
 rw[h1];generalize 2 ^ k=q at *
 unfold wrap64;omega
theorem pV(w:World)(v:Value)(I:Nat→Prop)(zs:List Int)(ns:List Nat)(most:Nat)(hs:SrcE bI w I v zs)(hok:eC zs 0 1000000000000=true)(hns:ns=zs.map Int.toNat)(h1:1≤most)(h15:most≤15)(cJ:(aD ns).length≤2 ^ most):
  Calls Tryz.prog 113 #[v,.int .i64 (most:Nat)] w λe w'=>(∃g n cap,e=.returned (.tuple #[.slice (some ⟨g,0,none⟩) n cap,.int .i64 0])/\NRow 0 w' (.slice (some ⟨g,0,none⟩) n cap) (dO ns most)/\w.heap.size<=g)/\Same w w':=by
 obtain⟨eN,h0,Kc,md⟩:=nm hok;have HC:=BI w v I zs 0 1000000000000 hs (by omega);rw[hok]at HC;rw[<-hns]at eN md;obtain⟨av,capv,Ar,fO,fX⟩:=id hs;clear fO fX;subst Ar;have HS:Hid (SrcE am w (λk=>I k/\k<w.heap.size) (.slice av zs.length capv) ns):=hid (hs.recode eN).low;have ri:zs.length=ns.length:=by rw[hns];simp
 have uj:(aD ns).length<=288:=by have:=cI ns;omega
 have HLE:Hid (∀n∈ns,n<=1000000000000):=hid (λn hn=>by have:=md n hn;omega);have g1:decide ((most:Int)<1)=false:=by simp;omega
 have g2:decide ((15:Int)<(most:Int))=false:=by simp;omega
 clear hs hok eN md hns;generalize zs.length=n at *
 have HN:Hid (n=ns.length):=ri;clear ri;go_enter Tryz.func113,Tryz.ntmps113;go_wp2_with fail;refine HC.mono ?_;rintro e w2 ⟨rfl,hk⟩;have HK:Hid (Same w w2):=hk;clear hk HC;have HRI:=lV w2 _ _ ns (HS.out.same HK.out) (by have:=HN.out;omega);go_wp2_with fail;refine HRI.mono ?_;rintro e w3 ⟨v3,rfl,hn3⟩;obtain⟨a3,c3,pc,_⟩:=hn3.row.shape;subst pc;have HK3:Hid (Same w w3):=hid (Same.trans HK.out hn3.same);have HN3:Hid (NRow w2.heap.size w3 (.slice a3 (aD ns).length c3) (aD ns)):=hid hn3.row;have hs2:=HK.out.size;have hs3:=HK3.out.size;clear hn3 HRI;obtain⟨rl,L9⟩:∃rl,rl=(aD ns).length:=⟨_,rfl⟩
 have HRL:Hid (rl=(aD ns).length):=L9;rw[<-L9]at HN3 uj cJ ⊢;clear L9;obtain⟨pw,lY⟩:∃pw,pw=2 ^ most:=⟨_,rfl⟩
 have Uv:=Gz most h15;rw[<-lY]at Uv;have HPW:Hid (pw=2 ^ most):=lY;rw[<-lY]at cJ;clear lY;have Iz:decide (pw<rl)=false:=by simp;omega
 by_cases rk:rl=0
 ·have HF:Hid (dO ns most=List.replicate n 0):=hid (by
   unfold dO;rw[<-HRL.out,if_pos (by omega),HN.out,<-nX];exact jj ns _ _ (λi hi=>by rw[<-HRL.out]at hi;omega))
  go_wp2_with (at_make;refine dm _ am 0 w3.heap.size 138 3 8 Tryz.underlying138 Tryz.infoN rfl (by decide) rfl _ _ rfl _ _ _ _ n rfl rfl rfl rfl (by omega) (Nat.le_refl _) ?_;intro w4 hr4 pv on;have HR4:Hid (NRow w3.heap.size w4 (.slice (some ⟨w3.heap.size,0,none⟩) n n) (List.replicate n 0)):=hr4;have HK4:Hid (Same w3 w4):=hid ((Kept.refl _ w3).grown pv (by simp));clear hr4 pv)
  go_ret2;exact⟨⟨_,_,_,rfl,by rw[HF.out];exact RowE.base HR4.out (Nat.zero_le _),by omega⟩,Same.trans HK3.out HK4.out⟩
 ·have G1:((rl:Int)==0)=false:=(by simp;omega);by_cases hr1:rl=1
  ·have Cb:((rl:Int)==1)=true:=(by simp;omega);have yn:0<(aD ns).length:=(by have:=HRL.out;omega);obtain⟨s,hs⟩:∃s,s=(aD ns)[0]:=⟨_,rfl⟩
   have hsr:=aU.1 (by rw[hs];exact List.getElem_mem _:s∈aD ns);have Ip:s<n:=(by have:=HN.out;omega);obtain⟨b,o,cap',e5,_,_,c5⟩:=(SrcE.ofRow HN3.out).get 0 yn;simp only[Value.slice.injEq]at e5;obtain⟨rfl,jt,rfl⟩:=e5;clear jt;rw[<-hs]at c5;unfold am at c5;rw[Nat.add_zero]at c5;have HR5:Hid (∀w4,NRow w3.heap.size w4 (.slice (some ⟨w3.heap.size,0,none⟩) n n) (List.replicate n 0)->NRow w3.heap.size (w4.setCell ⟨w3.heap.size,s,none⟩ (.int .i64 1)) (.slice (some ⟨w3.heap.size,0,none⟩) n n) (dO ns most)):=hid (by
    intro w4 hr4;have h:=hr4.lay s 1;rw[HN.out,<-nX,hs,wK ns _ 0 1 yn,<-hs,<-HN.out]at h;unfold dO;rw[<-HRL.out,if_pos (by omega),jj ns (λ_=>1) (λi=>if i=0 then 1 else 0) (λi hi=>by rw[<-HRL.out]at hi;rw[if_pos (show i=0 by omega)])];exact h)
   clear hs hsr G1 rk;have l6:0<rl:=(by omega);clear hr1;go_wp2_with (at_make;refine dm _ am 0 w3.heap.size 138 3 8 Tryz.underlying138 Tryz.infoN rfl (by decide) rfl _ _ rfl _ _ _ _ n rfl rfl rfl rfl (by omega) (Nat.le_refl _) ?_;intro w4 hr4 pv on;have HR4:Hid (NRow w3.heap.size w4 (.slice (some ⟨w3.heap.size,0,none⟩) n n) (List.replicate n 0)):=hr4;have HK4:Hid (Same w3 w4):=hid ((Kept.refl _ w3).grown pv (by simp));have c6:=HK4.out.cell c5 (λh=>h);have cy:w4.cell? ⟨w3.heap.size,s,none⟩=some (.int .i64 0):=(hr4.cell s (by simpa using Ip)).trans (by simp[am]);have fy:=hr4.frozen s;clear hr4 pv);go_ret2;exact⟨⟨_,_,_,rfl,RowE.base (HR5.out w4 HR4.out) (Nat.zero_le _),by omega⟩,Same.then (Same.trans HK3.out HK4.out) ((Kept.refl (·=w3.heap.size) w4).setCell ⟨w3.heap.size,s,none⟩ _ (.inl rfl)) (λx hx e=>by omega)⟩
  ·have Cb:((rl:Int)==1)=false:=(by simp;omega);have g8:2<=(aD ns).length:=(by have:=HRL.out;omega);have Hz:ns.length<=288:=(by have:=HN.out;omega);go_wp2_with (at_make;refine dm _ am 0 w3.heap.size 138 3 8 Tryz.underlying138 Tryz.infoN rfl (by decide) rfl _ _ rfl _ _ _ _ n rfl rfl rfl rfl (by omega) (Nat.le_refl _) ?_;intro w4 hr4 pv on;have HR4:Hid (NRow w3.heap.size w4 (.slice (some ⟨w3.heap.size,0,none⟩) n n) (List.replicate n 0)):=hr4;have HK4:Hid (Same w3 w4):=hid ((Kept.refl _ w3).grown pv (by simp));clear hr4 pv);have HLV:=zY w4 (.slice a3 rl c3) (.slice av n capv) (λk=>(I k/\k<w.heap.size)\/(Value.slice a3 rl c3).ownBlock=some k) ns most (SrcE.mono (SrcE.ofRow (HN3.out.same HK4.out)) (λk h=>.inr h)) (SrcE.mono (HS.out.same (Same.trans HK3.out HK4.out)) (λk h=>.inl h))
    (by intro e;rw[e]at g8;simp at g8) Hz HLE.out h1 h15
   refine HLV.mono ?_;rintro e w5 ⟨⟨gl,capl,vs,rfl,Hp,KJ,fq⟩,hk5⟩;have HLN:=tn w5 ns most w3.heap.size n n gl capl (.slice a3 rl c3) (fun k=>(Value.slice a3 rl c3).ownBlock=some k) w4.heap.size w3.heap.size vs (HR4.out.same hk5) HN.out Hz (SrcE.ofRow ((HN3.out.same HK4.out).same hk5)) (fun k hk e=>by
     have h1:=HN3.out.lt hk;omega) Hp KJ g8 h1 h15 (by rw[<-HRL.out,<-HPW.out];exact cJ)
   have HK5:Hid (Same w4 w5):=hk5;clear Hp KJ hk5 HLV;go_wp2_with fail;refine HLN.mono ?_;rintro e w6 ⟨⟨v6,rfl⟩,hr6,hk6⟩;have HR6:Hid (NRow 0 w6 (.slice (some ⟨w3.heap.size,0,none⟩) n n) (dO ns most)):=hid (by
    unfold dO;rw[if_neg (by omega)];exact hr6)
   have HK6:Hid (Same w w6):=hid (Same.then (Same.trans HK3.out (Same.trans HK4.out HK5.out)) hk6 (λx hx e=>by omega));clear hr6 hk6 HLN;go_wp2_with fail;go_ret2;exact⟨⟨_,_,_,rfl,HR6.out,by omega⟩,HK6.out⟩
end Go.Proofs.YtllcnlnbpikhdaaGreatDoor
