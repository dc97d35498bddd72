import Derived.RangeFuncBox
import Derived.RangeFuncLeaves
import Derived.Shelf.Abstract
import Derived.WalkKit
import Derived.OwnWalkIn
import Derived.TacticsInMore
import Derived.LoopNIn
import Derived.LoopIn
import Derived.Test.YtljlmfnbeofmmaaGreatDoorJ30
import Derived.Test.YtljlmfnbeofmmaaGreatDoorJ18
set_option maxHeartbeats 4000000
set_option maxRecDepth 100000
namespace Go.Proofs.YtljlmfnbeofmmaaGreatDoor
open Go.RowKit Go.Shelf
attribute [local go_sem] Oper.semAt_some
def Keep2(b1 b2:Nat)(W W':World):Prop:=W'.heap[b1]? = W.heap[b1]?/\W'.heap[b2]? = W.heap[b2]?
theorem Keep2.trans{b1 b2:Nat}{A B C:World}(h:Keep2 b1 b2 A B)(k:Keep2 b1 b2 B C):Keep2 b1 b2 A C:=⟨k.1.trans h.1,k.2.trans h.2⟩
def mY(vs:List (Option Addr×Nat×Nat))(k:Nat):Array Value:=#[.int .i64 ((vs.length-1-k:Nat):Int),I9 (vs.getD (vs.length-1-k) (none,0,0))]
theorem CU(F:Fence)(n:Nat)(h7:F.fn 224)(lN:F.round=none)(hn:1≤n)(l Bs g cap:Nat)(vs:List (Option Addr×Nat×Nat))(ag:vs.length≤1000)(J:Nat→World→Prop)
  (hY:∀k W1,k<vs.length->J k W1->YieldAt F (n-1) Tryz.prog l (mY vs k) W1 λe W'=>e=.returned (.bool true)/\J (k+1) W'/\Keep2 Bs g W1 W')
  (W:World) (OK:W.cell? ⟨Bs,0,none⟩=some (.slice (some ⟨g,0,none⟩) vs.length cap)) (hc:∀j (_:j<vs.length),W.cell? ⟨g,j,none⟩=some (I9 vs[j])) (h0:J 0 W):
  CallsIn F n Tryz.prog 224 #[.func (.yield l) #[] #[],.pointer (some ⟨Bs,0,none⟩)] W λe W'=>(∃v,e=.returned v)/\J vs.length W':=by
 refine callsIn_of_wp Tryz.func224 rfl h7 ?_ lN;simp only[Tryz.ntmps224,List.size_toArray,List.length_cons,List.length_nil,Nat.reduceAdd,Nat.reduceSub,Array.replicate_succ,Array.replicate_zero,List.push_toArray,List.append_toArray,List.nil_append,List.cons_append];gi_wp2;gi_loopw [3] (λi wr=>∃k:Nat,k<=vs.length/\i=.int .i64 ((vs.length:Int)-1-k)/\J k wr/\Keep2 Bs g W wr)
  (λi _=>(intOf i+1).toNat)
 case atStart=>exact⟨0,Nat.zero_le _,by simp,h0,rfl,rfl⟩
 case round=>
  obtain⟨k,hk,rfl,EK,hnx⟩:=hrel;have QY:=(World.cell?_of_block (a:=⟨Bs,0,none⟩) hnx.1).trans OK;by_cases hlt:k<vs.length
  ·obtain⟨m,hm⟩:∃m,m=vs.length-1-k:=⟨_,rfl⟩
   have gD:(vs.length:Int)-1-k=(m:Nat):=(by omega);have Jm:m<vs.length:=(by omega);obtain⟨fn,tmps,assign,body,hy,hR⟩:=hY k wr hlt EK;obtain⟨xa,xn,xc,hx⟩:∃xa xn xc,vs[m]=(xa,xn,xc):=⟨_,_,_,rfl⟩
   have rI:wr.cell? ⟨g,m,none⟩=some (.slice xa xn xc):=(by have:=(World.cell?_of_block (a:=⟨g,m,none⟩) hnx.2).trans (hc m Jm);rw[hx]at this;exact this);have A7:mY vs k=#[.int .i64 (m:Int),.slice xa xn xc]:=(by unfold mY;rw[<-hm];simp[List.getD,Jm,hx,I9]);rw[A7]at hy;rw[gD];have HM:Hid (m=vs.length-1-k):=hm;clear hm gD A7 hx;gi_wp2;refine hR.mono ?_;rintro e W3 ⟨rfl,EM,hk3⟩;gi_wp2;go_roundw
   case rel=>exact⟨k+1,by omega,by have:=HM.out;simp;omega,EM,hnx.trans hk3⟩
   case measure=>simp[intOf]
  ·obtain rfl:k=vs.length:=by omega
   gi_wp2
   go_end0;exact⟨⟨_,rfl⟩,EK⟩
theorem tS(F:Fence)(n:Nat)(h5:F.fn 191)(lN:F.round=none)(a:Option Addr)(len cap:Nat)(w:World):
  CallsIn F n Tryz.prog 191 #[.slice a len cap] w λe w'=>e=.returned (.func (.func 224) #[] #[.pointer (some ⟨w.heap.size,0,none⟩)])/\w'=w.alloc (.cells #[.slice a len cap] 215):=by
 refine callsIn_of_wp Tryz.func191 rfl h5 ?_ lN;simp only[Tryz.ntmps191,List.size_toArray,List.length_cons,List.length_nil,Nat.reduceAdd,Nat.reduceSub,Array.replicate_succ,Array.replicate_zero,List.push_toArray,List.append_toArray,List.nil_append,List.cons_append];gi_wp2;go_ret;exact⟨rfl,rfl⟩
attribute [local go_sem] Oper.semAt_some
def d6(ns:List Nat)(p:Nat->Nat):List Nat:=(List.range ns.length).map (λs=>if key ns s=0 then 0 else p ((aE ns).idxOf s))
theorem oS(ns:List Nat)(p:Nat->Nat):(d6 ns p).length=ns.length:=by simp[d6]
theorem tY(ns:List Nat)(j:Nat)(h:j<(aE ns).length):(aE ns).idxOf (aE ns)[j]=j:=(El ns).idxOf_getElem j h
theorem Hj(ns:List Nat)(p:Nat->Nat)(j:Nat)(h:j<(aE ns).length)(hl:(aE ns)[j]<(d6 ns p).length):(d6 ns p)[(aE ns)[j]]=p j:=by have h0:=(aX.1 (List.getElem_mem h)).2;simp only[d6,List.getElem_map,List.getElem_range];rw[if_neg h0,tY ns j h]
theorem xE(ns:List Nat)(p:Nat->Nat)(j v:Nat)(h:j<(aE ns).length):(d6 ns p).set (aE ns)[j] v=d6 ns (λi=>if i=j then v else p i):=by
 unfold d6;refine List.ext_getElem (by simp) (λs h1 h2=>?_);simp only[List.getElem_set,List.getElem_map,List.getElem_range];have h0:=(aX.1 (List.getElem_mem h)).2;by_cases e:(aE ns)[j]=s
 ·subst e;rw[if_pos rfl,if_neg h0,tY ns j h,if_pos rfl]
 ·rw[if_neg e];by_cases hk:key ns s=0
  ·rw[if_pos hk,if_pos hk]
  ·rw[if_neg hk,if_neg hk];have hm:s∈aE ns:=aX.2 ⟨by simpa using h2,hk⟩;rw[if_neg];intro hi;apply e;have hlt:(aE ns).idxOf s<(aE ns).length:=List.idxOf_lt_length_of_mem hm;have:=List.getElem_idxOf hlt;simp only[hi]at this;exact this
theorem jH(ns:List Nat)(p q:Nat->Nat)(h:∀i,i<(aE ns).length->p i=q i):d6 ns p=d6 ns q:=by
 unfold d6;refine List.map_congr_left (λs hs=>?_);by_cases hk:key ns s=0
 ·rw[if_pos hk,if_pos hk]
 ·rw[if_neg hk,if_neg hk];have hm:s∈aE ns:=aX.2 ⟨by simpa using hs,hk⟩;exact h _ (List.idxOf_lt_length_of_mem hm)
theorem oC(ns:List Nat):d6 ns (λ_=>0)=List.replicate ns.length 0:=by unfold d6;simp[List.map_const']
theorem NRow.apartT{B B':Nat}{w:World}{v v':Value}{its:List (Nat×Bool)}{xs:List Nat}(h:TRow B w v its)(h':NRow B' w v' xs){j g:Nat}(hj:v.ownBlock=some j)(hg:v'.ownBlock=some g):j≠g:=by
 rintro rfl;rcases h.2 with⟨rfl,_⟩ | ⟨g1,c1,PH,rfl,_,e1,_⟩
 ·simp[Value.ownBlock]at hj
 ·rcases h'.2 with⟨rfl,_⟩ | ⟨g2,c2,Nj,rfl,_,e2,_⟩
  ·simp[Value.ownBlock]at hg
  ·simp[Value.ownBlock]at hj hg;subst hj hg;rw[e1]at e2;simp at e2
theorem NRow.apartL{B B':Nat}{w:World}{v v':Value}{vs:List (Option Addr×Nat×Nat)}{xs:List Nat}(h:rV B w v vs)(h':NRow B' w v' xs){j g:Nat}(hj:v.ownBlock=some j)(hg:v'.ownBlock=some g):j≠g:=by
 rintro rfl;rcases h.2 with⟨rfl,_⟩ | ⟨g1,c1,PH,rfl,_,e1,_⟩
 ·simp[Value.ownBlock]at hj
 ·rcases h'.2 with⟨rfl,_⟩ | ⟨g2,c2,Nj,rfl,_,e2,_⟩
  ·simp[Value.ownBlock]at hg
  ·simp[Value.ownBlock]at hj hg;subst hj hg;rw[e1]at e2;simp at e2
structure LI(ns:List Nat)(most:Nat)(w3:World)(go bt n cn:Nat)(k:Nat)(W:World)(T:Nat)(p:Nat->Nat):Prop where
 ct:W.cell? ⟨bt,0,none⟩=some (.int .i64 (T:Nat))
 ft:W.frozen? ⟨bt,0,none⟩=false
 row:NRow 0 W (.slice (some ⟨go,0,none⟩) n cn) (d6 ns p)
 kept:Kept (λj=>j=go\/j=bt) w3 W
 hT:T<=600
 hp:∀i,p i<=k
 more:k<most->T<=(cR (aU ns) (most-1-k)).length/\∀i,p i+ew (aU ns) (most-1-k) T i=ew (aU ns) (most-1) (2*(aU ns).length-2) i
 done:k=most->∀i,p i=ew (aU ns) (most-1) (2*(aU ns).length-2) i
theorem LI.own(ns:List Nat)(most:Nat)(w3:World)(go bt n cn:Nat):OwnFrom w3.heap.size (λk W=>∃T p,LI ns most w3 go bt n cn k W T p):=by
 rintro k W W' row ⟨T,p,h⟩ hg hr;have uS:∀b v,W.cell? ⟨b,0,none⟩=some v->some b≠row:=by intro b v hc e;obtain⟨_,o,ho,U5⟩:=hr b e.symm;simp only[World.cell?,ho]at hc;cases o<;>simp_all[Obj.isCells]
 have Nb:some go≠row:=by
  intro e;obtain⟨_,o,ho,U5⟩:=hr go e.symm;rcases h.row.2 with⟨e1,_⟩ | ⟨g2,c2,Nj,e1,_,e2,_⟩
  ·simp at e1
  ·simp only[Value.slice.injEq,Option.some.injEq,Addr.mk.injEq,and_true]at e1;obtain⟨rfl,_⟩:=e1;rw[ho]at e2;simp at e2;subst e2;simp[Obj.isCells]at U5
 have NY:=uS bt _ h.ct;have hbl:bt<W.heap.size:=World.block_lt_of_cell? W _ h.ct;refine⟨T,p,?_,?_,World.ownsRow.kept h.row hg (.inr Nb),h.kept.grown hg (λj e=>.inr (hr j e).1),h.hT,h.hp,h.more,h.done⟩
 ·exact hg.cell h.ct NY
 ·exact(World.frozen?_of_block (hg.block bt hbl NY)).trans h.ft
attribute [local go_sem] Oper.semAt_some
theorem JT(X:List (Nat×Bool))(j:Nat)(h:j<X.length):pk X (j+1)=pk X j+(if X[j].2 then 1 else 0):=by unfold pk;rw[List.take_succ_eq_append_getElem h,List.countP_append];cases hb:X[j].2<;>simp[hb]
theorem uo(X:List (Nat×Bool))(T:Nat):pk X T<=T:=Nat.le_trans List.countP_le_length (by simp;omega)
theorem LV(ws:List Nat)(t:Nat):ws.length<=(cR ws t).length:=by
 cases t with
 | zero=>rw[jQ];exact Nat.le_refl _
 | succ t=>rw[jR];omega
theorem LI.next{ns:List Nat}{most:Nat}{w3:World}{go bt n cn k:Nat}{W W':World}{T:Nat}{p:Nat→Nat}(h:LI ns most w3 go bt n cn k W T p)(hk:k<most)(hns:(aU ns).length≤288)
  (ct:W'.cell? ⟨bt,0,none⟩=some (.int .i64 ((2*pk (cR (aU ns) (most-1-k)) T:Nat):Int))) (ft:W'.frozen? ⟨bt,0,none⟩=false)
  (row:NRow 0 W' (.slice (some ⟨go,0,none⟩) n cn) (d6 ns (λi=>p i+if i<lf (cR (aU ns) (most-1-k)) T then 1 else 0))) (kept:Kept (λj=>j=go\/j=bt) w3 W'):
  LI ns most w3 go bt n cn (k+1) W' (2*pk (cR (aU ns) (most-1-k)) T) (λi=>p i+if i<lf (cR (aU ns) (most-1-k)) T then 1 else 0):=by
 obtain⟨h1,h2⟩:=h.more hk;refine⟨ct,ft,row,kept,?_,?_,?_,?_⟩
 ·have h3:=uo (cR (aU ns) (most-1-k)) T;by_cases e:most-1-k=0
  ·rw[e,Ce];omega
  ·have h4:=BK (aU ns) (most-1-k-1) T;rw[show most-1-k-1+1=most-1-k by omega]at h4;have h5:=(mr (aU ns) (most-1-k-1)).2;omega
 ·intro i;have:=h.hp i;split<;>omega
 ·intro hk2;have e:most-1-k=(most-1-(k+1))+1:=(by omega);rw[e]at h2 ⊢;refine⟨BK _ _ _,λi=>?_⟩;have h3:=h2 i;have e3:ew (aU ns) (most-1-(k+1)+1) T i=(if i<lf (cR (aU ns) (most-1-(k+1)+1)) T then 1 else 0)+ew (aU ns) (most-1-(k+1)) (2*pk (cR (aU ns) (most-1-(k+1)+1)) T) i:=rfl;rw[e3]at h3;omega
 ·intro hk2 i;have e:most-1-k=0:=(by omega);have h3:=h2 i;rw[e]at h3 ⊢;have e3:ew (aU ns) 0 T i=if i<lf (cR (aU ns) 0) T then 1 else 0:=rfl;rw[e3]at h3;exact h3
theorem wu(F:Fence)(fm:Nat)(Vh:F.fn 158)(h5:F.fn 191)(h7:F.fn 224)(lN:F.round=none)(QW:3≤fm)
  (w:World) (ns:List Nat) (most go n cn gl capl:Nat) (vu:Value) (I:Nat->Prop) (Bl Bo:Nat) (vs:List (Option Addr×Nat×Nat)) (hrow:NRow Bo w (.slice (some ⟨go,0,none⟩) n cn) (List.replicate n 0)) (hn:n=ns.length) (hns:ns.length<=288)
  (hu:SrcE am w I vu (aE ns)) (hI:∀k,I k->k≠go) (hl:rV Bl w (.slice (some ⟨gl,0,none⟩) most capl) vs) (K8:Levs Bl w ns vs) (gD:2<=(aE ns).length) (hm1:1<=most) (yz:most<=15) (cQ:(aE ns).length<=2 ^ most):
  CallsIn F fm Tryz.prog 158 #[.slice (some ⟨go,0,none⟩) n cn,vu,.slice (some ⟨gl,0,none⟩) most capl] w λe w'=>(∃v,e=.returned v)/\NRow 0 w' (.slice (some ⟨go,0,none⟩) n cn) (d6 ns (ew (aU ns) (most-1) (2*(aU ns).length-2)))/\Kept (·=go) w w':=by
 have h1:1<=fm:=by omega
 obtain⟨bu,ou,capu,NU,_,_,_⟩:=hu.get 0 (by omega);subst NU;have Jf:vs.length=most:=hl.len;have Nb:go<w.heap.size:=hrow.lt rfl;have UH:gl<w.heap.size:=hl.lt rfl;have Ua:gl≠go:=NRow.apartL hl hrow rfl rfl;have Jm:(aE ns).length<=288:=Nat.le_trans (cJ ns) hns;have O1:(aE ns).length<=capu:=by obtain⟨_,_,e,h,_⟩:=hu;simp only[Value.slice.injEq]at e;omega
 have HU:Hid (SrcE am w (λk=>I k/\k<w.heap.size) (.slice (some ⟨bu,ou,none⟩) (aE ns).length capu) (aE ns)):=hu.low;have HLV:Hid (Levs Bl w ns vs):=K8;have HL:Hid (rV Bl w (.slice (some ⟨gl,0,none⟩) most capl) vs):=hl;have HRW:Hid (NRow Bo w (.slice (some ⟨go,0,none⟩) n cn) (List.replicate n 0)):=hrow;obtain⟨m,hm⟩:∃m,m=(aE ns).length:=⟨_,rfl⟩
 have HM:Hid (m=(aE ns).length):=hm;rw[<-hm]at gD Jm O1 cQ HU ⊢;have HFIT:Hid (m<=2 ^ most):=cQ;have HN:Hid (n=ns.length):=hn;have HI:Hid (∀k,I k->k≠go):=hI;have HVL:Hid (vs.length=most):=Jf;clear hu K8 hl hrow hm cQ hn hI Jf;refine callsIn_of_wp_marks Tryz.func158 rfl Vh ?_ lN;simp only[Tryz.ntmps158,List.size_toArray,List.length_cons,List.length_nil,Nat.reduceAdd,Nat.reduceSub,Array.replicate_succ,Array.replicate_zero,List.push_toArray,List.append_toArray,List.nil_append,List.cons_append];gi_wp2_with (gi_at_call 191;refine(tS F (fm-1) h5 lN _ _ _ _).mono ?_;rintro e w' ⟨rfl,rfl⟩);obtain⟨w3,hw3⟩:∃w3,w3=(((w.alloc (.cells #[.slice (some ⟨go,0,none⟩) n cn] 117)).alloc (.cells #[.slice (some ⟨bu,ou,none⟩) m capu] 117)).alloc (.cells #[.int .i64 (2*(m:Int)-2)] 3)).alloc (.cells #[.slice (some ⟨gl,0,none⟩) most capl] 215):=⟨_,rfl⟩
 have Jh:∀(W:World) (o:Obj),(W.alloc o).heap.size=W.heap.size+1:=λW o=>World.size_alloc W o
 have ka:∀(W:World) (o:Obj),Same W (W.alloc o):=λW o=>(Kept.refl _ W).alloc o
 have mG:∀(W:World) (v:Value) (t:TypeId),(W.alloc (.cells #[v] t)).cell? ⟨W.heap.size,0,none⟩=some v:=λW v t=>by simp
 have R1:∀(W:World) (v:Value) (t:TypeId),(W.alloc (.cells #[v] t)).frozen? ⟨W.heap.size,0,none⟩=false:=λW v t=>by simp
 have F3:Same w w3∧w3.heap.size=w.heap.size+1+1+1+1∧w3.cell? ⟨w.heap.size,0,none⟩=some (.slice (some ⟨go,0,none⟩) n cn)∧w3.cell? ⟨w.heap.size+1,0,none⟩=some (.slice (some ⟨bu,ou,none⟩) m capu) ∧
   w3.cell? ⟨w.heap.size+1+1,0,none⟩=some (.int .i64 ((2*m-2:Nat):Int))/\w3.frozen? ⟨w.heap.size+1+1,0,none⟩=false/\w3.cell? ⟨w.heap.size+1+1+1,0,none⟩=some (.slice (some ⟨gl,0,none⟩) most capl):=by
  have e2:(2*(m:Int)-2)=((2*m-2:Nat):Int):=(by omega);rw[e2]at hw3;generalize hA:w.alloc (.cells #[.slice (some ⟨go,0,none⟩) n cn] 117)=wa at hw3;generalize hB:wa.alloc (.cells #[.slice (some ⟨bu,ou,none⟩) m capu] 117)=wb at hw3;generalize hC:wb.alloc (.cells #[.int .i64 ((2*m-2:Nat):Int)] 3)=wc at hw3;have s1:wa.heap.size=w.heap.size+1:=(by rw[<-hA,Jh]);have s2:wb.heap.size=w.heap.size+1+1:=(by rw[<-hB,Jh,s1]);have s3:wc.heap.size=w.heap.size+1+1+1:=(by rw[<-hC,Jh,s2]);have k1:Same w wa:=(by rw[<-hA];exact ka _ _);have k2:Same wa wb:=(by rw[<-hB];exact ka _ _);have k3:Same wb wc:=(by rw[<-hC];exact ka _ _);have k4:Same wc w3:=(by rw[hw3];exact ka _ _);have c1:wa.cell? ⟨w.heap.size,0,none⟩=some (.slice (some ⟨go,0,none⟩) n cn):=(by rw[<-hA];exact mG _ _ _);have c2:wb.cell? ⟨wa.heap.size,0,none⟩=some (.slice (some ⟨bu,ou,none⟩) m capu):=(by rw[<-hB];exact mG _ _ _);have c3:wc.cell? ⟨wb.heap.size,0,none⟩=some (.int .i64 ((2*m-2:Nat):Int)):=(by rw[<-hC];exact mG _ _ _);have f3:wc.frozen? ⟨wb.heap.size,0,none⟩=false:=(by rw[<-hC];exact R1 _ _ _);have c4:w3.cell? ⟨wc.heap.size,0,none⟩=some (.slice (some ⟨gl,0,none⟩) most capl):=(by rw[hw3];exact mG _ _ _);rw[s1]at c2;rw[s2]at c3 f3;rw[s3]at c4;refine⟨Same.trans k1 (Same.trans k2 (Same.trans k3 k4)),by rw[hw3,Jh,s3],(Same.trans k2 (Same.trans k3 k4)).cell c1 (λh=>h),(Same.trans k3 k4).cell c2 (λh=>h),k4.cell c3 (λh=>h),?_,c4⟩;exact(k4.frozen (p:=⟨w.heap.size+1+1,0,none⟩) (by rw[s3];simp) (λh=>h)).trans f3
 rw[<-hw3];clear hw3 Jh ka mG R1;generalize hb3:w.heap.size+1+1+1=b3 at *
 generalize hb2:w.heap.size+1+1=b2 at *
 generalize hb1:w.heap.size+1=b1 at *
 have HF3:Hid (Same w w3/\w3.heap.size=b3+1):=⟨F3.1,F3.2.1⟩
 obtain⟨_,_,Xn,Vq,VY,Ym,Yh⟩:=F3;have nS:w.heap.size<b1/\b1<b2/\b2<b3/\b3<w3.heap.size:=by have:=HF3.out.2;omega
 clear hb3 hb2 hb1;have Ow:(aU ns).length=m:=by rw[bj];exact HM.out.symm
 refine Ab lN h1 (gf:=224) (lb:=#[.pointer (some ⟨b3,0,none⟩)]) rfl h7 (enters_of Tryz.func224 (by kernel_rfl) rfl) most (mY vs) (λ_=>rfl) (Keep2 b3 gl) Keep2.trans
  (λW l o hl=>⟨World.putObj_heap_other (by omega),World.putObj_heap_other (by omega)⟩) (λk W=>∃T p,LI ns most w3 go b2 n cn k W T p) (LI.own ns most w3 go b2 n cn)
  ⟨2*m-2,fun _=>0,VY,Ym,by rw[oC,←HN.out];exact RowE.base (HRW.out.same HF3.out.1) (Nat.zero_le _),Kept.refl _ _,by omega,fun _=>by omega,fun _=>⟨by
    have h:=Bf (aU ns) (most-1) (by rw[Ow,show most-1+1=most by omega];exact HFIT.out);rw[Ow]at h;exact h,λi=>by rw[Ow];simp⟩,λh=>by omega⟩
  (λk=>{tmps:=#[.slice (some ⟨go,0,none⟩) n cn,.slice (some ⟨bu,ou,none⟩) m capu,.slice (some ⟨gl,0,none⟩) most capl,.pointer (some ⟨w.heap.size,0,none⟩),.pointer (some ⟨b1,0,none⟩),undef,.pointer (some ⟨b2,0,none⟩),undef,
   .slice (vs.getD (vs.length-1-k) (none,0,0)).1 (vs.getD (vs.length-1-k) (none,0,0)).2.1 (vs.getD (vs.length-1-k) (none,0,0)).2.2,undef,undef,undef,undef,undef,.slice (some ⟨bu,ou,none⟩) m capu,.int .i64 (m:Nat),.int .i64 (2*(m:Int)),.int .i64 (2*(m:Int)-2),
   .slice (some ⟨gl,0,none⟩) most capl,.func (.func 224) #[] #[.pointer (some ⟨b3,0,none⟩)],.int .i64 ((vs.length-1-k:Nat):Int),
   .slice (vs.getD (vs.length-1-k) (none,0,0)).1 (vs.getD (vs.length-1-k) (none,0,0)).2.1 (vs.getD (vs.length-1-k) (none,0,0)).2.2,undef,undef,undef,undef,undef,undef,undef,undef,undef,undef,undef,undef,undef,undef,undef,undef,undef,undef,undef,undef,undef,undef,undef,undef,undef,undef,undef,undef,undef,undef,undef,undef],defers:=[]}) ?seq ?assign ?body ?done
 case seq=>
  intro l J W hW hY hJ;have fJ:W.cell? ⟨b3,0,none⟩=some (.slice (some ⟨gl,0,none⟩) vs.length capl):=(by rw[HVL.out];exact(hW.cell (p:=⟨b3,0,none⟩) nS.2.2.2).trans Yh);have:=CU F (fm-1) h7 lN (by omega) l b3 gl capl vs (by have:=HVL.out;omega) J (λk W1 hk hj=>hY k W1 (by rw[<-HVL.out];exact hk) hj) W fJ
   (λj hj=>(hW.cell (p:=⟨gl,j,none⟩) (by show gl<_;omega)).trans (HF3.out.1.cell (HL.out.cell j hj) (λh=>h))) hJ
  rw[HVL.out]at this;exact this
 case assign=>
  intro l k W K hk hK;unfold mY I9;gi_wp2;exact hK
 case body=>
  rintro l k W hk ⟨T,p,hLI⟩;have hlt:most-1-k<vs.length:=(by have:=HVL.out;omega);obtain⟨la,ln,lc,hv⟩:∃la ln lc,vs[most-1-k]=(la,ln,lc):=⟨_,_,_,rfl⟩
  have MJ:vs.getD (vs.length-1-k) (none,0,0)=(la,ln,lc):=(by rw[HVL.out];simp[List.getD,hlt,hv]);have htr0:TRow Bl w (.slice la ln lc) (cR (aU ns) (most-1-k)):=(by have h:=HLV.out _ hlt;rw[hv]at h;exact h);have htr:TRow Bl W (.slice la ln lc) (cR (aU ns) (most-1-k)):=TRow.kept (TRow.kept htr0 HF3.out.1 (λ_ _ h=>h)) hLI.kept (λj hj e=>by
   rcases e with rfl | rfl
   ·exact NRow.apartT htr0 HRW.out hj rfl rfl
   ·have:=htr0.lt hj;omega)
  rw[MJ];dsimp only;have NI:0<(cR (aU ns) (most-1-k)).length:=(by have:=LV (aU ns) (most-1-k);omega);obtain⟨QR,_⟩:=hLI.more hk;have HLI:Hid (LI ns most w3 go b2 n cn k W T p):=hLI;generalize hX:cR (aU ns) (most-1-k)=X at htr NI QR;have HX:Hid (cR (aU ns) (most-1-k)=X):=hX;obtain⟨ax,capx,Ud,Uc,uS⟩:=htr.shape;obtain⟨gx,Xc,ZE,b7⟩:=uS (by intro e;rw[e]at NI;simp at NI);simp only[Value.slice.injEq]at Ud;obtain⟨rfl,rfl,rfl⟩:=Ud;subst Xc;have HC:Hid (∀j (_:j<X.length),W.cell? ⟨gx,j*2,none⟩=some (.int .i64 (X[j].1:Int))/\W.cell? ⟨gx,j*2+1,none⟩=some (.bool X[j].2)):=b7;have ct:=hLI.ct;have Zx:=hLI.hT;have Zb:T<=lc:=(by omega);clear uS b7 htr htr0 hX hv MJ hLI hlt;gi_wp2;gi_loopw [9,26] (λz9 z26 wx=>∃j:Nat,j<=T/\z9=.int .i64 (pk X j:Nat)/\z26=.int .i64 (j:Nat)/\Hid (Same W wx)) (λ_ z26 _=>T-(intOf z26).toNat)
  case atStart=>exact⟨0,by omega,by simp[pk],rfl,Kept.refl _ _⟩
  case round=>
   obtain⟨j,hj,rfl,rfl,HS⟩:=hrel;by_cases hjT:j<T
   ·have TN:j<X.length:=(by omega);obtain⟨c1,c2⟩:=HC.out j TN;have d1:=HS.out.cell c1 (λh=>h);have d2:=HS.out.cell c2 (λh=>h);have EQ:=JT X j TN;have uU:=uo X j;obtain⟨xw,LR⟩:∃x,x=X[j].1:=⟨_,rfl⟩
    rw[<-LR]at d1;clear c1 c2 LR;cases hb:X[j].2 with
    | true=>
     rw[hb]at d2 EQ;have HPK:Hid (pk X (j+1)=pk X j+1):=hid (by simpa using EQ);clear EQ hb;generalize pk X j=pj at *
     gi_wp2
     go_roundw
     case rel=>exact⟨j+1,by omega,by rw[HPK.out];go_num,by go_num,hid (by first | exact(HS.out.alloc _) | exact((HS.out.alloc _).setCell _ _ (.inr HS.out.size)).setCell _ _ (.inr HS.out.size))⟩
     case measure=>simp[intOf];omega
    | false=>
     rw[hb]at d2 EQ;have HPK:Hid (pk X (j+1)=pk X j):=hid (by simpa using EQ);clear EQ hb;generalize pk X j=pj at *
     gi_wp2
     go_roundw
     case rel=>exact⟨j+1,by omega,by rw[HPK.out],by go_num,hid (by first | exact(HS.out.alloc _) | exact((HS.out.alloc _).setCell _ _ (.inr HS.out.size)).setCell _ _ (.inr HS.out.size))⟩
     case measure=>simp[intOf];omega
   ·have R6:j=T:=(by omega);subst R6;have uU:=uo X j;have Xv:=Hx X j QR;obtain⟨aa,QN⟩:∃aa,aa=lf X j:=⟨_,rfl⟩
    obtain⟨pp,Q8⟩:∃pp,pp=pk X j:=⟨_,rfl⟩
    rw[<-QN,<-Q8]at Xv;rw[<-Q8]at uU ⊢;have Zt:aa<=m:=by have h1:=kU (aU ns) (most-1-k) j;rw[HX.out,<-QN,Ow]at h1;exact h1
    have HAA:Hid (aa=lf X j):=QN;have HPP:Hid (pp=pk X j):=Q8;have jN:((j:Int)-(pp:Int))=(aa:Int):=(by omega);have hk0:=HLI.out.kept;have TO:wr.cell? ⟨b2,0,none⟩=some (.int .i64 (j:Nat)):=HS.out.cell ct (λh=>h);have WB:wr.frozen? ⟨b2,0,none⟩=false:=(HS.out.frozen (p:=⟨b2,0,none⟩) (World.block_lt_of_cell? W _ ct) (λh=>h)).trans HLI.out.ft;have du:wr.cell? ⟨b1,0,none⟩=some (.slice (some ⟨bu,ou,none⟩) m capu):=HS.out.cell (hk0.cell Vq (by show ¬(b1=go\/b1=b2);omega)) (λh=>h);have dv:wr.cell? ⟨w.heap.size,0,none⟩=some (.slice (some ⟨go,0,none⟩) n cn):=HS.out.cell (hk0.cell Xn (by show ¬(w.heap.size=go\/w.heap.size=b2);omega)) (λh=>h);have HU2:Hid (SrcE am wr (λk=>I k/\k<w.heap.size) (.slice (some ⟨bu,ou,none⟩) m capu) (aE ns)):=hid (by
     refine SrcE.same (SrcE.kept (SrcE.same HU.out HF3.out.1) hk0 (λx hx _ e=>?_)) HS.out;rcases e with e | e
     ·exact HI.out x hx.1 e
     ·omega)
    have HR0:Hid (NRow 0 wr (.slice (some ⟨go,0,none⟩) n cn) (d6 ns p)):=hid (HLI.out.row.same HS.out);have so:aa<=capu:=(by omega);clear QN Q8 hk0 ct;gi_wp2;gi_loopw [41] (λz wy=>∃q:Nat,q<=aa/\z=.int .i64 (q:Nat)/\Hid (NRow 0 wy (.slice (some ⟨go,0,none⟩) n cn) (d6 ns (λi=>p i+if i<q then 1 else 0)))/\Hid (Kept (·=go) wr wy)) (λz _=>aa-(intOf z).toNat)
    case atStart=>exact⟨0,by omega,rfl,hid (by simpa using HR0.out),Kept.refl _ _⟩
    case round=>
     obtain⟨q,hq,rfl,HR,HK⟩:=hrel;have ZK:=HK.out.cell dv (by show ¬w.heap.size=go;omega);by_cases NL:q<aa
     ·have PF:q<(aE ns).length:=(by have:=HM.out;omega);obtain⟨bq,oq,cq,eq,_,_,cs⟩:=(SrcE.kept HU2.out HK.out (λx hx _ e=>HI.out x hx.1 e)).get q PF;simp only[Value.slice.injEq,Option.some.injEq,Addr.mk.injEq,and_true]at eq;obtain⟨⟨rfl,rfl⟩,jO,rfl⟩:=eq;clear jO;obtain⟨sy,iw⟩:∃sy,sy=(aE ns)[q]:=⟨_,rfl⟩
      rw[<-iw]at cs;unfold am at cs;have hsr:=aX.1 (by rw[iw];exact List.getElem_mem _:sy∈aE ns);have Je:sy<n:=(by have:=HN.out;omega);have hso:sy<(d6 ns (λi=>p i+if i<q then 1 else 0)).length:=(by rw[oS];exact hsr.1);obtain⟨y,hy⟩:∃y,y=p q:=⟨_,rfl⟩
      have YA:y<=k:=(by rw[hy];exact HLI.out.hp q);have cy:wr.cell? ⟨go,sy,none⟩=some (.int .i64 (y:Nat)):=(by rw[HR.out.cell sy hso];unfold am;congr 3;subst iw;rw[Hj ns _ q PF hso,hy];simp);have fy:=HR.out.frozen sy;have HR2:Hid (NRow 0 (wr.setCell ⟨go,sy,none⟩ (.int .i64 ((y:Int)+1))) (.slice (some ⟨go,0,none⟩) n cn) (d6 ns (λi=>p i+if i<q+1 then 1 else 0))):=hid (by
       have h:=HR.out.lay sy (y+1);subst iw;rw[xE ns _ q (y+1) PF]at h;rw[jH ns (λi=>p i+if i<q+1 then 1 else 0) (λi=>if i=q then y+1 else p i+if i<q then 1 else 0) (λi _=>by
        by_cases e:i=q
        ·subst e;simp[hy]
        ·by_cases e2:i<q
         ·simp[e,e2,show i<q+1 by omega]
         ·simp[e,e2,show ¬i<q+1 by omega])]
       exact h)
      clear iw hsr hso hy;gi_wp2;go_roundw
      case rel=>exact⟨q+1,by omega,by go_num,HR2,HK.out.setCell _ _ (.inl rfl)⟩
      case measure=>simp[intOf];omega
     ·have RG:q=aa:=(by omega);subst RG;have Yi:=HK.out.cell TO (by show ¬b2=go;omega);have WI:wr.frozen? ⟨b2,0,none⟩=false:=(HK.out.frozen (p:=⟨b2,0,none⟩) (World.block_lt_of_cell? _ _ TO) (by show ¬b2=go;omega)).trans WB;have HKW:Hid (Kept (·=go) W wr):=hid (Kept.trans HS.out HK.out (λ_ _ h=>h.elim) (λ_ _ h=>h));have HK3:Hid (Kept (λj=>j=go\/j=b2) w3 wr):=hid (HLI.out.kept.trans HKW.out (λ_ _ h=>h) (λ_ _ h=>.inl h));have V1:go<w3.heap.size:=(by omega);gi_wp2;have Vg:((2:Int)*(pp:Int))=((2*pp:Nat):Int):=(by omega);rw[Vg];refine⟨rfl,?_,?_,2*pp,λi=>p i+if i<q then 1 else 0,?_⟩
      ·have hkk:Kept (λj=>j=go\/j=b2) W (wr.setCell ⟨b2,0,none⟩ (.int .i64 ((2*pp:Nat):Int))):=(HKW.out.mono (λ_ _ h=>.inl h)).setCell _ _ (.inl (.inr rfl));refine⟨hkk.size,λx o hB hx _=>?_⟩;exact(hkk.block x (Array.getElem?_eq_some_iff.1 hx).1 (by omega)).trans hx
      ·have hkk:Kept (λj=>j=go\/j=b2) W (wr.setCell ⟨b2,0,none⟩ (.int .i64 ((2*pp:Nat):Int))):=(HKW.out.mono (λ_ _ h=>.inl h)).setCell _ _ (.inl (.inr rfl));have LF:=HLI.out.kept.size;exact⟨hkk.block b3 (by omega) (by omega),hkk.block gl (by omega) (by omega)⟩
      ·have hX:=HX.out;have h1:=HLI.out.next (W':=wr.setCell ⟨b2,0,none⟩ (.int .i64 ((2*pp:Nat):Int))) hk (by omega) (by rw[hX,<-HPP.out];exact World.cell?_setCell_same' _ _ _ (by rw[Yi];rfl)) (by rw[World.frozen?_setCell];exact WI)
        (by rw[hX,<-HAA.out];exact HR.out.kept ((Kept.refl (·=b2) wr).setCell ⟨b2,0,none⟩ _ (.inl rfl)) (λx hx e=>by simp[Value.ownBlock]at hx;omega)) (HK3.out.setCell _ _ (.inl (.inr rfl)))
       rw[hX,<-HPP.out,<-HAA.out]at h1;exact h1
 case done=>
  rintro D W hD ⟨T,p,hLI⟩ hK;have HFIN:Hid (NRow 0 W (.slice (some ⟨go,0,none⟩) n cn) (d6 ns (ew (aU ns) (most-1) (2*(aU ns).length-2)))/\Kept (λj=>j=go\/j=b2) w3 W):=hid ⟨by
   have h:=hLI.row;rw[jH ns p _ (λi _=>hLI.done rfl i)]at h;exact h,hLI.kept⟩
  clear hLI;gi_wp2;refine⟨by simp,.inl ⟨_,_,rfl,run_takeDeferred hK,?_⟩⟩;refine⟨_,results_none rfl _ _ _,⟨_,rfl⟩,?_,?_⟩
  ·exact World.ownsRow.kept HFIN.out.1 (grownBy_putObj' W D _) (.inr (by simp[Value.ownBlock];omega))
  ·have hk1:Kept (·=go) w W:=Kept.trans HF3.out.1 HFIN.out.2 (λ_ _ h=>h.elim) (λx hx h=>by rcases h with h | h;exact h;omega);exact hk1.grown (grownBy_putObj' W D _) (λx e=>.inr (by cases e;omega))
theorem t6(w:World)(ns:List Nat)(most go n cn gl capl:Nat)(vu:Value)(I:Nat→Prop)(Bl Bo:Nat)(vs:List (Option Addr×Nat×Nat))(hrow:NRow Bo w (.slice (some ⟨go,0,none⟩) n cn) (List.replicate n 0))(hn:n=ns.length)(hns:ns.length≤288)
  (hu:SrcE am w I vu (aE ns)) (hI:∀k,I k->k≠go) (hl:rV Bl w (.slice (some ⟨gl,0,none⟩) most capl) vs) (K8:Levs Bl w ns vs) (gD:2<=(aE ns).length) (hm1:1<=most) (yz:most<=15) (cQ:(aE ns).length<=2 ^ most):
  Calls Tryz.prog 158 #[.slice (some ⟨go,0,none⟩) n cn,vu,.slice (some ⟨gl,0,none⟩) most capl] w λe w'=>(∃v,e=.returned v)/\NRow 0 w' (.slice (some ⟨go,0,none⟩) n cn) (d6 ns (ew (aU ns) (most-1) (2*(aU ns).length-2)))/\Kept (·=go) w w':=by
 refine(callsIn_wide (n:=3)).1 ?_;exact wu Fence.wide 3 trivial trivial trivial rfl (by omega) w ns most go n cn gl capl vu I Bl Bo vs hrow hn hns hu hI hl K8 gD hm1 yz cQ
end Go.Proofs.YtljlmfnbeofmmaaGreatDoor
namespace Go.Proofs.YtljlmfnbeofmmaaGreatDoor
open Go.RowKit
def dX(ns:List Nat)(most:Nat):List Nat:=
 if (aE ns).length<=1 then d6 ns (λ_=>1)else d6 ns (ew (aU ns) (most-1) (2*(aU ns).length-2))
theorem iK(ns:List Nat)(most:Nat):(dX ns most).length=ns.length:=by unfold dX;split<;>exact oS _ _
theorem Gi(k:Nat)(h:k<=15):wrap64 ((2:Int) ^ k)=((2 ^ k:Nat):Int):=by
 have h1:(2:Int) ^ k=((2 ^ k:Nat):Int):=by simp
 have h2:2 ^ k<=2 ^ 15:=Nat.pow_le_pow_right (by omega) h;have h3:(2:Nat) ^ 15=32768:=by decide
 rw[h1];generalize 2 ^ k=q at *
 unfold wrap64;omega
theorem qn(w:World)(v:Value)(I:Nat→Prop)(zs:List Int)(ns:List Nat)(most:Nat)(hs:SrcE bM w I v zs)(hok:eD zs 0 1000000000000=true)(hns:ns=zs.map Int.toNat)(h1:1≤most)(h15:most≤15)(cQ:(aE ns).length≤2 ^ most):
  Calls Tryz.prog 126 #[v,.int .i64 (most:Nat)] w λe w'=>(∃g n cap,e=.returned (.tuple #[.slice (some ⟨g,0,none⟩) n cap,.int .i64 0])/\NRow 0 w' (.slice (some ⟨g,0,none⟩) n cap) (dX ns most)/\w.heap.size<=g)/\Same w w':=by
 obtain⟨eN,h0,KH,lw⟩:=oD hok;have HC:=Cf w v I zs 0 1000000000000 hs (by omega);rw[hok]at HC;rw[<-hns]at eN lw;obtain⟨av,capv,A3,ip,f8⟩:=id hs;clear ip f8;subst A3;have HS:Hid (SrcE am w (λk=>I k/\k<w.heap.size) (.slice av zs.length capv) ns):=hid (hs.recode eN).low;have rM:zs.length=ns.length:=by rw[hns];simp
 have uK:(aE ns).length<=288:=by have:=cJ ns;omega
 have HLE:Hid (∀n∈ns,n<=1000000000000):=hid (λn hn=>by have:=lw n hn;omega);have g1:decide ((most:Int)<1)=false:=by simp;omega
 have g2:decide ((15:Int)<(most:Int))=false:=by simp;omega
 clear hs hok eN lw hns;generalize zs.length=n at *
 have HN:Hid (n=ns.length):=rM;clear rM;go_enter Tryz.func126,Tryz.ntmps126;go_wp2_with fail;refine HC.mono ?_;rintro e w2 ⟨rfl,hk⟩;have HK:Hid (Same w w2):=hk;clear hk HC;have HRI:=mB w2 _ _ ns (HS.out.same HK.out) (by have:=HN.out;omega);go_wp2_with fail;refine HRI.mono ?_;rintro e w3 ⟨v3,rfl,hn3⟩;obtain⟨a3,c3,sf,_⟩:=hn3.row.shape;subst sf;have HK3:Hid (Same w w3):=hid (Same.trans HK.out hn3.same);have HN3:Hid (NRow w2.heap.size w3 (.slice a3 (aE ns).length c3) (aE ns)):=hid hn3.row;have hs2:=HK.out.size;have hs3:=HK3.out.size;clear hn3 HRI;obtain⟨rl,Mz⟩:∃rl,rl=(aE ns).length:=⟨_,rfl⟩
 have HRL:Hid (rl=(aE ns).length):=Mz;rw[<-Mz]at HN3 uK cQ ⊢;clear Mz;obtain⟨pw,mI⟩:∃pw,pw=2 ^ most:=⟨_,rfl⟩
 have W9:=Gi most h15;rw[<-mI]at W9;have HPW:Hid (pw=2 ^ most):=mI;rw[<-mI]at cQ;clear mI;have Jj:decide (pw<rl)=false:=by simp;omega
 by_cases pL:rl=0
 ·have HF:Hid (dX ns most=List.replicate n 0):=hid (by
   unfold dX;rw[<-HRL.out,if_pos (by omega),HN.out,<-oC];exact jH ns _ _ (λi hi=>by rw[<-HRL.out]at hi;omega))
  go_wp2_with (at_make;refine dE _ am 0 w3.heap.size 117 3 8 Tryz.underlying117 Tryz.infoN rfl (by decide) rfl _ _ rfl _ _ _ _ n rfl rfl rfl rfl (by omega) (Nat.le_refl _) ?_;intro w4 hr4 pN oK;have HR4:Hid (NRow w3.heap.size w4 (.slice (some ⟨w3.heap.size,0,none⟩) n n) (List.replicate n 0)):=hr4;have HK4:Hid (Same w3 w4):=hid ((Kept.refl _ w3).grown pN (by simp));clear hr4 pN)
  go_ret2;exact⟨⟨_,_,_,rfl,by rw[HF.out];exact RowE.base HR4.out (Nat.zero_le _),by omega⟩,Same.trans HK3.out HK4.out⟩
 ·have Ia:((rl:Int)==0)=false:=(by simp;omega);by_cases hr1:rl=1
  ·have Cq:((rl:Int)==1)=true:=(by simp;omega);have yR:0<(aE ns).length:=(by have:=HRL.out;omega);obtain⟨s,hs⟩:∃s,s=(aE ns)[0]:=⟨_,rfl⟩
   have hsr:=aX.1 (by rw[hs];exact List.getElem_mem _:s∈aE ns);have Je:s<n:=(by have:=HN.out;omega);obtain⟨b,o,cap',e5,_,_,c5⟩:=(SrcE.ofRow HN3.out).get 0 yR;simp only[Value.slice.injEq]at e5;obtain⟨rfl,jO,rfl⟩:=e5;clear jO;rw[<-hs]at c5;unfold am at c5;rw[Nat.add_zero]at c5;have HR5:Hid (∀w4,NRow w3.heap.size w4 (.slice (some ⟨w3.heap.size,0,none⟩) n n) (List.replicate n 0)->NRow w3.heap.size (w4.setCell ⟨w3.heap.size,s,none⟩ (.int .i64 1)) (.slice (some ⟨w3.heap.size,0,none⟩) n n) (dX ns most)):=hid (by
    intro w4 hr4;have h:=hr4.lay s 1;rw[HN.out,<-oC,hs,xE ns _ 0 1 yR,<-hs,<-HN.out]at h;unfold dX;rw[<-HRL.out,if_pos (by omega),jH ns (λ_=>1) (λi=>if i=0 then 1 else 0) (λi hi=>by rw[<-HRL.out]at hi;rw[if_pos (show i=0 by omega)])];exact h)
   clear hs hsr Ia pL;have lz:0<rl:=(by omega);clear hr1;go_wp2_with (at_make;refine dE _ am 0 w3.heap.size 117 3 8 Tryz.underlying117 Tryz.infoN rfl (by decide) rfl _ _ rfl _ _ _ _ n rfl rfl rfl rfl (by omega) (Nat.le_refl _) ?_;intro w4 hr4 pN oK;have HR4:Hid (NRow w3.heap.size w4 (.slice (some ⟨w3.heap.size,0,none⟩) n n) (List.replicate n 0)):=hr4;have HK4:Hid (Same w3 w4):=hid ((Kept.refl _ w3).grown pN (by simp));have c6:=HK4.out.cell c5 (λh=>h);have cy:w4.cell? ⟨w3.heap.size,s,none⟩=some (.int .i64 0):=(hr4.cell s (by simpa using Je)).trans (by simp[am]);have fy:=hr4.frozen s;clear hr4 pN);go_ret2;exact⟨⟨_,_,_,rfl,RowE.base (HR5.out w4 HR4.out) (Nat.zero_le _),by omega⟩,Same.then (Same.trans HK3.out HK4.out) ((Kept.refl (·=w3.heap.size) w4).setCell ⟨w3.heap.size,s,none⟩ _ (.inl rfl)) (λx hx e=>by omega)⟩
  ·have Cq:((rl:Int)==1)=false:=(by simp;omega);have gD:2<=(aE ns).length:=(by have:=HRL.out;omega);have IK:ns.length<=288:=(by have:=HN.out;omega);go_wp2_with (at_make;refine dE _ am 0 w3.heap.size 117 3 8 Tryz.underlying117 Tryz.infoN rfl (by decide) rfl _ _ rfl _ _ _ _ n rfl rfl rfl rfl (by omega) (Nat.le_refl _) ?_;intro w4 hr4 pN oK;have HR4:Hid (NRow w3.heap.size w4 (.slice (some ⟨w3.heap.size,0,none⟩) n n) (List.replicate n 0)):=hr4;have HK4:Hid (Same w3 w4):=hid ((Kept.refl _ w3).grown pN (by simp));clear hr4 pN);have HLV:=y4 w4 (.slice a3 rl c3) (.slice av n capv) (λk=>(I k/\k<w.heap.size)\/(Value.slice a3 rl c3).ownBlock=some k) ns most (SrcE.mono (SrcE.ofRow (HN3.out.same HK4.out)) (λk h=>.inr h)) (SrcE.mono (HS.out.same (Same.trans HK3.out HK4.out)) (λk h=>.inl h))
    (by intro e;rw[e]at gD;simp at gD) IK HLE.out h1 h15
   refine HLV.mono ?_;rintro e w5 ⟨⟨gl,capl,vs,rfl,IE,LE,fJ⟩,hk5⟩;have HLN:=t6 w5 ns most w3.heap.size n n gl capl (.slice a3 rl c3) (fun k=>(Value.slice a3 rl c3).ownBlock=some k) w4.heap.size w3.heap.size vs (HR4.out.same hk5) HN.out IK (SrcE.ofRow ((HN3.out.same HK4.out).same hk5)) (fun k hk e=>by
     have h1:=HN3.out.lt hk;omega) IE LE gD h1 h15 (by rw[<-HRL.out,<-HPW.out];exact cQ)
   have HK5:Hid (Same w4 w5):=hk5;clear IE LE hk5 HLV;go_wp2_with fail;refine HLN.mono ?_;rintro e w6 ⟨⟨v6,rfl⟩,hr6,hk6⟩;have HR6:Hid (NRow 0 w6 (.slice (some ⟨w3.heap.size,0,none⟩) n n) (dX ns most)):=hid (by
    unfold dX;rw[if_neg (by omega)];exact hr6)
   have HK6:Hid (Same w w6):=hid (Same.then (Same.trans HK3.out (Same.trans HK4.out HK5.out)) hk6 (λx hx e=>by omega));clear hr6 hk6 HLN;go_wp2_with fail;go_ret2;exact⟨⟨_,_,_,rfl,HR6.out,by omega⟩,HK6.out⟩
end Go.Proofs.YtljlmfnbeofmmaaGreatDoor
