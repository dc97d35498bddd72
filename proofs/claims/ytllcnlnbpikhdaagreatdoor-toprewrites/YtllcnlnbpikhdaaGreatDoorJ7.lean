import Derived.RegionTactic
import Derived.ChangeAlike
import Derived.Deep.RegionWith
import Derived.Test.YtllcnlnbpikhdaaGreatDoorJ3
set_option maxHeartbeats 4000000
set_option maxRecDepth 100000
namespace Go.Proofs.YtllcnlnbpikhdaaGreatDoor
open Go.RowKit
theorem kq{B t g n cap:Nat}{α:Type}{enc:α→Value}{w:World}{P M S:List α}{x y:α}(h:RowE B t enc w (.slice (some ⟨g,0,none⟩) n cap) (P++x::M++y::S)){i j:Nat}(hi:i=P.length)(hj:j=P.length+1+M.length):
  w.cell? ⟨g,i,none⟩=some (enc x)/\w.cell? ⟨g,j,none⟩=some (enc y)/\w.frozen? ⟨g,i,none⟩=false/\w.frozen? ⟨g,j,none⟩=false/\i<n/\j<n/\i≠j:=by
 have hl:=h.len;simp at hl;subst hi hj;refine⟨?_,?_,h.frozen _,h.frozen _,by omega,by omega,by omega⟩
 ·rw[h.cell P.length (by simp)];simp
 ·rw[h.cell (P.length+1+M.length) (by simp;omega)];congr 2;rw[List.getElem_append_right (by simp;omega)];simp[show P.length+1+M.length-(P.length+(M.length+1))=0 by omega]
theorem AL{B t g n cap:Nat}{α:Type}{enc:α→Value}{w:World}{P M S:List α}{x y:α}(h:RowE B t enc w (.slice (some ⟨g,0,none⟩) n cap) (P++x::M++y::S)){i j:Nat}(hi:i=P.length)(hj:j=P.length+1+M.length):
  RowE B t enc ((w.setCell ⟨g,i,none⟩ (enc y)).setCell ⟨g,j,none⟩ (enc x)) (.slice (some ⟨g,0,none⟩) n cap) (P++y::M++x::S):=by
 have h2:=(h.lay i y).lay j x;subst hi hj;have e:((P++x::M++y::S).set P.length y).set (P.length+1+M.length) x=P++y::M++x::S:=by
  rw[List.append_assoc,List.set_append_right _ _ (by omega),Nat.sub_self,List.cons_append,List.set_cons_zero,List.set_append_right _ _ (by omega),
   show P.length+1+M.length-P.length=M.length+1 by omega,List.set_cons_succ,List.set_append_right _ _ (by omega)]
  simp
 rw[e]at h2;exact h2
theorem vM{B t g n cap:Nat}{α:Type}{enc:α→Value}{w:World}{P M S:List α}{x y:α}(h:RowE B t enc w (.slice (some ⟨g,0,none⟩) n cap) (P++x::M++y::S)){i j:Nat}(hi:i=P.length)(hj:j=P.length+1+M.length):
  RowE B t enc ((w.setCell ⟨g,j,none⟩ (enc x)).setCell ⟨g,i,none⟩ (enc y)) (.slice (some ⟨g,0,none⟩) n cap) (P++y::M++x::S):=by
 have h2:=(h.lay j x).lay i y;subst hi hj;have e:((P++x::M++y::S).set (P.length+1+M.length) x).set P.length y=P++y::M++x::S:=by
  rw[List.set_comm _ _ (by omega),List.append_assoc,List.set_append_right _ _ (by omega),Nat.sub_self,List.cons_append,List.set_cons_zero,List.set_append_right _ _ (by omega),
   show P.length+1+M.length-P.length=M.length+1 by omega,List.set_cons_succ,List.set_append_right _ _ (by omega)]
  simp
 rw[e]at h2;exact h2
theorem pZ(w:World)(B g n cap a b k:Nat)(cv:Value)(P X M Y S:List Nat)(Te:X.length=Y.length)(hrow:NRow B w (.slice (some ⟨g,0,none⟩) n cap) (P++X++M++Y++S))(ha:a=P.length)(hb:b=P.length+X.length+M.length)(hk:k=X.length)(hn:n≤1000000):
  Calls Tryz.prog 207 #[.slice (some ⟨g,0,none⟩) n cap,.int .i64 (a:Nat),.int .i64 (b:Nat),.int .i64 (k:Nat),cv] w λe w'=>(∃v,e=.returned v)/\NRow B w' (.slice (some ⟨g,0,none⟩) n cap) (P++Y++M++X++S)/\Kept (·=g) w w':=by
 have ag:=hrow.len;simp at ag;have HR:Hid (NRow B w (.slice (some ⟨g,0,none⟩) n cap) (P++X++M++Y++S)):=hrow;have HL:Hid (X.length=Y.length):=Te;have HA:Hid (a=P.length):=ha;have HB:Hid (b=P.length+X.length+M.length):=hb;have HK:Hid (k=X.length):=hk;have Eu:a+k<=n/\b+k<=n:=by omega
 clear hrow Te ha hb hk ag;go_enter Tryz.func207,Tryz.ntmps207;go_wp2_with fail;go_loopg [10] k (λq z wr=>∃i:Nat,i<=k/\k-i<=q/\z=.int .i64 (i:Nat)/\NRow B wr (.slice (some ⟨g,0,none⟩) n cap) (P++Y.take i++X.drop i++M++X.take i++Y.drop i++S)/\Kept (·=g) w wr)
 case atStart=>exact⟨0,by omega,by omega,rfl,by simpa using HR.out,Kept.refl _ w⟩
 case round=>
  obtain⟨i,hi,G4,rfl,hr,hkp⟩:=hrel;have HR2:Hid (NRow B wr (.slice (some ⟨g,0,none⟩) n cap) (P++Y.take i++X.drop i++M++X.take i++Y.drop i++S)):=hr;have HK2:Hid (Kept (·=g) w wr):=hkp;clear hr hkp HR;by_cases hlt:i<k
  ·have hx:i<X.length:=(by have:=HK.out;omega);have hy:i<Y.length:=(by have:=HL.out;omega);obtain⟨x,fO⟩:∃x,x=X[i]:=⟨_,rfl⟩
   obtain⟨y,ID⟩:∃y,y=Y[i]:=⟨_,rfl⟩
   have hr3:=HR2.out;rw[List.drop_eq_getElem_cons hx,List.drop_eq_getElem_cons hy,<-fO,<-ID]at hr3;have hr4:NRow B wr (.slice (some ⟨g,0,none⟩) n cap) ((P++Y.take i)++x::(X.drop (i+1)++M++X.take i)++y::(Y.drop (i+1)++S)):=(by simpa using hr3);have e1:a+i=(P++Y.take i).length:=(by have:=HA.out;simp;omega);have e2:b+i=(P++Y.take i).length+1+(X.drop (i+1)++M++X.take i).length:=(by have:=HB.out;simp;omega);obtain⟨c1,c2,f1,f2,l1,l2,bh⟩:=kq hr4 e1 e2;have HR4:Hid (NRow B ((wr.setCell ⟨g,a+i,none⟩ (am y)).setCell ⟨g,b+i,none⟩ (am x)) (.slice (some ⟨g,0,none⟩) n cap) (P++Y.take (i+1)++X.drop (i+1)++M++X.take (i+1)++Y.drop (i+1)++S)):=(by have h:=AL hr4 e1 e2;have h5:NRow B ((wr.setCell ⟨g,a+i,none⟩ (am y)).setCell ⟨g,b+i,none⟩ (am x)) (.slice (some ⟨g,0,none⟩) n cap) (P++Y.take (i+1)++X.drop (i+1)++M++X.take (i+1)++Y.drop (i+1)++S):=(by rw[List.take_succ_eq_append_getElem hx,List.take_succ_eq_append_getElem hy,<-fO,<-ID];simpa using h);exact h5);clear hr3 hr4 e1 e2 fO ID HR2 hx hy;unfold am at c1 c2;go_wp2_with fail;go_region
   all_goals
    go_wp2_with fail;go_roundg (gk-1)
    case measure=>omega
    case rel=>exact⟨i+1,by omega,by omega,by go_num,HR4.out,((HK2.out.setCell ⟨g,a+i,none⟩ _ (.inl rfl)).setCell ⟨g,b+i,none⟩ _ (.inl rfl)).drew⟩
  ·have e:i=k:=(by omega);subst e;go_wp2_with fail;go_end0;refine⟨⟨_,rfl⟩,?_,HK2.out⟩;have h:=HR2.out;have hk1:=HK.out;have hk2:=HL.out;have t1:X.take i=X:=List.take_of_length_le (by omega);have t2:Y.take i=Y:=List.take_of_length_le (by omega);have t3:X.drop i=[]:=List.drop_eq_nil_of_le (by omega);have t4:Y.drop i=[]:=List.drop_eq_nil_of_le (by omega);rw[t1,t2,t3,t4]at h;simpa using h
theorem pQ(w:World)(B g n cap a m b:Nat)(cv:Value)(P X Y S:List Nat)(hX:0<X.length)(hY:0<Y.length)(hrow:NRow B w (.slice (some ⟨g,0,none⟩) n cap) (P++X++Y++S))(ha:a=P.length)(hm:m=P.length+X.length)(hb:b=P.length+X.length+Y.length)(hn:n≤1000000):
  Calls Tryz.prog 203 #[.slice (some ⟨g,0,none⟩) n cap,.int .i64 (a:Nat),.int .i64 (m:Nat),.int .i64 (b:Nat),cv] w λe w'=>(∃v,e=.returned v)/\NRow B w' (.slice (some ⟨g,0,none⟩) n cap) (P++Y++X++S)/\Kept (·=g) w w':=by
 have ag:=hrow.len;simp at ag;have HR:Hid (NRow B w (.slice (some ⟨g,0,none⟩) n cap) (P++X++Y++S)):=hrow;have HA:Hid (a=P.length/\m=P.length+X.length/\b=P.length+X.length+Y.length):=⟨ha,hm,hb⟩
 have Eu:a<m/\m<b/\b<=n:=by omega
 clear hrow ha hm hb ag;go_enter Tryz.func203,Tryz.ntmps203;go_wp2_with fail;go_loopg [10,11] (b-a) (λq zi zj wr=>∃(i j:Nat) (P' L R S':List Nat),i+j<=q/\0<i/\0<j/\i<=m/\m+j<=n/\zi=.int .i64 (i:Nat)/\zj=.int .i64 (j:Nat)/\Hid (L.length=i/\R.length=j/\P'.length=m-i/\P'++R++L++S'=P++Y++X++S)/\Hid (NRow B wr (.slice (some ⟨g,0,none⟩) n cap) (P'++L++R++S'))/\Hid (Kept (·=g) w wr))
 case atStart=>exact⟨m-a,b-m,P,X,Y,S,by omega,by omega,by omega,by omega,by omega,by congr 1;omega,by congr 1;omega,⟨by have:=HA.out;omega,by have:=HA.out;omega,by have:=HA.out;omega,rfl⟩,HR.out,Kept.refl _ w⟩
 case round=>
  obtain⟨i,j,P',L,R,S',hq,TT,M8,Xt,Nt,rfl,rfl,HF,HR2,HK2⟩:=hrel;clear HR HA;by_cases he:i=j
  ·have hd:((i:Int) != (j:Int))=false:=(by simp[he]);have e1:((m:Int)-(i:Int))=((m-i:Nat):Int):=(by omega);have HC:=pZ wr B g n cap (m-i) m i cv P' L [] R S' (by have:=HF.out;omega) (by simpa using HR2.out) HF.out.2.2.1.symm (by have:=HF.out;simp;omega) (by have:=HF.out;omega) hn;have HE:Hid (i=j):=he;clear he;go_wp2_with fail;refine HC.mono ?_;rintro e w2 ⟨⟨v,rfl⟩,hr,hkp⟩;have HR3:Hid (NRow B w2 (.slice (some ⟨g,0,none⟩) n cap) (P'++R++[]++L++S')):=hr;have HK3:Hid (Kept (·=g) wr w2):=hkp;clear hr hkp;go_wp2_with fail;go_end0;refine⟨⟨_,rfl⟩,?_,HK2.out.trans HK3.out (λ_ _ h=>h) (λ_ _ h=>h)⟩;rw[<-HF.out.2.2.2];simpa using HR3.out
  ·have hd:((i:Int) != (j:Int))=true:=(by simp;omega);by_cases MR:j<i
   ·have e1:((m:Int)-(i:Int))=((m-i:Nat):Int):=(by omega);have rk:NRow B wr (.slice (some ⟨g,0,none⟩) n cap) (P'++L.take j++L.drop j++R++S'):=(by simpa using HR2.out);have HC:=pZ wr B g n cap (m-i) m j cv P' (L.take j) (L.drop j) R S' (by have:=HF.out;simp;omega) rk HF.out.2.2.1.symm (by have:=HF.out;simp;omega) (by have:=HF.out;simp;omega) hn;clear rk;go_wp2_with fail;refine HC.mono ?_;rintro e w2 ⟨⟨v,rfl⟩,hr,hkp⟩;have HR3:Hid (NRow B w2 (.slice (some ⟨g,0,none⟩) n cap) (P'++R++L.drop j++L.take j++S')):=hr;have HK3:Hid (Kept (·=g) wr w2):=hkp;clear hr hkp;go_wp2_with fail;go_roundg (gk-j)
    case measure=>omega
    case rel=>
     refine⟨i-j,j,P'++R,L.drop j,L.take j,S',by omega,by omega,by omega,by omega,by omega,by congr 1;omega,rfl,⟨?_,?_,?_,?_⟩,?_,(HK2.out.trans HK3.out (λ_ _ h=>h) (λ_ _ h=>h))⟩
     ·have:=HF.out;simp;omega
     ·have:=HF.out;simp;omega
     ·have:=HF.out;simp;omega
     ·rw[<-HF.out.2.2.2];simp
     ·exact hid (by simpa using HR3.out)
   ·have e1:((m:Int)-(i:Int))=((m-i:Nat):Int):=(by omega);have e2:((m:Int)+(j:Int)-(i:Int))=((m+j-i:Nat):Int):=(by omega);have rk:NRow B wr (.slice (some ⟨g,0,none⟩) n cap) (P'++L++R.take (j-i)++R.drop (j-i)++S'):=(by simpa using HR2.out);have HC:=pZ wr B g n cap (m-i) (m+j-i) i cv P' L (R.take (j-i)) (R.drop (j-i)) S' (by have:=HF.out;simp;omega) rk HF.out.2.2.1.symm (by have:=HF.out;simp;omega) (by have:=HF.out;omega) hn;clear rk;go_wp2_with fail;refine HC.mono ?_;rintro e w2 ⟨⟨v,rfl⟩,hr,hkp⟩;have HR3:Hid (NRow B w2 (.slice (some ⟨g,0,none⟩) n cap) (P'++R.drop (j-i)++R.take (j-i)++L++S')):=hr;have HK3:Hid (Kept (·=g) wr w2):=hkp;clear hr hkp;go_wp2_with fail;go_roundg (gk-i)
    case measure=>omega
    case rel=>
     refine⟨i,j-i,P',R.drop (j-i),R.take (j-i),L++S',by omega,by omega,by omega,by omega,by omega,rfl,by congr 1;omega,⟨?_,?_,?_,?_⟩,?_,(HK2.out.trans HK3.out (λ_ _ h=>h) (λ_ _ h=>h))⟩
     ·have:=HF.out;simp;omega
     ·have:=HF.out;simp;omega
     ·have:=HF.out;omega
     ·rw[<-HF.out.2.2.2];simp
     ·exact hid (by simpa using HR3.out)
def rX(x y:Nat):Int:=if x<y then -1 else if y<x then 1 else 0
theorem qE{x y:Nat}(h:x<y):decide (rX x y<0)=true:=by simp[rX,h]
theorem pR{x y:Nat}(h:¬x<y):decide (rX x y<0)=false:=by unfold rX;rw[if_neg h];split<;>simp
theorem sI(x:Int)(w:World):Calls Tryz.prog 192 #[.int .i64 x] w λe w'=>e=.returned (.bool false)/\w'=w:=by
 have hd:(x != x)=false:=by simp
 go_enter Tryz.func192,Tryz.ntmps192;go_wp2;go_ret;simp
theorem uX(x y:Nat)(w:World):Calls Tryz.prog 175 #[.int .i64 (x:Nat),.int .i64 (y:Nat)] w λe w'=>e=.returned (.int .i64 (rX x y))/\w'=w:=by
 have H1:=sI (x:Int) w;have H2:=sI (y:Int) w;go_enter Tryz.func175,Tryz.ntmps175;go_wp2_with fail;refine H1.mono ?_;rintro e w' ⟨rfl,rfl⟩;go_wp2_with fail;refine H2.mono ?_;rintro e w'' ⟨rfl,rfl⟩;by_cases h:x<y
 ·go_wp2_with fail;go_ret;simp[rX,h]
 ·by_cases h2:y<x
  ·go_wp2_with fail;go_ret;simp[rX,h,h2]
  ·go_wp2_with fail;go_ret;simp[rX,h,h2]
structure Cmp(w:World)(bx:Nat)(I:Nat->Prop)(ns:List Nat):Prop where
 ex:∃v,w.cell? ⟨bx,0,none⟩=some v/\SrcE am w I v ns
theorem Cmp.kept{F:Nat->Prop}{w w':World}{bx:Nat}{I:Nat->Prop}{ns:List Nat}(h:Cmp w bx I ns)(hk:Kept F w w')(h1:¬F bx)(h2:∀k,I k->k<w.heap.size->¬F k):Cmp w' bx I ns:=by obtain⟨v,hv,hs⟩:=h.ex;exact⟨v,hk.cell hv h1,hs.kept hk h2⟩
abbrev oP(bx:Nat):Value:=.func (.func 174) #[] #[.pointer (some ⟨bx,0,none⟩)]
theorem FB(w:World)(bx:Nat)(I:Nat→Prop)(ns:List Nat)(h:Cmp w bx I ns)(_hn:ns.length≤1000000)(a b:Nat)(ha:a<ns.length)(hb:b<ns.length):
  Calls Tryz.prog 174 #[.int .i64 (a:Nat),.int .i64 (b:Nat),.pointer (some ⟨bx,0,none⟩)] w λe w'=>e=.returned (.int .i64 (rX (key ns a) (key ns b)))/\∃m,w'=w.drewN m:=by
 obtain⟨v,hv,hs⟩:=h.ex;obtain⟨b1,o1,cap,rfl,_,_,c1⟩:=hs.get a ha;obtain⟨b2,o2,eG,e,_,_,c2⟩:=hs.get b hb;simp only[Value.slice.injEq,Option.some.injEq,Addr.mk.injEq,and_true]at e;obtain⟨⟨rfl,rfl⟩,_,rfl⟩:=e;rw[<-aY ha]at c1;rw[<-aY hb]at c2;unfold am at c1 c2;have HC:=λq=>uX (key ns a) (key ns b) (w.drewN q)
 generalize key ns a=x at *
 generalize key ns b=y at *
 clear hs h;go_enter Tryz.func174,Tryz.ntmps174;go_wp2_with fail;go_quiet ((go_at_call 175;exact Calls.quiet_of_same (HC _)));go_wp2_with fail;go_ret;exact⟨rfl,_,rfl⟩
theorem mJ(w:World)(bx:Nat)(I:Nat→Prop)(ns:List Nat)(h:Cmp w bx I ns)(hn:ns.length≤1000000)(a b:Nat)(ha:a<ns.length)(hb:b<ns.length)(q:Nat):
  Calls Tryz.prog 174 #[.int .i64 (a:Nat),.int .i64 (b:Nat),.pointer (some ⟨bx,0,none⟩)] (w.drewN q) λe w'=>e=.returned (.int .i64 (rX (key ns a) (key ns b)))/\∃m,w'=(w.drewN q).drewN m:=
 FB (w.drewN q) bx I ns ⟨h.ex⟩ hn a b ha hb
theorem Fw{ns T1 T2:List Nat}{x:Nat}(hT:Sorted ns (T1++T2))(h1:AllLt ns T1 [x])(h2:AllLt ns [x] T2):Sorted ns (T1++x::T2):=by
 refine Sorted.append hT.left (List.pairwise_cons.2 ⟨λy hy=>h2 x (by simp) y hy,hT.right⟩) ?_;intro a ha b hb;rcases List.mem_cons.1 hb with rfl | hb
 ·exact h1 a ha _ (by simp)
 ·exact hT.cross a ha b hb
theorem Dk{ns T0:List Nat}{y x:Nat}(hT:Sorted ns (T0++[y]))(h:Lt ns y x):AllLt ns (T0++[y]) [x]:=by
 intro a ha b hb;have hb:b=x:=by simpa using hb
 subst hb;rcases List.mem_append.1 ha with ha | ha
 ·exact(hT.cross a ha y (by simp)).trans h
 ·have:a=y:=(by simpa using ha);subst this;exact h
theorem vg{ns E T U' T1 T2:List Nat}{x a i b:Nat}(hF:(a+T.length=i∨T=[]∧x::U'=[])∧b=a+T.length+(x::U').length∧Sorted ns T∧Ahead T (x::U')∧(x::U').Pairwise (· < ·)∧(T++x::U').Perm E)
  (hT:T=T1++T2) (h1:AllLt ns T1 [x]) (h2:AllLt ns [x] T2):
  (a+(T1++x::T2).length=i+1\/T1++x::T2=[]/\U'=[])/\b=a+(T1++x::T2).length+U'.length/\Sorted ns (T1++x::T2)/\Ahead (T1++x::T2) U'/\U'.Pairwise (· < ·)/\((T1++x::T2)++U').Perm E:=by
 obtain⟨f1,f2,f3,f4,f5,f6⟩:=hF;subst hT;have hp:((T1++x::T2)++U').Perm (T1++T2++x::U'):=by have:(T1++x::T2).Perm (T1++T2++[x]):=(by rw[List.append_assoc];exact List.Perm.append_left _ (List.perm_append_singleton x T2).symm);have h2:=this.append_right U';simpa using h2
 have Wh:=f1.resolve_right (by simp);refine⟨.inl ?_,?_,Fw f3 h1 h2,?_,(List.pairwise_cons.1 f5).2,hp.trans f6⟩
 ·simp at Wh ⊢;omega
 ·simp at f2 ⊢;omega
 ·intro y hy z hz;have AC:y∈T1++T2\/y=x:=by
   simp at hy ⊢;rcases hy with h | h | h
   ·exact .inl (.inl h)
   ·exact .inr h
   ·exact .inl (.inr h)
  rcases AC with AC | rfl
  ·exact f4 y AC z (List.mem_cons_of_mem _ hz)
  ·exact(List.pairwise_cons.1 f5).1 z hz
theorem kY(w:World)(B g n cap a b bx:Nat)(I:Nat→Prop)(ns P E S:List Nat)(hrow:NRow B w (.slice (some ⟨g,0,none⟩) n cap) (P++E++S))(ha:a=P.length)(hb:b=P.length+E.length)(hn:n≤1000000)(hns:ns.length≤1000000)
  (hc:Cmp w bx I ns) (hbx:bx≠g) (hI:∀k,I k->k≠g) (hE:E.Pairwise (· < ·)) (hm:∀x∈E,x<ns.length):
  Calls Tryz.prog 197 #[.slice (some ⟨g,0,none⟩) n cap,.int .i64 (a:Nat),.int .i64 (b:Nat),oP bx] w λe w'=>(∃v,e=.returned v)/\(∃E',E'.Perm E/\Sorted ns E'/\NRow B w' (.slice (some ⟨g,0,none⟩) n cap) (P++E'++S))/\Kept (·=g) w w':=by
 have ag:=hrow.len;simp at ag;have HR:Hid (NRow B w (.slice (some ⟨g,0,none⟩) n cap) (P++E++S)):=hrow;have HA:Hid (a=P.length/\b=P.length+E.length):=⟨ha,hb⟩
 have HC:Hid (Cmp w bx I ns):=hc;have HE:Hid (E.Pairwise (· < ·)):=hE;have HM:Hid (∀x∈E,x<ns.length):=hm;have HI:Hid (∀k,I k->k≠g):=hI;have HX:Hid (bx≠g):=hbx;have Eu:a<=b/\b<=n:=by omega
 clear hrow ha hb ag hc hE hm hI hbx;go_enter Tryz.func197,Tryz.ntmps197;go_wp2_with fail;go_loopg [8] (b-a) (λq z wr=>∃(i:Nat) (T U:List Nat),b-i<=q/\0<i/\a<i/\i<=b+1/\z=.int .i64 (i:Nat)/\Hid ((a+T.length=i\/T=[]/\U=[])/\b=a+T.length+U.length/\Sorted ns T/\Ahead T U/\U.Pairwise (· < ·)/\(T++U).Perm E)/\Hid (NRow B wr (.slice (some ⟨g,0,none⟩) n cap) (P++T++U++S))/\Hid (Kept (·=g) w wr))
 case atStart=>
  refine⟨a+1,E.take 1,E.drop 1,by omega,by omega,by omega,by omega,by go_num,⟨?_,?_,?_,?_,?_,?_⟩,?_,Kept.refl _ w⟩
  ·cases E with
   | nil=>right;simp
   | cons x r=>left;simp
  ·have:=HA.out;simp;omega
  ·cases E with
   | nil=>simp[Sorted]
   | cons x r=>simp[Sorted]
  ·have h:=HE.out;rw[<-List.take_append_drop 1 E]at h;exact(List.pairwise_append.1 h).2.2
  ·have h:=HE.out;rw[<-List.take_append_drop 1 E]at h;exact(List.pairwise_append.1 h).2.1
  ·rw[List.take_append_drop]
  ·have h:=HR.out;have e:P++E.take 1++E.drop 1++S=P++E++S:=(by rw[List.append_assoc P,List.take_append_drop]);show NRow B w (.slice (some ⟨g,0,none⟩) n cap) (P++E.take 1++E.drop 1++S);rw[e];exact h
 case round=>
  obtain⟨i,T,U,hq,TT,SY,NX,rfl,HF,HR2,HK2⟩:=hrel;obtain⟨Ia,oI⟩:∃x,x=gk:=⟨_,rfl⟩
  rw[<-oI]at hq;have HG:Hid (Ia=gk):=oI;clear oI HR;by_cases hlt:i<b
  ·obtain⟨x,U',hU⟩:∃x U',U=x::U':=by
    cases hU:U with
    | nil=>have h:=HF.out;subst hU;have h1:=h.2.1;have h2:=h.1;simp at h1 h2;rcases h2 with h2 | h2;omega;subst h2;simp at h1;omega
    | cons x r=>exact⟨x,r,rfl⟩
   subst hU;have hT:a+T.length=i:=(HF.out.1).resolve_right (by simp);have HT:Hid (a+T.length=i):=hT;clear hT TT;go_wp2_with fail;go_loopg [9] (i-a) (λq z OA=>∃(j:Nat) (T1 T2:List Nat),j-a<=q/\a<=j/\j<=i/\z=.int .i64 (j:Nat)/\Hid (a+T1.length=j/\T=T1++T2/\AllLt ns [x] T2)/\Hid (NRow B OA (.slice (some ⟨g,0,none⟩) n cap) (P++T1++x::T2++U'++S))/\Hid (Kept (·=g) w OA))
   case atStart=>exact⟨i,T,[],by omega,by omega,by omega,rfl,⟨HT.out,by simp,by simp[AllLt]⟩,by have h:=HR2.out;show NRow B wr _ _;simpa using h,HK2.out⟩
   case round=>
    obtain⟨j,T1,T2,KB,Yj,UQ,rfl,HF2,HR3,HK3⟩:=hrel;clear HR2 HK2;by_cases hja:a<j
    ·obtain⟨T0,y,VC⟩:∃T0 y,T1=T0++[y]:=by
      rcases List.eq_nil_or_concat T1 with rfl | ⟨es,y,e⟩
      ·have:=HF2.out.1;simp at this;omega
      ·exact⟨es,y,by rw[e,List.concat_eq_append]⟩
     subst VC;have hperm:=HF.out.2.2.2.2.2;have yq:x<ns.length:=HM.out x (hperm.mem_iff.1 (by simp));have yr:y<ns.length:=HM.out y (hperm.mem_iff.1 (by rw[HF2.out.2.1];simp));have MG:y<x:=HF.out.2.2.2.1 y (by rw[HF2.out.2.1];simp) x (by simp);have bO:NRow B wr (.slice (some ⟨g,0,none⟩) n cap) ((P++T0)++y::[]++x::(T2++U'++S)):=(by have h:=HR3.out;simpa using h);have e1:j-1=(P++T0).length:=by have:=HF2.out.1;have:=HA.out.1;simp at *;omega
     have e2:j=(P++T0).length+1+([]:List Nat).length:=by have:=HF2.out.1;have:=HA.out.1;simp at *;omega
     obtain⟨c1,c2,f1,f2,l1,l2,bh⟩:=kq bO e1 e2;have ju:((j:Int)-1)=((j-1:Nat):Int):=(by omega);have HL:=mJ wr bx I ns (HC.out.kept HK3.out (λe=>HX.out e) (λk hk _ e=>HI.out k hk e)) hns x y yq yr;unfold am at c1 c2;by_cases tj:key ns x<key ns y
     ·have hd:=qE tj;have HLT:Hid (Lt ns x y):=(Lt.iff_of_gt MG).2 tj;have HR4:Hid (NRow B ((wr.setCell ⟨g,j,none⟩ (am y)).setCell ⟨g,j-1,none⟩ (am x)) (.slice (some ⟨g,0,none⟩) n cap) (P++T0++x::(y::T2)++U'++S)):=by
       have h:=vM bO e1 e2;have h5:NRow B ((wr.setCell ⟨g,j,none⟩ (am y)).setCell ⟨g,j-1,none⟩ (am x)) (.slice (some ⟨g,0,none⟩) n cap) (P++T0++x::(y::T2)++U'++S):=(by simpa using h);exact h5
      generalize rX (key ns x) (key ns y)=cz at HL hd;clear bO e1 e2 hperm yq yr MG tj;go_wp2_with fail;go_quiet ((go_at_call 174;exact Calls.quiet_of (HL _)));go_wp2_with fail;go_region
      all_goals
       go_wp2_with fail;go_roundg (gk-1)
       case measure=>omega
       case rel=>
        refine⟨j-1,T0,y::T2,by omega,by omega,by omega,by congr 1,⟨?_,?_,?_⟩,HR4.out,(((HK3.out.drewN _).setCell ⟨g,j,none⟩ _ (.inl rfl)).setCell ⟨g,j-1,none⟩ _ (.inl rfl))⟩
        ·have:=HF2.out.1;simp at this;omega
        ·rw[HF2.out.2.1];simp
        ·intro p hp q hq;have hp:p=x:=(by simpa using hp);subst hp;rcases List.mem_cons.1 hq with rfl | hq
         ·exact HLT.out
         ·exact HF2.out.2.2 p (by simp) q hq
     ·have hd:=pR tj;have HLT:Hid (Lt ns y x):=Lt.of_not MG tj;generalize rX (key ns x) (key ns y)=cz at HL hd;clear bO e1 e2 hperm yq yr MG tj;go_wp2_with fail;go_quiet ((go_at_call 174;exact Calls.quiet_of (HL _)));go_wp2_with fail;go_roundg (Ia-1)
      case measure=>have:=HG.out;omega
      case rel=>
       refine⟨i+1,(T0++[y])++x::T2,U',by omega,by omega,by omega,by omega,by go_num,vg HF.out HF2.out.2.1 (Dk ?_ HLT.out) HF2.out.2.2,hid (RowE.drewN _ (by simpa using HR3.out)),HK3.out.drewN _⟩;have h:=HF.out.2.2.1;rw[HF2.out.2.1]at h;exact h.left
    ·have VI:j=a:=(by omega);have hd:decide (a<j)=false:=(by simp;omega);have Pz:T1=[]:=List.eq_nil_of_length_eq_zero (by have:=HF2.out.1;omega);subst Pz;go_wp2_with fail;go_quiet (fail);go_wp2_with fail;go_roundg (Ia-1)
     case measure=>have:=HG.out;omega
     case rel=>exact⟨i+1,[]++x::T2,U',by omega,by omega,by omega,by omega,by go_num,vg HF.out HF2.out.2.1 (by simp[AllLt]) HF2.out.2.2,hid (RowE.drewN _ (by simpa using HR3.out)),HK3.out.drewN _⟩
  ·go_wp2_with fail;go_end0;have hU:U=[]:=by
    rcases HF.out.1 with h | h
    ·exact List.eq_nil_of_length_eq_zero (by have:=HF.out.2.1;omega)
    ·exact h.2
   subst hU;exact⟨⟨_,rfl⟩,⟨T,by simpa using HF.out.2.2.2.2.2,HF.out.2.2.1,by simpa using HR2.out⟩,HK2.out⟩
structure Parts(ns A B:List Nat):Prop where
 sa:Sorted ns A
 sb:Sorted ns B
 ahead:Ahead A B
 ma:∀x∈A,x<ns.length
 mb:∀x∈B,x<ns.length
structure Mem(w:World)(B g n cap bx:Nat)(I:Nat->Prop)(ns d:List Nat):Prop where
 row:NRow B w (.slice (some ⟨g,0,none⟩) n cap) d
 cmp:Cmp w bx I ns
 hbx:bx≠g
 hI:∀k,I k->k≠g
 hn:n<=1000000
 hns:ns.length<=1000000
theorem Mem.drewN{w:World}{B g n cap bx:Nat}{I:Nat->Prop}{ns d:List Nat}(h:Mem w B g n cap bx I ns d)(k:Nat):Mem (w.drewN k) B g n cap bx I ns d:=⟨h.row,⟨h.cmp.ex⟩,h.hbx,h.hI,h.hn,h.hns⟩
theorem Mem.to{w w':World}{B g n cap bx:Nat}{I:Nat->Prop}{ns d d':List Nat}(h:Mem w B g n cap bx I ns d)(hr:NRow B w' (.slice (some ⟨g,0,none⟩) n cap) d')(hk:Kept (·=g) w w'):Mem w' B g n cap bx I ns d':=
 ⟨hr,h.cmp.kept hk (λe=>h.hbx e) (λk hk _ e=>h.hI k hk e),h.hbx,h.hI,h.hn,h.hns⟩
theorem Mem.at{w:World}{B g n cap bx:Nat}{I:Nat->Prop}{ns d:List Nat}(h:Mem w B g n cap bx I ns d)(j:Nat)(hj:j<d.length):w.cell? ⟨g,j,none⟩=some (.int .i64 ((d[j]:Nat):Int)):=h.row.cell j hj
def nN(w w':World)(B g n cap bx:Nat)(I:Nat->Prop)(ns P L R S:List Nat):Prop:=
 ∃C,C.Perm (L++R)/\Sorted ns C/\Mem w' B g n cap bx I ns (P++C++S)/\Kept (·=g) w w'
theorem bL{ns A B C1 C2:List Nat}{i j:Nat}(hx:AllLt ns (A.take i++B.take j) (A.drop i++B.drop j))(p1:C1.Perm (A.take i++B.take j))(s1:Sorted ns C1)(p2:C2.Perm (A.drop i++B.drop j))(s2:Sorted ns C2):
  (C1++C2).Perm (A++B)/\Sorted ns (C1++C2):=by
 refine⟨?_,s1.append s2 (hx.perm p1 p2)⟩;refine(p1.append p2).trans ?_;have e:(A.take i++B.take j++(A.drop i++B.drop j)).Perm (A.take i++A.drop i++(B.take j++B.drop j)):=by rw[List.append_assoc,List.append_assoc];refine List.Perm.append_left _ ?_;rw[<-List.append_assoc,<-List.append_assoc];exact List.Perm.append_right _ List.perm_append_comm
 rw[List.take_append_drop,List.take_append_drop]at e;exact e
theorem IX(w:World)(B g n cap bx a m b:Nat)(I:Nat→Prop)(ns P R S:List Nat)(x:Nat)(hM:Mem w B g n cap bx I ns (P++[x]++R++S))(hP:Parts ns [x] R)(ha:a=P.length)(hm:m=P.length+1)(hb:b=P.length+1+R.length):
  Calls Tryz.prog 198 #[.slice (some ⟨g,0,none⟩) n cap,.int .i64 (a:Nat),.int .i64 (m:Nat),.int .i64 (b:Nat),oP bx] w λe w'=>(∃v,e=.returned v)/\nN w w' B g n cap bx I ns P [x] R S:=by
 have ag:=hM.row.len;simp at ag;have hn:=hM.hn;have HM:Hid (Mem w B g n cap bx I ns (P++[x]++R++S)):=hM;have HP:Hid (Parts ns [x] R):=hP;have HA:Hid (a=P.length/\m=P.length+1/\b=P.length+1+R.length/\m=a+1/\P.length+1+R.length+S.length=n):=by exact⟨ha,hm,hb,by omega,by omega⟩
 have hd:((m:Int)-(a:Int))=1:=by omega
 have QW:m<=b/\b<=n/\a<n/\a<m:=by omega
 clear ag hM hP ha hm hb;go_enter Tryz.func198,Tryz.ntmps198;go_wp2_with fail;go_loopg [10,11] (b-m) (λq zi zj wr=>∃(i j:Nat),j-i<=q/\m<=i/\i<=j/\j<=b/\zi=.int .i64 (i:Nat)/\zj=.int .i64 (j:Nat)/\Hid ((i=m\/∃h:i-1-m<R.length,m<i/\Lt ns R[i-1-m] x)/\(j=b\/∃h:j-m<R.length,Lt ns x R[j-m]))/\Hid (Mem wr B g n cap bx I ns (P++[x]++R++S))/\Hid (Kept (·=g) w wr))
 case atStart=>exact⟨m,b,by omega,by omega,by omega,by omega,rfl,rfl,⟨.inl rfl,.inl rfl⟩,HM.out,Kept.refl _ w⟩
 case round=>
  obtain⟨i,j,hq,Wf,Hf,VW,rfl,rfl,HF,HM2,HK2⟩:=hrel;clear HM;by_cases hlt:i<j
  ·obtain⟨h,hh⟩:∃h,h=(i+j) / 2:=⟨_,rfl⟩
   have yp:i<=h/\h<j:=(by omega);have LY:((i:Int)+(j:Int)) / 2=(h:Int):=(by omega);have hR:h-m<R.length:=(by have:=HA.out;omega);obtain⟨y,hy⟩:∃y,y=R[h-m]:=⟨_,rfl⟩
   have cx:wr.cell? ⟨g,a,none⟩=some (.int .i64 (x:Int)):=(by have hc:=HM2.out.at a (by have:=HA.out;simp;omega);rw[hc];congr 3;have:=HA.out.1;subst this;simp);have cy:wr.cell? ⟨g,h,none⟩=some (.int .i64 (y:Int)):=(by have hc:=HM2.out.at h (by have:=HA.out;simp;omega);rw[hc];congr 3;rw[List.getElem_append_left (by have:=HA.out;simp;omega),List.getElem_append_right (by have:=HA.out;simp;omega)];rw[hy];congr 1;have:=HA.out;simp;omega);have yr:y∈R:=(by rw[hy];exact List.getElem_mem _);have tj:x<y:=HP.out.ahead x (by simp) y yr;have HL:=mJ wr bx I ns HM2.out.cmp HM2.out.hns y x (HP.out.mb y yr) (HP.out.ma x (by simp));have HY:Hid (y=R[h-m]):=hy;clear hh hy yr;by_cases hk:key ns y<key ns x
   ·have pa:=qE hk;have HLT:Hid (Lt ns y x):=(Lt.iff_of_gt tj).2 hk;generalize rX (key ns y) (key ns x)=cz at HL pa;clear hk;go_wp2_with fail;go_quiet ((go_at_call 174;exact Calls.quiet_of (HL _)));go_wp2_with fail;go_roundg (gk-1)
    case measure=>omega
    case rel=>
     refine⟨h+1,j,by omega,by omega,by omega,by omega,by go_num,rfl,⟨.inr ⟨by simpa[show h+1-1-m=h-m by omega]using hR,by omega,?_⟩,HF.out.2⟩,HM2.out.drewN _,HK2.out.drewN _⟩;have:=HLT.out;rw[HY.out]at this;simpa[show h+1-1-m=h-m by omega]using this
   ·have pa:=pR hk;have HLT:Hid (Lt ns x y):=Lt.of_not tj hk;generalize rX (key ns y) (key ns x)=cz at HL pa;clear hk;go_wp2_with fail;go_quiet ((go_at_call 174;exact Calls.quiet_of (HL _)));go_wp2_with fail;go_roundg (gk-1)
    case measure=>omega
    case rel=>
     refine⟨i,h,by omega,by omega,by omega,by omega,rfl,rfl,⟨HF.out.1,.inr ⟨hR,?_⟩⟩,HM2.out.drewN _,HK2.out.drewN _⟩;have:=HLT.out;rw[HY.out]at this;exact this
  ·have Mc:i=j:=(by omega);subst Mc;have ju:((i:Int)-1)=((i-1:Nat):Int):=(by omega);go_wp2_with fail;go_loopg [13] (i-1-a) (λq z wk=>∃k:Nat,i-1-k<=q/\a<=k/\k<=i-1/\z=.int .i64 (k:Nat)/\Hid (Mem wk B g n cap bx I ns (P++R.take (k-a)++x::R.drop (k-a)++S))/\Hid (Kept (·=g) w wk))
   case atStart=>exact⟨a,by omega,by omega,by omega,rfl,by have h:=HM2.out;exact hid (by simpa using h),HK2.out⟩
   case round=>
    obtain⟨k,KB,Ug,UN,rfl,HM3,HK3⟩:=hrel;clear HM2 HK2;by_cases qY:k<i-1
    ·have hR:k-a<R.length:=(by have:=HA.out;omega);obtain⟨y,hy⟩:∃y,y=R[k-a]:=⟨_,rfl⟩
     have rk:NRow B wr (.slice (some ⟨g,0,none⟩) n cap) ((P++R.take (k-a))++x::[]++y::(R.drop (k-a+1)++S)):=(by have h:=HM3.out.row;rw[List.drop_eq_getElem_cons hR,<-hy]at h;simpa using h);have e1:k=(P++R.take (k-a)).length:=(by have:=HA.out;simp;omega);have e2:k+1=(P++R.take (k-a)).length+1+([]:List Nat).length:=(by have:=HA.out;simp;omega);obtain⟨c1,c2,f1,f2,l1,l2,bh⟩:=kq rk e1 e2;have HR4:Hid (NRow B ((wr.setCell ⟨g,k,none⟩ (am y)).setCell ⟨g,k+1,none⟩ (am x)) (.slice (some ⟨g,0,none⟩) n cap) (P++R.take (k+1-a)++x::R.drop (k+1-a)++S)):=(by have h:=AL rk e1 e2;have h5:NRow B ((wr.setCell ⟨g,k,none⟩ (am y)).setCell ⟨g,k+1,none⟩ (am x)) (.slice (some ⟨g,0,none⟩) n cap) (P++R.take (k+1-a)++x::R.drop (k+1-a)++S):=(by rw[show k+1-a=(k-a)+1 by omega,List.take_succ_eq_append_getElem hR,<-hy];simpa using h);exact h5);unfold am at c1 c2;clear rk e1 e2 hy;go_wp2_with fail;go_region
     all_goals
      go_wp2_with fail;go_roundg (gk-1)
      case measure=>omega
      case rel=>
       have hk':Kept (·=g) wr (((wr.setCell ⟨g,k,none⟩ (am y)).setCell ⟨g,k+1,none⟩ (am x))):=((Kept.refl (·=g) wr).setCell ⟨g,k,none⟩ _ (.inl rfl)).setCell ⟨g,k+1,none⟩ _ (.inl rfl);exact⟨k+1,by omega,by omega,by omega,by go_num,HM3.out.to HR4.out hk'.drew,((HK3.out.setCell ⟨g,k,none⟩ _ (.inl rfl)).setCell ⟨g,k+1,none⟩ _ (.inl rfl)).drew⟩
    ·have e:k=i-1:=(by omega);subst e;go_wp2_with fail;refine bodyPost_ret (results_none rfl _ _ _) rfl ?_;refine⟨⟨_,rfl⟩,R.take (i-1-a)++x::R.drop (i-1-a),?_⟩;have T4:i-1-a=i-m:=(by have:=HA.out;omega);have Vv:=HA.out;have hF:=HF.out;have hsr:=HP.out.sb;have x1:AllLt ns (List.take 0 [x]++R.take (i-m)) (List.drop 0 [x]++R.drop (i-m)):=by
      refine i8 0 (i-m) HP.out.sa hsr (.inl rfl) ?_;rcases hF.1 with h | ⟨h1,h2,h3⟩
      ·left;omega
      ·right;right;exact⟨⟨by omega,by omega,by simp⟩,by simpa[show i-m-1=i-1-m by omega]using h3⟩
     have x2:AllLt ns (List.take 1 [x]++R.take (i-m)) (List.drop 1 [x]++R.drop (i-m)):=by
      refine i8 1 (i-m) HP.out.sa hsr ?_ (.inr (.inl (by simp)));rcases hF.2 with h | ⟨h1,h3⟩
      ·right;left;omega
      ·right;right;exact⟨⟨by omega,by simp,by omega⟩,by simpa using h3⟩
     have st:Sorted ns (x::R.drop (i-m)):=List.pairwise_cons.2 ⟨λz hz=>x2 x (by simp) z (by simpa using hz),by have h:=hsr;rw[<-List.take_append_drop (i-m) R]at h;exact Sorted.right h⟩;have s1:Sorted ns (R.take (i-m)):=(by have h:=hsr;rw[<-List.take_append_drop (i-m) R]at h;exact Sorted.left h);have hh:=bL x1 (C1:=R.take (i-m)) (C2:=x::R.drop (i-m)) (by simp) s1 (by simp) st;rw[T4];refine⟨hh.1,hh.2,?_,HK3.out⟩;have h:=HM3.out;rw[T4]at h;simpa using h
theorem EW(w:World)(B g n cap bx a m b:Nat)(I:Nat→Prop)(ns P L S:List Nat)(y:Nat)(hM:Mem w B g n cap bx I ns (P++L++[y]++S))(hP:Parts ns L [y])(ha:a=P.length)(hm:m=P.length+L.length)(hb:b=P.length+L.length+1)(hL:1<L.length):
  Calls Tryz.prog 198 #[.slice (some ⟨g,0,none⟩) n cap,.int .i64 (a:Nat),.int .i64 (m:Nat),.int .i64 (b:Nat),oP bx] w λe w'=>(∃v,e=.returned v)/\nN w w' B g n cap bx I ns P L [y] S:=by
 have ag:=hM.row.len;simp at ag;have hn:=hM.hn;have HM:Hid (Mem w B g n cap bx I ns (P++L++[y]++S)):=hM;have HP:Hid (Parts ns L [y]):=hP;have HA:Hid (a=P.length/\m=P.length+L.length/\b=P.length+L.length+1/\b=m+1/\P.length+L.length+1+S.length=n):=by exact⟨ha,hm,hb,by omega,by omega⟩
 have G1:((m:Int)-(a:Int)==1)=false:=by simp;omega
 have hd:((b:Int)-(m:Int))=1:=by omega
 have QW:a<=m/\m<n/\m<b:=by omega
 clear ag hM hP ha hm hb hL;go_enter Tryz.func198,Tryz.ntmps198;go_wp2_with fail;go_loopg [14,15] (m-a) (λq zi zj wr=>∃(i j:Nat),j-i<=q/\a<=i/\i<=j/\j<=m/\zi=.int .i64 (i:Nat)/\zj=.int .i64 (j:Nat)/\Hid ((i=a\/∃h:i-1-a<L.length,a<i/\Lt ns L[i-1-a] y)/\(j=m\/∃h:j-a<L.length,Lt ns y L[j-a]))/\Hid (Mem wr B g n cap bx I ns (P++L++[y]++S))/\Hid (Kept (·=g) w wr))
 case atStart=>exact⟨a,m,by omega,by omega,by omega,by omega,rfl,rfl,⟨.inl rfl,.inl rfl⟩,HM.out,Kept.refl _ w⟩
 case round=>
  obtain⟨i,j,hq,Wf,Hf,VW,rfl,rfl,HF,HM2,HK2⟩:=hrel;clear HM;by_cases hlt:i<j
  ·obtain⟨h,hh⟩:∃h,h=(i+j) / 2:=⟨_,rfl⟩
   have yp:i<=h/\h<j:=(by omega);have LY:((i:Int)+(j:Int)) / 2=(h:Int):=(by omega);have hR:h-a<L.length:=(by have:=HA.out;omega);obtain⟨x,hx⟩:∃x,x=L[h-a]:=⟨_,rfl⟩
   have cy:wr.cell? ⟨g,m,none⟩=some (.int .i64 (y:Int)):=(by have hc:=HM2.out.at m (by have:=HA.out;simp;omega);rw[hc];congr 3;rw[List.getElem_append_left (by have:=HA.out;simp;omega),List.getElem_append_right (by have:=HA.out;simp;omega)];simp);have cx:wr.cell? ⟨g,h,none⟩=some (.int .i64 (x:Int)):=(by have hc:=HM2.out.at h (by have:=HA.out;simp;omega);rw[hc];congr 3;rw[List.getElem_append_left (by have:=HA.out;simp;omega),List.getElem_append_left (by have:=HA.out;simp;omega),List.getElem_append_right (by have:=HA.out;omega)];rw[hx];congr 1;have:=HA.out;omega);have yq:x∈L:=(by rw[hx];exact List.getElem_mem _);have tj:x<y:=HP.out.ahead x yq y (by simp);have HL:=mJ wr bx I ns HM2.out.cmp HM2.out.hns y x (HP.out.mb y (by simp)) (HP.out.ma x yq);have HY:Hid (x=L[h-a]):=hx;clear hh hx yq;by_cases hk:key ns y<key ns x
   ·have pa:=qE hk;have HLT:Hid (Lt ns y x):=(Lt.iff_of_gt tj).2 hk;generalize rX (key ns y) (key ns x)=cz at HL pa;clear hk;go_wp2_with fail;go_quiet ((go_at_call 174;exact Calls.quiet_of (HL _)));go_wp2_with fail;go_roundg (gk-1)
    case measure=>omega
    case rel=>
     refine⟨i,h,by omega,by omega,by omega,by omega,rfl,rfl,⟨HF.out.1,.inr ⟨hR,?_⟩⟩,HM2.out.drewN _,HK2.out.drewN _⟩;have:=HLT.out;rw[HY.out]at this;exact this
   ·have pa:=pR hk;have HLT:Hid (Lt ns x y):=Lt.of_not tj hk;generalize rX (key ns y) (key ns x)=cz at HL pa;clear hk;go_wp2_with fail;go_quiet ((go_at_call 174;exact Calls.quiet_of (HL _)));go_wp2_with fail;go_roundg (gk-1)
    case measure=>omega
    case rel=>
     refine⟨h+1,j,by omega,by omega,by omega,by omega,by go_num,rfl,⟨.inr ⟨by simpa[show h+1-1-a=h-a by omega]using hR,by omega,?_⟩,HF.out.2⟩,HM2.out.drewN _,HK2.out.drewN _⟩;have:=HLT.out;rw[HY.out]at this;simpa[show h+1-1-a=h-a by omega]using this
  ·have Mc:i=j:=(by omega);subst Mc;go_wp2_with fail;go_loopg [17] (m-i) (λq z wk=>∃k:Nat,k-i<=q/\i<=k/\k<=m/\z=.int .i64 (k:Nat)/\Hid (Mem wk B g n cap bx I ns (P++L.take (k-a)++y::L.drop (k-a)++S))/\Hid (Kept (·=g) w wk))
   case atStart=>
    refine⟨m,by omega,by omega,by omega,rfl,?_,HK2.out⟩;have h:=HM2.out;have e1:L.take (m-a)=L:=List.take_of_length_le (by have:=HA.out;omega);have e2:L.drop (m-a)=[]:=List.drop_eq_nil_of_le (by have:=HA.out;omega);exact hid (by rw[e1,e2];simpa using h)
   case round=>
    obtain⟨k,KB,Ug,UN,rfl,HM3,HK3⟩:=hrel;clear HM2 HK2;by_cases qY:i<k
    ·have hR:k-1-a<L.length:=(by have:=HA.out;omega);have ju:((k:Int)-1)=((k-1:Nat):Int):=(by omega);obtain⟨x,hx⟩:∃x,x=L[k-1-a]:=⟨_,rfl⟩
     have rk:NRow B wr (.slice (some ⟨g,0,none⟩) n cap) ((P++L.take (k-1-a))++x::[]++y::(L.drop (k-a)++S)):=(by have h:=HM3.out.row;rw[show k-a=(k-1-a)+1 by omega,List.take_succ_eq_append_getElem hR,<-hx,<-show k-a=(k-1-a)+1 by omega]at h;simpa using h);have e1:k-1=(P++L.take (k-1-a)).length:=(by have:=HA.out;simp;omega);have e2:k=(P++L.take (k-1-a)).length+1+([]:List Nat).length:=(by have:=HA.out;simp;omega);obtain⟨c1,c2,f1,f2,l1,l2,bh⟩:=kq rk e1 e2;have HR4:Hid (NRow B ((wr.setCell ⟨g,k,none⟩ (am x)).setCell ⟨g,k-1,none⟩ (am y)) (.slice (some ⟨g,0,none⟩) n cap) (P++L.take (k-1-a)++y::L.drop (k-1-a)++S)):=(by have h:=vM rk e1 e2;have h5:NRow B ((wr.setCell ⟨g,k,none⟩ (am x)).setCell ⟨g,k-1,none⟩ (am y)) (.slice (some ⟨g,0,none⟩) n cap) (P++L.take (k-1-a)++y::L.drop (k-1-a)++S):=(by rw[List.drop_eq_getElem_cons hR,<-hx,<-show k-a=(k-1-a)+1 by omega];simpa using h);exact h5);unfold am at c1 c2;clear rk e1 e2 hx;go_wp2_with fail;go_region
     all_goals
      go_wp2_with fail;go_roundg (gk-1)
      case measure=>omega
      case rel=>
       have hk':Kept (·=g) wr (((wr.setCell ⟨g,k,none⟩ (am x)).setCell ⟨g,k-1,none⟩ (am y))):=((Kept.refl (·=g) wr).setCell ⟨g,k,none⟩ _ (.inl rfl)).setCell ⟨g,k-1,none⟩ _ (.inl rfl);exact⟨k-1,by omega,by omega,by omega,by congr 1,HM3.out.to HR4.out hk'.drew,((HK3.out.setCell ⟨g,k,none⟩ _ (.inl rfl)).setCell ⟨g,k-1,none⟩ _ (.inl rfl)).drew⟩
    ·have e:k=i:=(by omega);subst e;go_wp2_with fail;refine bodyPost_ret (results_none rfl _ _ _) rfl ?_;refine⟨⟨_,rfl⟩,L.take (k-a)++y::L.drop (k-a),?_⟩;have Vv:=HA.out;have hF:=HF.out;have hsl:=HP.out.sa;have x1:AllLt ns (L.take (k-a)++List.take 0 [y]) (L.drop (k-a)++List.drop 0 [y]):=by
      refine i8 (k-a) 0 hsl HP.out.sb ?_ (.inl rfl);rcases hF.1 with h | ⟨h1,h2,h3⟩
      ·left;omega
      ·right;right;exact⟨⟨by omega,by omega,by simp⟩,by simpa[show k-a-1=k-1-a by omega]using h3⟩
     have x2:AllLt ns (L.take (k-a)++List.take 1 [y]) (L.drop (k-a)++List.drop 1 [y]):=by
      refine i8 (k-a) 1 hsl HP.out.sb (.inr (.inl (by simp))) ?_;rcases hF.2 with h | ⟨h1,h3⟩
      ·right;left;omega
      ·right;right;exact⟨⟨by omega,by simp,by omega⟩,by simpa using h3⟩
     have st:Sorted ns (y::L.drop (k-a)):=List.pairwise_cons.2 ⟨λz hz=>x2 y (by simp) z (by simpa using hz),by have h:=hsl;rw[<-List.take_append_drop (k-a) L]at h;exact Sorted.right h⟩;have s1:Sorted ns (L.take (k-a)):=(by have h:=hsl;rw[<-List.take_append_drop (k-a) L]at h;exact Sorted.left h);have hh:=bL x1 (C1:=L.take (k-a)) (C2:=y::L.drop (k-a)) (by simp) s1 (List.perm_append_comm (l₁:=[y])) st;refine⟨hh.1,hh.2,?_,HK3.out⟩;have h:=HM3.out;simpa using h
theorem Parts.cut{ns A B A' B':List Nat}(h:Parts ns A B)(hA:∀x∈A',x∈A)(hB:∀x∈B',x∈B)(sa:Sorted ns A')(sb:Sorted ns B'):Parts ns A' B':=
 ⟨sa,sb,h.ahead.sub hA hB,λx hx=>h.ma x (hA x hx),λx hx=>h.mb x (hB x hx)⟩
theorem Ac(P L R S:List Nat)(i j:Nat):P++L++R++S=P++L.take i++L.drop i++R.take j++(R.drop j++S):=by
 conv=>lhs;rw[<-List.take_append_drop i L,<-List.take_append_drop j R]
 simp only[List.append_assoc]
theorem AY{P L R S:List Nat}{i j:Nat}(h:L.drop i=[]\/R.take j=[]):P++L.take i++R.take j++L.drop i++R.drop j++S=P++L++R++S:=by rw[Ac P L R S i j];rcases h with h | h<;>simp only[h,List.append_nil,List.append_assoc]
theorem GA(k B g n cap bx:Nat)(I:Nat→Prop)(ns:List Nat)
  (ih:∀k',k'<k->∀(w:World) (a m b:Nat) (P L R S:List Nat),b-a<=k'->Mem w B g n cap bx I ns (P++L++R++S)->Parts ns L R->a=P.length->m=P.length+L.length->b=P.length+L.length+R.length->0<L.length->0<R.length ->
   Calls Tryz.prog 198 #[.slice (some ⟨g,0,none⟩) n cap,.int .i64 (a:Nat),.int .i64 (m:Nat),.int .i64 (b:Nat),oP bx] w λe w'=>(∃v,e=.returned v)/\nN w w' B g n cap bx I ns P L R S)
  (w:World) (a m b:Nat) (P L R S:List Nat) (hk:b-a<=k) (hM:Mem w B g n cap bx I ns (P++L++R++S)) (hP:Parts ns L R) (ha:a=P.length) (hm:m=P.length+L.length) (hb:b=P.length+L.length+R.length) (hL:1<L.length) (hR:1<R.length):
  Calls Tryz.prog 198 #[.slice (some ⟨g,0,none⟩) n cap,.int .i64 (a:Nat),.int .i64 (m:Nat),.int .i64 (b:Nat),oP bx] w λe w'=>(∃v,e=.returned v)/\nN w w' B g n cap bx I ns P L R S:=by
 have ag:=hM.row.len;simp at ag;have hn:=hM.hn;have IH:Hid (∀k',k'<k→∀(w:World) (a m b:Nat) (P L R S:List Nat),b-a≤k'→Mem w B g n cap bx I ns (P++L++R++S)→Parts ns L R→a=P.length→m=P.length+L.length→b=P.length+L.length+R.length→0<L.length→0<R.length →
   Calls Tryz.prog 198 #[.slice (some ⟨g,0,none⟩) n cap,.int .i64 (a:Nat),.int .i64 (m:Nat),.int .i64 (b:Nat),oP bx] w λe w'=>(∃v,e=.returned v)/\nN w w' B g n cap bx I ns P L R S):=ih
 have HM:Hid (Mem w B g n cap bx I ns (P++L++R++S)):=hM;have HP:Hid (Parts ns L R):=hP;have HA:Hid (a=P.length/\m=P.length+L.length/\b=P.length+L.length+R.length/\P.length+L.length+R.length+S.length=n):=by exact⟨ha,hm,hb,by omega⟩
 have G1:((m:Int)-(a:Int)==1)=false:=by simp;omega
 have Cb:((b:Int)-(m:Int)==1)=false:=by simp;omega
 have Eu:a+1<m/\m+1<b/\b<=n:=by omega
 obtain⟨mid,LY⟩:∃mid,mid=(a+b) / 2:=⟨_,rfl⟩
 obtain⟨N,hN⟩:∃N,N=mid+m:=⟨_,rfl⟩
 have TA:((a:Int)+(b:Int)) / 2=(mid:Int):=by omega
 have Wy:((mid:Int)+(m:Int))=(N:Int):=by omega
 have OR:2*mid<=a+b/\a+b<=2*mid+1:=by omega
 have XX:N<=mid+m/\mid+m<=N:=by omega
 clear ag hM hP ha hm hb ih hL hR LY hN;go_enter Tryz.func198,Tryz.ntmps198;by_cases MR:mid<m
 ·have Is:((N:Int)-(b:Int))=((N-b:Nat):Int):=(by omega);have H0:Hid (mid<m):=MR;go_wp2_with fail;go_loopg [20,21] (b-a) (λq zi zj wr=>∃(s r:Nat),r-s<=q/\N-b<=s/\s<=r/\r<=mid/\zi=.int .i64 (s:Nat)/\zj=.int .i64 (r:Nat)/\Hid ((s=N-b\/∃(h1:s-1-a<L.length) (h2:N-s-m<R.length),a<s/\Lt ns L[s-1-a] R[N-s-m])/\(r=mid\/∃(h1:N-1-r-m<R.length) (h2:r-a<L.length),Lt ns R[N-1-r-m] L[r-a]))/\Hid (Mem wr B g n cap bx I ns (P++L++R++S))/\Hid (Kept (·=g) w wr))
  case atStart=>exact⟨N-b,mid,by omega,by omega,by omega,by omega,rfl,rfl,⟨.inl rfl,.inl rfl⟩,HM.out,Kept.refl _ w⟩
  case round=>
   obtain⟨s,r,hq,Is,hsr,rk,rfl,rfl,HF,HM2,HK2⟩:=hrel;clear HM;by_cases hlt:s<r
   ·obtain⟨c,hc⟩:∃c,c=(s+r) / 2:=⟨_,rfl⟩
    have OE:s<=c/\c<r:=(by omega);have Ou:((s:Int)+(r:Int)) / 2=(c:Int):=(by omega);have hp:((N:Int)-1-(c:Int))=((N-1-c:Nat):Int):=(by omega);have Lx:N-1-c<n/\c<n:=(by omega);have iL:c-a<L.length:=(by have:=HA.out;omega);have iR:N-1-c-m<R.length:=(by have:=HA.out;omega);obtain⟨x,hx⟩:∃x,x=L[c-a]:=⟨_,rfl⟩
    obtain⟨y,hy⟩:∃y,y=R[N-1-c-m]:=⟨_,rfl⟩
    have cx:wr.cell? ⟨g,c,none⟩=some (.int .i64 (x:Int)):=(by have hc:=HM2.out.at c (by have:=HA.out;simp;omega);rw[hc];congr 3;rw[List.getElem_append_left (by have:=HA.out;simp;omega),List.getElem_append_left (by have:=HA.out;simp;omega),List.getElem_append_right (by have:=HA.out;omega)];rw[hx];congr 1;have:=HA.out;omega);have cy:wr.cell? ⟨g,N-1-c,none⟩=some (.int .i64 (y:Int)):=(by have hc:=HM2.out.at (N-1-c) (by have:=HA.out;simp;omega);rw[hc];congr 3;rw[List.getElem_append_left (by have:=HA.out;simp;omega),List.getElem_append_right (by have:=HA.out;simp;omega)];rw[hy];congr 1;have:=HA.out;simp;omega);have yq:x∈L:=(by rw[hx];exact List.getElem_mem _);have yr:y∈R:=(by rw[hy];exact List.getElem_mem _);have tj:x<y:=HP.out.ahead x yq y yr;have HL:=mJ wr bx I ns HM2.out.cmp HM2.out.hns y x (HP.out.mb y yr) (HP.out.ma x yq);have HX:Hid (x=L[c-a]):=hx;have HY:Hid (y=R[N-1-c-m]):=hy;clear hc hx hy yq yr IH;by_cases hk:key ns y<key ns x
    ·have pa:=qE hk;have HLT:Hid (Lt ns y x):=(Lt.iff_of_gt tj).2 hk;generalize rX (key ns y) (key ns x)=cz at HL pa;clear hk;go_wp2_with fail;go_quiet ((go_at_call 174;exact Calls.quiet_of (HL _)));go_wp2_with fail;go_roundg (gk-1)
     case measure=>omega
     case rel=>
      refine⟨s,c,by omega,by omega,by omega,by omega,rfl,rfl,⟨HF.out.1,.inr ⟨iR,iL,?_⟩⟩,HM2.out.drewN _,HK2.out.drewN _⟩;have h:=HLT.out;rw[HX.out,HY.out]at h;exact h
    ·have pa:=pR hk;have HLT:Hid (Lt ns x y):=Lt.of_not tj hk;generalize rX (key ns y) (key ns x)=cz at HL pa;clear hk;go_wp2_with fail;go_quiet ((go_at_call 174;exact Calls.quiet_of (HL _)));go_wp2_with fail;go_roundg (gk-1)
     case measure=>omega
     case rel=>
      refine⟨c+1,r,by omega,by omega,by omega,by omega,by go_num,rfl,⟨.inr ⟨by simpa using iL,by simpa[show N-(c+1)-m=N-1-c-m by omega]using iR,by omega,?_⟩,HF.out.2⟩,HM2.out.drewN _,HK2.out.drewN _⟩;have h:=HLT.out;rw[HX.out,HY.out]at h;simpa[show N-(c+1)-m=N-1-c-m by omega]using h
   ·have LV:s=r:=(by omega);subst LV;have CR:Hid (AllLt ns (L.take (s-a)++R.take (N-s-m)) (L.drop (s-a)++R.drop (N-s-m))):=by
     refine i8 (s-a) (N-s-m) HP.out.sa HP.out.sb ?_ ?_
     ·rcases HF.out.1 with h | ⟨h1,h2,h3,h4⟩
      ·right;left;have:=HA.out;omega
      ·right;right;exact⟨⟨by omega,by omega,h2⟩,by simpa[show s-a-1=s-1-a by omega]using h4⟩
     ·rcases HF.out.2 with h | ⟨h1,h2,h3⟩
      ·left;omega
      ·by_cases h5:N-s-m=0
       ·left;exact h5
       ·right;right;exact⟨⟨by omega,by have:=HA.out;omega,h2⟩,by simpa[show N-s-m-1=N-1-s-m by omega]using h3⟩
    have Hk:((N:Int)-(s:Int))=((N-s:Nat):Int):=(by omega);have PA:Hid (Parts ns (L.take (s-a)) (R.take (N-s-m))):=hid (HP.out.cut (λx h=>List.mem_of_mem_take h) (λx h=>List.mem_of_mem_take h) (List.Pairwise.sublist (List.take_sublist _ _) HP.out.sa) (List.Pairwise.sublist (List.take_sublist _ _) HP.out.sb));have PB:Hid (Parts ns (L.drop (s-a)) (R.drop (N-s-m))):=hid (HP.out.cut (λx h=>List.mem_of_mem_drop h) (λx h=>List.mem_of_mem_drop h) (List.Pairwise.sublist (List.drop_sublist _ _) HP.out.sa) (List.Pairwise.sublist (List.drop_sublist _ _) HP.out.sb));by_cases hβ:s<mid
    ·by_cases hγ:s<m
     ·have HROT:=pQ wr B g n cap s m (N-s) (oP bx) (P++L.take (s-a)) (L.drop (s-a)) (R.take (N-s-m)) (R.drop (N-s-m)++S) (by have:=HA.out;simp;omega) (by have:=HA.out;simp;omega) (by have h:=HM2.out.row;rw[Ac P L R S (s-a) (N-s-m)]at h;exact h) (by have:=HA.out;simp;omega) (by have:=HA.out;simp;omega) (by have:=HA.out;simp;omega) hn;by_cases hα:a<s
      ·by_cases hδ:N-s<b
       ·go_wp2_with fail
        all_goals
         refine HROT.mono ?_;rintro e wq ⟨⟨vq,rfl⟩,hrq,hkq⟩;have HMq:Hid (Mem wq B g n cap bx I ns (P++L.take (s-a)++R.take (N-s-m)++L.drop (s-a)++R.drop (N-s-m)++S)):=hid ((HM2.out.to (d':=P++L.take (s-a)++R.take (N-s-m)++L.drop (s-a)++R.drop (N-s-m)++S) (by simpa only[List.append_assoc]using hrq) hkq));have HKq:Hid (Kept (·=g) w wq):=HK2.out.trans hkq (λ_ _ h=>h) (λ_ _ h=>h);clear hrq hkq HROT;have HC1:=IH.out (mid-a) (by omega) wq a s mid P (L.take (s-a)) (R.take (N-s-m)) (L.drop (s-a)++R.drop (N-s-m)++S) (by omega) (by simpa only[List.append_assoc]using HMq.out) PA.out (by have:=HA.out;omega) (by have:=HA.out;simp;omega) (by have:=HA.out;simp;omega) (by have:=HA.out;simp;omega) (by have:=HA.out;simp;omega);go_wp2_with fail;refine HC1.mono ?_;rintro e wp ⟨⟨vp,rfl⟩,C1,p1,s1,hm1,hk1⟩;have HMp:Hid (Mem wp B g n cap bx I ns (P++C1++(L.drop (s-a)++R.drop (N-s-m)++S))):=hm1;have HKp:Hid (Kept (·=g) w wp):=HKq.out.trans hk1 (λ_ _ h=>h) (λ_ _ h=>h);have HS1:Hid (C1.Perm (L.take (s-a)++R.take (N-s-m))/\Sorted ns C1):=⟨p1,s1⟩
         clear hm1 hk1 p1 s1 HC1;have HC2:=IH.out (b-mid) (by omega) wp mid (N-s) b (P++C1) (L.drop (s-a)) (R.drop (N-s-m)) S (by omega) (by simpa only[List.append_assoc]using HMp.out) PB.out (by have:=HA.out;have:=HS1.out.1.length_eq;simp at this ⊢;omega) (by have:=HA.out;have:=HS1.out.1.length_eq;simp at this ⊢;omega) (by have:=HA.out;have:=HS1.out.1.length_eq;simp at this ⊢;omega) (by have:=HA.out;simp;omega) (by have:=HA.out;simp;omega);go_wp2_with fail;refine HC2.mono ?_;rintro e wz ⟨⟨vz,rfl⟩,C2,p2,s2,g8,hk2⟩;have HMz:Hid (Mem wz B g n cap bx I ns (P++C1++C2++S)):=g8;have HKz:Hid (Kept (·=g) w wz):=HKp.out.trans hk2 (λ_ _ h=>h) (λ_ _ h=>h);have HS2:Hid (C2.Perm (L.drop (s-a)++R.drop (N-s-m))/\Sorted ns C2):=⟨p2,s2⟩
         clear g8 hk2 p2 s2 HC2;go_wp2_with fail;go_end0;have hh:=bL CR.out HS1.out.1 HS1.out.2 HS2.out.1 HS2.out.2;exact⟨⟨_,rfl⟩,C1++C2,hh.1,hh.2,by simpa only[List.append_assoc]using HMz.out,HKz.out⟩
       ·have S2:Hid (Sorted ns (L.drop (s-a)++R.drop (N-s-m))):=hid (by rw[List.drop_eq_nil_of_le (show R.length<=N-s-m by have:=HA.out;omega),List.append_nil];exact PB.out.sa);go_wp2_with fail
        all_goals
         refine HROT.mono ?_;rintro e wq ⟨⟨vq,rfl⟩,hrq,hkq⟩;have HMq:Hid (Mem wq B g n cap bx I ns (P++L.take (s-a)++R.take (N-s-m)++L.drop (s-a)++R.drop (N-s-m)++S)):=hid ((HM2.out.to (d':=P++L.take (s-a)++R.take (N-s-m)++L.drop (s-a)++R.drop (N-s-m)++S) (by simpa only[List.append_assoc]using hrq) hkq));have HKq:Hid (Kept (·=g) w wq):=HK2.out.trans hkq (λ_ _ h=>h) (λ_ _ h=>h);clear hrq hkq HROT;have HC1:=IH.out (mid-a) (by omega) wq a s mid P (L.take (s-a)) (R.take (N-s-m)) (L.drop (s-a)++R.drop (N-s-m)++S) (by omega) (by simpa only[List.append_assoc]using HMq.out) PA.out (by have:=HA.out;omega) (by have:=HA.out;simp;omega) (by have:=HA.out;simp;omega) (by have:=HA.out;simp;omega) (by have:=HA.out;simp;omega);go_wp2_with fail;refine HC1.mono ?_;rintro e wp ⟨⟨vp,rfl⟩,C1,p1,s1,hm1,hk1⟩;have HMp:Hid (Mem wp B g n cap bx I ns (P++C1++(L.drop (s-a)++R.drop (N-s-m)++S))):=hm1;have HKp:Hid (Kept (·=g) w wp):=HKq.out.trans hk1 (λ_ _ h=>h) (λ_ _ h=>h);have HS1:Hid (C1.Perm (L.take (s-a)++R.take (N-s-m))/\Sorted ns C1):=⟨p1,s1⟩
         clear hm1 hk1 p1 s1 HC1;obtain⟨C2,HS2,HMz⟩:∃C2,Hid (C2.Perm (L.drop (s-a)++R.drop (N-s-m))/\Sorted ns C2)/\Hid (Mem wp B g n cap bx I ns (P++C1++C2++S)):=⟨_,⟨List.Perm.refl _,S2.out⟩,hid (by have h:=HMp.out;simpa only[List.append_assoc]using h)⟩
         have HKz:=HKp;go_wp2_with fail;go_end0;have hh:=bL CR.out HS1.out.1 HS1.out.2 HS2.out.1 HS2.out.2;exact⟨⟨_,rfl⟩,C1++C2,hh.1,hh.2,by simpa only[List.append_assoc]using HMz.out,HKz.out⟩
      ·have S1:Hid (Sorted ns (L.take (s-a)++R.take (N-s-m))):=hid (by rw[show s-a=0 by omega,List.take_zero,List.nil_append];exact PA.out.sb);by_cases hδ:N-s<b
       ·go_wp2_with fail
        all_goals
         refine HROT.mono ?_;rintro e wq ⟨⟨vq,rfl⟩,hrq,hkq⟩;have HMq:Hid (Mem wq B g n cap bx I ns (P++L.take (s-a)++R.take (N-s-m)++L.drop (s-a)++R.drop (N-s-m)++S)):=hid ((HM2.out.to (d':=P++L.take (s-a)++R.take (N-s-m)++L.drop (s-a)++R.drop (N-s-m)++S) (by simpa only[List.append_assoc]using hrq) hkq));have HKq:Hid (Kept (·=g) w wq):=HK2.out.trans hkq (λ_ _ h=>h) (λ_ _ h=>h);clear hrq hkq HROT;obtain⟨C1,HS1,HMp⟩:∃C1,Hid (C1.Perm (L.take (s-a)++R.take (N-s-m))/\Sorted ns C1)/\Hid (Mem wq B g n cap bx I ns (P++C1++(L.drop (s-a)++R.drop (N-s-m)++S))):=⟨_,⟨List.Perm.refl _,S1.out⟩,hid (by have h:=HMq.out;simpa only[List.append_assoc]using h)⟩
         have HKp:=HKq;have HC2:=IH.out (b-mid) (by omega) wq mid (N-s) b (P++C1) (L.drop (s-a)) (R.drop (N-s-m)) S (by omega) (by simpa only[List.append_assoc]using HMp.out) PB.out (by have:=HA.out;have:=HS1.out.1.length_eq;simp at this ⊢;omega) (by have:=HA.out;have:=HS1.out.1.length_eq;simp at this ⊢;omega) (by have:=HA.out;have:=HS1.out.1.length_eq;simp at this ⊢;omega) (by have:=HA.out;simp;omega) (by have:=HA.out;simp;omega);go_wp2_with fail;refine HC2.mono ?_;rintro e wz ⟨⟨vz,rfl⟩,C2,p2,s2,g8,hk2⟩;have HMz:Hid (Mem wz B g n cap bx I ns (P++C1++C2++S)):=g8;have HKz:Hid (Kept (·=g) w wz):=HKp.out.trans hk2 (λ_ _ h=>h) (λ_ _ h=>h);have HS2:Hid (C2.Perm (L.drop (s-a)++R.drop (N-s-m))/\Sorted ns C2):=⟨p2,s2⟩
         clear g8 hk2 p2 s2 HC2;go_wp2_with fail;go_end0;have hh:=bL CR.out HS1.out.1 HS1.out.2 HS2.out.1 HS2.out.2;exact⟨⟨_,rfl⟩,C1++C2,hh.1,hh.2,by simpa only[List.append_assoc]using HMz.out,HKz.out⟩
       ·have S2:Hid (Sorted ns (L.drop (s-a)++R.drop (N-s-m))):=hid (by rw[List.drop_eq_nil_of_le (show R.length<=N-s-m by have:=HA.out;omega),List.append_nil];exact PB.out.sa);go_wp2_with fail
        all_goals
         refine HROT.mono ?_;rintro e wq ⟨⟨vq,rfl⟩,hrq,hkq⟩;have HMq:Hid (Mem wq B g n cap bx I ns (P++L.take (s-a)++R.take (N-s-m)++L.drop (s-a)++R.drop (N-s-m)++S)):=hid ((HM2.out.to (d':=P++L.take (s-a)++R.take (N-s-m)++L.drop (s-a)++R.drop (N-s-m)++S) (by simpa only[List.append_assoc]using hrq) hkq));have HKq:Hid (Kept (·=g) w wq):=HK2.out.trans hkq (λ_ _ h=>h) (λ_ _ h=>h);clear hrq hkq HROT;obtain⟨C1,HS1,HMp⟩:∃C1,Hid (C1.Perm (L.take (s-a)++R.take (N-s-m))/\Sorted ns C1)/\Hid (Mem wq B g n cap bx I ns (P++C1++(L.drop (s-a)++R.drop (N-s-m)++S))):=⟨_,⟨List.Perm.refl _,S1.out⟩,hid (by have h:=HMq.out;simpa only[List.append_assoc]using h)⟩
         have HKp:=HKq;obtain⟨C2,HS2,HMz⟩:∃C2,Hid (C2.Perm (L.drop (s-a)++R.drop (N-s-m))/\Sorted ns C2)/\Hid (Mem wq B g n cap bx I ns (P++C1++C2++S)):=⟨_,⟨List.Perm.refl _,S2.out⟩,hid (by have h:=HMp.out;simpa only[List.append_assoc]using h)⟩
         have HKz:=HKp;go_wp2_with fail;go_end0;have hh:=bL CR.out HS1.out.1 HS1.out.2 HS2.out.1 HS2.out.2;exact⟨⟨_,rfl⟩,C1++C2,hh.1,hh.2,by simpa only[List.append_assoc]using HMz.out,HKz.out⟩
     ·have eL:L.drop (s-a)=[]:=List.drop_eq_nil_of_le (by have:=HA.out;omega);have HSAME:Hid (P++L.take (s-a)++R.take (N-s-m)++L.drop (s-a)++R.drop (N-s-m)++S=P++L++R++S):=hid (AY (.inl eL));have S2:Hid (Sorted ns (L.drop (s-a)++R.drop (N-s-m))):=hid (by rw[eL,List.nil_append];exact PB.out.sb);clear eL;have jH:¬mid<N-s:=(by omega);by_cases hα:a<s
      ·have HMq:Hid (Mem wr B g n cap bx I ns (P++L.take (s-a)++R.take (N-s-m)++L.drop (s-a)++R.drop (N-s-m)++S)):=hid (by have h:=HM2.out;rw[<-HSAME.out]at h;exact h);have HKq:Hid (Kept (·=g) w wr):=HK2.out;have HC1:=IH.out (mid-a) (by omega) wr a s mid P (L.take (s-a)) (R.take (N-s-m)) (L.drop (s-a)++R.drop (N-s-m)++S) (by omega) (by simpa only[List.append_assoc]using HMq.out) PA.out (by have:=HA.out;omega) (by have:=HA.out;simp;omega) (by have:=HA.out;simp;omega) (by have:=HA.out;simp;omega) (by have:=HA.out;simp;omega);go_wp2_with fail
       all_goals
        refine HC1.mono ?_;rintro e wp ⟨⟨vp,rfl⟩,C1,p1,s1,hm1,hk1⟩;have HMp:Hid (Mem wp B g n cap bx I ns (P++C1++(L.drop (s-a)++R.drop (N-s-m)++S))):=hm1;have HKp:Hid (Kept (·=g) w wp):=HKq.out.trans hk1 (λ_ _ h=>h) (λ_ _ h=>h);have HS1:Hid (C1.Perm (L.take (s-a)++R.take (N-s-m))/\Sorted ns C1):=⟨p1,s1⟩
        clear hm1 hk1 p1 s1 HC1;obtain⟨C2,HS2,HMz⟩:∃C2,Hid (C2.Perm (L.drop (s-a)++R.drop (N-s-m))/\Sorted ns C2)/\Hid (Mem wp B g n cap bx I ns (P++C1++C2++S)):=⟨_,⟨List.Perm.refl _,S2.out⟩,hid (by have h:=HMp.out;simpa only[List.append_assoc]using h)⟩
        have HKz:=HKp;go_wp2_with fail;go_end0;have hh:=bL CR.out HS1.out.1 HS1.out.2 HS2.out.1 HS2.out.2;exact⟨⟨_,rfl⟩,C1++C2,hh.1,hh.2,by simpa only[List.append_assoc]using HMz.out,HKz.out⟩
      ·have S1:Hid (Sorted ns (L.take (s-a)++R.take (N-s-m))):=hid (by rw[show s-a=0 by omega,List.take_zero,List.nil_append];exact PA.out.sb);have HMq:Hid (Mem wr B g n cap bx I ns (P++L.take (s-a)++R.take (N-s-m)++L.drop (s-a)++R.drop (N-s-m)++S)):=hid (by have h:=HM2.out;rw[<-HSAME.out]at h;exact h);have HKq:Hid (Kept (·=g) w wr):=HK2.out;obtain⟨C1,HS1,HMp⟩:∃C1,Hid (C1.Perm (L.take (s-a)++R.take (N-s-m))/\Sorted ns C1)/\Hid (Mem wr B g n cap bx I ns (P++C1++(L.drop (s-a)++R.drop (N-s-m)++S))):=⟨_,⟨List.Perm.refl _,S1.out⟩,hid (by have h:=HMq.out;simpa only[List.append_assoc]using h)⟩
       have HKp:=HKq;obtain⟨C2,HS2,HMz⟩:∃C2,Hid (C2.Perm (L.drop (s-a)++R.drop (N-s-m))/\Sorted ns C2)/\Hid (Mem wr B g n cap bx I ns (P++C1++C2++S)):=⟨_,⟨List.Perm.refl _,S2.out⟩,hid (by have h:=HMp.out;simpa only[List.append_assoc]using h)⟩
       have HKz:=HKp;go_wp2_with fail
       all_goals
        go_end0;have hh:=bL CR.out HS1.out.1 HS1.out.2 HS2.out.1 HS2.out.2;exact⟨⟨_,rfl⟩,C1++C2,hh.1,hh.2,by simpa only[List.append_assoc]using HMz.out,HKz.out⟩
    ·have eR:R.take (N-s-m)=[]:=(by rw[show N-s-m=0 by omega];rfl);have HSAME:Hid (P++L.take (s-a)++R.take (N-s-m)++L.drop (s-a)++R.drop (N-s-m)++S=P++L++R++S):=hid (AY (.inr eR));have S1:Hid (Sorted ns (L.take (s-a)++R.take (N-s-m))):=hid (by rw[eR,List.append_nil];exact PA.out.sa);clear eR;have rM:¬m<N-s:=(by omega);by_cases h3:s<m
     ·by_cases hδ:N-s<b
      ·by_cases hα:a<s
       ·have HMq:Hid (Mem wr B g n cap bx I ns (P++L.take (s-a)++R.take (N-s-m)++L.drop (s-a)++R.drop (N-s-m)++S)):=hid (by have h:=HM2.out;rw[<-HSAME.out]at h;exact h);have HKq:Hid (Kept (·=g) w wr):=HK2.out;obtain⟨C1,HS1,HMp⟩:∃C1,Hid (C1.Perm (L.take (s-a)++R.take (N-s-m))/\Sorted ns C1)/\Hid (Mem wr B g n cap bx I ns (P++C1++(L.drop (s-a)++R.drop (N-s-m)++S))):=⟨_,⟨List.Perm.refl _,S1.out⟩,hid (by have h:=HMq.out;simpa only[List.append_assoc]using h)⟩
        have HKp:=HKq;have HC2:=IH.out (b-mid) (by omega) wr mid (N-s) b (P++C1) (L.drop (s-a)) (R.drop (N-s-m)) S (by omega) (by simpa only[List.append_assoc]using HMp.out) PB.out (by have:=HA.out;have:=HS1.out.1.length_eq;simp at this ⊢;omega) (by have:=HA.out;have:=HS1.out.1.length_eq;simp at this ⊢;omega) (by have:=HA.out;have:=HS1.out.1.length_eq;simp at this ⊢;omega) (by have:=HA.out;simp;omega) (by have:=HA.out;simp;omega);go_wp2_with fail
        all_goals
         refine HC2.mono ?_;rintro e wz ⟨⟨vz,rfl⟩,C2,p2,s2,g8,hk2⟩;have HMz:Hid (Mem wz B g n cap bx I ns (P++C1++C2++S)):=g8;have HKz:Hid (Kept (·=g) w wz):=HKp.out.trans hk2 (λ_ _ h=>h) (λ_ _ h=>h);have HS2:Hid (C2.Perm (L.drop (s-a)++R.drop (N-s-m))/\Sorted ns C2):=⟨p2,s2⟩
         clear g8 hk2 p2 s2 HC2;go_wp2_with fail;go_end0;have hh:=bL CR.out HS1.out.1 HS1.out.2 HS2.out.1 HS2.out.2;exact⟨⟨_,rfl⟩,C1++C2,hh.1,hh.2,by simpa only[List.append_assoc]using HMz.out,HKz.out⟩
       ·have HMq:Hid (Mem wr B g n cap bx I ns (P++L.take (s-a)++R.take (N-s-m)++L.drop (s-a)++R.drop (N-s-m)++S)):=hid (by have h:=HM2.out;rw[<-HSAME.out]at h;exact h);have HKq:Hid (Kept (·=g) w wr):=HK2.out;obtain⟨C1,HS1,HMp⟩:∃C1,Hid (C1.Perm (L.take (s-a)++R.take (N-s-m))/\Sorted ns C1)/\Hid (Mem wr B g n cap bx I ns (P++C1++(L.drop (s-a)++R.drop (N-s-m)++S))):=⟨_,⟨List.Perm.refl _,S1.out⟩,hid (by have h:=HMq.out;simpa only[List.append_assoc]using h)⟩
        have HKp:=HKq;have HC2:=IH.out (b-mid) (by omega) wr mid (N-s) b (P++C1) (L.drop (s-a)) (R.drop (N-s-m)) S (by omega) (by simpa only[List.append_assoc]using HMp.out) PB.out (by have:=HA.out;have:=HS1.out.1.length_eq;simp at this ⊢;omega) (by have:=HA.out;have:=HS1.out.1.length_eq;simp at this ⊢;omega) (by have:=HA.out;have:=HS1.out.1.length_eq;simp at this ⊢;omega) (by have:=HA.out;simp;omega) (by have:=HA.out;simp;omega);go_wp2_with fail
        all_goals
         refine HC2.mono ?_;rintro e wz ⟨⟨vz,rfl⟩,C2,p2,s2,g8,hk2⟩;have HMz:Hid (Mem wz B g n cap bx I ns (P++C1++C2++S)):=g8;have HKz:Hid (Kept (·=g) w wz):=HKp.out.trans hk2 (λ_ _ h=>h) (λ_ _ h=>h);have HS2:Hid (C2.Perm (L.drop (s-a)++R.drop (N-s-m))/\Sorted ns C2):=⟨p2,s2⟩
         clear g8 hk2 p2 s2 HC2;go_wp2_with fail;go_end0;have hh:=bL CR.out HS1.out.1 HS1.out.2 HS2.out.1 HS2.out.2;exact⟨⟨_,rfl⟩,C1++C2,hh.1,hh.2,by simpa only[List.append_assoc]using HMz.out,HKz.out⟩
      ·have S2:Hid (Sorted ns (L.drop (s-a)++R.drop (N-s-m))):=hid (by rw[List.drop_eq_nil_of_le (show R.length<=N-s-m by have:=HA.out;omega),List.append_nil];exact PB.out.sa);by_cases hα:a<s
       ·have HMq:Hid (Mem wr B g n cap bx I ns (P++L.take (s-a)++R.take (N-s-m)++L.drop (s-a)++R.drop (N-s-m)++S)):=hid (by have h:=HM2.out;rw[<-HSAME.out]at h;exact h);have HKq:Hid (Kept (·=g) w wr):=HK2.out;obtain⟨C1,HS1,HMp⟩:∃C1,Hid (C1.Perm (L.take (s-a)++R.take (N-s-m))/\Sorted ns C1)/\Hid (Mem wr B g n cap bx I ns (P++C1++(L.drop (s-a)++R.drop (N-s-m)++S))):=⟨_,⟨List.Perm.refl _,S1.out⟩,hid (by have h:=HMq.out;simpa only[List.append_assoc]using h)⟩
        have HKp:=HKq;obtain⟨C2,HS2,HMz⟩:∃C2,Hid (C2.Perm (L.drop (s-a)++R.drop (N-s-m))/\Sorted ns C2)/\Hid (Mem wr B g n cap bx I ns (P++C1++C2++S)):=⟨_,⟨List.Perm.refl _,S2.out⟩,hid (by have h:=HMp.out;simpa only[List.append_assoc]using h)⟩
        have HKz:=HKp;go_wp2_with fail
        all_goals
         go_end0;have hh:=bL CR.out HS1.out.1 HS1.out.2 HS2.out.1 HS2.out.2;exact⟨⟨_,rfl⟩,C1++C2,hh.1,hh.2,by simpa only[List.append_assoc]using HMz.out,HKz.out⟩
       ·have HMq:Hid (Mem wr B g n cap bx I ns (P++L.take (s-a)++R.take (N-s-m)++L.drop (s-a)++R.drop (N-s-m)++S)):=hid (by have h:=HM2.out;rw[<-HSAME.out]at h;exact h);have HKq:Hid (Kept (·=g) w wr):=HK2.out;obtain⟨C1,HS1,HMp⟩:∃C1,Hid (C1.Perm (L.take (s-a)++R.take (N-s-m))/\Sorted ns C1)/\Hid (Mem wr B g n cap bx I ns (P++C1++(L.drop (s-a)++R.drop (N-s-m)++S))):=⟨_,⟨List.Perm.refl _,S1.out⟩,hid (by have h:=HMq.out;simpa only[List.append_assoc]using h)⟩
        have HKp:=HKq;obtain⟨C2,HS2,HMz⟩:∃C2,Hid (C2.Perm (L.drop (s-a)++R.drop (N-s-m))/\Sorted ns C2)/\Hid (Mem wr B g n cap bx I ns (P++C1++C2++S)):=⟨_,⟨List.Perm.refl _,S2.out⟩,hid (by have h:=HMp.out;simpa only[List.append_assoc]using h)⟩
        have HKz:=HKp;go_wp2_with fail
        all_goals
         go_end0;have hh:=bL CR.out HS1.out.1 HS1.out.2 HS2.out.1 HS2.out.2;exact⟨⟨_,rfl⟩,C1++C2,hh.1,hh.2,by simpa only[List.append_assoc]using HMz.out,HKz.out⟩
     ·have S2:Hid (Sorted ns (L.drop (s-a)++R.drop (N-s-m))):=hid (by rw[List.drop_eq_nil_of_le (show L.length<=s-a by have:=HA.out;omega),List.nil_append];exact PB.out.sb);have jH:¬mid<N-s:=(by omega);by_cases hα:a<s
      ·have HMq:Hid (Mem wr B g n cap bx I ns (P++L.take (s-a)++R.take (N-s-m)++L.drop (s-a)++R.drop (N-s-m)++S)):=hid (by have h:=HM2.out;rw[<-HSAME.out]at h;exact h);have HKq:Hid (Kept (·=g) w wr):=HK2.out;obtain⟨C1,HS1,HMp⟩:∃C1,Hid (C1.Perm (L.take (s-a)++R.take (N-s-m))/\Sorted ns C1)/\Hid (Mem wr B g n cap bx I ns (P++C1++(L.drop (s-a)++R.drop (N-s-m)++S))):=⟨_,⟨List.Perm.refl _,S1.out⟩,hid (by have h:=HMq.out;simpa only[List.append_assoc]using h)⟩
       have HKp:=HKq;obtain⟨C2,HS2,HMz⟩:∃C2,Hid (C2.Perm (L.drop (s-a)++R.drop (N-s-m))/\Sorted ns C2)/\Hid (Mem wr B g n cap bx I ns (P++C1++C2++S)):=⟨_,⟨List.Perm.refl _,S2.out⟩,hid (by have h:=HMp.out;simpa only[List.append_assoc]using h)⟩
       have HKz:=HKp;go_wp2_with fail
       all_goals
        go_end0;have hh:=bL CR.out HS1.out.1 HS1.out.2 HS2.out.1 HS2.out.2;exact⟨⟨_,rfl⟩,C1++C2,hh.1,hh.2,by simpa only[List.append_assoc]using HMz.out,HKz.out⟩
      ·have HMq:Hid (Mem wr B g n cap bx I ns (P++L.take (s-a)++R.take (N-s-m)++L.drop (s-a)++R.drop (N-s-m)++S)):=hid (by have h:=HM2.out;rw[<-HSAME.out]at h;exact h);have HKq:Hid (Kept (·=g) w wr):=HK2.out;obtain⟨C1,HS1,HMp⟩:∃C1,Hid (C1.Perm (L.take (s-a)++R.take (N-s-m))/\Sorted ns C1)/\Hid (Mem wr B g n cap bx I ns (P++C1++(L.drop (s-a)++R.drop (N-s-m)++S))):=⟨_,⟨List.Perm.refl _,S1.out⟩,hid (by have h:=HMq.out;simpa only[List.append_assoc]using h)⟩
       have HKp:=HKq;obtain⟨C2,HS2,HMz⟩:∃C2,Hid (C2.Perm (L.drop (s-a)++R.drop (N-s-m))/\Sorted ns C2)/\Hid (Mem wr B g n cap bx I ns (P++C1++C2++S)):=⟨_,⟨List.Perm.refl _,S2.out⟩,hid (by have h:=HMp.out;simpa only[List.append_assoc]using h)⟩
       have HKz:=HKp;go_wp2_with fail
       all_goals
        go_end0;have hh:=bL CR.out HS1.out.1 HS1.out.2 HS2.out.1 HS2.out.2;exact⟨⟨_,rfl⟩,C1++C2,hh.1,hh.2,by simpa only[List.append_assoc]using HMz.out,HKz.out⟩
 ·have H0:Hid (¬mid<m):=MR;go_wp2_with fail;go_loopg [20,21] (b-a) (λq zi zj wr=>∃(s r:Nat),r-s<=q/\a<=s/\s<=r/\r<=m/\zi=.int .i64 (s:Nat)/\zj=.int .i64 (r:Nat)/\Hid ((s=a\/∃(h1:s-1-a<L.length) (h2:N-s-m<R.length),a<s/\Lt ns L[s-1-a] R[N-s-m])/\(r=m\/∃(h1:N-1-r-m<R.length) (h2:r-a<L.length),Lt ns R[N-1-r-m] L[r-a]))/\Hid (Mem wr B g n cap bx I ns (P++L++R++S))/\Hid (Kept (·=g) w wr))
  case atStart=>exact⟨a,m,by omega,by omega,by omega,by omega,rfl,rfl,⟨.inl rfl,.inl rfl⟩,HM.out,Kept.refl _ w⟩
  case round=>
   obtain⟨s,r,hq,Is,hsr,rk,rfl,rfl,HF,HM2,HK2⟩:=hrel;clear HM;by_cases hlt:s<r
   ·obtain⟨c,hc⟩:∃c,c=(s+r) / 2:=⟨_,rfl⟩
    have OE:s<=c/\c<r:=(by omega);have Ou:((s:Int)+(r:Int)) / 2=(c:Int):=(by omega);have hp:((N:Int)-1-(c:Int))=((N-1-c:Nat):Int):=(by omega);have Lx:N-1-c<n/\c<n:=(by omega);have iL:c-a<L.length:=(by have:=HA.out;omega);have iR:N-1-c-m<R.length:=(by have:=HA.out;omega);obtain⟨x,hx⟩:∃x,x=L[c-a]:=⟨_,rfl⟩
    obtain⟨y,hy⟩:∃y,y=R[N-1-c-m]:=⟨_,rfl⟩
    have cx:wr.cell? ⟨g,c,none⟩=some (.int .i64 (x:Int)):=(by have hc:=HM2.out.at c (by have:=HA.out;simp;omega);rw[hc];congr 3;rw[List.getElem_append_left (by have:=HA.out;simp;omega),List.getElem_append_left (by have:=HA.out;simp;omega),List.getElem_append_right (by have:=HA.out;omega)];rw[hx];congr 1;have:=HA.out;omega);have cy:wr.cell? ⟨g,N-1-c,none⟩=some (.int .i64 (y:Int)):=(by have hc:=HM2.out.at (N-1-c) (by have:=HA.out;simp;omega);rw[hc];congr 3;rw[List.getElem_append_left (by have:=HA.out;simp;omega),List.getElem_append_right (by have:=HA.out;simp;omega)];rw[hy];congr 1;have:=HA.out;simp;omega);have yq:x∈L:=(by rw[hx];exact List.getElem_mem _);have yr:y∈R:=(by rw[hy];exact List.getElem_mem _);have tj:x<y:=HP.out.ahead x yq y yr;have HL:=mJ wr bx I ns HM2.out.cmp HM2.out.hns y x (HP.out.mb y yr) (HP.out.ma x yq);have HX:Hid (x=L[c-a]):=hx;have HY:Hid (y=R[N-1-c-m]):=hy;clear hc hx hy yq yr IH;by_cases hk:key ns y<key ns x
    ·have pa:=qE hk;have HLT:Hid (Lt ns y x):=(Lt.iff_of_gt tj).2 hk;generalize rX (key ns y) (key ns x)=cz at HL pa;clear hk;go_wp2_with fail;go_quiet ((go_at_call 174;exact Calls.quiet_of (HL _)));go_wp2_with fail;go_roundg (gk-1)
     case measure=>omega
     case rel=>
      refine⟨s,c,by omega,by omega,by omega,by omega,rfl,rfl,⟨HF.out.1,.inr ⟨iR,iL,?_⟩⟩,HM2.out.drewN _,HK2.out.drewN _⟩;have h:=HLT.out;rw[HX.out,HY.out]at h;exact h
    ·have pa:=pR hk;have HLT:Hid (Lt ns x y):=Lt.of_not tj hk;generalize rX (key ns y) (key ns x)=cz at HL pa;clear hk;go_wp2_with fail;go_quiet ((go_at_call 174;exact Calls.quiet_of (HL _)));go_wp2_with fail;go_roundg (gk-1)
     case measure=>omega
     case rel=>
      refine⟨c+1,r,by omega,by omega,by omega,by omega,by go_num,rfl,⟨.inr ⟨by simpa using iL,by simpa[show N-(c+1)-m=N-1-c-m by omega]using iR,by omega,?_⟩,HF.out.2⟩,HM2.out.drewN _,HK2.out.drewN _⟩;have h:=HLT.out;rw[HX.out,HY.out]at h;simpa[show N-(c+1)-m=N-1-c-m by omega]using h
   ·have LV:s=r:=(by omega);subst LV;have CR:Hid (AllLt ns (L.take (s-a)++R.take (N-s-m)) (L.drop (s-a)++R.drop (N-s-m))):=by
     refine i8 (s-a) (N-s-m) HP.out.sa HP.out.sb ?_ ?_
     ·rcases HF.out.1 with h | ⟨h1,h2,h3,h4⟩
      ·left;omega
      ·right;right;exact⟨⟨by omega,by omega,h2⟩,by simpa[show s-a-1=s-1-a by omega]using h4⟩
     ·rcases HF.out.2 with h | ⟨h1,h2,h3⟩
      ·right;left;have:=HA.out;omega
      ·by_cases h5:N-s-m=0
       ·left;exact h5
       ·right;right;exact⟨⟨by omega,by have:=HA.out;omega,h2⟩,by simpa[show N-s-m-1=N-1-s-m by omega]using h3⟩
    have Hk:((N:Int)-(s:Int))=((N-s:Nat):Int):=(by omega);have PA:Hid (Parts ns (L.take (s-a)) (R.take (N-s-m))):=hid (HP.out.cut (λx h=>List.mem_of_mem_take h) (λx h=>List.mem_of_mem_take h) (List.Pairwise.sublist (List.take_sublist _ _) HP.out.sa) (List.Pairwise.sublist (List.take_sublist _ _) HP.out.sb));have PB:Hid (Parts ns (L.drop (s-a)) (R.drop (N-s-m))):=hid (HP.out.cut (λx h=>List.mem_of_mem_drop h) (λx h=>List.mem_of_mem_drop h) (List.Pairwise.sublist (List.drop_sublist _ _) HP.out.sa) (List.Pairwise.sublist (List.drop_sublist _ _) HP.out.sb));by_cases hβ:s<mid
    ·by_cases hγ:s<m
     ·have HROT:=pQ wr B g n cap s m (N-s) (oP bx) (P++L.take (s-a)) (L.drop (s-a)) (R.take (N-s-m)) (R.drop (N-s-m)++S) (by have:=HA.out;simp;omega) (by have:=HA.out;simp;omega) (by have h:=HM2.out.row;rw[Ac P L R S (s-a) (N-s-m)]at h;exact h) (by have:=HA.out;simp;omega) (by have:=HA.out;simp;omega) (by have:=HA.out;simp;omega) hn;by_cases hα:a<s
      ·by_cases hδ:N-s<b
       ·go_wp2_with fail
        all_goals
         refine HROT.mono ?_;rintro e wq ⟨⟨vq,rfl⟩,hrq,hkq⟩;have HMq:Hid (Mem wq B g n cap bx I ns (P++L.take (s-a)++R.take (N-s-m)++L.drop (s-a)++R.drop (N-s-m)++S)):=hid ((HM2.out.to (d':=P++L.take (s-a)++R.take (N-s-m)++L.drop (s-a)++R.drop (N-s-m)++S) (by simpa only[List.append_assoc]using hrq) hkq));have HKq:Hid (Kept (·=g) w wq):=HK2.out.trans hkq (λ_ _ h=>h) (λ_ _ h=>h);clear hrq hkq HROT;have HC1:=IH.out (mid-a) (by omega) wq a s mid P (L.take (s-a)) (R.take (N-s-m)) (L.drop (s-a)++R.drop (N-s-m)++S) (by omega) (by simpa only[List.append_assoc]using HMq.out) PA.out (by have:=HA.out;omega) (by have:=HA.out;simp;omega) (by have:=HA.out;simp;omega) (by have:=HA.out;simp;omega) (by have:=HA.out;simp;omega);go_wp2_with fail;refine HC1.mono ?_;rintro e wp ⟨⟨vp,rfl⟩,C1,p1,s1,hm1,hk1⟩;have HMp:Hid (Mem wp B g n cap bx I ns (P++C1++(L.drop (s-a)++R.drop (N-s-m)++S))):=hm1;have HKp:Hid (Kept (·=g) w wp):=HKq.out.trans hk1 (λ_ _ h=>h) (λ_ _ h=>h);have HS1:Hid (C1.Perm (L.take (s-a)++R.take (N-s-m))/\Sorted ns C1):=⟨p1,s1⟩
         clear hm1 hk1 p1 s1 HC1;have HC2:=IH.out (b-mid) (by omega) wp mid (N-s) b (P++C1) (L.drop (s-a)) (R.drop (N-s-m)) S (by omega) (by simpa only[List.append_assoc]using HMp.out) PB.out (by have:=HA.out;have:=HS1.out.1.length_eq;simp at this ⊢;omega) (by have:=HA.out;have:=HS1.out.1.length_eq;simp at this ⊢;omega) (by have:=HA.out;have:=HS1.out.1.length_eq;simp at this ⊢;omega) (by have:=HA.out;simp;omega) (by have:=HA.out;simp;omega);go_wp2_with fail;refine HC2.mono ?_;rintro e wz ⟨⟨vz,rfl⟩,C2,p2,s2,g8,hk2⟩;have HMz:Hid (Mem wz B g n cap bx I ns (P++C1++C2++S)):=g8;have HKz:Hid (Kept (·=g) w wz):=HKp.out.trans hk2 (λ_ _ h=>h) (λ_ _ h=>h);have HS2:Hid (C2.Perm (L.drop (s-a)++R.drop (N-s-m))/\Sorted ns C2):=⟨p2,s2⟩
         clear g8 hk2 p2 s2 HC2;go_wp2_with fail;go_end0;have hh:=bL CR.out HS1.out.1 HS1.out.2 HS2.out.1 HS2.out.2;exact⟨⟨_,rfl⟩,C1++C2,hh.1,hh.2,by simpa only[List.append_assoc]using HMz.out,HKz.out⟩
       ·have S2:Hid (Sorted ns (L.drop (s-a)++R.drop (N-s-m))):=hid (by rw[List.drop_eq_nil_of_le (show R.length<=N-s-m by have:=HA.out;omega),List.append_nil];exact PB.out.sa);go_wp2_with fail
        all_goals
         refine HROT.mono ?_;rintro e wq ⟨⟨vq,rfl⟩,hrq,hkq⟩;have HMq:Hid (Mem wq B g n cap bx I ns (P++L.take (s-a)++R.take (N-s-m)++L.drop (s-a)++R.drop (N-s-m)++S)):=hid ((HM2.out.to (d':=P++L.take (s-a)++R.take (N-s-m)++L.drop (s-a)++R.drop (N-s-m)++S) (by simpa only[List.append_assoc]using hrq) hkq));have HKq:Hid (Kept (·=g) w wq):=HK2.out.trans hkq (λ_ _ h=>h) (λ_ _ h=>h);clear hrq hkq HROT;have HC1:=IH.out (mid-a) (by omega) wq a s mid P (L.take (s-a)) (R.take (N-s-m)) (L.drop (s-a)++R.drop (N-s-m)++S) (by omega) (by simpa only[List.append_assoc]using HMq.out) PA.out (by have:=HA.out;omega) (by have:=HA.out;simp;omega) (by have:=HA.out;simp;omega) (by have:=HA.out;simp;omega) (by have:=HA.out;simp;omega);go_wp2_with fail;refine HC1.mono ?_;rintro e wp ⟨⟨vp,rfl⟩,C1,p1,s1,hm1,hk1⟩;have HMp:Hid (Mem wp B g n cap bx I ns (P++C1++(L.drop (s-a)++R.drop (N-s-m)++S))):=hm1;have HKp:Hid (Kept (·=g) w wp):=HKq.out.trans hk1 (λ_ _ h=>h) (λ_ _ h=>h);have HS1:Hid (C1.Perm (L.take (s-a)++R.take (N-s-m))/\Sorted ns C1):=⟨p1,s1⟩
         clear hm1 hk1 p1 s1 HC1;obtain⟨C2,HS2,HMz⟩:∃C2,Hid (C2.Perm (L.drop (s-a)++R.drop (N-s-m))/\Sorted ns C2)/\Hid (Mem wp B g n cap bx I ns (P++C1++C2++S)):=⟨_,⟨List.Perm.refl _,S2.out⟩,hid (by have h:=HMp.out;simpa only[List.append_assoc]using h)⟩
         have HKz:=HKp;go_wp2_with fail;go_end0;have hh:=bL CR.out HS1.out.1 HS1.out.2 HS2.out.1 HS2.out.2;exact⟨⟨_,rfl⟩,C1++C2,hh.1,hh.2,by simpa only[List.append_assoc]using HMz.out,HKz.out⟩
      ·have S1:Hid (Sorted ns (L.take (s-a)++R.take (N-s-m))):=hid (by rw[show s-a=0 by omega,List.take_zero,List.nil_append];exact PA.out.sb);by_cases hδ:N-s<b
       ·go_wp2_with fail
        all_goals
         refine HROT.mono ?_;rintro e wq ⟨⟨vq,rfl⟩,hrq,hkq⟩;have HMq:Hid (Mem wq B g n cap bx I ns (P++L.take (s-a)++R.take (N-s-m)++L.drop (s-a)++R.drop (N-s-m)++S)):=hid ((HM2.out.to (d':=P++L.take (s-a)++R.take (N-s-m)++L.drop (s-a)++R.drop (N-s-m)++S) (by simpa only[List.append_assoc]using hrq) hkq));have HKq:Hid (Kept (·=g) w wq):=HK2.out.trans hkq (λ_ _ h=>h) (λ_ _ h=>h);clear hrq hkq HROT;obtain⟨C1,HS1,HMp⟩:∃C1,Hid (C1.Perm (L.take (s-a)++R.take (N-s-m))/\Sorted ns C1)/\Hid (Mem wq B g n cap bx I ns (P++C1++(L.drop (s-a)++R.drop (N-s-m)++S))):=⟨_,⟨List.Perm.refl _,S1.out⟩,hid (by have h:=HMq.out;simpa only[List.append_assoc]using h)⟩
         have HKp:=HKq;have HC2:=IH.out (b-mid) (by omega) wq mid (N-s) b (P++C1) (L.drop (s-a)) (R.drop (N-s-m)) S (by omega) (by simpa only[List.append_assoc]using HMp.out) PB.out (by have:=HA.out;have:=HS1.out.1.length_eq;simp at this ⊢;omega) (by have:=HA.out;have:=HS1.out.1.length_eq;simp at this ⊢;omega) (by have:=HA.out;have:=HS1.out.1.length_eq;simp at this ⊢;omega) (by have:=HA.out;simp;omega) (by have:=HA.out;simp;omega);go_wp2_with fail;refine HC2.mono ?_;rintro e wz ⟨⟨vz,rfl⟩,C2,p2,s2,g8,hk2⟩;have HMz:Hid (Mem wz B g n cap bx I ns (P++C1++C2++S)):=g8;have HKz:Hid (Kept (·=g) w wz):=HKp.out.trans hk2 (λ_ _ h=>h) (λ_ _ h=>h);have HS2:Hid (C2.Perm (L.drop (s-a)++R.drop (N-s-m))/\Sorted ns C2):=⟨p2,s2⟩
         clear g8 hk2 p2 s2 HC2;go_wp2_with fail;go_end0;have hh:=bL CR.out HS1.out.1 HS1.out.2 HS2.out.1 HS2.out.2;exact⟨⟨_,rfl⟩,C1++C2,hh.1,hh.2,by simpa only[List.append_assoc]using HMz.out,HKz.out⟩
       ·have S2:Hid (Sorted ns (L.drop (s-a)++R.drop (N-s-m))):=hid (by rw[List.drop_eq_nil_of_le (show R.length<=N-s-m by have:=HA.out;omega),List.append_nil];exact PB.out.sa);go_wp2_with fail
        all_goals
         refine HROT.mono ?_;rintro e wq ⟨⟨vq,rfl⟩,hrq,hkq⟩;have HMq:Hid (Mem wq B g n cap bx I ns (P++L.take (s-a)++R.take (N-s-m)++L.drop (s-a)++R.drop (N-s-m)++S)):=hid ((HM2.out.to (d':=P++L.take (s-a)++R.take (N-s-m)++L.drop (s-a)++R.drop (N-s-m)++S) (by simpa only[List.append_assoc]using hrq) hkq));have HKq:Hid (Kept (·=g) w wq):=HK2.out.trans hkq (λ_ _ h=>h) (λ_ _ h=>h);clear hrq hkq HROT;obtain⟨C1,HS1,HMp⟩:∃C1,Hid (C1.Perm (L.take (s-a)++R.take (N-s-m))/\Sorted ns C1)/\Hid (Mem wq B g n cap bx I ns (P++C1++(L.drop (s-a)++R.drop (N-s-m)++S))):=⟨_,⟨List.Perm.refl _,S1.out⟩,hid (by have h:=HMq.out;simpa only[List.append_assoc]using h)⟩
         have HKp:=HKq;obtain⟨C2,HS2,HMz⟩:∃C2,Hid (C2.Perm (L.drop (s-a)++R.drop (N-s-m))/\Sorted ns C2)/\Hid (Mem wq B g n cap bx I ns (P++C1++C2++S)):=⟨_,⟨List.Perm.refl _,S2.out⟩,hid (by have h:=HMp.out;simpa only[List.append_assoc]using h)⟩
         have HKz:=HKp;go_wp2_with fail;go_end0;have hh:=bL CR.out HS1.out.1 HS1.out.2 HS2.out.1 HS2.out.2;exact⟨⟨_,rfl⟩,C1++C2,hh.1,hh.2,by simpa only[List.append_assoc]using HMz.out,HKz.out⟩
     ·have eL:L.drop (s-a)=[]:=List.drop_eq_nil_of_le (by have:=HA.out;omega);have HSAME:Hid (P++L.take (s-a)++R.take (N-s-m)++L.drop (s-a)++R.drop (N-s-m)++S=P++L++R++S):=hid (AY (.inl eL));have S2:Hid (Sorted ns (L.drop (s-a)++R.drop (N-s-m))):=hid (by rw[eL,List.nil_append];exact PB.out.sb);clear eL;have jH:¬mid<N-s:=(by omega);by_cases hα:a<s
      ·have HMq:Hid (Mem wr B g n cap bx I ns (P++L.take (s-a)++R.take (N-s-m)++L.drop (s-a)++R.drop (N-s-m)++S)):=hid (by have h:=HM2.out;rw[<-HSAME.out]at h;exact h);have HKq:Hid (Kept (·=g) w wr):=HK2.out;have HC1:=IH.out (mid-a) (by omega) wr a s mid P (L.take (s-a)) (R.take (N-s-m)) (L.drop (s-a)++R.drop (N-s-m)++S) (by omega) (by simpa only[List.append_assoc]using HMq.out) PA.out (by have:=HA.out;omega) (by have:=HA.out;simp;omega) (by have:=HA.out;simp;omega) (by have:=HA.out;simp;omega) (by have:=HA.out;simp;omega);go_wp2_with fail
       all_goals
        refine HC1.mono ?_;rintro e wp ⟨⟨vp,rfl⟩,C1,p1,s1,hm1,hk1⟩;have HMp:Hid (Mem wp B g n cap bx I ns (P++C1++(L.drop (s-a)++R.drop (N-s-m)++S))):=hm1;have HKp:Hid (Kept (·=g) w wp):=HKq.out.trans hk1 (λ_ _ h=>h) (λ_ _ h=>h);have HS1:Hid (C1.Perm (L.take (s-a)++R.take (N-s-m))/\Sorted ns C1):=⟨p1,s1⟩
        clear hm1 hk1 p1 s1 HC1;obtain⟨C2,HS2,HMz⟩:∃C2,Hid (C2.Perm (L.drop (s-a)++R.drop (N-s-m))/\Sorted ns C2)/\Hid (Mem wp B g n cap bx I ns (P++C1++C2++S)):=⟨_,⟨List.Perm.refl _,S2.out⟩,hid (by have h:=HMp.out;simpa only[List.append_assoc]using h)⟩
        have HKz:=HKp;go_wp2_with fail;go_end0;have hh:=bL CR.out HS1.out.1 HS1.out.2 HS2.out.1 HS2.out.2;exact⟨⟨_,rfl⟩,C1++C2,hh.1,hh.2,by simpa only[List.append_assoc]using HMz.out,HKz.out⟩
      ·have S1:Hid (Sorted ns (L.take (s-a)++R.take (N-s-m))):=hid (by rw[show s-a=0 by omega,List.take_zero,List.nil_append];exact PA.out.sb);have HMq:Hid (Mem wr B g n cap bx I ns (P++L.take (s-a)++R.take (N-s-m)++L.drop (s-a)++R.drop (N-s-m)++S)):=hid (by have h:=HM2.out;rw[<-HSAME.out]at h;exact h);have HKq:Hid (Kept (·=g) w wr):=HK2.out;obtain⟨C1,HS1,HMp⟩:∃C1,Hid (C1.Perm (L.take (s-a)++R.take (N-s-m))/\Sorted ns C1)/\Hid (Mem wr B g n cap bx I ns (P++C1++(L.drop (s-a)++R.drop (N-s-m)++S))):=⟨_,⟨List.Perm.refl _,S1.out⟩,hid (by have h:=HMq.out;simpa only[List.append_assoc]using h)⟩
       have HKp:=HKq;obtain⟨C2,HS2,HMz⟩:∃C2,Hid (C2.Perm (L.drop (s-a)++R.drop (N-s-m))/\Sorted ns C2)/\Hid (Mem wr B g n cap bx I ns (P++C1++C2++S)):=⟨_,⟨List.Perm.refl _,S2.out⟩,hid (by have h:=HMp.out;simpa only[List.append_assoc]using h)⟩
       have HKz:=HKp;go_wp2_with fail
       all_goals
        go_end0;have hh:=bL CR.out HS1.out.1 HS1.out.2 HS2.out.1 HS2.out.2;exact⟨⟨_,rfl⟩,C1++C2,hh.1,hh.2,by simpa only[List.append_assoc]using HMz.out,HKz.out⟩
    ·have eR:R.take (N-s-m)=[]:=(by rw[show N-s-m=0 by omega];rfl);have HSAME:Hid (P++L.take (s-a)++R.take (N-s-m)++L.drop (s-a)++R.drop (N-s-m)++S=P++L++R++S):=hid (AY (.inr eR));have S1:Hid (Sorted ns (L.take (s-a)++R.take (N-s-m))):=hid (by rw[eR,List.append_nil];exact PA.out.sa);clear eR;have rM:¬m<N-s:=(by omega);by_cases h3:s<m
     ·by_cases hδ:N-s<b
      ·by_cases hα:a<s
       ·have HMq:Hid (Mem wr B g n cap bx I ns (P++L.take (s-a)++R.take (N-s-m)++L.drop (s-a)++R.drop (N-s-m)++S)):=hid (by have h:=HM2.out;rw[<-HSAME.out]at h;exact h);have HKq:Hid (Kept (·=g) w wr):=HK2.out;obtain⟨C1,HS1,HMp⟩:∃C1,Hid (C1.Perm (L.take (s-a)++R.take (N-s-m))/\Sorted ns C1)/\Hid (Mem wr B g n cap bx I ns (P++C1++(L.drop (s-a)++R.drop (N-s-m)++S))):=⟨_,⟨List.Perm.refl _,S1.out⟩,hid (by have h:=HMq.out;simpa only[List.append_assoc]using h)⟩
        have HKp:=HKq;have HC2:=IH.out (b-mid) (by omega) wr mid (N-s) b (P++C1) (L.drop (s-a)) (R.drop (N-s-m)) S (by omega) (by simpa only[List.append_assoc]using HMp.out) PB.out (by have:=HA.out;have:=HS1.out.1.length_eq;simp at this ⊢;omega) (by have:=HA.out;have:=HS1.out.1.length_eq;simp at this ⊢;omega) (by have:=HA.out;have:=HS1.out.1.length_eq;simp at this ⊢;omega) (by have:=HA.out;simp;omega) (by have:=HA.out;simp;omega);go_wp2_with fail
        all_goals
         refine HC2.mono ?_;rintro e wz ⟨⟨vz,rfl⟩,C2,p2,s2,g8,hk2⟩;have HMz:Hid (Mem wz B g n cap bx I ns (P++C1++C2++S)):=g8;have HKz:Hid (Kept (·=g) w wz):=HKp.out.trans hk2 (λ_ _ h=>h) (λ_ _ h=>h);have HS2:Hid (C2.Perm (L.drop (s-a)++R.drop (N-s-m))/\Sorted ns C2):=⟨p2,s2⟩
         clear g8 hk2 p2 s2 HC2;go_wp2_with fail;go_end0;have hh:=bL CR.out HS1.out.1 HS1.out.2 HS2.out.1 HS2.out.2;exact⟨⟨_,rfl⟩,C1++C2,hh.1,hh.2,by simpa only[List.append_assoc]using HMz.out,HKz.out⟩
       ·have HMq:Hid (Mem wr B g n cap bx I ns (P++L.take (s-a)++R.take (N-s-m)++L.drop (s-a)++R.drop (N-s-m)++S)):=hid (by have h:=HM2.out;rw[<-HSAME.out]at h;exact h);have HKq:Hid (Kept (·=g) w wr):=HK2.out;obtain⟨C1,HS1,HMp⟩:∃C1,Hid (C1.Perm (L.take (s-a)++R.take (N-s-m))/\Sorted ns C1)/\Hid (Mem wr B g n cap bx I ns (P++C1++(L.drop (s-a)++R.drop (N-s-m)++S))):=⟨_,⟨List.Perm.refl _,S1.out⟩,hid (by have h:=HMq.out;simpa only[List.append_assoc]using h)⟩
        have HKp:=HKq;have HC2:=IH.out (b-mid) (by omega) wr mid (N-s) b (P++C1) (L.drop (s-a)) (R.drop (N-s-m)) S (by omega) (by simpa only[List.append_assoc]using HMp.out) PB.out (by have:=HA.out;have:=HS1.out.1.length_eq;simp at this ⊢;omega) (by have:=HA.out;have:=HS1.out.1.length_eq;simp at this ⊢;omega) (by have:=HA.out;have:=HS1.out.1.length_eq;simp at this ⊢;omega) (by have:=HA.out;simp;omega) (by have:=HA.out;simp;omega);go_wp2_with fail
        all_goals
         refine HC2.mono ?_;rintro e wz ⟨⟨vz,rfl⟩,C2,p2,s2,g8,hk2⟩;have HMz:Hid (Mem wz B g n cap bx I ns (P++C1++C2++S)):=g8;have HKz:Hid (Kept (·=g) w wz):=HKp.out.trans hk2 (λ_ _ h=>h) (λ_ _ h=>h);have HS2:Hid (C2.Perm (L.drop (s-a)++R.drop (N-s-m))/\Sorted ns C2):=⟨p2,s2⟩
         clear g8 hk2 p2 s2 HC2;go_wp2_with fail;go_end0;have hh:=bL CR.out HS1.out.1 HS1.out.2 HS2.out.1 HS2.out.2;exact⟨⟨_,rfl⟩,C1++C2,hh.1,hh.2,by simpa only[List.append_assoc]using HMz.out,HKz.out⟩
      ·have S2:Hid (Sorted ns (L.drop (s-a)++R.drop (N-s-m))):=hid (by rw[List.drop_eq_nil_of_le (show R.length<=N-s-m by have:=HA.out;omega),List.append_nil];exact PB.out.sa);by_cases hα:a<s
       ·have HMq:Hid (Mem wr B g n cap bx I ns (P++L.take (s-a)++R.take (N-s-m)++L.drop (s-a)++R.drop (N-s-m)++S)):=hid (by have h:=HM2.out;rw[<-HSAME.out]at h;exact h);have HKq:Hid (Kept (·=g) w wr):=HK2.out;obtain⟨C1,HS1,HMp⟩:∃C1,Hid (C1.Perm (L.take (s-a)++R.take (N-s-m))/\Sorted ns C1)/\Hid (Mem wr B g n cap bx I ns (P++C1++(L.drop (s-a)++R.drop (N-s-m)++S))):=⟨_,⟨List.Perm.refl _,S1.out⟩,hid (by have h:=HMq.out;simpa only[List.append_assoc]using h)⟩
        have HKp:=HKq;obtain⟨C2,HS2,HMz⟩:∃C2,Hid (C2.Perm (L.drop (s-a)++R.drop (N-s-m))/\Sorted ns C2)/\Hid (Mem wr B g n cap bx I ns (P++C1++C2++S)):=⟨_,⟨List.Perm.refl _,S2.out⟩,hid (by have h:=HMp.out;simpa only[List.append_assoc]using h)⟩
        have HKz:=HKp;go_wp2_with fail
        all_goals
         go_end0;have hh:=bL CR.out HS1.out.1 HS1.out.2 HS2.out.1 HS2.out.2;exact⟨⟨_,rfl⟩,C1++C2,hh.1,hh.2,by simpa only[List.append_assoc]using HMz.out,HKz.out⟩
       ·have HMq:Hid (Mem wr B g n cap bx I ns (P++L.take (s-a)++R.take (N-s-m)++L.drop (s-a)++R.drop (N-s-m)++S)):=hid (by have h:=HM2.out;rw[<-HSAME.out]at h;exact h);have HKq:Hid (Kept (·=g) w wr):=HK2.out;obtain⟨C1,HS1,HMp⟩:∃C1,Hid (C1.Perm (L.take (s-a)++R.take (N-s-m))/\Sorted ns C1)/\Hid (Mem wr B g n cap bx I ns (P++C1++(L.drop (s-a)++R.drop (N-s-m)++S))):=⟨_,⟨List.Perm.refl _,S1.out⟩,hid (by have h:=HMq.out;simpa only[List.append_assoc]using h)⟩
        have HKp:=HKq;obtain⟨C2,HS2,HMz⟩:∃C2,Hid (C2.Perm (L.drop (s-a)++R.drop (N-s-m))/\Sorted ns C2)/\Hid (Mem wr B g n cap bx I ns (P++C1++C2++S)):=⟨_,⟨List.Perm.refl _,S2.out⟩,hid (by have h:=HMp.out;simpa only[List.append_assoc]using h)⟩
        have HKz:=HKp;go_wp2_with fail
        all_goals
         go_end0;have hh:=bL CR.out HS1.out.1 HS1.out.2 HS2.out.1 HS2.out.2;exact⟨⟨_,rfl⟩,C1++C2,hh.1,hh.2,by simpa only[List.append_assoc]using HMz.out,HKz.out⟩
     ·have S2:Hid (Sorted ns (L.drop (s-a)++R.drop (N-s-m))):=hid (by rw[List.drop_eq_nil_of_le (show L.length<=s-a by have:=HA.out;omega),List.nil_append];exact PB.out.sb);have jH:¬mid<N-s:=(by omega);by_cases hα:a<s
      ·have HMq:Hid (Mem wr B g n cap bx I ns (P++L.take (s-a)++R.take (N-s-m)++L.drop (s-a)++R.drop (N-s-m)++S)):=hid (by have h:=HM2.out;rw[<-HSAME.out]at h;exact h);have HKq:Hid (Kept (·=g) w wr):=HK2.out;obtain⟨C1,HS1,HMp⟩:∃C1,Hid (C1.Perm (L.take (s-a)++R.take (N-s-m))/\Sorted ns C1)/\Hid (Mem wr B g n cap bx I ns (P++C1++(L.drop (s-a)++R.drop (N-s-m)++S))):=⟨_,⟨List.Perm.refl _,S1.out⟩,hid (by have h:=HMq.out;simpa only[List.append_assoc]using h)⟩
       have HKp:=HKq;obtain⟨C2,HS2,HMz⟩:∃C2,Hid (C2.Perm (L.drop (s-a)++R.drop (N-s-m))/\Sorted ns C2)/\Hid (Mem wr B g n cap bx I ns (P++C1++C2++S)):=⟨_,⟨List.Perm.refl _,S2.out⟩,hid (by have h:=HMp.out;simpa only[List.append_assoc]using h)⟩
       have HKz:=HKp;go_wp2_with fail
       all_goals
        go_end0;have hh:=bL CR.out HS1.out.1 HS1.out.2 HS2.out.1 HS2.out.2;exact⟨⟨_,rfl⟩,C1++C2,hh.1,hh.2,by simpa only[List.append_assoc]using HMz.out,HKz.out⟩
      ·have HMq:Hid (Mem wr B g n cap bx I ns (P++L.take (s-a)++R.take (N-s-m)++L.drop (s-a)++R.drop (N-s-m)++S)):=hid (by have h:=HM2.out;rw[<-HSAME.out]at h;exact h);have HKq:Hid (Kept (·=g) w wr):=HK2.out;obtain⟨C1,HS1,HMp⟩:∃C1,Hid (C1.Perm (L.take (s-a)++R.take (N-s-m))/\Sorted ns C1)/\Hid (Mem wr B g n cap bx I ns (P++C1++(L.drop (s-a)++R.drop (N-s-m)++S))):=⟨_,⟨List.Perm.refl _,S1.out⟩,hid (by have h:=HMq.out;simpa only[List.append_assoc]using h)⟩
       have HKp:=HKq;obtain⟨C2,HS2,HMz⟩:∃C2,Hid (C2.Perm (L.drop (s-a)++R.drop (N-s-m))/\Sorted ns C2)/\Hid (Mem wr B g n cap bx I ns (P++C1++C2++S)):=⟨_,⟨List.Perm.refl _,S2.out⟩,hid (by have h:=HMp.out;simpa only[List.append_assoc]using h)⟩
       have HKz:=HKp;go_wp2_with fail
       all_goals
        go_end0;have hh:=bL CR.out HS1.out.1 HS1.out.2 HS2.out.1 HS2.out.2;exact⟨⟨_,rfl⟩,C1++C2,hh.1,hh.2,by simpa only[List.append_assoc]using HMz.out,HKz.out⟩
theorem Bd(k B g n cap bx:Nat)(I:Nat→Prop)(ns:List Nat):∀(w:World) (a m b:Nat) (P L R S:List Nat),b-a≤k→Mem w B g n cap bx I ns (P++L++R++S)→Parts ns L R→a=P.length→m=P.length+L.length→b=P.length+L.length+R.length→0<L.length→0<R.length →
   Calls Tryz.prog 198 #[.slice (some ⟨g,0,none⟩) n cap,.int .i64 (a:Nat),.int .i64 (m:Nat),.int .i64 (b:Nat),oP bx] w λe w'=>(∃v,e=.returned v)/\nN w w' B g n cap bx I ns P L R S:=by
 induction k using Nat.strongRecOn with
 | ind k ih=>
  intro w a m b P L R S hk hM hP ha hm hb hL hR;by_cases h1:L.length=1
  ·obtain⟨x,rfl⟩:=List.length_eq_one_iff.1 h1;exact IX w B g n cap bx a m b I ns P R S x hM hP ha hm hb
  ·by_cases h2:R.length=1
   ·obtain⟨y,rfl⟩:=List.length_eq_one_iff.1 h2;exact EW w B g n cap bx a m b I ns P L S y hM hP ha hm hb (by omega)
   ·exact GA k B g n cap bx I ns ih w a m b P L R S hk hM hP ha hm hb (by omega) (by omega)
inductive Blocks(ns:List Nat)(k:Nat):List Nat->Prop
 | last (l:List Nat) (h:l.length<=k) (s:Sorted ns l):Blocks ns k l
 | cons (e r:List Nat) (h:e.length=k) (s:Sorted ns e) (a:Ahead e r) (b:Blocks ns k r):Blocks ns k (e++r)
theorem Blocks.split{ns l:List Nat}{k:Nat}(h:Blocks ns k l)(hl:k<=l.length):∃e r,l=e++r/\e.length=k/\Sorted ns e/\Ahead e r/\Blocks ns k r:=by
 cases h with
 | last _ h s=>exact⟨l,[],by simp,by omega,s,by intro x _ y hy;simp at hy,.last [] (by simp) List.Pairwise.nil⟩
 | cons e r h s a b=>exact⟨e,r,rfl,h,s,a,b⟩
theorem Blocks.short{ns l:List Nat}{k:Nat}(h:Blocks ns k l)(hl:l.length<=k):Sorted ns l:=by
 cases h with
 | last _ h s=>exact s
 | cons e r h s a b=>
  have:r=[]:=List.eq_nil_of_length_eq_zero (by simp at hl;omega);subst this;simpa using s
def Goes(ns:List Nat)(k:Nat)(d D rest:List Nat):Prop:=(D++rest).Perm d/\∀r:List Nat,r.Perm rest->Blocks ns k r->Blocks ns k (D++r)
theorem Goes.start(ns:List Nat)(k:Nat)(d:List Nat):Goes ns k d [] d:=⟨by simp,λr _ h=>by simpa using h⟩
theorem Goes.step{ns d D r C:List Nat}{k:Nat}(e:List Nat)(h:Goes ns k d D (e++r))(hC:C.Perm e)(hl:e.length=k)(hs:Sorted ns C)(ha:Ahead e r):Goes ns k d (D++C) r:=by
 refine⟨?_,λr' hr hb=>?_⟩
 ·refine List.Perm.trans ?_ h.1;rw[List.append_assoc];exact List.Perm.append_left _ (hC.append_right r)
 ·rw[List.append_assoc];exact h.2 (C++r') (hC.append hr) (.cons C r' (by rw[hC.length_eq,hl]) hs (ha.perm hC hr) hb)
theorem Goes.finish{ns d D r r':List Nat}{k:Nat}(h:Goes ns k d D r)(hp:r'.Perm r)(hb:Blocks ns k r'):(D++r').Perm d/\Blocks ns k (D++r'):=
 ⟨(List.Perm.append_left D hp).trans h.1,h.2 r' hp hb⟩
theorem zZ(w:World)(B g n cap bx:Nat)(I:Nat→Prop)(ns d:List Nat)(hM:Mem w B g n cap bx I ns d)(hd:d.Pairwise (· < ·))(hm:∀x∈d,x<ns.length):
  Calls Tryz.prog 191 #[.slice (some ⟨g,0,none⟩) n cap,.int .i64 (n:Nat),oP bx] w λe w'=>(∃v,e=.returned v)/\∃d',d'.Perm d/\Sorted ns d'/\Mem w' B g n cap bx I ns d'/\Kept (·=g) w w':=by
 have ag:=hM.row.len;have hn:=hM.hn;have HM:Hid (Mem w B g n cap bx I ns d):=hM;have HD:Hid (d.Pairwise (· < ·)):=hd;have HX:Hid (∀x∈d,x<ns.length):=hm;have HN:Hid (d.length=n):=ag;clear hM hd hm ag;go_enter Tryz.func191,Tryz.ntmps191;go_wp2_with fail;go_loopg [7,8] n (λq za zb wr=>∃(a:Nat) (D r:List Nat),n-a<=q/\a<=n/\za=.int .i64 (a:Nat)/\zb=.int .i64 ((a+20:Nat):Int)/\Hid (D.length=a/\a+r.length=n/\r.Pairwise (· < ·)/\Goes ns 20 d D r)/\Hid (Mem wr B g n cap bx I ns (D++r))/\Hid (Kept (·=g) w wr))
 case atStart=>exact⟨0,[],d,by omega,by omega,rfl,rfl,⟨rfl,by have:=HN.out;omega,HD.out,Goes.start ns 20 d⟩,HM.out,Kept.refl _ w⟩
 case round=>
  obtain⟨a,D,r,hq,JT,rfl,rfl,HF,HM2,HK2⟩:=hrel;clear HM;by_cases md:a+20<=n
  ·have WY:20<=r.length:=(by have:=HF.out.2.1;omega);have fM:∀x∈r.take 20,x<ns.length:=λx hx=>HX.out x (HF.out.2.2.2.1.mem_iff.1 (List.mem_append_right _ (List.mem_of_mem_take hx)))
   have HC:=kY wr B g n cap a (a+20) bx I ns D (r.take 20) (r.drop 20) (by have h:=HM2.out.row;rw[<-List.take_append_drop 20 r,<-List.append_assoc]at h;exact h) HF.out.1.symm (by have:=HF.out.1;simp;omega) hn HM2.out.hns HM2.out.cmp HM2.out.hbx HM2.out.hI (List.Pairwise.sublist (List.take_sublist _ _) HF.out.2.2.1) fM;have hc:((a+20:Nat):Int)<=(n:Int):=(by omega);clear fM;go_wp2_with fail;refine HC.mono ?_;rintro e w2 ⟨⟨v,rfl⟩,⟨C,p1,s1,hr1⟩,hk1⟩;have HC1:Hid (C.Perm (r.take 20)/\Sorted ns C):=⟨p1,s1⟩
   have HM3:Hid (Mem w2 B g n cap bx I ns (D++C++r.drop 20)):=hid (HM2.out.to hr1 hk1);have HK3:Hid (Kept (·=g) w w2):=HK2.out.trans hk1 (λ_ _ h=>h) (λ_ _ h=>h);clear p1 s1 hr1 hk1 HC;go_wp2_with fail;go_roundg (gk-20)
   case measure=>omega
   case rel=>
    refine⟨a+20,D++C,r.drop 20,by omega,by omega,rfl,by go_num,⟨?_,?_,?_,?_⟩,HM3.out,HK3.out⟩
    ·have:=HC1.out.1.length_eq;have:=HF.out.1;simp at *;omega
    ·have:=HF.out.2.1;simp;omega
    ·exact List.Pairwise.sublist (List.drop_sublist _ _) HF.out.2.2.1
    ·have hg:=HF.out.2.2.2;rw[<-List.take_append_drop 20 r]at hg;refine Goes.step (r.take 20) hg HC1.out.1 (by simp;omega) HC1.out.2 ?_;have lY:=HF.out.2.2.1;rw[<-List.take_append_drop 20 r]at lY;exact(List.pairwise_append.1 lY).2.2
  ·have fM:∀x∈r,x<ns.length:=λx hx=>HX.out x (HF.out.2.2.2.1.mem_iff.1 (List.mem_append_right _ hx))
   have HC:=kY wr B g n cap a n bx I ns D r [] (by simpa using HM2.out.row) HF.out.1.symm (by have:=HF.out;omega) hn HM2.out.hns HM2.out.cmp HM2.out.hbx HM2.out.hI HF.out.2.2.1 fM;have hc:¬((a+20:Nat):Int)<=(n:Int):=(by omega);clear fM;go_wp2_with fail;refine HC.mono ?_;rintro e w2 ⟨⟨v,rfl⟩,⟨C,p1,s1,hr1⟩,hk1⟩;obtain⟨d1,Cb⟩:∃d1,d1=D++C:=⟨_,rfl⟩
   have HB:Hid (d1.Perm d/\Blocks ns 20 d1):=(by rw[Cb];exact HF.out.2.2.2.finish p1 (.last C (by have:=p1.length_eq;have:=HF.out.2.1;omega) s1));have HM3:Hid (Mem w2 B g n cap bx I ns d1):=hid (HM2.out.to (by rw[Cb];simpa using hr1) hk1);have HK3:Hid (Kept (·=g) w w2):=HK2.out.trans hk1 (λ_ _ h=>h) (λ_ _ h=>h);clear p1 s1 hr1 hk1 HC Cb HM2 HK2 HF hc md hq JT;go_wp2_with fail;go_loopg [6] n (λq z wr=>∃(k:Nat) (d1:List Nat),n-k<=q/\20<=k/\k<=2000000/\z=.int .i64 (k:Nat)/\Hid (d1.Perm d/\Blocks ns k d1)/\Hid (Mem wr B g n cap bx I ns d1)/\Hid (Kept (·=g) w wr))
   case atStart=>exact⟨20,d1,by omega,by omega,by omega,rfl,HB,HM3,HK3⟩
   case round=>
    obtain⟨k,d2,hq,Vc,Si,rfl,HB2,HM4,HK4⟩:=hrel;obtain⟨Ia,oI⟩:∃x,x=gk:=⟨_,rfl⟩
    rw[<-oI]at hq;have HG:Hid (Ia=gk):=oI;clear oI HB HM3 HK3;by_cases hlt:k<n
    ·go_wp2_with fail;go_loopg [7,8] n (λq za zb wr=>∃(a:Nat) (D r:List Nat),n-a<=q/\a<=n/\za=.int .i64 (a:Nat)/\zb=.int .i64 ((a+2*k:Nat):Int)/\Hid (D.length=a/\a+r.length=n/\Blocks ns k r/\Goes ns (2*k) d D r)/\Hid (Mem wr B g n cap bx I ns (D++r))/\Hid (Kept (·=g) w wr))
     case atStart=>exact⟨0,[],d2,by omega,by omega,rfl,by congr 1<;>omega,⟨rfl,by have:=HN.out;have:=HB2.out.1.length_eq;omega,HB2.out.2,⟨HB2.out.1,λr _ h=>by simpa using h⟩⟩,HM4.out,HK4.out⟩
     case round=>
      obtain⟨a,D,r,KB,JT,rfl,rfl,HF,HM5,HK5⟩:=hrel;clear HM4 HK4;by_cases md:a+2*k<=n
      ·obtain⟨e1,r1,hr1,l6,hs1,MZ,hb1⟩:=HF.out.2.2.1.split (by have:=HF.out.2.1;omega);obtain⟨e2,r2,hr2,ur,hs2,Tz,hb2⟩:=hb1.split (by have:=HF.out.2.1;subst hr1;simp at this;omega);subst hr2;have fM:∀x∈e1++e2,x<ns.length:=λx hx=>HX.out x (HF.out.2.2.2.1.mem_iff.1 (by rw[hr1];simp at hx ⊢;rcases hx with h | h<;>simp[h]))
       have hP:Parts ns e1 e2:=⟨hs1,hs2,λx hx y hy=>MZ x hx y (by simp[hy]),λx hx=>fM x (by simp[hx]),λx hx=>fM x (by simp[hx])⟩
       have HC:=Bd (2*k) B g n cap bx I ns wr a (a+k) (a+2*k) D e1 e2 r2 (by omega) (by have h:=HM5.out;rw[hr1]at h;simpa using h) hP HF.out.1.symm (by have:=HF.out.1;omega) (by have:=HF.out.1;omega) (by omega) (by omega);have HE:Hid (r=e1++(e2++r2)/\e1.length=k/\e2.length=k/\Ahead e1 (e2++r2)/\Ahead e2 r2/\Blocks ns k r2):=⟨hr1,l6,ur,MZ,Tz,hb2⟩
       have hc:((a+2*k:Nat):Int)<=(n:Int):=(by omega);clear hr1 l6 ur MZ Tz hb2 hb1 fM hP hs1 hs2;go_wp2_with fail;refine HC.mono ?_;rintro e w3 ⟨⟨v,rfl⟩,C,p1,s1,hm1,hk1⟩;have HC1:Hid (C.Perm (e1++e2)/\Sorted ns C):=⟨p1,s1⟩
       have HM6:Hid (Mem w3 B g n cap bx I ns (D++C++r2)):=hm1;have HK6:Hid (Kept (·=g) w w3):=HK5.out.trans hk1 (λ_ _ h=>h) (λ_ _ h=>h);clear p1 s1 hm1 hk1 HC;go_wp2_with fail;go_roundg (gk-1)
       case measure=>omega
       case rel=>
        refine⟨a+2*k,D++C,r2,by omega,by omega,rfl,by congr 1<;>omega,⟨?_,?_,HE.out.2.2.2.2.2,?_⟩,HM6.out,HK6.out⟩
        ·have h1:=HC1.out.1.length_eq;have:=HF.out.1;have h2:=HE.out;simp at *;omega
        ·have h1:=HF.out.2.1;have h2:=HE.out;rw[h2.1]at h1;simp at h1;omega
        ·have hg:=HF.out.2.2.2;rw[HE.out.1,<-List.append_assoc]at hg;refine Goes.step (e1++e2) hg HC1.out.1 (by have:=HE.out;simp;omega) HC1.out.2 ?_;intro x hx y hy;rcases List.mem_append.1 hx with hx | hx
         ·exact HE.out.2.2.2.1 x hx y (by simp[hy])
         ·exact HE.out.2.2.2.2.1 x hx y hy
      ·have hc:¬((a+2*k:Nat):Int)<=(n:Int):=(by omega);by_cases TB:a+k<n
       ·obtain⟨e1,r1,hr1,l6,hs1,MZ,hb1⟩:=HF.out.2.2.1.split (by have:=HF.out.2.1;omega);have ur:r1.length<=k:=(by have:=HF.out.2.1;rw[hr1]at this;simp at this;omega);have fM:∀x∈e1++r1,x<ns.length:=λx hx=>HX.out x (HF.out.2.2.2.1.mem_iff.1 (by rw[hr1];simp at hx ⊢;rcases hx with h | h<;>simp[h]))
        have hP:Parts ns e1 r1:=⟨hs1,hb1.short ur,MZ,λx hx=>fM x (by simp[hx]),λx hx=>fM x (by simp[hx])⟩
        have HC:=Bd (2*k) B g n cap bx I ns wr a (a+k) n D e1 r1 [] (by omega) (by have h:=HM5.out;rw[hr1]at h;simpa using h) hP HF.out.1.symm (by have:=HF.out.1;omega) (by have:=HF.out;rw[hr1]at this;simp at this;omega) (by omega) (by have:=HF.out.2.1;rw[hr1]at this;simp at this;omega);have HE:Hid (r=e1++r1/\e1.length=k/\r1.length<=k):=⟨hr1,l6,ur⟩
        clear hr1 l6 ur MZ hb1 fM hP hs1;go_wp2_with fail;refine HC.mono ?_;rintro e w3 ⟨⟨v,rfl⟩,C,p1,s1,hm1,hk1⟩;have HC1:Hid (C.Perm (e1++r1)/\Sorted ns C):=⟨p1,s1⟩
        have HM6:Hid (Mem w3 B g n cap bx I ns (D++C)):=hid (by simpa using hm1);have HK6:Hid (Kept (·=g) w w3):=HK5.out.trans hk1 (λ_ _ h=>h) (λ_ _ h=>h);clear p1 s1 hm1 hk1 HC;go_wp2_with fail;go_roundg (Ia-1)
        case measure=>have:=HG.out;omega
        case rel=>
         refine⟨2*k,D++C,by omega,by omega,by omega,by congr 1<;>omega,?_,HM6.out,HK6.out⟩;refine hid (HF.out.2.2.2.finish (by rw[HE.out.1];exact HC1.out.1) (.last C ?_ HC1.out.2));have:=HC1.out.1.length_eq;have:=HE.out;simp at *;omega
       ·have cm:¬((a+k:Nat):Int)<(n:Int):=(by omega);go_wp2_with fail;go_roundg (Ia-1)
        case measure=>have:=HG.out;omega
        case rel=>
         refine⟨2*k,D++r,by omega,by omega,by omega,by congr 1<;>omega,?_,HM5.out,HK5.out⟩;exact hid (HF.out.2.2.2.finish (List.Perm.refl _) (.last r (by have:=HF.out.2.1;omega) (HF.out.2.2.1.short (by have:=HF.out.2.1;omega))))
    ·go_wp2_with fail;go_end0;exact⟨⟨_,rfl⟩,d2,HB2.out.1,HB2.out.2.short (by have:=HB2.out.1.length_eq;have:=HN.out;omega),HM4.out,HK4.out⟩
theorem vf(w:World)(ao:Option Addr)(cap:Nat)(cv:Value):
  Calls Tryz.prog 191 #[.slice ao 0 cap,.int .i64 0,cv] w λe w'=>(∃v,e=.returned v)/\w'=w:=by
 have HI:Calls Tryz.prog 197 #[.slice ao 0 cap,.int .i64 0,.int .i64 0,cv] w λe w'=>(∃v,e=.returned v)/\w'=w:=by
  go_enter Tryz.func197,Tryz.ntmps197;go_wp2_with fail;go_loopg [8] 1 (λ_ z wr=>z=.int .i64 1/\wr=w)
  case atStart=>exact⟨rfl,rfl⟩
  case round=>
   obtain⟨rfl,rfl⟩:=hrel;go_wp2_with fail;go_end0;exact⟨⟨_,rfl⟩,rfl⟩
 go_enter Tryz.func191,Tryz.ntmps191;go_wp2_with fail;go_loopg [7,8] 1 (λ_ z y wr=>z=.int .i64 0/\y=.int .i64 20/\wr=w)
 case atStart=>exact⟨rfl,rfl,rfl⟩
 case round=>
  obtain⟨rfl,rfl,rfl⟩:=hrel;go_wp2_with fail;refine HI.mono ?_;rintro e w2 ⟨⟨v,rfl⟩,rfl⟩;go_wp2_with fail;go_loopg [6] 1 (λ_ z wx=>z=.int .i64 20/\wx=w2)
  case atStart=>exact⟨rfl,rfl⟩
  case round=>
   obtain⟨rfl,rfl⟩:=hrel;go_wp2_with fail;go_end0;exact⟨⟨_,rfl⟩,rfl⟩
theorem Dg(w:World)(ao:Option Addr)(cap:Nat)(cv:Value):
  Calls Tryz.prog 173 #[.slice ao 0 cap,cv] w λe w'=>(∃v,e=.returned v)/\w'=w:=by
 have H:=vf w ao cap cv;go_enter Tryz.func173,Tryz.ntmps173;go_wp2_with fail;refine H.mono ?_;rintro e w2 ⟨⟨v,rfl⟩,rfl⟩;go_wp2_with fail;go_end0;exact⟨⟨_,rfl⟩,rfl⟩
theorem GI(w:World)(B g n cap bx:Nat)(I:Nat→Prop)(ns d:List Nat)(hM:Mem w B g n cap bx I ns d)(hd:d.Pairwise (· < ·))(hm:∀x∈d,x<ns.length):
  Calls Tryz.prog 173 #[.slice (some ⟨g,0,none⟩) n cap,oP bx] w λe w'=>(∃v,e=.returned v)/\∃d',d'.Perm d/\Sorted ns d'/\Mem w' B g n cap bx I ns d'/\Kept (·=g) w w':=by
 have H:=zZ w B g n cap bx I ns d hM hd hm;clear hM hd hm;go_enter Tryz.func173,Tryz.ntmps173;go_wp2_with fail;refine H.mono ?_;rintro e w2 ⟨⟨v,rfl⟩,h⟩;have HH:Hid (∃d',d'.Perm d/\Sorted ns d'/\Mem w2 B g n cap bx I ns d'/\Kept (·=g) w w2):=h;clear h H;go_wp2_with fail;go_end0;exact⟨⟨_,rfl⟩,HH.out⟩
def cV(ns:List Nat)(i:Nat):List Nat:=(List.range i).filter (λs=>key ns s != 0)
theorem fG(ns:List Nat)(i:Nat):cV ns (i+1)=cV ns i++(if key ns i=0 then []else [i]):=by unfold cV;rw[List.range_succ,List.filter_append];congr 1;by_cases h:key ns i=0<;>simp[h]
theorem rx(ns:List Nat)(i:Nat):(cV ns i).length<=i:=by have:=List.length_filter_le (λs=>key ns s != 0) (List.range i);simpa[cV]using this
structure Ld(w w':World)(v:Value)(xs:List Nat):Prop where
 row:NRow w.heap.size w' v xs
 same:Same w w'
theorem lV(w:World)(v:Value)(I:Nat→Prop)(ns:List Nat)(hs:SrcE am w I v ns)(hn:ns.length≤1000000):
  Calls Tryz.prog 141 #[v] w λe w'=>∃v',e=.returned v'/\Ld w w' v' (aD ns):=by
 obtain⟨ao,cap,rfl,_,_⟩:=id hs;have Is:=hs.low;have HS:Hid (SrcE am w (λk=>I k/\k<w.heap.size) (.slice ao ns.length cap) ns):=Is;clear hs Is;go_enter Tryz.func141,Tryz.ntmps141;go_wp2_with fail;go_loopg [3,8] ns.length (λq zo zi wr=>∃(i:Nat),ns.length-i<=q/\i<=ns.length/\zi=.int .i64 (i:Nat)/\Hid (NRow (w.heap.size+1) wr zo (cV ns i))/\Hid (Kept (λ_=>False) (w.alloc (.cells #[.slice ao ns.length cap] 138)) wr))
 case atStart=>exact⟨0,by omega,by omega,rfl,RowE.nil,Kept.refl _ _⟩
 case round=>
  obtain⟨i,hq,ye,rfl,HR,HK⟩:=hrel;have HK0:Hid (Same w wr):=hid (Same.trans ((Kept.refl _ w).alloc _) HK.out);have cX:w.heap.size+1<=wr.heap.size:=(by have:=HK.out.size;simpa using this);by_cases hlt:i<ns.length
  ·obtain⟨b,o,eG,e,_,_,hc⟩:=(HS.out.same HK0.out).get i hlt;simp only[Value.slice.injEq]at e;obtain⟨rfl,_,rfl⟩:=e;rw[<-aY hlt]at hc;unfold am at hc;by_cases h0:key ns i=0
   ·rw[h0]at hc;have HE:Hid (cV ns (i+1)=cV ns i):=hid (by rw[fG,if_pos h0,List.append_nil]);clear h0;go_wp2_with fail;go_roundg (gk-1)
    case measure=>omega
    case rel=>exact⟨i+1,by omega,by omega,by go_num,hid (by rw[HE.out];exact HR.out),HK⟩
   ·obtain⟨z,hz⟩:∃z,z=key ns i:=⟨_,rfl⟩
    rw[<-hz]at hc h0;have hd:((z:Int) != 0)=true:=(by simp;omega);have HE:Hid (cV ns (i+1)=cV ns i++[i]):=hid (by rw[fG,if_neg (by omega)]);have HL:Hid ((cV ns i).length+[i].length<=1000000000):=hid (by have:=rx ns i;simp;omega);clear hz;go_wp2_with (at_builtin;refine aX _ am dJ (w.heap.size+1) 138 3 (am 0) 8 Tryz.underlying138 Tryz.infoN rfl (by decide) rfl (.tmp 15) (.tmp 17) rfl u3 (cV ns i) rfl (World.ownsRow.alloc HR.out _) ⟨wr.heap.size,0,none⟩ 1 1 [i] rfl rfl (bw _ _ _) HL.out (by simp;omega) ?_;intro v' w1 hrow me);have HR1:Hid (NRow (w.heap.size+1) w1 v' (cV ns i++[i])):=hrow;have HK1:Hid (Kept (λ_=>False) (w.alloc (.cells #[.slice (some ⟨b,o,none⟩) ns.length cap] 138)) w1):=hid ((HK.out.alloc _).grown me (λk e=>.inr (by have:=HR.out.ge e;simpa using this)));clear hrow me;go_wp2_with fail;go_roundg (gk-1)
    case measure=>omega
    case rel=>exact⟨i+1,by omega,by omega,by go_num,hid (by rw[HE.out];exact HR1.out),HK1⟩
  ·have hi:i=ns.length:=(by omega);subst hi;have LR:wr.cell? ⟨w.heap.size,0,none⟩=some (.slice ao ns.length cap):=HK.out.cell (by simp) (λh=>h);have hu:cV ns ns.length=eK ns:=rfl;have HR1:Hid (NRow (w.heap.size+1) wr u3 (eK ns)):=HR;clear HR hu;by_cases fh:eK ns=[]
   ·obtain⟨VA,eG,rfl,_⟩:=HR1.out.shape;have h0:(eK ns).length=0:=(by rw[fh];rfl);have HR2:=HR1;rw[h0]at HR2 ⊢;have HC:=Dg wr VA eG (oP w.heap.size);have HNIL:Hid (eK ns=[]):=fh;clear h0 fh hlt LR;go_wp2_with fail;refine HC.mono ?_;rintro e w2 ⟨⟨vv,rfl⟩,rfl⟩;go_wp2_with fail;go_ret;have e0:aD ns=eK ns:=List.Perm.eq_nil (by have:=fA ns;rw[HNIL.out]at this;exact this) |>.trans HNIL.out.symm;exact⟨_,rfl,by rw[e0];exact RowE.base HR2.out (by omega),HK0.out⟩
   ·obtain⟨g,eG,rfl,rM,td,_⟩:=HR1.out.some fh;have HM:Mem wr (w.heap.size+1) g (eK ns).length eG w.heap.size (λk=>I k/\k<w.heap.size) ns (eK ns):=
     ⟨HR1.out,⟨_,LR,HS.out.same HK0.out⟩,by omega,λk hk=>by omega,by have:=mz ns;omega,hn⟩
    have HC:=GI wr _ _ _ _ _ _ _ _ HM (vN ns) (λx hx=>(sq.1 hx).1);clear HM fh hlt LR;generalize (eK ns).length=un at *
    go_wp2_with fail;refine HC.mono ?_;rintro e w2 ⟨⟨vv,rfl⟩,d',p1,s1,hm1,hk1⟩;have HN:Hid (Ld w w2 (.slice (some ⟨g,0,none⟩) un eG) (aD ns)):=hid (by
     refine⟨?_,HK0.out.then hk1 (λx hx e=>by omega)⟩;rw[<-K0 s1 p1];exact RowE.base hm1.row (by omega))
    clear p1 s1 hm1 hk1 HC;go_wp2_with fail;go_ret;exact⟨_,rfl,HN.out⟩
def d7(lo hi z:Int):Bool:=decide (z<lo) || decide (hi<z)
theorem Dd(w:World)(p q:Nat)(lo hi z:Int)(hp:w.cell? ⟨p,0,none⟩=some (.int .i64 lo))(hq:w.cell? ⟨q,0,none⟩=some (.int .i64 hi)):
  Calls Tryz.prog 172 #[.int .i64 z,.pointer (some ⟨p,0,none⟩),.pointer (some ⟨q,0,none⟩)] w λe w'=>e=.returned (.bool (d7 lo hi z))/\∃m,w'=w.drewN m:=by
 go_enter Tryz.func172,Tryz.ntmps172;by_cases h:z<lo
 ·go_wp2_with fail;go_ret;exact⟨by simp[d7,h],0,rfl⟩
 ·go_wp2_with fail;go_ret;have h':decide (z<lo)=false:=(by simp;omega);exact⟨by simp only[d7,h',Bool.false_or];rfl,0,rfl⟩
abbrev GB(p q:Nat):Value:=.func (.func 172) #[] #[.pointer (some ⟨p,0,none⟩),.pointer (some ⟨q,0,none⟩)]
theorem DA(w:World)(v:Value)(I:Nat→Prop)(zs:List Int)(p q:Nat)(lo hi:Int)(hs:SrcE bI w I v zs)(hn:zs.length≤1000000)(hp:w.cell? ⟨p,0,none⟩=some (.int .i64 lo))(hq:w.cell? ⟨q,0,none⟩=some (.int .i64 hi)):
  Calls Tryz.prog 178 #[v,GB p q] w λe w'=>(∃z:Int,e=.returned (.int .i64 z)/\decide (0<=z)=zs.any (d7 lo hi))/\Same w w':=by
 obtain⟨ao,cap,rfl,_,_⟩:=id hs;have HS:Hid (SrcE bI w I (.slice ao zs.length cap) zs):=hs;clear hs;go_enter Tryz.func178,Tryz.ntmps178;go_wp2_with fail;go_loopg [8] zs.length (λk z wr=>∃i:Nat,zs.length-i<=k/\i<=zs.length/\z=.int .i64 (i:Nat)/\Hid ((zs.take i).any (d7 lo hi)=false)/\Hid (Same w wr))
 case atStart=>exact⟨0,by omega,by omega,rfl,hid (by simp),Kept.refl _ _⟩
 case round=>
  obtain⟨i,hk,AA,rfl,HF,HK⟩:=hrel;by_cases hlt:i<zs.length
  ·obtain⟨b,o,eG,e,_,_,hc⟩:=(HS.out.same HK.out).get i hlt;simp only[Value.slice.injEq]at e;obtain⟨rfl,_,rfl⟩:=e;obtain⟨x,hx⟩:∃x,x=zs[i]:=⟨_,rfl⟩
   rw[<-hx]at hc;unfold bI at hc;have HX:Hid (x=zs[i]):=hx;have HC:=Dd wr p q lo hi x (HK.out.cell hp (λh=>h)) (HK.out.cell hq (λh=>h));clear hx;cases hb:d7 lo hi x with
   | true=>
    rw[hb]at HC;have HB:Hid (d7 lo hi x=true):=hb;clear hb;go_wp2_with fail;refine HC.mono ?_;rintro e w2 ⟨rfl,m,rfl⟩;go_wp2_with fail;go_ret;refine⟨⟨_,rfl,?_⟩,HK.out.drewN _⟩;have h1:zs.any (d7 lo hi)=true:=List.any_eq_true.2 ⟨x,by rw[HX.out];exact List.getElem_mem _,HB.out⟩;rw[h1];simp
   | false=>
    rw[hb]at HC;have HB:Hid (d7 lo hi x=false):=hb;clear hb;go_wp2_with fail;refine HC.mono ?_;rintro e w2 ⟨rfl,m,rfl⟩;go_wp2_with fail;go_roundg (gk-1)
    case measure=>omega
    case rel=>
     refine⟨i+1,by omega,by omega,by go_num,hid ?_,HK.out.drewN _⟩;rw[List.take_succ_eq_append_getElem hlt,List.any_append,HF.out,<-HX.out];simp[HB.out]
  ·have:i=zs.length:=(by omega);subst this;go_wp2_with fail;go_ret;refine⟨⟨_,rfl,?_⟩,HK.out⟩;have h:=HF.out;rw[List.take_of_length_le (Nat.le_refl _)]at h;rw[h];simp
theorem tX(w:World)(v:Value)(I:Nat→Prop)(zs:List Int)(p q:Nat)(lo hi:Int)(hs:SrcE bI w I v zs)(hn:zs.length≤1000000)(hp:w.cell? ⟨p,0,none⟩=some (.int .i64 lo))(hq:w.cell? ⟨q,0,none⟩=some (.int .i64 hi)):
  Calls Tryz.prog 145 #[v,GB p q] w λe w'=>e=.returned (.bool (zs.any (d7 lo hi)))/\Same w w':=by
 have H:=DA w v I zs p q lo hi hs hn hp hq;clear hs hp hq;go_enter Tryz.func145,Tryz.ntmps145;go_wp2_with fail;refine H.mono ?_;rintro e w2 ⟨⟨z,rfl,hz⟩,hk⟩;have HZ:Hid (decide (0<=z)=zs.any (d7 lo hi)):=hz;have HK:Hid (Same w w2):=hk;clear hz hk H;go_wp2_with fail;go_ret;refine⟨?_,HK.out⟩;rw[<-HZ.out];rfl
def eC(zs:List Int)(lo hi:Int):Bool:=decide (0<zs.length) && decide (zs.length<=288) && !(zs.any (d7 lo hi))
theorem BI(w:World)(v:Value)(I:Nat→Prop)(zs:List Int)(lo hi:Int)(hs:SrcE bI w I v zs)(hn:zs.length≤1000000):
  Calls Tryz.prog 140 #[v,.int .i64 lo,.int .i64 hi] w λe w'=>e=.returned (.bool (eC zs lo hi))/\Same w w':=by
 obtain⟨ao,cap,rfl,_,_⟩:=id hs;have hk0:Same w ((w.alloc (.cells #[.int .i64 lo] 3)).alloc (.cells #[.int .i64 hi] 3)):=((Kept.refl _ w).alloc _).alloc _;have HC:=tX ((w.alloc (.cells #[.int .i64 lo] 3)).alloc (.cells #[.int .i64 hi] 3)) _ I zs w.heap.size (w.heap.size+1) lo hi (hs.same hk0) hn (by simp) (by
  have:=World.size_alloc w (.cells #[.int .i64 lo] 3);rw[<-this];simp)
 have HK0:Hid (Same w ((w.alloc (.cells #[.int .i64 lo] 3)).alloc (.cells #[.int .i64 hi] 3))):=hk0;clear hs hk0;go_enter Tryz.func140,Tryz.ntmps140;by_cases h0:0<zs.length
 ·by_cases h1:zs.length<=288
  ·have YM:decide (0<zs.length)=true:=(by simp[h0]);have Xz:decide (zs.length<=288)=true:=(by simp[h1]);go_wp2_with fail;refine HC.mono ?_;rintro e w2 ⟨rfl,hk⟩;have HK:Hid (Same w w2):=hid (HK0.out.trans hk);clear hk HC;go_wp2_with fail;go_ret;exact⟨by simp[eC,h0,h1],HK.out⟩
  ·go_wp2_with fail;go_ret;exact⟨by simp[eC,h1],HK0.out⟩
 ·go_wp2_with fail;go_ret;exact⟨by simp[eC,h0],HK0.out⟩
def ep(n:Nat):Nat:=if n=0 then 0 else 2 ^ (15-n)
def measure(ns:List Nat):Nat:=(ns.map ep).sum
def dB(ns:List Nat):Nat:=ns.countP (λn=>n != 0)
def bm(ns:List Nat):Nat:=if 32768<measure ns then 30 else if measure ns=32768 then 0 else if dB ns=1/\measure ns=16384 then 0 else 31
def chk(zs:List Int):Nat:=if eC zs 0 15=true then bm (zs.map Int.toNat)else 1
theorem nm{zs:List Int}{hi:Int}(h:eC zs 0 hi=true):((zs.map Int.toNat).map am=zs.map bI)/\0<zs.length/\zs.length<=288/\∀n∈zs.map Int.toNat,(n:Int)<=hi:=by
 simp only[eC,Bool.and_eq_true,decide_eq_true_eq,Bool.not_eq_true',List.any_eq_false]at h;obtain⟨⟨h1,h2⟩,h3⟩:=h;have h4:∀z∈zs,0<=z/\z<=hi:=λz hz=>by have:=h3 z hz;simp[d7]at this;omega
 refine⟨?_,h1,h2,?_⟩
 ·rw[List.map_map];refine List.map_congr_left (λz hz=>?_);simp only[Function.comp,am,bI];rw[Int.toNat_of_nonneg (h4 z hz).1]
 ·intro n hn;obtain⟨z,hz,rfl⟩:=List.mem_map.1 hn;have:=h4 z hz;omega
theorem mp(ns:List Nat)(n:Nat):measure (ns++[n])=measure ns+ep n:=by simp[measure]
theorem qP(ns:List Nat)(n:Nat):dB (ns++[n])=dB ns+(if n=0 then 0 else 1):=by by_cases h:n=0<;>simp[dB,h]
theorem I1(n:Nat):ep n<=16384:=by
 unfold ep;split
 ·omega
 ·exact Nat.le_trans (Nat.pow_le_pow_right (by omega) (show 15-n<=14 by omega)) (by decide)
theorem measure_le(ns:List Nat):measure ns<=16384*ns.length:=by
 induction ns with
 | nil=>simp[measure]
 | cons a r ih=>have:=I1 a;simp[measure]at *;omega
theorem FR(ns:List Nat):dB ns<=ns.length:=List.countP_le_length
theorem yw{n:Nat}(h0:n≠0)(h:n<=15):ep n=32768 / 2 ^ n:=by unfold ep;rw[if_neg h0,show(32768:Nat)=2 ^ 15 by rfl,Nat.pow_div h (by omega)]
theorem km(w:World)(v:Value)(I:Nat→Prop)(zs:List Int)(hs:SrcE bI w I v zs)(hn:zs.length≤1000000):
  Calls Tryz.prog 167 #[v] w λe w'=>e=.returned (.int .i64 (chk zs:Nat))/\Same w w':=by
 obtain⟨ao,cap,rfl,_,_⟩:=id hs;have HC:=BI w _ I zs 0 15 hs hn;have HS:Hid (SrcE bI w I (.slice ao zs.length cap) zs):=hs;clear hs;go_enter Tryz.func167,Tryz.ntmps167;go_wp2_with fail;refine HC.mono ?_;rintro e w2 ⟨rfl,hk⟩;have HK:Hid (Same w w2):=hk;clear hk HC;cases hok:eC zs 0 15 with
 | false=>
  go_wp2_with fail;go_ret;exact⟨by simp[chk,hok],HK.out⟩
 | true=>
  obtain⟨e1,h0,Kc,h15⟩:=nm hok;have HCH:Hid (chk zs=bm (zs.map Int.toNat)):=hid (by simp[chk,hok]);have hl:(zs.map Int.toNat).length=zs.length:=(by simp);have HS2:Hid (SrcE am w I (.slice ao zs.length cap) (zs.map Int.toNat)):=hid (SrcE.recode HS.out e1);generalize zs.map Int.toNat=ns at *
  rw[<-hl]at HS2 Kc h0 ⊢;clear hl hok e1 HS hn;have H15:Hid (∀n∈ns,(n:Int)<=15):=h15;clear h15;go_wp2_with fail;go_loopg [3,4,13] ns.length (λq zm zu zi wr=>∃(i m u:Nat),ns.length-i<=q/\i<=ns.length/\m<=16384*288/\u<=288/\zi=.int .i64 (i:Nat)/\zm=.int .i64 (m:Nat)/\zu=.int .i64 (u:Nat)/\wr=w2/\Hid (m=measure (ns.take i)/\u=dB (ns.take i)))
  case atStart=>exact⟨0,0,0,by omega,by omega,by omega,by omega,rfl,rfl,rfl,rfl,⟨rfl,rfl⟩⟩
  case round=>
   obtain⟨i,m,u,hq,hi,hm,hu,rfl,rfl,rfl,rfl,HF⟩:=hrel;by_cases hlt:i<ns.length
   ·obtain⟨b,o,eG,e,_,_,hc⟩:=(HS2.out.same HK.out).get i hlt;simp only[Value.slice.injEq]at e;obtain⟨rfl,_,rfl⟩:=e;obtain⟨x,hx⟩:∃x,x=ns[i]:=⟨_,rfl⟩
    rw[<-hx]at hc;unfold am at hc;have RO:x<=15:=(by have:=H15.out x (by rw[hx];exact List.getElem_mem _);omega);have g8:measure (ns.take (i+1))=measure (ns.take i)+ep x:=(by rw[List.take_succ_eq_append_getElem hlt,mp,hx]);have xW:dB (ns.take (i+1))=dB (ns.take i)+(if x=0 then 0 else 1):=(by rw[List.take_succ_eq_append_getElem hlt,qP,hx]);have hb1:measure (ns.take (i+1))<=16384*288:=Nat.le_trans (measure_le _) (Nat.mul_le_mul_left _ (by simp;omega));have hb2:dB (ns.take (i+1))<=288:=Nat.le_trans (FR _) (by simp;omega);clear hx;by_cases yb:x=0
    ·rw[if_pos yb]at xW;have Om:ep x=0:=(by simp[ep,yb]);rw[Om]at g8;have HF2:Hid (measure (ns.take (i+1))=measure (ns.take i)/\dB (ns.take (i+1))=dB (ns.take i)):=⟨g8,xW⟩
     clear g8 xW Om hb1 hb2;rw[yb]at hc;go_wp2_with fail;go_roundg (gk-1)
     case measure=>omega
     case rel=>exact⟨i+1,m,u,by omega,by omega,hm,hu,by go_num,rfl,rfl,rfl,hid (by rw[HF2.out.1,HF2.out.2];exact HF.out)⟩
    ·rw[if_neg yb]at xW;have uu:0<x:=(by omega);have Pn:((32768:Int) / 2 ^ x)=((ep x:Nat):Int):=(by rw[yw yb RO];simp);have HF2:Hid (measure (ns.take (i+1))=m+ep x/\dB (ns.take (i+1))=u+1):=hid ⟨by rw[g8,HF.out.1],by rw[xW,HF.out.2]⟩;have hb3:m+ep x<=16384*288:=(by rw[<-HF2.out.1];exact hb1);have hb4:u+1<=288:=(by rw[<-HF2.out.2];exact hb2);clear g8 xW hb1 hb2 yb;generalize ep x=ux at *
     go_wp2_with fail;go_roundg (gk-1)
     case measure=>omega
     case rel=>exact⟨i+1,m+ux,u+1,by omega,by omega,hb3,hb4,by go_num,by go_num,by go_num,rfl,hid ⟨HF2.out.1.symm,HF2.out.2.symm⟩⟩
   ·have:i=ns.length:=(by omega);subst this;have OR:m=measure ns:=(by have:=HF.out.1;rw[List.take_of_length_le (Nat.le_refl _)]at this;exact this);have Ta:u=dB ns:=(by have:=HF.out.2;rw[List.take_of_length_le (Nat.le_refl _)]at this;exact this);have HU:Hid (m=measure ns/\u=dB ns):=⟨OR,Ta⟩
    clear OR Ta HF;by_cases hover:32768<m
    ·by_cases OB:u=1
     ·go_wp2_with fail;go_ret;refine⟨?_,HK.out⟩;rw[HCH.out,bm,<-HU.out.1,if_pos hover];rfl
     ·have hd:((u:Int)==1)=false:=(by simp;omega);go_wp2_with fail;go_ret;refine⟨?_,HK.out⟩;rw[HCH.out,bm,<-HU.out.1,if_pos hover];rfl
    ·by_cases Om:m<32768
     ·by_cases OB:u=1
      ·by_cases hh:m=16384
       ·go_wp2_with fail;go_ret;refine⟨?_,HK.out⟩;rw[HCH.out,bm,<-HU.out.1,<-HU.out.2,if_neg hover,if_neg (by omega),if_pos ⟨OB,hh⟩];rfl
       ·have hd:((m:Int)==16384)=false:=(by simp;omega);have HV:Hid (bm ns=31):=hid (by rw[bm,<-HU.out.1,<-HU.out.2,if_neg hover,if_neg (by omega),if_neg (λh=>hh h.2)]);have b1:decide ((32768:Int)<(m:Int))=false:=(by simp;omega);have b2:decide ((m:Int)<32768)=true:=(by simp;omega);clear hh Om hover;go_wp2_with fail;go_ret;refine⟨?_,HK.out⟩;rw[HCH.out,HV.out];rfl
      ·have hd:((u:Int)==1)=false:=(by simp;omega);have HV:Hid (bm ns=31):=hid (by rw[bm,<-HU.out.1,<-HU.out.2,if_neg hover,if_neg (by omega),if_neg (λh=>OB h.1)]);have b1:decide ((32768:Int)<(m:Int))=false:=(by simp;omega);have b2:decide ((m:Int)<32768)=true:=(by simp;omega);clear Om hover OB;go_wp2_with fail;go_ret;refine⟨?_,HK.out⟩;rw[HCH.out,HV.out];rfl
     ·have hm3:m=32768:=(by omega);by_cases OB:u=1
      ·go_wp2_with fail;go_ret;refine⟨?_,HK.out⟩;rw[HCH.out,bm,<-HU.out.1,<-HU.out.2,if_neg hover,if_pos hm3];rfl
      ·have hd:((u:Int)==1)=false:=(by simp;omega);go_wp2_with fail;go_ret;refine⟨?_,HK.out⟩;rw[HCH.out,bm,<-HU.out.1,<-HU.out.2,if_neg hover,if_pos hm3];rfl
end Go.Proofs.YtllcnlnbpikhdaaGreatDoor
