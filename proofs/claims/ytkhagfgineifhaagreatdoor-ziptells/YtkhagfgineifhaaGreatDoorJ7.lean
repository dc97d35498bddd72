import Derived.RegionTactic
import Derived.ChangeAlike
import Derived.Deep.RegionWith
import Derived.Test.YtkhagfgineifhaaGreatDoorJ3
set_option maxHeartbeats 4000000
set_option maxRecDepth 100000
namespace Go.Proofs.YtkhagfgineifhaaGreatDoor
open Go.RowKit
theorem ky{B t g n cap:Nat}{α:Type}{enc:α→Value}{w:World}{P M S:List α}{x y:α}(h:RowE B t enc w (.slice (some ⟨g,0,none⟩) n cap) (P++x::M++y::S)){i j:Nat}(hi:i=P.length)(hj:j=P.length+1+M.length):
  w.cell? ⟨g,i,none⟩=some (enc x)/\w.cell? ⟨g,j,none⟩=some (enc y)/\w.frozen? ⟨g,i,none⟩=false/\w.frozen? ⟨g,j,none⟩=false/\i<n/\j<n/\i≠j:=by
 have hl:=h.len;simp at hl;subst hi hj;refine⟨?_,?_,h.frozen _,h.frozen _,by omega,by omega,by omega⟩
 ·rw[h.cell P.length (by simp)];simp
 ·rw[h.cell (P.length+1+M.length) (by simp;omega)];congr 2;rw[List.getElem_append_right (by simp;omega)];simp[show P.length+1+M.length-(P.length+(M.length+1))=0 by omega]
theorem BI{B t g n cap:Nat}{α:Type}{enc:α→Value}{w:World}{P M S:List α}{x y:α}(h:RowE B t enc w (.slice (some ⟨g,0,none⟩) n cap) (P++x::M++y::S)){i j:Nat}(hi:i=P.length)(hj:j=P.length+1+M.length):
  RowE B t enc ((w.setCell ⟨g,i,none⟩ (enc y)).setCell ⟨g,j,none⟩ (enc x)) (.slice (some ⟨g,0,none⟩) n cap) (P++y::M++x::S):=by
 have h2:=(h.lay i y).lay j x;subst hi hj;have e:((P++x::M++y::S).set P.length y).set (P.length+1+M.length) x=P++y::M++x::S:=by
  rw[List.append_assoc,List.set_append_right _ _ (by omega),Nat.sub_self,List.cons_append,List.set_cons_zero,List.set_append_right _ _ (by omega),
   show P.length+1+M.length-P.length=M.length+1 by omega,List.set_cons_succ,List.set_append_right _ _ (by omega)]
  simp
 rw[e]at h2;exact h2
theorem xP{B t g n cap:Nat}{α:Type}{enc:α→Value}{w:World}{P M S:List α}{x y:α}(h:RowE B t enc w (.slice (some ⟨g,0,none⟩) n cap) (P++x::M++y::S)){i j:Nat}(hi:i=P.length)(hj:j=P.length+1+M.length):
  RowE B t enc ((w.setCell ⟨g,j,none⟩ (enc x)).setCell ⟨g,i,none⟩ (enc y)) (.slice (some ⟨g,0,none⟩) n cap) (P++y::M++x::S):=by
 have h2:=(h.lay j x).lay i y;subst hi hj;have e:((P++x::M++y::S).set (P.length+1+M.length) x).set P.length y=P++y::M++x::S:=by
  rw[List.set_comm _ _ (by omega),List.append_assoc,List.set_append_right _ _ (by omega),Nat.sub_self,List.cons_append,List.set_cons_zero,List.set_append_right _ _ (by omega),
   show P.length+1+M.length-P.length=M.length+1 by omega,List.set_cons_succ,List.set_append_right _ _ (by omega)]
  simp
 rw[e]at h2;exact h2
theorem pY(w:World)(B g n cap a b k:Nat)(cv:Value)(P X M Y S:List Nat)(U9:X.length=Y.length)(hrow:NRow B w (.slice (some ⟨g,0,none⟩) n cap) (P++X++M++Y++S))(ha:a=P.length)(hb:b=P.length+X.length+M.length)(hk:k=X.length)(hn:n≤1000000):
  Calls Tryz.prog 212 #[.slice (some ⟨g,0,none⟩) n cap,.int .i64 (a:Nat),.int .i64 (b:Nat),.int .i64 (k:Nat),cv] w λe w'=>(∃v,e=.returned v)/\NRow B w' (.slice (some ⟨g,0,none⟩) n cap) (P++Y++M++X++S)/\Kept (·=g) w w':=by
 have ag:=hrow.len;simp at ag;have HR:Hid (NRow B w (.slice (some ⟨g,0,none⟩) n cap) (P++X++M++Y++S)):=hrow;have HL:Hid (X.length=Y.length):=U9;have HA:Hid (a=P.length):=ha;have HB:Hid (b=P.length+X.length+M.length):=hb;have HK:Hid (k=X.length):=hk;have Fa:a+k<=n/\b+k<=n:=by omega
 clear hrow U9 ha hb hk ag;go_enter Tryz.func212,Tryz.ntmps212;go_wp2_with fail;go_loopg [10] k (λq z wr=>∃i:Nat,i<=k/\k-i<=q/\z=.int .i64 (i:Nat)/\NRow B wr (.slice (some ⟨g,0,none⟩) n cap) (P++Y.take i++X.drop i++M++X.take i++Y.drop i++S)/\Kept (·=g) w wr)
 case atStart=>exact⟨0,by omega,by omega,rfl,by simpa using HR.out,Kept.refl _ w⟩
 case round=>
  obtain⟨i,hi,Ik,rfl,hr,hkp⟩:=hrel;have HR2:Hid (NRow B wr (.slice (some ⟨g,0,none⟩) n cap) (P++Y.take i++X.drop i++M++X.take i++Y.drop i++S)):=hr;have HK2:Hid (Kept (·=g) w wr):=hkp;clear hr hkp HR;by_cases hlt:i<k
  ·have hx:i<X.length:=(by have:=HK.out;omega);have hy:i<Y.length:=(by have:=HL.out;omega);obtain⟨x,ic⟩:∃x,x=X[i]:=⟨_,rfl⟩
   obtain⟨y,NU⟩:∃y,y=Y[i]:=⟨_,rfl⟩
   have hr3:=HR2.out;rw[List.drop_eq_getElem_cons hx,List.drop_eq_getElem_cons hy,<-ic,<-NU]at hr3;have hr4:NRow B wr (.slice (some ⟨g,0,none⟩) n cap) ((P++Y.take i)++x::(X.drop (i+1)++M++X.take i)++y::(Y.drop (i+1)++S)):=(by simpa using hr3);have e1:a+i=(P++Y.take i).length:=(by have:=HA.out;simp;omega);have e2:b+i=(P++Y.take i).length+1+(X.drop (i+1)++M++X.take i).length:=(by have:=HB.out;simp;omega);obtain⟨c1,c2,f1,f2,l1,l2,bm⟩:=ky hr4 e1 e2;have HR4:Hid (NRow B ((wr.setCell ⟨g,a+i,none⟩ (am y)).setCell ⟨g,b+i,none⟩ (am x)) (.slice (some ⟨g,0,none⟩) n cap) (P++Y.take (i+1)++X.drop (i+1)++M++X.take (i+1)++Y.drop (i+1)++S)):=(by have h:=BI hr4 e1 e2;have h5:NRow B ((wr.setCell ⟨g,a+i,none⟩ (am y)).setCell ⟨g,b+i,none⟩ (am x)) (.slice (some ⟨g,0,none⟩) n cap) (P++Y.take (i+1)++X.drop (i+1)++M++X.take (i+1)++Y.drop (i+1)++S):=(by rw[List.take_succ_eq_append_getElem hx,List.take_succ_eq_append_getElem hy,<-ic,<-NU];simpa using h);exact h5);clear hr3 hr4 e1 e2 ic NU HR2 hx hy;unfold am at c1 c2;go_wp2_with fail;go_region
   all_goals
    go_wp2_with fail;go_roundg (gk-1)
    case measure=>omega
    case rel=>exact⟨i+1,by omega,by omega,by go_num,HR4.out,((HK2.out.setCell ⟨g,a+i,none⟩ _ (.inl rfl)).setCell ⟨g,b+i,none⟩ _ (.inl rfl)).drew⟩
  ·have e:i=k:=(by omega);subst e;go_wp2_with fail;go_end0;refine⟨⟨_,rfl⟩,?_,HK2.out⟩;have h:=HR2.out;have hk1:=HK.out;have hk2:=HL.out;have t1:X.take i=X:=List.take_of_length_le (by omega);have t2:Y.take i=Y:=List.take_of_length_le (by omega);have t3:X.drop i=[]:=List.drop_eq_nil_of_le (by omega);have t4:Y.drop i=[]:=List.drop_eq_nil_of_le (by omega);rw[t1,t2,t3,t4]at h;simpa using h
theorem pS(w:World)(B g n cap a m b:Nat)(cv:Value)(P X Y S:List Nat)(hX:0<X.length)(hY:0<Y.length)(hrow:NRow B w (.slice (some ⟨g,0,none⟩) n cap) (P++X++Y++S))(ha:a=P.length)(hm:m=P.length+X.length)(hb:b=P.length+X.length+Y.length)(hn:n≤1000000):
  Calls Tryz.prog 208 #[.slice (some ⟨g,0,none⟩) n cap,.int .i64 (a:Nat),.int .i64 (m:Nat),.int .i64 (b:Nat),cv] w λe w'=>(∃v,e=.returned v)/\NRow B w' (.slice (some ⟨g,0,none⟩) n cap) (P++Y++X++S)/\Kept (·=g) w w':=by
 have ag:=hrow.len;simp at ag;have HR:Hid (NRow B w (.slice (some ⟨g,0,none⟩) n cap) (P++X++Y++S)):=hrow;have HA:Hid (a=P.length/\m=P.length+X.length/\b=P.length+X.length+Y.length):=⟨ha,hm,hb⟩
 have Fa:a<m/\m<b/\b<=n:=by omega
 clear hrow ha hm hb ag;go_enter Tryz.func208,Tryz.ntmps208;go_wp2_with fail;go_loopg [10,11] (b-a) (λq zi zj wr=>∃(i j:Nat) (P' L R S':List Nat),i+j<=q/\0<i/\0<j/\i<=m/\m+j<=n/\zi=.int .i64 (i:Nat)/\zj=.int .i64 (j:Nat)/\Hid (L.length=i/\R.length=j/\P'.length=m-i/\P'++R++L++S'=P++Y++X++S)/\Hid (NRow B wr (.slice (some ⟨g,0,none⟩) n cap) (P'++L++R++S'))/\Hid (Kept (·=g) w wr))
 case atStart=>exact⟨m-a,b-m,P,X,Y,S,by omega,by omega,by omega,by omega,by omega,by congr 1;omega,by congr 1;omega,⟨by have:=HA.out;omega,by have:=HA.out;omega,by have:=HA.out;omega,rfl⟩,HR.out,Kept.refl _ w⟩
 case round=>
  obtain⟨i,j,P',L,R,S',hq,U4,QC,Zi,OJ,rfl,rfl,HF,HR2,HK2⟩:=hrel;clear HR HA;by_cases he:i=j
  ·have hd:((i:Int) != (j:Int))=false:=(by simp[he]);have e1:((m:Int)-(i:Int))=((m-i:Nat):Int):=(by omega);have HC:=pY wr B g n cap (m-i) m i cv P' L [] R S' (by have:=HF.out;omega) (by simpa using HR2.out) HF.out.2.2.1.symm (by have:=HF.out;simp;omega) (by have:=HF.out;omega) hn;have HE:Hid (i=j):=he;clear he;go_wp2_with fail;refine HC.mono ?_;rintro e w2 ⟨⟨v,rfl⟩,hr,hkp⟩;have HR3:Hid (NRow B w2 (.slice (some ⟨g,0,none⟩) n cap) (P'++R++[]++L++S')):=hr;have HK3:Hid (Kept (·=g) wr w2):=hkp;clear hr hkp;go_wp2_with fail;go_end0;refine⟨⟨_,rfl⟩,?_,HK2.out.trans HK3.out (λ_ _ h=>h) (λ_ _ h=>h)⟩;rw[<-HF.out.2.2.2];simpa using HR3.out
  ·have hd:((i:Int) != (j:Int))=true:=(by simp;omega);by_cases NO:j<i
   ·have e1:((m:Int)-(i:Int))=((m-i:Nat):Int):=(by omega);have pM:NRow B wr (.slice (some ⟨g,0,none⟩) n cap) (P'++L.take j++L.drop j++R++S'):=(by simpa using HR2.out);have HC:=pY wr B g n cap (m-i) m j cv P' (L.take j) (L.drop j) R S' (by have:=HF.out;simp;omega) pM HF.out.2.2.1.symm (by have:=HF.out;simp;omega) (by have:=HF.out;simp;omega) hn;clear pM;go_wp2_with fail;refine HC.mono ?_;rintro e w2 ⟨⟨v,rfl⟩,hr,hkp⟩;have HR3:Hid (NRow B w2 (.slice (some ⟨g,0,none⟩) n cap) (P'++R++L.drop j++L.take j++S')):=hr;have HK3:Hid (Kept (·=g) wr w2):=hkp;clear hr hkp;go_wp2_with fail;go_roundg (gk-j)
    case measure=>omega
    case rel=>
     refine⟨i-j,j,P'++R,L.drop j,L.take j,S',by omega,by omega,by omega,by omega,by omega,by congr 1;omega,rfl,⟨?_,?_,?_,?_⟩,?_,(HK2.out.trans HK3.out (λ_ _ h=>h) (λ_ _ h=>h))⟩
     ·have:=HF.out;simp;omega
     ·have:=HF.out;simp;omega
     ·have:=HF.out;simp;omega
     ·rw[<-HF.out.2.2.2];simp
     ·exact hid (by simpa using HR3.out)
   ·have e1:((m:Int)-(i:Int))=((m-i:Nat):Int):=(by omega);have e2:((m:Int)+(j:Int)-(i:Int))=((m+j-i:Nat):Int):=(by omega);have pM:NRow B wr (.slice (some ⟨g,0,none⟩) n cap) (P'++L++R.take (j-i)++R.drop (j-i)++S'):=(by simpa using HR2.out);have HC:=pY wr B g n cap (m-i) (m+j-i) i cv P' L (R.take (j-i)) (R.drop (j-i)) S' (by have:=HF.out;simp;omega) pM HF.out.2.2.1.symm (by have:=HF.out;simp;omega) (by have:=HF.out;omega) hn;clear pM;go_wp2_with fail;refine HC.mono ?_;rintro e w2 ⟨⟨v,rfl⟩,hr,hkp⟩;have HR3:Hid (NRow B w2 (.slice (some ⟨g,0,none⟩) n cap) (P'++R.drop (j-i)++R.take (j-i)++L++S')):=hr;have HK3:Hid (Kept (·=g) wr w2):=hkp;clear hr hkp;go_wp2_with fail;go_roundg (gk-i)
    case measure=>omega
    case rel=>
     refine⟨i,j-i,P',R.drop (j-i),R.take (j-i),L++S',by omega,by omega,by omega,by omega,by omega,rfl,by congr 1;omega,⟨?_,?_,?_,?_⟩,?_,(HK2.out.trans HK3.out (λ_ _ h=>h) (λ_ _ h=>h))⟩
     ·have:=HF.out;simp;omega
     ·have:=HF.out;simp;omega
     ·have:=HF.out;omega
     ·rw[<-HF.out.2.2.2];simp
     ·exact hid (by simpa using HR3.out)
def tF(x y:Nat):Int:=if x<y then -1 else if y<x then 1 else 0
theorem pQ{x y:Nat}(h:x<y):decide (tF x y<0)=true:=by simp[tF,h]
theorem qg{x y:Nat}(h:¬x<y):decide (tF x y<0)=false:=by unfold tF;rw[if_neg h];split<;>simp
theorem tC(x:Int)(w:World):Calls Tryz.prog 197 #[.int .i64 x] w λe w'=>e=.returned (.bool false)/\w'=w:=by
 have hd:(x != x)=false:=by simp
 go_enter Tryz.func197,Tryz.ntmps197;go_wp2;go_ret;simp
theorem xO(x y:Nat)(w:World):Calls Tryz.prog 181 #[.int .i64 (x:Nat),.int .i64 (y:Nat)] w λe w'=>e=.returned (.int .i64 (tF x y))/\w'=w:=by
 have H1:=tC (x:Int) w;have H2:=tC (y:Int) w;go_enter Tryz.func181,Tryz.ntmps181;go_wp2_with fail;refine H1.mono ?_;rintro e w' ⟨rfl,rfl⟩;go_wp2_with fail;refine H2.mono ?_;rintro e w'' ⟨rfl,rfl⟩;by_cases h:x<y
 ·go_wp2_with fail;go_ret;simp[tF,h]
 ·by_cases h2:y<x
  ·go_wp2_with fail;go_ret;simp[tF,h,h2]
  ·go_wp2_with fail;go_ret;simp[tF,h,h2]
structure Cmp(w:World)(bx:Nat)(I:Nat->Prop)(ns:List Nat):Prop where
 ex:∃v,w.cell? ⟨bx,0,none⟩=some v/\SrcE am w I v ns
theorem Cmp.kept{F:Nat->Prop}{w w':World}{bx:Nat}{I:Nat->Prop}{ns:List Nat}(h:Cmp w bx I ns)(hk:Kept F w w')(h1:¬F bx)(h2:∀k,I k->k<w.heap.size->¬F k):Cmp w' bx I ns:=by obtain⟨v,hv,hs⟩:=h.ex;exact⟨v,hk.cell hv h1,hs.kept hk h2⟩
abbrev oZ(bx:Nat):Value:=.func (.func 180) #[] #[.pointer (some ⟨bx,0,none⟩)]
theorem Hf(w:World)(bx:Nat)(I:Nat→Prop)(ns:List Nat)(h:Cmp w bx I ns)(_hn:ns.length≤1000000)(a b:Nat)(ha:a<ns.length)(hb:b<ns.length):
  Calls Tryz.prog 180 #[.int .i64 (a:Nat),.int .i64 (b:Nat),.pointer (some ⟨bx,0,none⟩)] w λe w'=>e=.returned (.int .i64 (tF (key ns a) (key ns b)))/\∃m,w'=w.drewN m:=by
 obtain⟨v,hv,hs⟩:=h.ex;obtain⟨b1,o1,cap,rfl,_,_,c1⟩:=hs.get a ha;obtain⟨b2,o2,eS,e,_,_,c2⟩:=hs.get b hb;simp only[Value.slice.injEq,Option.some.injEq,Addr.mk.injEq,and_true]at e;obtain⟨⟨rfl,rfl⟩,_,rfl⟩:=e;rw[<-aZ ha]at c1;rw[<-aZ hb]at c2;unfold am at c1 c2;have HC:=λq=>xO (key ns a) (key ns b) (w.drewN q)
 generalize key ns a=x at *
 generalize key ns b=y at *
 clear hs h;go_enter Tryz.func180,Tryz.ntmps180;go_wp2_with fail;go_quiet ((go_at_call 181;exact Calls.quiet_of_same (HC _)));go_wp2_with fail;go_ret;exact⟨rfl,_,rfl⟩
theorem ni(w:World)(bx:Nat)(I:Nat→Prop)(ns:List Nat)(h:Cmp w bx I ns)(hn:ns.length≤1000000)(a b:Nat)(ha:a<ns.length)(hb:b<ns.length)(q:Nat):
  Calls Tryz.prog 180 #[.int .i64 (a:Nat),.int .i64 (b:Nat),.pointer (some ⟨bx,0,none⟩)] (w.drewN q) λe w'=>e=.returned (.int .i64 (tF (key ns a) (key ns b)))/\∃m,w'=(w.drewN q).drewN m:=
 Hf (w.drewN q) bx I ns ⟨h.ex⟩ hn a b ha hb
theorem Gj{ns T1 T2:List Nat}{x:Nat}(hT:Sorted ns (T1++T2))(h1:AllLt ns T1 [x])(h2:AllLt ns [x] T2):Sorted ns (T1++x::T2):=by
 refine Sorted.append hT.left (List.pairwise_cons.2 ⟨λy hy=>h2 x (by simp) y hy,hT.right⟩) ?_;intro a ha b hb;rcases List.mem_cons.1 hb with rfl | hb
 ·exact h1 a ha _ (by simp)
 ·exact hT.cross a ha b hb
theorem El{ns T0:List Nat}{y x:Nat}(hT:Sorted ns (T0++[y]))(h:Lt ns y x):AllLt ns (T0++[y]) [x]:=by
 intro a ha b hb;have hb:b=x:=by simpa using hb
 subst hb;rcases List.mem_append.1 ha with ha | ha
 ·exact(hT.cross a ha y (by simp)).trans h
 ·have:a=y:=(by simpa using ha);subst this;exact h
theorem yg{ns E T U' T1 T2:List Nat}{x a i b:Nat}(hF:(a+T.length=i∨T=[]∧x::U'=[])∧b=a+T.length+(x::U').length∧Sorted ns T∧Ahead T (x::U')∧(x::U').Pairwise (· < ·)∧(T++x::U').Perm E)
  (hT:T=T1++T2) (h1:AllLt ns T1 [x]) (h2:AllLt ns [x] T2):
  (a+(T1++x::T2).length=i+1\/T1++x::T2=[]/\U'=[])/\b=a+(T1++x::T2).length+U'.length/\Sorted ns (T1++x::T2)/\Ahead (T1++x::T2) U'/\U'.Pairwise (· < ·)/\((T1++x::T2)++U').Perm E:=by
 obtain⟨f1,f2,f3,f4,f5,f6⟩:=hF;subst hT;have hp:((T1++x::T2)++U').Perm (T1++T2++x::U'):=by have:(T1++x::T2).Perm (T1++T2++[x]):=(by rw[List.append_assoc];exact List.Perm.append_left _ (List.perm_append_singleton x T2).symm);have h2:=this.append_right U';simpa using h2
 have Wl:=f1.resolve_right (by simp);refine⟨.inl ?_,?_,Gj f3 h1 h2,?_,(List.pairwise_cons.1 f5).2,hp.trans f6⟩
 ·simp at Wl ⊢;omega
 ·simp at f2 ⊢;omega
 ·intro y hy z hz;have Ba:y∈T1++T2\/y=x:=by
   simp at hy ⊢;rcases hy with h | h | h
   ·exact .inl (.inl h)
   ·exact .inr h
   ·exact .inl (.inr h)
  rcases Ba with Ba | rfl
  ·exact f4 y Ba z (List.mem_cons_of_mem _ hz)
  ·exact(List.pairwise_cons.1 f5).1 z hz
theorem lH(w:World)(B g n cap a b bx:Nat)(I:Nat→Prop)(ns P E S:List Nat)(hrow:NRow B w (.slice (some ⟨g,0,none⟩) n cap) (P++E++S))(ha:a=P.length)(hb:b=P.length+E.length)(hn:n≤1000000)(hns:ns.length≤1000000)
  (hc:Cmp w bx I ns) (hbx:bx≠g) (hI:∀k,I k->k≠g) (hE:E.Pairwise (· < ·)) (hm:∀x∈E,x<ns.length):
  Calls Tryz.prog 202 #[.slice (some ⟨g,0,none⟩) n cap,.int .i64 (a:Nat),.int .i64 (b:Nat),oZ bx] w λe w'=>(∃v,e=.returned v)/\(∃E',E'.Perm E/\Sorted ns E'/\NRow B w' (.slice (some ⟨g,0,none⟩) n cap) (P++E'++S))/\Kept (·=g) w w':=by
 have ag:=hrow.len;simp at ag;have HR:Hid (NRow B w (.slice (some ⟨g,0,none⟩) n cap) (P++E++S)):=hrow;have HA:Hid (a=P.length/\b=P.length+E.length):=⟨ha,hb⟩
 have HC:Hid (Cmp w bx I ns):=hc;have HE:Hid (E.Pairwise (· < ·)):=hE;have HM:Hid (∀x∈E,x<ns.length):=hm;have HI:Hid (∀k,I k->k≠g):=hI;have HX:Hid (bx≠g):=hbx;have Fa:a<=b/\b<=n:=by omega
 clear hrow ha hb ag hc hE hm hI hbx;go_enter Tryz.func202,Tryz.ntmps202;go_wp2_with fail;go_loopg [8] (b-a) (λq z wr=>∃(i:Nat) (T U:List Nat),b-i<=q/\0<i/\a<i/\i<=b+1/\z=.int .i64 (i:Nat)/\Hid ((a+T.length=i\/T=[]/\U=[])/\b=a+T.length+U.length/\Sorted ns T/\Ahead T U/\U.Pairwise (· < ·)/\(T++U).Perm E)/\Hid (NRow B wr (.slice (some ⟨g,0,none⟩) n cap) (P++T++U++S))/\Hid (Kept (·=g) w wr))
 case atStart=>
  refine⟨a+1,E.take 1,E.drop 1,by omega,by omega,by omega,by omega,by go_num,⟨?_,?_,?_,?_,?_,?_⟩,?_,Kept.refl _ w⟩
  ·cases E with
   | nil=>right;simp
   | cons x r=>left;simp
  ·have:=HA.out;simp;omega
  ·cases E with
   | nil=>simp[Sorted]
   | cons x r=>simp[Sorted]
  ·have h:=HE.out;rw[<-List.take_append_drop 1 E]at h;exact(List.pairwise_append.1 h).2.2
  ·have h:=HE.out;rw[<-List.take_append_drop 1 E]at h;exact(List.pairwise_append.1 h).2.1
  ·rw[List.take_append_drop]
  ·have h:=HR.out;have e:P++E.take 1++E.drop 1++S=P++E++S:=(by rw[List.append_assoc P,List.take_append_drop]);show NRow B w (.slice (some ⟨g,0,none⟩) n cap) (P++E.take 1++E.drop 1++S);rw[e];exact h
 case round=>
  obtain⟨i,T,U,hq,U4,Us,Pg,rfl,HF,HR2,HK2⟩:=hrel;obtain⟨IY,oY⟩:∃x,x=gk:=⟨_,rfl⟩
  rw[<-oY]at hq;have HG:Hid (IY=gk):=oY;clear oY HR;by_cases hlt:i<b
  ·obtain⟨x,U',hU⟩:∃x U',U=x::U':=by
    cases hU:U with
    | nil=>have h:=HF.out;subst hU;have h1:=h.2.1;have h2:=h.1;simp at h1 h2;rcases h2 with h2 | h2;omega;subst h2;simp at h1;omega
    | cons x r=>exact⟨x,r,rfl⟩
   subst hU;have hT:a+T.length=i:=(HF.out.1).resolve_right (by simp);have HT:Hid (a+T.length=i):=hT;clear hT U4;go_wp2_with fail;go_loopg [9] (i-a) (λq z Pv=>∃(j:Nat) (T1 T2:List Nat),j-a<=q/\a<=j/\j<=i/\z=.int .i64 (j:Nat)/\Hid (a+T1.length=j/\T=T1++T2/\AllLt ns [x] T2)/\Hid (NRow B Pv (.slice (some ⟨g,0,none⟩) n cap) (P++T1++x::T2++U'++S))/\Hid (Kept (·=g) w Pv))
   case atStart=>exact⟨i,T,[],by omega,by omega,by omega,rfl,⟨HT.out,by simp,by simp[AllLt]⟩,by have h:=HR2.out;show NRow B wr _ _;simpa using h,HK2.out⟩
   case round=>
    obtain⟨j,T1,T2,Lx,YR,WZ,rfl,HF2,HR3,HK3⟩:=hrel;clear HR2 HK2;by_cases hja:a<j
    ·obtain⟨T0,y,Vv⟩:∃T0 y,T1=T0++[y]:=by
      rcases List.eq_nil_or_concat T1 with rfl | ⟨es,y,e⟩
      ·have:=HF2.out.1;simp at this;omega
      ·exact⟨es,y,by rw[e,List.concat_eq_append]⟩
     subst Vv;have hperm:=HF.out.2.2.2.2.2;have yQ:x<ns.length:=HM.out x (hperm.mem_iff.1 (by simp));have yP:y<ns.length:=HM.out y (hperm.mem_iff.1 (by rw[HF2.out.2.1];simp));have Oa:y<x:=HF.out.2.2.2.1 y (by rw[HF2.out.2.1];simp) x (by simp);have bZ:NRow B wr (.slice (some ⟨g,0,none⟩) n cap) ((P++T0)++y::[]++x::(T2++U'++S)):=(by have h:=HR3.out;simpa using h);have e1:j-1=(P++T0).length:=by have:=HF2.out.1;have:=HA.out.1;simp at *;omega
     have e2:j=(P++T0).length+1+([]:List Nat).length:=by have:=HF2.out.1;have:=HA.out.1;simp at *;omega
     obtain⟨c1,c2,f1,f2,l1,l2,bm⟩:=ky bZ e1 e2;have jE:((j:Int)-1)=((j-1:Nat):Int):=(by omega);have HL:=ni wr bx I ns (HC.out.kept HK3.out (λe=>HX.out e) (λk hk _ e=>HI.out k hk e)) hns x y yQ yP;unfold am at c1 c2;by_cases tP:key ns x<key ns y
     ·have hd:=pQ tP;have HLT:Hid (Lt ns x y):=(Lt.iff_of_gt Oa).2 tP;have HR4:Hid (NRow B ((wr.setCell ⟨g,j,none⟩ (am y)).setCell ⟨g,j-1,none⟩ (am x)) (.slice (some ⟨g,0,none⟩) n cap) (P++T0++x::(y::T2)++U'++S)):=by
       have h:=xP bZ e1 e2;have h5:NRow B ((wr.setCell ⟨g,j,none⟩ (am y)).setCell ⟨g,j-1,none⟩ (am x)) (.slice (some ⟨g,0,none⟩) n cap) (P++T0++x::(y::T2)++U'++S):=(by simpa using h);exact h5
      generalize tF (key ns x) (key ns y)=cz at HL hd;clear bZ e1 e2 hperm yQ yP Oa tP;go_wp2_with fail;go_quiet ((go_at_call 180;exact Calls.quiet_of (HL _)));go_wp2_with fail;go_region
      all_goals
       go_wp2_with fail;go_roundg (gk-1)
       case measure=>omega
       case rel=>
        refine⟨j-1,T0,y::T2,by omega,by omega,by omega,by congr 1,⟨?_,?_,?_⟩,HR4.out,(((HK3.out.drewN _).setCell ⟨g,j,none⟩ _ (.inl rfl)).setCell ⟨g,j-1,none⟩ _ (.inl rfl))⟩
        ·have:=HF2.out.1;simp at this;omega
        ·rw[HF2.out.2.1];simp
        ·intro p hp q hq;have hp:p=x:=(by simpa using hp);subst hp;rcases List.mem_cons.1 hq with rfl | hq
         ·exact HLT.out
         ·exact HF2.out.2.2 p (by simp) q hq
     ·have hd:=qg tP;have HLT:Hid (Lt ns y x):=Lt.of_not Oa tP;generalize tF (key ns x) (key ns y)=cz at HL hd;clear bZ e1 e2 hperm yQ yP Oa tP;go_wp2_with fail;go_quiet ((go_at_call 180;exact Calls.quiet_of (HL _)));go_wp2_with fail;go_roundg (IY-1)
      case measure=>have:=HG.out;omega
      case rel=>
       refine⟨i+1,(T0++[y])++x::T2,U',by omega,by omega,by omega,by omega,by go_num,yg HF.out HF2.out.2.1 (El ?_ HLT.out) HF2.out.2.2,hid (RowE.drewN _ (by simpa using HR3.out)),HK3.out.drewN _⟩;have h:=HF.out.2.2.1;rw[HF2.out.2.1]at h;exact h.left
    ·have Yx:j=a:=(by omega);have hd:decide (a<j)=false:=(by simp;omega);have Q8:T1=[]:=List.eq_nil_of_length_eq_zero (by have:=HF2.out.1;omega);subst Q8;go_wp2_with fail;go_quiet (fail);go_wp2_with fail;go_roundg (IY-1)
     case measure=>have:=HG.out;omega
     case rel=>exact⟨i+1,[]++x::T2,U',by omega,by omega,by omega,by omega,by go_num,yg HF.out HF2.out.2.1 (by simp[AllLt]) HF2.out.2.2,hid (RowE.drewN _ (by simpa using HR3.out)),HK3.out.drewN _⟩
  ·go_wp2_with fail;go_end0;have hU:U=[]:=by
    rcases HF.out.1 with h | h
    ·exact List.eq_nil_of_length_eq_zero (by have:=HF.out.2.1;omega)
    ·exact h.2
   subst hU;exact⟨⟨_,rfl⟩,⟨T,by simpa using HF.out.2.2.2.2.2,HF.out.2.2.1,by simpa using HR2.out⟩,HK2.out⟩
structure Parts(ns A B:List Nat):Prop where
 sa:Sorted ns A
 sb:Sorted ns B
 ahead:Ahead A B
 ma:∀x∈A,x<ns.length
 mb:∀x∈B,x<ns.length
structure Mem(w:World)(B g n cap bx:Nat)(I:Nat->Prop)(ns d:List Nat):Prop where
 row:NRow B w (.slice (some ⟨g,0,none⟩) n cap) d
 cmp:Cmp w bx I ns
 hbx:bx≠g
 hI:∀k,I k->k≠g
 hn:n<=1000000
 hns:ns.length<=1000000
theorem Mem.drewN{w:World}{B g n cap bx:Nat}{I:Nat->Prop}{ns d:List Nat}(h:Mem w B g n cap bx I ns d)(k:Nat):Mem (w.drewN k) B g n cap bx I ns d:=⟨h.row,⟨h.cmp.ex⟩,h.hbx,h.hI,h.hn,h.hns⟩
theorem Mem.to{w w':World}{B g n cap bx:Nat}{I:Nat->Prop}{ns d d':List Nat}(h:Mem w B g n cap bx I ns d)(hr:NRow B w' (.slice (some ⟨g,0,none⟩) n cap) d')(hk:Kept (·=g) w w'):Mem w' B g n cap bx I ns d':=
 ⟨hr,h.cmp.kept hk (λe=>h.hbx e) (λk hk _ e=>h.hI k hk e),h.hbx,h.hI,h.hn,h.hns⟩
theorem Mem.at{w:World}{B g n cap bx:Nat}{I:Nat->Prop}{ns d:List Nat}(h:Mem w B g n cap bx I ns d)(j:Nat)(hj:j<d.length):w.cell? ⟨g,j,none⟩=some (.int .i64 ((d[j]:Nat):Int)):=h.row.cell j hj
def oA(w w':World)(B g n cap bx:Nat)(I:Nat->Prop)(ns P L R S:List Nat):Prop:=
 ∃C,C.Perm (L++R)/\Sorted ns C/\Mem w' B g n cap bx I ns (P++C++S)/\Kept (·=g) w w'
theorem bL{ns A B C1 C2:List Nat}{i j:Nat}(hx:AllLt ns (A.take i++B.take j) (A.drop i++B.drop j))(p1:C1.Perm (A.take i++B.take j))(s1:Sorted ns C1)(p2:C2.Perm (A.drop i++B.drop j))(s2:Sorted ns C2):
  (C1++C2).Perm (A++B)/\Sorted ns (C1++C2):=by
 refine⟨?_,s1.append s2 (hx.perm p1 p2)⟩;refine(p1.append p2).trans ?_;have e:(A.take i++B.take j++(A.drop i++B.drop j)).Perm (A.take i++A.drop i++(B.take j++B.drop j)):=by rw[List.append_assoc,List.append_assoc];refine List.Perm.append_left _ ?_;rw[<-List.append_assoc,<-List.append_assoc];exact List.Perm.append_right _ List.perm_append_comm
 rw[List.take_append_drop,List.take_append_drop]at e;exact e
theorem JK(w:World)(B g n cap bx a m b:Nat)(I:Nat→Prop)(ns P R S:List Nat)(x:Nat)(hM:Mem w B g n cap bx I ns (P++[x]++R++S))(hP:Parts ns [x] R)(ha:a=P.length)(hm:m=P.length+1)(hb:b=P.length+1+R.length):
  Calls Tryz.prog 203 #[.slice (some ⟨g,0,none⟩) n cap,.int .i64 (a:Nat),.int .i64 (m:Nat),.int .i64 (b:Nat),oZ bx] w λe w'=>(∃v,e=.returned v)/\oA w w' B g n cap bx I ns P [x] R S:=by
 have ag:=hM.row.len;simp at ag;have hn:=hM.hn;have HM:Hid (Mem w B g n cap bx I ns (P++[x]++R++S)):=hM;have HP:Hid (Parts ns [x] R):=hP;have HA:Hid (a=P.length/\m=P.length+1/\b=P.length+1+R.length/\m=a+1/\P.length+1+R.length+S.length=n):=by exact⟨ha,hm,hb,by omega,by omega⟩
 have hd:((m:Int)-(a:Int))=1:=by omega
 have Sb:m<=b/\b<=n/\a<n/\a<m:=by omega
 clear ag hM hP ha hm hb;go_enter Tryz.func203,Tryz.ntmps203;go_wp2_with fail;go_loopg [10,11] (b-m) (λq zi zj wr=>∃(i j:Nat),j-i<=q/\m<=i/\i<=j/\j<=b/\zi=.int .i64 (i:Nat)/\zj=.int .i64 (j:Nat)/\Hid ((i=m\/∃h:i-1-m<R.length,m<i/\Lt ns R[i-1-m] x)/\(j=b\/∃h:j-m<R.length,Lt ns x R[j-m]))/\Hid (Mem wr B g n cap bx I ns (P++[x]++R++S))/\Hid (Kept (·=g) w wr))
 case atStart=>exact⟨m,b,by omega,by omega,by omega,by omega,rfl,rfl,⟨.inl rfl,.inl rfl⟩,HM.out,Kept.refl _ w⟩
 case round=>
  obtain⟨i,j,hq,Vy,Hy,Xi,rfl,rfl,HF,HM2,HK2⟩:=hrel;clear HM;by_cases hlt:i<j
  ·obtain⟨h,hh⟩:∃h,h=(i+j) / 2:=⟨_,rfl⟩
   have yR:i<=h/\h<j:=(by omega);have MG:((i:Int)+(j:Int)) / 2=(h:Int):=(by omega);have hR:h-m<R.length:=(by have:=HA.out;omega);obtain⟨y,hy⟩:∃y,y=R[h-m]:=⟨_,rfl⟩
   have cx:wr.cell? ⟨g,a,none⟩=some (.int .i64 (x:Int)):=(by have hc:=HM2.out.at a (by have:=HA.out;simp;omega);rw[hc];congr 3;have:=HA.out.1;subst this;simp);have cy:wr.cell? ⟨g,h,none⟩=some (.int .i64 (y:Int)):=(by have hc:=HM2.out.at h (by have:=HA.out;simp;omega);rw[hc];congr 3;rw[List.getElem_append_left (by have:=HA.out;simp;omega),List.getElem_append_right (by have:=HA.out;simp;omega)];rw[hy];congr 1;have:=HA.out;simp;omega);have yP:y∈R:=(by rw[hy];exact List.getElem_mem _);have tP:x<y:=HP.out.ahead x (by simp) y yP;have HL:=ni wr bx I ns HM2.out.cmp HM2.out.hns y x (HP.out.mb y yP) (HP.out.ma x (by simp));have HY:Hid (y=R[h-m]):=hy;clear hh hy yP;by_cases hk:key ns y<key ns x
   ·have pz:=pQ hk;have HLT:Hid (Lt ns y x):=(Lt.iff_of_gt tP).2 hk;generalize tF (key ns y) (key ns x)=cz at HL pz;clear hk;go_wp2_with fail;go_quiet ((go_at_call 180;exact Calls.quiet_of (HL _)));go_wp2_with fail;go_roundg (gk-1)
    case measure=>omega
    case rel=>
     refine⟨h+1,j,by omega,by omega,by omega,by omega,by go_num,rfl,⟨.inr ⟨by simpa[show h+1-1-m=h-m by omega]using hR,by omega,?_⟩,HF.out.2⟩,HM2.out.drewN _,HK2.out.drewN _⟩;have:=HLT.out;rw[HY.out]at this;simpa[show h+1-1-m=h-m by omega]using this
   ·have pz:=qg hk;have HLT:Hid (Lt ns x y):=Lt.of_not tP hk;generalize tF (key ns y) (key ns x)=cz at HL pz;clear hk;go_wp2_with fail;go_quiet ((go_at_call 180;exact Calls.quiet_of (HL _)));go_wp2_with fail;go_roundg (gk-1)
    case measure=>omega
    case rel=>
     refine⟨i,h,by omega,by omega,by omega,by omega,rfl,rfl,⟨HF.out.1,.inr ⟨hR,?_⟩⟩,HM2.out.drewN _,HK2.out.drewN _⟩;have:=HLT.out;rw[HY.out]at this;exact this
  ·have M3:i=j:=(by omega);subst M3;have jE:((i:Int)-1)=((i-1:Nat):Int):=(by omega);go_wp2_with fail;go_loopg [13] (i-1-a) (λq z wk=>∃k:Nat,i-1-k<=q/\a<=k/\k<=i-1/\z=.int .i64 (k:Nat)/\Hid (Mem wk B g n cap bx I ns (P++R.take (k-a)++x::R.drop (k-a)++S))/\Hid (Kept (·=g) w wk))
   case atStart=>exact⟨a,by omega,by omega,by omega,rfl,by have h:=HM2.out;exact hid (by simpa using h),HK2.out⟩
   case round=>
    obtain⟨k,Lx,Yi,VQ,rfl,HM3,HK3⟩:=hrel;clear HM2 HK2;by_cases EG:k<i-1
    ·have hR:k-a<R.length:=(by have:=HA.out;omega);obtain⟨y,hy⟩:∃y,y=R[k-a]:=⟨_,rfl⟩
     have pM:NRow B wr (.slice (some ⟨g,0,none⟩) n cap) ((P++R.take (k-a))++x::[]++y::(R.drop (k-a+1)++S)):=(by have h:=HM3.out.row;rw[List.drop_eq_getElem_cons hR,<-hy]at h;simpa using h);have e1:k=(P++R.take (k-a)).length:=(by have:=HA.out;simp;omega);have e2:k+1=(P++R.take (k-a)).length+1+([]:List Nat).length:=(by have:=HA.out;simp;omega);obtain⟨c1,c2,f1,f2,l1,l2,bm⟩:=ky pM e1 e2;have HR4:Hid (NRow B ((wr.setCell ⟨g,k,none⟩ (am y)).setCell ⟨g,k+1,none⟩ (am x)) (.slice (some ⟨g,0,none⟩) n cap) (P++R.take (k+1-a)++x::R.drop (k+1-a)++S)):=(by have h:=BI pM e1 e2;have h5:NRow B ((wr.setCell ⟨g,k,none⟩ (am y)).setCell ⟨g,k+1,none⟩ (am x)) (.slice (some ⟨g,0,none⟩) n cap) (P++R.take (k+1-a)++x::R.drop (k+1-a)++S):=(by rw[show k+1-a=(k-a)+1 by omega,List.take_succ_eq_append_getElem hR,<-hy];simpa using h);exact h5);unfold am at c1 c2;clear pM e1 e2 hy;go_wp2_with fail;go_region
     all_goals
      go_wp2_with fail;go_roundg (gk-1)
      case measure=>omega
      case rel=>
       have hk':Kept (·=g) wr (((wr.setCell ⟨g,k,none⟩ (am y)).setCell ⟨g,k+1,none⟩ (am x))):=((Kept.refl (·=g) wr).setCell ⟨g,k,none⟩ _ (.inl rfl)).setCell ⟨g,k+1,none⟩ _ (.inl rfl);exact⟨k+1,by omega,by omega,by omega,by go_num,HM3.out.to HR4.out hk'.drew,((HK3.out.setCell ⟨g,k,none⟩ _ (.inl rfl)).setCell ⟨g,k+1,none⟩ _ (.inl rfl)).drew⟩
    ·have e:k=i-1:=(by omega);subst e;go_wp2_with fail;refine bodyPost_ret (results_none rfl _ _ _) rfl ?_;refine⟨⟨_,rfl⟩,R.take (i-1-a)++x::R.drop (i-1-a),?_⟩;have Uj:i-1-a=i-m:=(by have:=HA.out;omega);have V1:=HA.out;have hF:=HF.out;have hsr:=HP.out.sb;have x1:AllLt ns (List.take 0 [x]++R.take (i-m)) (List.drop 0 [x]++R.drop (i-m)):=by
      refine i5 0 (i-m) HP.out.sa hsr (.inl rfl) ?_;rcases hF.1 with h | ⟨h1,h2,h3⟩
      ·left;omega
      ·right;right;exact⟨⟨by omega,by omega,by simp⟩,by simpa[show i-m-1=i-1-m by omega]using h3⟩
     have x2:AllLt ns (List.take 1 [x]++R.take (i-m)) (List.drop 1 [x]++R.drop (i-m)):=by
      refine i5 1 (i-m) HP.out.sa hsr ?_ (.inr (.inl (by simp)));rcases hF.2 with h | ⟨h1,h3⟩
      ·right;left;omega
      ·right;right;exact⟨⟨by omega,by simp,by omega⟩,by simpa using h3⟩
     have st:Sorted ns (x::R.drop (i-m)):=List.pairwise_cons.2 ⟨λz hz=>x2 x (by simp) z (by simpa using hz),by have h:=hsr;rw[<-List.take_append_drop (i-m) R]at h;exact Sorted.right h⟩;have s1:Sorted ns (R.take (i-m)):=(by have h:=hsr;rw[<-List.take_append_drop (i-m) R]at h;exact Sorted.left h);have hh:=bL x1 (C1:=R.take (i-m)) (C2:=x::R.drop (i-m)) (by simp) s1 (by simp) st;rw[Uj];refine⟨hh.1,hh.2,?_,HK3.out⟩;have h:=HM3.out;rw[Uj]at h;simpa using h
theorem Hc(w:World)(B g n cap bx a m b:Nat)(I:Nat→Prop)(ns P L S:List Nat)(y:Nat)(hM:Mem w B g n cap bx I ns (P++L++[y]++S))(hP:Parts ns L [y])(ha:a=P.length)(hm:m=P.length+L.length)(hb:b=P.length+L.length+1)(hL:1<L.length):
  Calls Tryz.prog 203 #[.slice (some ⟨g,0,none⟩) n cap,.int .i64 (a:Nat),.int .i64 (m:Nat),.int .i64 (b:Nat),oZ bx] w λe w'=>(∃v,e=.returned v)/\oA w w' B g n cap bx I ns P L [y] S:=by
 have ag:=hM.row.len;simp at ag;have hn:=hM.hn;have HM:Hid (Mem w B g n cap bx I ns (P++L++[y]++S)):=hM;have HP:Hid (Parts ns L [y]):=hP;have HA:Hid (a=P.length/\m=P.length+L.length/\b=P.length+L.length+1/\b=m+1/\P.length+L.length+1+S.length=n):=by exact⟨ha,hm,hb,by omega,by omega⟩
 have IV:((m:Int)-(a:Int)==1)=false:=by simp;omega
 have hd:((b:Int)-(m:Int))=1:=by omega
 have Sb:a<=m/\m<n/\m<b:=by omega
 clear ag hM hP ha hm hb hL;go_enter Tryz.func203,Tryz.ntmps203;go_wp2_with fail;go_loopg [14,15] (m-a) (λq zi zj wr=>∃(i j:Nat),j-i<=q/\a<=i/\i<=j/\j<=m/\zi=.int .i64 (i:Nat)/\zj=.int .i64 (j:Nat)/\Hid ((i=a\/∃h:i-1-a<L.length,a<i/\Lt ns L[i-1-a] y)/\(j=m\/∃h:j-a<L.length,Lt ns y L[j-a]))/\Hid (Mem wr B g n cap bx I ns (P++L++[y]++S))/\Hid (Kept (·=g) w wr))
 case atStart=>exact⟨a,m,by omega,by omega,by omega,by omega,rfl,rfl,⟨.inl rfl,.inl rfl⟩,HM.out,Kept.refl _ w⟩
 case round=>
  obtain⟨i,j,hq,Vy,Hy,Xi,rfl,rfl,HF,HM2,HK2⟩:=hrel;clear HM;by_cases hlt:i<j
  ·obtain⟨h,hh⟩:∃h,h=(i+j) / 2:=⟨_,rfl⟩
   have yR:i<=h/\h<j:=(by omega);have MG:((i:Int)+(j:Int)) / 2=(h:Int):=(by omega);have hR:h-a<L.length:=(by have:=HA.out;omega);obtain⟨x,hx⟩:∃x,x=L[h-a]:=⟨_,rfl⟩
   have cy:wr.cell? ⟨g,m,none⟩=some (.int .i64 (y:Int)):=(by have hc:=HM2.out.at m (by have:=HA.out;simp;omega);rw[hc];congr 3;rw[List.getElem_append_left (by have:=HA.out;simp;omega),List.getElem_append_right (by have:=HA.out;simp;omega)];simp);have cx:wr.cell? ⟨g,h,none⟩=some (.int .i64 (x:Int)):=(by have hc:=HM2.out.at h (by have:=HA.out;simp;omega);rw[hc];congr 3;rw[List.getElem_append_left (by have:=HA.out;simp;omega),List.getElem_append_left (by have:=HA.out;simp;omega),List.getElem_append_right (by have:=HA.out;omega)];rw[hx];congr 1;have:=HA.out;omega);have yQ:x∈L:=(by rw[hx];exact List.getElem_mem _);have tP:x<y:=HP.out.ahead x yQ y (by simp);have HL:=ni wr bx I ns HM2.out.cmp HM2.out.hns y x (HP.out.mb y (by simp)) (HP.out.ma x yQ);have HY:Hid (x=L[h-a]):=hx;clear hh hx yQ;by_cases hk:key ns y<key ns x
   ·have pz:=pQ hk;have HLT:Hid (Lt ns y x):=(Lt.iff_of_gt tP).2 hk;generalize tF (key ns y) (key ns x)=cz at HL pz;clear hk;go_wp2_with fail;go_quiet ((go_at_call 180;exact Calls.quiet_of (HL _)));go_wp2_with fail;go_roundg (gk-1)
    case measure=>omega
    case rel=>
     refine⟨i,h,by omega,by omega,by omega,by omega,rfl,rfl,⟨HF.out.1,.inr ⟨hR,?_⟩⟩,HM2.out.drewN _,HK2.out.drewN _⟩;have:=HLT.out;rw[HY.out]at this;exact this
   ·have pz:=qg hk;have HLT:Hid (Lt ns x y):=Lt.of_not tP hk;generalize tF (key ns y) (key ns x)=cz at HL pz;clear hk;go_wp2_with fail;go_quiet ((go_at_call 180;exact Calls.quiet_of (HL _)));go_wp2_with fail;go_roundg (gk-1)
    case measure=>omega
    case rel=>
     refine⟨h+1,j,by omega,by omega,by omega,by omega,by go_num,rfl,⟨.inr ⟨by simpa[show h+1-1-a=h-a by omega]using hR,by omega,?_⟩,HF.out.2⟩,HM2.out.drewN _,HK2.out.drewN _⟩;have:=HLT.out;rw[HY.out]at this;simpa[show h+1-1-a=h-a by omega]using this
  ·have M3:i=j:=(by omega);subst M3;go_wp2_with fail;go_loopg [17] (m-i) (λq z wk=>∃k:Nat,k-i<=q/\i<=k/\k<=m/\z=.int .i64 (k:Nat)/\Hid (Mem wk B g n cap bx I ns (P++L.take (k-a)++y::L.drop (k-a)++S))/\Hid (Kept (·=g) w wk))
   case atStart=>
    refine⟨m,by omega,by omega,by omega,rfl,?_,HK2.out⟩;have h:=HM2.out;have e1:L.take (m-a)=L:=List.take_of_length_le (by have:=HA.out;omega);have e2:L.drop (m-a)=[]:=List.drop_eq_nil_of_le (by have:=HA.out;omega);exact hid (by rw[e1,e2];simpa using h)
   case round=>
    obtain⟨k,Lx,Yi,VQ,rfl,HM3,HK3⟩:=hrel;clear HM2 HK2;by_cases EG:i<k
    ·have hR:k-1-a<L.length:=(by have:=HA.out;omega);have jE:((k:Int)-1)=((k-1:Nat):Int):=(by omega);obtain⟨x,hx⟩:∃x,x=L[k-1-a]:=⟨_,rfl⟩
     have pM:NRow B wr (.slice (some ⟨g,0,none⟩) n cap) ((P++L.take (k-1-a))++x::[]++y::(L.drop (k-a)++S)):=(by have h:=HM3.out.row;rw[show k-a=(k-1-a)+1 by omega,List.take_succ_eq_append_getElem hR,<-hx,<-show k-a=(k-1-a)+1 by omega]at h;simpa using h);have e1:k-1=(P++L.take (k-1-a)).length:=(by have:=HA.out;simp;omega);have e2:k=(P++L.take (k-1-a)).length+1+([]:List Nat).length:=(by have:=HA.out;simp;omega);obtain⟨c1,c2,f1,f2,l1,l2,bm⟩:=ky pM e1 e2;have HR4:Hid (NRow B ((wr.setCell ⟨g,k,none⟩ (am x)).setCell ⟨g,k-1,none⟩ (am y)) (.slice (some ⟨g,0,none⟩) n cap) (P++L.take (k-1-a)++y::L.drop (k-1-a)++S)):=(by have h:=xP pM e1 e2;have h5:NRow B ((wr.setCell ⟨g,k,none⟩ (am x)).setCell ⟨g,k-1,none⟩ (am y)) (.slice (some ⟨g,0,none⟩) n cap) (P++L.take (k-1-a)++y::L.drop (k-1-a)++S):=(by rw[List.drop_eq_getElem_cons hR,<-hx,<-show k-a=(k-1-a)+1 by omega];simpa using h);exact h5);unfold am at c1 c2;clear pM e1 e2 hx;go_wp2_with fail;go_region
     all_goals
      go_wp2_with fail;go_roundg (gk-1)
      case measure=>omega
      case rel=>
       have hk':Kept (·=g) wr (((wr.setCell ⟨g,k,none⟩ (am x)).setCell ⟨g,k-1,none⟩ (am y))):=((Kept.refl (·=g) wr).setCell ⟨g,k,none⟩ _ (.inl rfl)).setCell ⟨g,k-1,none⟩ _ (.inl rfl);exact⟨k-1,by omega,by omega,by omega,by congr 1,HM3.out.to HR4.out hk'.drew,((HK3.out.setCell ⟨g,k,none⟩ _ (.inl rfl)).setCell ⟨g,k-1,none⟩ _ (.inl rfl)).drew⟩
    ·have e:k=i:=(by omega);subst e;go_wp2_with fail;refine bodyPost_ret (results_none rfl _ _ _) rfl ?_;refine⟨⟨_,rfl⟩,L.take (k-a)++y::L.drop (k-a),?_⟩;have V1:=HA.out;have hF:=HF.out;have hsl:=HP.out.sa;have x1:AllLt ns (L.take (k-a)++List.take 0 [y]) (L.drop (k-a)++List.drop 0 [y]):=by
      refine i5 (k-a) 0 hsl HP.out.sb ?_ (.inl rfl);rcases hF.1 with h | ⟨h1,h2,h3⟩
      ·left;omega
      ·right;right;exact⟨⟨by omega,by omega,by simp⟩,by simpa[show k-a-1=k-1-a by omega]using h3⟩
     have x2:AllLt ns (L.take (k-a)++List.take 1 [y]) (L.drop (k-a)++List.drop 1 [y]):=by
      refine i5 (k-a) 1 hsl HP.out.sb (.inr (.inl (by simp))) ?_;rcases hF.2 with h | ⟨h1,h3⟩
      ·right;left;omega
      ·right;right;exact⟨⟨by omega,by simp,by omega⟩,by simpa using h3⟩
     have st:Sorted ns (y::L.drop (k-a)):=List.pairwise_cons.2 ⟨λz hz=>x2 y (by simp) z (by simpa using hz),by have h:=hsl;rw[<-List.take_append_drop (k-a) L]at h;exact Sorted.right h⟩;have s1:Sorted ns (L.take (k-a)):=(by have h:=hsl;rw[<-List.take_append_drop (k-a) L]at h;exact Sorted.left h);have hh:=bL x1 (C1:=L.take (k-a)) (C2:=y::L.drop (k-a)) (by simp) s1 (List.perm_append_comm (l₁:=[y])) st;refine⟨hh.1,hh.2,?_,HK3.out⟩;have h:=HM3.out;simpa using h
theorem Parts.cut{ns A B A' B':List Nat}(h:Parts ns A B)(hA:∀x∈A',x∈A)(hB:∀x∈B',x∈B)(sa:Sorted ns A')(sb:Sorted ns B'):Parts ns A' B':=
 ⟨sa,sb,h.ahead.sub hA hB,λx hx=>h.ma x (hA x hx),λx hx=>h.mb x (hB x hx)⟩
theorem Aw(P L R S:List Nat)(i j:Nat):P++L++R++S=P++L.take i++L.drop i++R.take j++(R.drop j++S):=by
 conv=>lhs;rw[<-List.take_append_drop i L,<-List.take_append_drop j R]
 simp only[List.append_assoc]
theorem BQ{P L R S:List Nat}{i j:Nat}(h:L.drop i=[]\/R.take j=[]):P++L.take i++R.take j++L.drop i++R.drop j++S=P++L++R++S:=by rw[Aw P L R S i j];rcases h with h | h<;>simp only[h,List.append_nil,List.append_assoc]
theorem FJ(k B g n cap bx:Nat)(I:Nat→Prop)(ns:List Nat)
  (ih:∀k',k'<k->∀(w:World) (a m b:Nat) (P L R S:List Nat),b-a<=k'->Mem w B g n cap bx I ns (P++L++R++S)->Parts ns L R->a=P.length->m=P.length+L.length->b=P.length+L.length+R.length->0<L.length->0<R.length ->
   Calls Tryz.prog 203 #[.slice (some ⟨g,0,none⟩) n cap,.int .i64 (a:Nat),.int .i64 (m:Nat),.int .i64 (b:Nat),oZ bx] w λe w'=>(∃v,e=.returned v)/\oA w w' B g n cap bx I ns P L R S)
  (w:World) (a m b:Nat) (P L R S:List Nat) (hk:b-a<=k) (hM:Mem w B g n cap bx I ns (P++L++R++S)) (hP:Parts ns L R) (ha:a=P.length) (hm:m=P.length+L.length) (hb:b=P.length+L.length+R.length) (hL:1<L.length) (hR:1<R.length):
  Calls Tryz.prog 203 #[.slice (some ⟨g,0,none⟩) n cap,.int .i64 (a:Nat),.int .i64 (m:Nat),.int .i64 (b:Nat),oZ bx] w λe w'=>(∃v,e=.returned v)/\oA w w' B g n cap bx I ns P L R S:=by
 have ag:=hM.row.len;simp at ag;have hn:=hM.hn;have IH:Hid (∀k',k'<k→∀(w:World) (a m b:Nat) (P L R S:List Nat),b-a≤k'→Mem w B g n cap bx I ns (P++L++R++S)→Parts ns L R→a=P.length→m=P.length+L.length→b=P.length+L.length+R.length→0<L.length→0<R.length →
   Calls Tryz.prog 203 #[.slice (some ⟨g,0,none⟩) n cap,.int .i64 (a:Nat),.int .i64 (m:Nat),.int .i64 (b:Nat),oZ bx] w λe w'=>(∃v,e=.returned v)/\oA w w' B g n cap bx I ns P L R S):=ih
 have HM:Hid (Mem w B g n cap bx I ns (P++L++R++S)):=hM;have HP:Hid (Parts ns L R):=hP;have HA:Hid (a=P.length/\m=P.length+L.length/\b=P.length+L.length+R.length/\P.length+L.length+R.length+S.length=n):=by exact⟨ha,hm,hb,by omega⟩
 have IV:((m:Int)-(a:Int)==1)=false:=by simp;omega
 have Cq:((b:Int)-(m:Int)==1)=false:=by simp;omega
 have Fa:a+1<m/\m+1<b/\b<=n:=by omega
 obtain⟨mid,MG⟩:∃mid,mid=(a+b) / 2:=⟨_,rfl⟩
 obtain⟨N,hN⟩:∃N,N=mid+m:=⟨_,rfl⟩
 have TG:((a:Int)+(b:Int)) / 2=(mid:Int):=by omega
 have Xt:((mid:Int)+(m:Int))=(N:Int):=by omega
 have Pi:2*mid<=a+b/\a+b<=2*mid+1:=by omega
 have YP:N<=mid+m/\mid+m<=N:=by omega
 clear ag hM hP ha hm hb ih hL hR MG hN;go_enter Tryz.func203,Tryz.ntmps203;by_cases NO:mid<m
 ·have CB:((N:Int)-(b:Int))=((N-b:Nat):Int):=(by omega);have H0:Hid (mid<m):=NO;go_wp2_with fail;go_loopg [20,21] (b-a) (λq zi zj wr=>∃(s r:Nat),r-s<=q/\N-b<=s/\s<=r/\r<=mid/\zi=.int .i64 (s:Nat)/\zj=.int .i64 (r:Nat)/\Hid ((s=N-b\/∃(h1:s-1-a<L.length) (h2:N-s-m<R.length),a<s/\Lt ns L[s-1-a] R[N-s-m])/\(r=mid\/∃(h1:N-1-r-m<R.length) (h2:r-a<L.length),Lt ns R[N-1-r-m] L[r-a]))/\Hid (Mem wr B g n cap bx I ns (P++L++R++S))/\Hid (Kept (·=g) w wr))
  case atStart=>exact⟨N-b,mid,by omega,by omega,by omega,by omega,rfl,rfl,⟨.inl rfl,.inl rfl⟩,HM.out,Kept.refl _ w⟩
  case round=>
   obtain⟨s,r,hq,CB,hsr,pM,rfl,rfl,HF,HM2,HK2⟩:=hrel;clear HM;by_cases hlt:s<r
   ·obtain⟨c,hc⟩:∃c,c=(s+r) / 2:=⟨_,rfl⟩
    have Pp:s<=c/\c<r:=(by omega);have O4:((s:Int)+(r:Int)) / 2=(c:Int):=(by omega);have hp:((N:Int)-1-(c:Int))=((N-1-c:Nat):Int):=(by omega);have MP:N-1-c<n/\c<n:=(by omega);have iL:c-a<L.length:=(by have:=HA.out;omega);have iR:N-1-c-m<R.length:=(by have:=HA.out;omega);obtain⟨x,hx⟩:∃x,x=L[c-a]:=⟨_,rfl⟩
    obtain⟨y,hy⟩:∃y,y=R[N-1-c-m]:=⟨_,rfl⟩
    have cx:wr.cell? ⟨g,c,none⟩=some (.int .i64 (x:Int)):=(by have hc:=HM2.out.at c (by have:=HA.out;simp;omega);rw[hc];congr 3;rw[List.getElem_append_left (by have:=HA.out;simp;omega),List.getElem_append_left (by have:=HA.out;simp;omega),List.getElem_append_right (by have:=HA.out;omega)];rw[hx];congr 1;have:=HA.out;omega);have cy:wr.cell? ⟨g,N-1-c,none⟩=some (.int .i64 (y:Int)):=(by have hc:=HM2.out.at (N-1-c) (by have:=HA.out;simp;omega);rw[hc];congr 3;rw[List.getElem_append_left (by have:=HA.out;simp;omega),List.getElem_append_right (by have:=HA.out;simp;omega)];rw[hy];congr 1;have:=HA.out;simp;omega);have yQ:x∈L:=(by rw[hx];exact List.getElem_mem _);have yP:y∈R:=(by rw[hy];exact List.getElem_mem _);have tP:x<y:=HP.out.ahead x yQ y yP;have HL:=ni wr bx I ns HM2.out.cmp HM2.out.hns y x (HP.out.mb y yP) (HP.out.ma x yQ);have HX:Hid (x=L[c-a]):=hx;have HY:Hid (y=R[N-1-c-m]):=hy;clear hc hx hy yQ yP IH;by_cases hk:key ns y<key ns x
    ·have pz:=pQ hk;have HLT:Hid (Lt ns y x):=(Lt.iff_of_gt tP).2 hk;generalize tF (key ns y) (key ns x)=cz at HL pz;clear hk;go_wp2_with fail;go_quiet ((go_at_call 180;exact Calls.quiet_of (HL _)));go_wp2_with fail;go_roundg (gk-1)
     case measure=>omega
     case rel=>
      refine⟨s,c,by omega,by omega,by omega,by omega,rfl,rfl,⟨HF.out.1,.inr ⟨iR,iL,?_⟩⟩,HM2.out.drewN _,HK2.out.drewN _⟩;have h:=HLT.out;rw[HX.out,HY.out]at h;exact h
    ·have pz:=qg hk;have HLT:Hid (Lt ns x y):=Lt.of_not tP hk;generalize tF (key ns y) (key ns x)=cz at HL pz;clear hk;go_wp2_with fail;go_quiet ((go_at_call 180;exact Calls.quiet_of (HL _)));go_wp2_with fail;go_roundg (gk-1)
     case measure=>omega
     case rel=>
      refine⟨c+1,r,by omega,by omega,by omega,by omega,by go_num,rfl,⟨.inr ⟨by simpa using iL,by simpa[show N-(c+1)-m=N-1-c-m by omega]using iR,by omega,?_⟩,HF.out.2⟩,HM2.out.drewN _,HK2.out.drewN _⟩;have h:=HLT.out;rw[HX.out,HY.out]at h;simpa[show N-(c+1)-m=N-1-c-m by omega]using h
   ·have Na:s=r:=(by omega);subst Na;have CR:Hid (AllLt ns (L.take (s-a)++R.take (N-s-m)) (L.drop (s-a)++R.drop (N-s-m))):=by
     refine i5 (s-a) (N-s-m) HP.out.sa HP.out.sb ?_ ?_
     ·rcases HF.out.1 with h | ⟨h1,h2,h3,h4⟩
      ·right;left;have:=HA.out;omega
      ·right;right;exact⟨⟨by omega,by omega,h2⟩,by simpa[show s-a-1=s-1-a by omega]using h4⟩
     ·rcases HF.out.2 with h | ⟨h1,h2,h3⟩
      ·left;omega
      ·by_cases h5:N-s-m=0
       ·left;exact h5
       ·right;right;exact⟨⟨by omega,by have:=HA.out;omega,h2⟩,by simpa[show N-s-m-1=N-1-s-m by omega]using h3⟩
    have Iu:((N:Int)-(s:Int))=((N-s:Nat):Int):=(by omega);have PA:Hid (Parts ns (L.take (s-a)) (R.take (N-s-m))):=hid (HP.out.cut (λx h=>List.mem_of_mem_take h) (λx h=>List.mem_of_mem_take h) (List.Pairwise.sublist (List.take_sublist _ _) HP.out.sa) (List.Pairwise.sublist (List.take_sublist _ _) HP.out.sb));have PB:Hid (Parts ns (L.drop (s-a)) (R.drop (N-s-m))):=hid (HP.out.cut (λx h=>List.mem_of_mem_drop h) (λx h=>List.mem_of_mem_drop h) (List.Pairwise.sublist (List.drop_sublist _ _) HP.out.sa) (List.Pairwise.sublist (List.drop_sublist _ _) HP.out.sb));by_cases hβ:s<mid
    ·by_cases hγ:s<m
     ·have HROT:=pS wr B g n cap s m (N-s) (oZ bx) (P++L.take (s-a)) (L.drop (s-a)) (R.take (N-s-m)) (R.drop (N-s-m)++S) (by have:=HA.out;simp;omega) (by have:=HA.out;simp;omega) (by have h:=HM2.out.row;rw[Aw P L R S (s-a) (N-s-m)]at h;exact h) (by have:=HA.out;simp;omega) (by have:=HA.out;simp;omega) (by have:=HA.out;simp;omega) hn;by_cases hα:a<s
      ·by_cases hδ:N-s<b
       ·go_wp2_with fail
        all_goals
         refine HROT.mono ?_;rintro e wq ⟨⟨vq,rfl⟩,hrq,hkq⟩;have HMq:Hid (Mem wq B g n cap bx I ns (P++L.take (s-a)++R.take (N-s-m)++L.drop (s-a)++R.drop (N-s-m)++S)):=hid ((HM2.out.to (d':=P++L.take (s-a)++R.take (N-s-m)++L.drop (s-a)++R.drop (N-s-m)++S) (by simpa only[List.append_assoc]using hrq) hkq));have HKq:Hid (Kept (·=g) w wq):=HK2.out.trans hkq (λ_ _ h=>h) (λ_ _ h=>h);clear hrq hkq HROT;have HC1:=IH.out (mid-a) (by omega) wq a s mid P (L.take (s-a)) (R.take (N-s-m)) (L.drop (s-a)++R.drop (N-s-m)++S) (by omega) (by simpa only[List.append_assoc]using HMq.out) PA.out (by have:=HA.out;omega) (by have:=HA.out;simp;omega) (by have:=HA.out;simp;omega) (by have:=HA.out;simp;omega) (by have:=HA.out;simp;omega);go_wp2_with fail;refine HC1.mono ?_;rintro e wp ⟨⟨vp,rfl⟩,C1,p1,s1,hm1,hk1⟩;have HMp:Hid (Mem wp B g n cap bx I ns (P++C1++(L.drop (s-a)++R.drop (N-s-m)++S))):=hm1;have HKp:Hid (Kept (·=g) w wp):=HKq.out.trans hk1 (λ_ _ h=>h) (λ_ _ h=>h);have HS1:Hid (C1.Perm (L.take (s-a)++R.take (N-s-m))/\Sorted ns C1):=⟨p1,s1⟩
         clear hm1 hk1 p1 s1 HC1;have HC2:=IH.out (b-mid) (by omega) wp mid (N-s) b (P++C1) (L.drop (s-a)) (R.drop (N-s-m)) S (by omega) (by simpa only[List.append_assoc]using HMp.out) PB.out (by have:=HA.out;have:=HS1.out.1.length_eq;simp at this ⊢;omega) (by have:=HA.out;have:=HS1.out.1.length_eq;simp at this ⊢;omega) (by have:=HA.out;have:=HS1.out.1.length_eq;simp at this ⊢;omega) (by have:=HA.out;simp;omega) (by have:=HA.out;simp;omega);go_wp2_with fail;refine HC2.mono ?_;rintro e wz ⟨⟨vz,rfl⟩,C2,p2,s2,ip,hk2⟩;have HMz:Hid (Mem wz B g n cap bx I ns (P++C1++C2++S)):=ip;have HKz:Hid (Kept (·=g) w wz):=HKp.out.trans hk2 (λ_ _ h=>h) (λ_ _ h=>h);have HS2:Hid (C2.Perm (L.drop (s-a)++R.drop (N-s-m))/\Sorted ns C2):=⟨p2,s2⟩
         clear ip hk2 p2 s2 HC2;go_wp2_with fail;go_end0;have hh:=bL CR.out HS1.out.1 HS1.out.2 HS2.out.1 HS2.out.2;exact⟨⟨_,rfl⟩,C1++C2,hh.1,hh.2,by simpa only[List.append_assoc]using HMz.out,HKz.out⟩
       ·have S2:Hid (Sorted ns (L.drop (s-a)++R.drop (N-s-m))):=hid (by rw[List.drop_eq_nil_of_le (show R.length<=N-s-m by have:=HA.out;omega),List.append_nil];exact PB.out.sa);go_wp2_with fail
        all_goals
         refine HROT.mono ?_;rintro e wq ⟨⟨vq,rfl⟩,hrq,hkq⟩;have HMq:Hid (Mem wq B g n cap bx I ns (P++L.take (s-a)++R.take (N-s-m)++L.drop (s-a)++R.drop (N-s-m)++S)):=hid ((HM2.out.to (d':=P++L.take (s-a)++R.take (N-s-m)++L.drop (s-a)++R.drop (N-s-m)++S) (by simpa only[List.append_assoc]using hrq) hkq));have HKq:Hid (Kept (·=g) w wq):=HK2.out.trans hkq (λ_ _ h=>h) (λ_ _ h=>h);clear hrq hkq HROT;have HC1:=IH.out (mid-a) (by omega) wq a s mid P (L.take (s-a)) (R.take (N-s-m)) (L.drop (s-a)++R.drop (N-s-m)++S) (by omega) (by simpa only[List.append_assoc]using HMq.out) PA.out (by have:=HA.out;omega) (by have:=HA.out;simp;omega) (by have:=HA.out;simp;omega) (by have:=HA.out;simp;omega) (by have:=HA.out;simp;omega);go_wp2_with fail;refine HC1.mono ?_;rintro e wp ⟨⟨vp,rfl⟩,C1,p1,s1,hm1,hk1⟩;have HMp:Hid (Mem wp B g n cap bx I ns (P++C1++(L.drop (s-a)++R.drop (N-s-m)++S))):=hm1;have HKp:Hid (Kept (·=g) w wp):=HKq.out.trans hk1 (λ_ _ h=>h) (λ_ _ h=>h);have HS1:Hid (C1.Perm (L.take (s-a)++R.take (N-s-m))/\Sorted ns C1):=⟨p1,s1⟩
         clear hm1 hk1 p1 s1 HC1;obtain⟨C2,HS2,HMz⟩:∃C2,Hid (C2.Perm (L.drop (s-a)++R.drop (N-s-m))/\Sorted ns C2)/\Hid (Mem wp B g n cap bx I ns (P++C1++C2++S)):=⟨_,⟨List.Perm.refl _,S2.out⟩,hid (by have h:=HMp.out;simpa only[List.append_assoc]using h)⟩
         have HKz:=HKp;go_wp2_with fail;go_end0;have hh:=bL CR.out HS1.out.1 HS1.out.2 HS2.out.1 HS2.out.2;exact⟨⟨_,rfl⟩,C1++C2,hh.1,hh.2,by simpa only[List.append_assoc]using HMz.out,HKz.out⟩
      ·have S1:Hid (Sorted ns (L.take (s-a)++R.take (N-s-m))):=hid (by rw[show s-a=0 by omega,List.take_zero,List.nil_append];exact PA.out.sb);by_cases hδ:N-s<b
       ·go_wp2_with fail
        all_goals
         refine HROT.mono ?_;rintro e wq ⟨⟨vq,rfl⟩,hrq,hkq⟩;have HMq:Hid (Mem wq B g n cap bx I ns (P++L.take (s-a)++R.take (N-s-m)++L.drop (s-a)++R.drop (N-s-m)++S)):=hid ((HM2.out.to (d':=P++L.take (s-a)++R.take (N-s-m)++L.drop (s-a)++R.drop (N-s-m)++S) (by simpa only[List.append_assoc]using hrq) hkq));have HKq:Hid (Kept (·=g) w wq):=HK2.out.trans hkq (λ_ _ h=>h) (λ_ _ h=>h);clear hrq hkq HROT;obtain⟨C1,HS1,HMp⟩:∃C1,Hid (C1.Perm (L.take (s-a)++R.take (N-s-m))/\Sorted ns C1)/\Hid (Mem wq B g n cap bx I ns (P++C1++(L.drop (s-a)++R.drop (N-s-m)++S))):=⟨_,⟨List.Perm.refl _,S1.out⟩,hid (by have h:=HMq.out;simpa only[List.append_assoc]using h)⟩
         have HKp:=HKq;have HC2:=IH.out (b-mid) (by omega) wq mid (N-s) b (P++C1) (L.drop (s-a)) (R.drop (N-s-m)) S (by omega) (by simpa only[List.append_assoc]using HMp.out) PB.out (by have:=HA.out;have:=HS1.out.1.length_eq;simp at this ⊢;omega) (by have:=HA.out;have:=HS1.out.1.length_eq;simp at this ⊢;omega) (by have:=HA.out;have:=HS1.out.1.length_eq;simp at this ⊢;omega) (by have:=HA.out;simp;omega) (by have:=HA.out;simp;omega);go_wp2_with fail;refine HC2.mono ?_;rintro e wz ⟨⟨vz,rfl⟩,C2,p2,s2,ip,hk2⟩;have HMz:Hid (Mem wz B g n cap bx I ns (P++C1++C2++S)):=ip;have HKz:Hid (Kept (·=g) w wz):=HKp.out.trans hk2 (λ_ _ h=>h) (λ_ _ h=>h);have HS2:Hid (C2.Perm (L.drop (s-a)++R.drop (N-s-m))/\Sorted ns C2):=⟨p2,s2⟩
         clear ip hk2 p2 s2 HC2;go_wp2_with fail;go_end0;have hh:=bL CR.out HS1.out.1 HS1.out.2 HS2.out.1 HS2.out.2;exact⟨⟨_,rfl⟩,C1++C2,hh.1,hh.2,by simpa only[List.append_assoc]using HMz.out,HKz.out⟩
       ·have S2:Hid (Sorted ns (L.drop (s-a)++R.drop (N-s-m))):=hid (by rw[List.drop_eq_nil_of_le (show R.length<=N-s-m by have:=HA.out;omega),List.append_nil];exact PB.out.sa);go_wp2_with fail
        all_goals
         refine HROT.mono ?_;rintro e wq ⟨⟨vq,rfl⟩,hrq,hkq⟩;have HMq:Hid (Mem wq B g n cap bx I ns (P++L.take (s-a)++R.take (N-s-m)++L.drop (s-a)++R.drop (N-s-m)++S)):=hid ((HM2.out.to (d':=P++L.take (s-a)++R.take (N-s-m)++L.drop (s-a)++R.drop (N-s-m)++S) (by simpa only[List.append_assoc]using hrq) hkq));have HKq:Hid (Kept (·=g) w wq):=HK2.out.trans hkq (λ_ _ h=>h) (λ_ _ h=>h);clear hrq hkq HROT;obtain⟨C1,HS1,HMp⟩:∃C1,Hid (C1.Perm (L.take (s-a)++R.take (N-s-m))/\Sorted ns C1)/\Hid (Mem wq B g n cap bx I ns (P++C1++(L.drop (s-a)++R.drop (N-s-m)++S))):=⟨_,⟨List.Perm.refl _,S1.out⟩,hid (by have h:=HMq.out;simpa only[List.append_assoc]using h)⟩
         have HKp:=HKq;obtain⟨C2,HS2,HMz⟩:∃C2,Hid (C2.Perm (L.drop (s-a)++R.drop (N-s-m))/\Sorted ns C2)/\Hid (Mem wq B g n cap bx I ns (P++C1++C2++S)):=⟨_,⟨List.Perm.refl _,S2.out⟩,hid (by have h:=HMp.out;simpa only[List.append_assoc]using h)⟩
         have HKz:=HKp;go_wp2_with fail;go_end0;have hh:=bL CR.out HS1.out.1 HS1.out.2 HS2.out.1 HS2.out.2;exact⟨⟨_,rfl⟩,C1++C2,hh.1,hh.2,by simpa only[List.append_assoc]using HMz.out,HKz.out⟩
     ·have eL:L.drop (s-a)=[]:=List.drop_eq_nil_of_le (by have:=HA.out;omega);have HSAME:Hid (P++L.take (s-a)++R.take (N-s-m)++L.drop (s-a)++R.drop (N-s-m)++S=P++L++R++S):=hid (BQ (.inl eL));have S2:Hid (Sorted ns (L.drop (s-a)++R.drop (N-s-m))):=hid (by rw[eL,List.nil_append];exact PB.out.sb);clear eL;have jW:¬mid<N-s:=(by omega);by_cases hα:a<s
      ·have HMq:Hid (Mem wr B g n cap bx I ns (P++L.take (s-a)++R.take (N-s-m)++L.drop (s-a)++R.drop (N-s-m)++S)):=hid (by have h:=HM2.out;rw[<-HSAME.out]at h;exact h);have HKq:Hid (Kept (·=g) w wr):=HK2.out;have HC1:=IH.out (mid-a) (by omega) wr a s mid P (L.take (s-a)) (R.take (N-s-m)) (L.drop (s-a)++R.drop (N-s-m)++S) (by omega) (by simpa only[List.append_assoc]using HMq.out) PA.out (by have:=HA.out;omega) (by have:=HA.out;simp;omega) (by have:=HA.out;simp;omega) (by have:=HA.out;simp;omega) (by have:=HA.out;simp;omega);go_wp2_with fail
       all_goals
        refine HC1.mono ?_;rintro e wp ⟨⟨vp,rfl⟩,C1,p1,s1,hm1,hk1⟩;have HMp:Hid (Mem wp B g n cap bx I ns (P++C1++(L.drop (s-a)++R.drop (N-s-m)++S))):=hm1;have HKp:Hid (Kept (·=g) w wp):=HKq.out.trans hk1 (λ_ _ h=>h) (λ_ _ h=>h);have HS1:Hid (C1.Perm (L.take (s-a)++R.take (N-s-m))/\Sorted ns C1):=⟨p1,s1⟩
        clear hm1 hk1 p1 s1 HC1;obtain⟨C2,HS2,HMz⟩:∃C2,Hid (C2.Perm (L.drop (s-a)++R.drop (N-s-m))/\Sorted ns C2)/\Hid (Mem wp B g n cap bx I ns (P++C1++C2++S)):=⟨_,⟨List.Perm.refl _,S2.out⟩,hid (by have h:=HMp.out;simpa only[List.append_assoc]using h)⟩
        have HKz:=HKp;go_wp2_with fail;go_end0;have hh:=bL CR.out HS1.out.1 HS1.out.2 HS2.out.1 HS2.out.2;exact⟨⟨_,rfl⟩,C1++C2,hh.1,hh.2,by simpa only[List.append_assoc]using HMz.out,HKz.out⟩
      ·have S1:Hid (Sorted ns (L.take (s-a)++R.take (N-s-m))):=hid (by rw[show s-a=0 by omega,List.take_zero,List.nil_append];exact PA.out.sb);have HMq:Hid (Mem wr B g n cap bx I ns (P++L.take (s-a)++R.take (N-s-m)++L.drop (s-a)++R.drop (N-s-m)++S)):=hid (by have h:=HM2.out;rw[<-HSAME.out]at h;exact h);have HKq:Hid (Kept (·=g) w wr):=HK2.out;obtain⟨C1,HS1,HMp⟩:∃C1,Hid (C1.Perm (L.take (s-a)++R.take (N-s-m))/\Sorted ns C1)/\Hid (Mem wr B g n cap bx I ns (P++C1++(L.drop (s-a)++R.drop (N-s-m)++S))):=⟨_,⟨List.Perm.refl _,S1.out⟩,hid (by have h:=HMq.out;simpa only[List.append_assoc]using h)⟩
       have HKp:=HKq;obtain⟨C2,HS2,HMz⟩:∃C2,Hid (C2.Perm (L.drop (s-a)++R.drop (N-s-m))/\Sorted ns C2)/\Hid (Mem wr B g n cap bx I ns (P++C1++C2++S)):=⟨_,⟨List.Perm.refl _,S2.out⟩,hid (by have h:=HMp.out;simpa only[List.append_assoc]using h)⟩
       have HKz:=HKp;go_wp2_with fail
       all_goals
        go_end0;have hh:=bL CR.out HS1.out.1 HS1.out.2 HS2.out.1 HS2.out.2;exact⟨⟨_,rfl⟩,C1++C2,hh.1,hh.2,by simpa only[List.append_assoc]using HMz.out,HKz.out⟩
    ·have eR:R.take (N-s-m)=[]:=(by rw[show N-s-m=0 by omega];rfl);have HSAME:Hid (P++L.take (s-a)++R.take (N-s-m)++L.drop (s-a)++R.drop (N-s-m)++S=P++L++R++S):=hid (BQ (.inr eR));have S1:Hid (Sorted ns (L.take (s-a)++R.take (N-s-m))):=hid (by rw[eR,List.append_nil];exact PA.out.sa);clear eR;have pL:¬m<N-s:=(by omega);by_cases h3:s<m
     ·by_cases hδ:N-s<b
      ·by_cases hα:a<s
       ·have HMq:Hid (Mem wr B g n cap bx I ns (P++L.take (s-a)++R.take (N-s-m)++L.drop (s-a)++R.drop (N-s-m)++S)):=hid (by have h:=HM2.out;rw[<-HSAME.out]at h;exact h);have HKq:Hid (Kept (·=g) w wr):=HK2.out;obtain⟨C1,HS1,HMp⟩:∃C1,Hid (C1.Perm (L.take (s-a)++R.take (N-s-m))/\Sorted ns C1)/\Hid (Mem wr B g n cap bx I ns (P++C1++(L.drop (s-a)++R.drop (N-s-m)++S))):=⟨_,⟨List.Perm.refl _,S1.out⟩,hid (by have h:=HMq.out;simpa only[List.append_assoc]using h)⟩
        have HKp:=HKq;have HC2:=IH.out (b-mid) (by omega) wr mid (N-s) b (P++C1) (L.drop (s-a)) (R.drop (N-s-m)) S (by omega) (by simpa only[List.append_assoc]using HMp.out) PB.out (by have:=HA.out;have:=HS1.out.1.length_eq;simp at this ⊢;omega) (by have:=HA.out;have:=HS1.out.1.length_eq;simp at this ⊢;omega) (by have:=HA.out;have:=HS1.out.1.length_eq;simp at this ⊢;omega) (by have:=HA.out;simp;omega) (by have:=HA.out;simp;omega);go_wp2_with fail
        all_goals
         refine HC2.mono ?_;rintro e wz ⟨⟨vz,rfl⟩,C2,p2,s2,ip,hk2⟩;have HMz:Hid (Mem wz B g n cap bx I ns (P++C1++C2++S)):=ip;have HKz:Hid (Kept (·=g) w wz):=HKp.out.trans hk2 (λ_ _ h=>h) (λ_ _ h=>h);have HS2:Hid (C2.Perm (L.drop (s-a)++R.drop (N-s-m))/\Sorted ns C2):=⟨p2,s2⟩
         clear ip hk2 p2 s2 HC2;go_wp2_with fail;go_end0;have hh:=bL CR.out HS1.out.1 HS1.out.2 HS2.out.1 HS2.out.2;exact⟨⟨_,rfl⟩,C1++C2,hh.1,hh.2,by simpa only[List.append_assoc]using HMz.out,HKz.out⟩
       ·have HMq:Hid (Mem wr B g n cap bx I ns (P++L.take (s-a)++R.take (N-s-m)++L.drop (s-a)++R.drop (N-s-m)++S)):=hid (by have h:=HM2.out;rw[<-HSAME.out]at h;exact h);have HKq:Hid (Kept (·=g) w wr):=HK2.out;obtain⟨C1,HS1,HMp⟩:∃C1,Hid (C1.Perm (L.take (s-a)++R.take (N-s-m))/\Sorted ns C1)/\Hid (Mem wr B g n cap bx I ns (P++C1++(L.drop (s-a)++R.drop (N-s-m)++S))):=⟨_,⟨List.Perm.refl _,S1.out⟩,hid (by have h:=HMq.out;simpa only[List.append_assoc]using h)⟩
        have HKp:=HKq;have HC2:=IH.out (b-mid) (by omega) wr mid (N-s) b (P++C1) (L.drop (s-a)) (R.drop (N-s-m)) S (by omega) (by simpa only[List.append_assoc]using HMp.out) PB.out (by have:=HA.out;have:=HS1.out.1.length_eq;simp at this ⊢;omega) (by have:=HA.out;have:=HS1.out.1.length_eq;simp at this ⊢;omega) (by have:=HA.out;have:=HS1.out.1.length_eq;simp at this ⊢;omega) (by have:=HA.out;simp;omega) (by have:=HA.out;simp;omega);go_wp2_with fail
        all_goals
         refine HC2.mono ?_;rintro e wz ⟨⟨vz,rfl⟩,C2,p2,s2,ip,hk2⟩;have HMz:Hid (Mem wz B g n cap bx I ns (P++C1++C2++S)):=ip;have HKz:Hid (Kept (·=g) w wz):=HKp.out.trans hk2 (λ_ _ h=>h) (λ_ _ h=>h);have HS2:Hid (C2.Perm (L.drop (s-a)++R.drop (N-s-m))/\Sorted ns C2):=⟨p2,s2⟩
         clear ip hk2 p2 s2 HC2;go_wp2_with fail;go_end0;have hh:=bL CR.out HS1.out.1 HS1.out.2 HS2.out.1 HS2.out.2;exact⟨⟨_,rfl⟩,C1++C2,hh.1,hh.2,by simpa only[List.append_assoc]using HMz.out,HKz.out⟩
      ·have S2:Hid (Sorted ns (L.drop (s-a)++R.drop (N-s-m))):=hid (by rw[List.drop_eq_nil_of_le (show R.length<=N-s-m by have:=HA.out;omega),List.append_nil];exact PB.out.sa);by_cases hα:a<s
       ·have HMq:Hid (Mem wr B g n cap bx I ns (P++L.take (s-a)++R.take (N-s-m)++L.drop (s-a)++R.drop (N-s-m)++S)):=hid (by have h:=HM2.out;rw[<-HSAME.out]at h;exact h);have HKq:Hid (Kept (·=g) w wr):=HK2.out;obtain⟨C1,HS1,HMp⟩:∃C1,Hid (C1.Perm (L.take (s-a)++R.take (N-s-m))/\Sorted ns C1)/\Hid (Mem wr B g n cap bx I ns (P++C1++(L.drop (s-a)++R.drop (N-s-m)++S))):=⟨_,⟨List.Perm.refl _,S1.out⟩,hid (by have h:=HMq.out;simpa only[List.append_assoc]using h)⟩
        have HKp:=HKq;obtain⟨C2,HS2,HMz⟩:∃C2,Hid (C2.Perm (L.drop (s-a)++R.drop (N-s-m))/\Sorted ns C2)/\Hid (Mem wr B g n cap bx I ns (P++C1++C2++S)):=⟨_,⟨List.Perm.refl _,S2.out⟩,hid (by have h:=HMp.out;simpa only[List.append_assoc]using h)⟩
        have HKz:=HKp;go_wp2_with fail
        all_goals
         go_end0;have hh:=bL CR.out HS1.out.1 HS1.out.2 HS2.out.1 HS2.out.2;exact⟨⟨_,rfl⟩,C1++C2,hh.1,hh.2,by simpa only[List.append_assoc]using HMz.out,HKz.out⟩
       ·have HMq:Hid (Mem wr B g n cap bx I ns (P++L.take (s-a)++R.take (N-s-m)++L.drop (s-a)++R.drop (N-s-m)++S)):=hid (by have h:=HM2.out;rw[<-HSAME.out]at h;exact h);have HKq:Hid (Kept (·=g) w wr):=HK2.out;obtain⟨C1,HS1,HMp⟩:∃C1,Hid (C1.Perm (L.take (s-a)++R.take (N-s-m))/\Sorted ns C1)/\Hid (Mem wr B g n cap bx I ns (P++C1++(L.drop (s-a)++R.drop (N-s-m)++S))):=⟨_,⟨List.Perm.refl _,S1.out⟩,hid (by have h:=HMq.out;simpa only[List.append_assoc]using h)⟩
        have HKp:=HKq;obtain⟨C2,HS2,HMz⟩:∃C2,Hid (C2.Perm (L.drop (s-a)++R.drop (N-s-m))/\Sorted ns C2)/\Hid (Mem wr B g n cap bx I ns (P++C1++C2++S)):=⟨_,⟨List.Perm.refl _,S2.out⟩,hid (by have h:=HMp.out;simpa only[List.append_assoc]using h)⟩
        have HKz:=HKp;go_wp2_with fail
        all_goals
         go_end0;have hh:=bL CR.out HS1.out.1 HS1.out.2 HS2.out.1 HS2.out.2;exact⟨⟨_,rfl⟩,C1++C2,hh.1,hh.2,by simpa only[List.append_assoc]using HMz.out,HKz.out⟩
     ·have S2:Hid (Sorted ns (L.drop (s-a)++R.drop (N-s-m))):=hid (by rw[List.drop_eq_nil_of_le (show L.length<=s-a by have:=HA.out;omega),List.nil_append];exact PB.out.sb);have jW:¬mid<N-s:=(by omega);by_cases hα:a<s
      ·have HMq:Hid (Mem wr B g n cap bx I ns (P++L.take (s-a)++R.take (N-s-m)++L.drop (s-a)++R.drop (N-s-m)++S)):=hid (by have h:=HM2.out;rw[<-HSAME.out]at h;exact h);have HKq:Hid (Kept (·=g) w wr):=HK2.out;obtain⟨C1,HS1,HMp⟩:∃C1,Hid (C1.Perm (L.take (s-a)++R.take (N-s-m))/\Sorted ns C1)/\Hid (Mem wr B g n cap bx I ns (P++C1++(L.drop (s-a)++R.drop (N-s-m)++S))):=⟨_,⟨List.Perm.refl _,S1.out⟩,hid (by have h:=HMq.out;simpa only[List.append_assoc]using h)⟩
       have HKp:=HKq;obtain⟨C2,HS2,HMz⟩:∃C2,Hid (C2.Perm (L.drop (s-a)++R.drop (N-s-m))/\Sorted ns C2)/\Hid (Mem wr B g n cap bx I ns (P++C1++C2++S)):=⟨_,⟨List.Perm.refl _,S2.out⟩,hid (by have h:=HMp.out;simpa only[List.append_assoc]using h)⟩
       have HKz:=HKp;go_wp2_with fail
       all_goals
        go_end0;have hh:=bL CR.out HS1.out.1 HS1.out.2 HS2.out.1 HS2.out.2;exact⟨⟨_,rfl⟩,C1++C2,hh.1,hh.2,by simpa only[List.append_assoc]using HMz.out,HKz.out⟩
      ·have HMq:Hid (Mem wr B g n cap bx I ns (P++L.take (s-a)++R.take (N-s-m)++L.drop (s-a)++R.drop (N-s-m)++S)):=hid (by have h:=HM2.out;rw[<-HSAME.out]at h;exact h);have HKq:Hid (Kept (·=g) w wr):=HK2.out;obtain⟨C1,HS1,HMp⟩:∃C1,Hid (C1.Perm (L.take (s-a)++R.take (N-s-m))/\Sorted ns C1)/\Hid (Mem wr B g n cap bx I ns (P++C1++(L.drop (s-a)++R.drop (N-s-m)++S))):=⟨_,⟨List.Perm.refl _,S1.out⟩,hid (by have h:=HMq.out;simpa only[List.append_assoc]using h)⟩
       have HKp:=HKq;obtain⟨C2,HS2,HMz⟩:∃C2,Hid (C2.Perm (L.drop (s-a)++R.drop (N-s-m))/\Sorted ns C2)/\Hid (Mem wr B g n cap bx I ns (P++C1++C2++S)):=⟨_,⟨List.Perm.refl _,S2.out⟩,hid (by have h:=HMp.out;simpa only[List.append_assoc]using h)⟩
       have HKz:=HKp;go_wp2_with fail
       all_goals
        go_end0;have hh:=bL CR.out HS1.out.1 HS1.out.2 HS2.out.1 HS2.out.2;exact⟨⟨_,rfl⟩,C1++C2,hh.1,hh.2,by simpa only[List.append_assoc]using HMz.out,HKz.out⟩
 ·have H0:Hid (¬mid<m):=NO;go_wp2_with fail;go_loopg [20,21] (b-a) (λq zi zj wr=>∃(s r:Nat),r-s<=q/\a<=s/\s<=r/\r<=m/\zi=.int .i64 (s:Nat)/\zj=.int .i64 (r:Nat)/\Hid ((s=a\/∃(h1:s-1-a<L.length) (h2:N-s-m<R.length),a<s/\Lt ns L[s-1-a] R[N-s-m])/\(r=m\/∃(h1:N-1-r-m<R.length) (h2:r-a<L.length),Lt ns R[N-1-r-m] L[r-a]))/\Hid (Mem wr B g n cap bx I ns (P++L++R++S))/\Hid (Kept (·=g) w wr))
  case atStart=>exact⟨a,m,by omega,by omega,by omega,by omega,rfl,rfl,⟨.inl rfl,.inl rfl⟩,HM.out,Kept.refl _ w⟩
  case round=>
   obtain⟨s,r,hq,CB,hsr,pM,rfl,rfl,HF,HM2,HK2⟩:=hrel;clear HM;by_cases hlt:s<r
   ·obtain⟨c,hc⟩:∃c,c=(s+r) / 2:=⟨_,rfl⟩
    have Pp:s<=c/\c<r:=(by omega);have O4:((s:Int)+(r:Int)) / 2=(c:Int):=(by omega);have hp:((N:Int)-1-(c:Int))=((N-1-c:Nat):Int):=(by omega);have MP:N-1-c<n/\c<n:=(by omega);have iL:c-a<L.length:=(by have:=HA.out;omega);have iR:N-1-c-m<R.length:=(by have:=HA.out;omega);obtain⟨x,hx⟩:∃x,x=L[c-a]:=⟨_,rfl⟩
    obtain⟨y,hy⟩:∃y,y=R[N-1-c-m]:=⟨_,rfl⟩
    have cx:wr.cell? ⟨g,c,none⟩=some (.int .i64 (x:Int)):=(by have hc:=HM2.out.at c (by have:=HA.out;simp;omega);rw[hc];congr 3;rw[List.getElem_append_left (by have:=HA.out;simp;omega),List.getElem_append_left (by have:=HA.out;simp;omega),List.getElem_append_right (by have:=HA.out;omega)];rw[hx];congr 1;have:=HA.out;omega);have cy:wr.cell? ⟨g,N-1-c,none⟩=some (.int .i64 (y:Int)):=(by have hc:=HM2.out.at (N-1-c) (by have:=HA.out;simp;omega);rw[hc];congr 3;rw[List.getElem_append_left (by have:=HA.out;simp;omega),List.getElem_append_right (by have:=HA.out;simp;omega)];rw[hy];congr 1;have:=HA.out;simp;omega);have yQ:x∈L:=(by rw[hx];exact List.getElem_mem _);have yP:y∈R:=(by rw[hy];exact List.getElem_mem _);have tP:x<y:=HP.out.ahead x yQ y yP;have HL:=ni wr bx I ns HM2.out.cmp HM2.out.hns y x (HP.out.mb y yP) (HP.out.ma x yQ);have HX:Hid (x=L[c-a]):=hx;have HY:Hid (y=R[N-1-c-m]):=hy;clear hc hx hy yQ yP IH;by_cases hk:key ns y<key ns x
    ·have pz:=pQ hk;have HLT:Hid (Lt ns y x):=(Lt.iff_of_gt tP).2 hk;generalize tF (key ns y) (key ns x)=cz at HL pz;clear hk;go_wp2_with fail;go_quiet ((go_at_call 180;exact Calls.quiet_of (HL _)));go_wp2_with fail;go_roundg (gk-1)
     case measure=>omega
     case rel=>
      refine⟨s,c,by omega,by omega,by omega,by omega,rfl,rfl,⟨HF.out.1,.inr ⟨iR,iL,?_⟩⟩,HM2.out.drewN _,HK2.out.drewN _⟩;have h:=HLT.out;rw[HX.out,HY.out]at h;exact h
    ·have pz:=qg hk;have HLT:Hid (Lt ns x y):=Lt.of_not tP hk;generalize tF (key ns y) (key ns x)=cz at HL pz;clear hk;go_wp2_with fail;go_quiet ((go_at_call 180;exact Calls.quiet_of (HL _)));go_wp2_with fail;go_roundg (gk-1)
     case measure=>omega
     case rel=>
      refine⟨c+1,r,by omega,by omega,by omega,by omega,by go_num,rfl,⟨.inr ⟨by simpa using iL,by simpa[show N-(c+1)-m=N-1-c-m by omega]using iR,by omega,?_⟩,HF.out.2⟩,HM2.out.drewN _,HK2.out.drewN _⟩;have h:=HLT.out;rw[HX.out,HY.out]at h;simpa[show N-(c+1)-m=N-1-c-m by omega]using h
   ·have Na:s=r:=(by omega);subst Na;have CR:Hid (AllLt ns (L.take (s-a)++R.take (N-s-m)) (L.drop (s-a)++R.drop (N-s-m))):=by
     refine i5 (s-a) (N-s-m) HP.out.sa HP.out.sb ?_ ?_
     ·rcases HF.out.1 with h | ⟨h1,h2,h3,h4⟩
      ·left;omega
      ·right;right;exact⟨⟨by omega,by omega,h2⟩,by simpa[show s-a-1=s-1-a by omega]using h4⟩
     ·rcases HF.out.2 with h | ⟨h1,h2,h3⟩
      ·right;left;have:=HA.out;omega
      ·by_cases h5:N-s-m=0
       ·left;exact h5
       ·right;right;exact⟨⟨by omega,by have:=HA.out;omega,h2⟩,by simpa[show N-s-m-1=N-1-s-m by omega]using h3⟩
    have Iu:((N:Int)-(s:Int))=((N-s:Nat):Int):=(by omega);have PA:Hid (Parts ns (L.take (s-a)) (R.take (N-s-m))):=hid (HP.out.cut (λx h=>List.mem_of_mem_take h) (λx h=>List.mem_of_mem_take h) (List.Pairwise.sublist (List.take_sublist _ _) HP.out.sa) (List.Pairwise.sublist (List.take_sublist _ _) HP.out.sb));have PB:Hid (Parts ns (L.drop (s-a)) (R.drop (N-s-m))):=hid (HP.out.cut (λx h=>List.mem_of_mem_drop h) (λx h=>List.mem_of_mem_drop h) (List.Pairwise.sublist (List.drop_sublist _ _) HP.out.sa) (List.Pairwise.sublist (List.drop_sublist _ _) HP.out.sb));by_cases hβ:s<mid
    ·by_cases hγ:s<m
     ·have HROT:=pS wr B g n cap s m (N-s) (oZ bx) (P++L.take (s-a)) (L.drop (s-a)) (R.take (N-s-m)) (R.drop (N-s-m)++S) (by have:=HA.out;simp;omega) (by have:=HA.out;simp;omega) (by have h:=HM2.out.row;rw[Aw P L R S (s-a) (N-s-m)]at h;exact h) (by have:=HA.out;simp;omega) (by have:=HA.out;simp;omega) (by have:=HA.out;simp;omega) hn;by_cases hα:a<s
      ·by_cases hδ:N-s<b
       ·go_wp2_with fail
        all_goals
         refine HROT.mono ?_;rintro e wq ⟨⟨vq,rfl⟩,hrq,hkq⟩;have HMq:Hid (Mem wq B g n cap bx I ns (P++L.take (s-a)++R.take (N-s-m)++L.drop (s-a)++R.drop (N-s-m)++S)):=hid ((HM2.out.to (d':=P++L.take (s-a)++R.take (N-s-m)++L.drop (s-a)++R.drop (N-s-m)++S) (by simpa only[List.append_assoc]using hrq) hkq));have HKq:Hid (Kept (·=g) w wq):=HK2.out.trans hkq (λ_ _ h=>h) (λ_ _ h=>h);clear hrq hkq HROT;have HC1:=IH.out (mid-a) (by omega) wq a s mid P (L.take (s-a)) (R.take (N-s-m)) (L.drop (s-a)++R.drop (N-s-m)++S) (by omega) (by simpa only[List.append_assoc]using HMq.out) PA.out (by have:=HA.out;omega) (by have:=HA.out;simp;omega) (by have:=HA.out;simp;omega) (by have:=HA.out;simp;omega) (by have:=HA.out;simp;omega);go_wp2_with fail;refine HC1.mono ?_;rintro e wp ⟨⟨vp,rfl⟩,C1,p1,s1,hm1,hk1⟩;have HMp:Hid (Mem wp B g n cap bx I ns (P++C1++(L.drop (s-a)++R.drop (N-s-m)++S))):=hm1;have HKp:Hid (Kept (·=g) w wp):=HKq.out.trans hk1 (λ_ _ h=>h) (λ_ _ h=>h);have HS1:Hid (C1.Perm (L.take (s-a)++R.take (N-s-m))/\Sorted ns C1):=⟨p1,s1⟩
         clear hm1 hk1 p1 s1 HC1;have HC2:=IH.out (b-mid) (by omega) wp mid (N-s) b (P++C1) (L.drop (s-a)) (R.drop (N-s-m)) S (by omega) (by simpa only[List.append_assoc]using HMp.out) PB.out (by have:=HA.out;have:=HS1.out.1.length_eq;simp at this ⊢;omega) (by have:=HA.out;have:=HS1.out.1.length_eq;simp at this ⊢;omega) (by have:=HA.out;have:=HS1.out.1.length_eq;simp at this ⊢;omega) (by have:=HA.out;simp;omega) (by have:=HA.out;simp;omega);go_wp2_with fail;refine HC2.mono ?_;rintro e wz ⟨⟨vz,rfl⟩,C2,p2,s2,ip,hk2⟩;have HMz:Hid (Mem wz B g n cap bx I ns (P++C1++C2++S)):=ip;have HKz:Hid (Kept (·=g) w wz):=HKp.out.trans hk2 (λ_ _ h=>h) (λ_ _ h=>h);have HS2:Hid (C2.Perm (L.drop (s-a)++R.drop (N-s-m))/\Sorted ns C2):=⟨p2,s2⟩
         clear ip hk2 p2 s2 HC2;go_wp2_with fail;go_end0;have hh:=bL CR.out HS1.out.1 HS1.out.2 HS2.out.1 HS2.out.2;exact⟨⟨_,rfl⟩,C1++C2,hh.1,hh.2,by simpa only[List.append_assoc]using HMz.out,HKz.out⟩
       ·have S2:Hid (Sorted ns (L.drop (s-a)++R.drop (N-s-m))):=hid (by rw[List.drop_eq_nil_of_le (show R.length<=N-s-m by have:=HA.out;omega),List.append_nil];exact PB.out.sa);go_wp2_with fail
        all_goals
         refine HROT.mono ?_;rintro e wq ⟨⟨vq,rfl⟩,hrq,hkq⟩;have HMq:Hid (Mem wq B g n cap bx I ns (P++L.take (s-a)++R.take (N-s-m)++L.drop (s-a)++R.drop (N-s-m)++S)):=hid ((HM2.out.to (d':=P++L.take (s-a)++R.take (N-s-m)++L.drop (s-a)++R.drop (N-s-m)++S) (by simpa only[List.append_assoc]using hrq) hkq));have HKq:Hid (Kept (·=g) w wq):=HK2.out.trans hkq (λ_ _ h=>h) (λ_ _ h=>h);clear hrq hkq HROT;have HC1:=IH.out (mid-a) (by omega) wq a s mid P (L.take (s-a)) (R.take (N-s-m)) (L.drop (s-a)++R.drop (N-s-m)++S) (by omega) (by simpa only[List.append_assoc]using HMq.out) PA.out (by have:=HA.out;omega) (by have:=HA.out;simp;omega) (by have:=HA.out;simp;omega) (by have:=HA.out;simp;omega) (by have:=HA.out;simp;omega);go_wp2_with fail;refine HC1.mono ?_;rintro e wp ⟨⟨vp,rfl⟩,C1,p1,s1,hm1,hk1⟩;have HMp:Hid (Mem wp B g n cap bx I ns (P++C1++(L.drop (s-a)++R.drop (N-s-m)++S))):=hm1;have HKp:Hid (Kept (·=g) w wp):=HKq.out.trans hk1 (λ_ _ h=>h) (λ_ _ h=>h);have HS1:Hid (C1.Perm (L.take (s-a)++R.take (N-s-m))/\Sorted ns C1):=⟨p1,s1⟩
         clear hm1 hk1 p1 s1 HC1;obtain⟨C2,HS2,HMz⟩:∃C2,Hid (C2.Perm (L.drop (s-a)++R.drop (N-s-m))/\Sorted ns C2)/\Hid (Mem wp B g n cap bx I ns (P++C1++C2++S)):=⟨_,⟨List.Perm.refl _,S2.out⟩,hid (by have h:=HMp.out;simpa only[List.append_assoc]using h)⟩
         have HKz:=HKp;go_wp2_with fail;go_end0;have hh:=bL CR.out HS1.out.1 HS1.out.2 HS2.out.1 HS2.out.2;exact⟨⟨_,rfl⟩,C1++C2,hh.1,hh.2,by simpa only[List.append_assoc]using HMz.out,HKz.out⟩
      ·have S1:Hid (Sorted ns (L.take (s-a)++R.take (N-s-m))):=hid (by rw[show s-a=0 by omega,List.take_zero,List.nil_append];exact PA.out.sb);by_cases hδ:N-s<b
       ·go_wp2_with fail
        all_goals
         refine HROT.mono ?_;rintro e wq ⟨⟨vq,rfl⟩,hrq,hkq⟩;have HMq:Hid (Mem wq B g n cap bx I ns (P++L.take (s-a)++R.take (N-s-m)++L.drop (s-a)++R.drop (N-s-m)++S)):=hid ((HM2.out.to (d':=P++L.take (s-a)++R.take (N-s-m)++L.drop (s-a)++R.drop (N-s-m)++S) (by simpa only[List.append_assoc]using hrq) hkq));have HKq:Hid (Kept (·=g) w wq):=HK2.out.trans hkq (λ_ _ h=>h) (λ_ _ h=>h);clear hrq hkq HROT;obtain⟨C1,HS1,HMp⟩:∃C1,Hid (C1.Perm (L.take (s-a)++R.take (N-s-m))/\Sorted ns C1)/\Hid (Mem wq B g n cap bx I ns (P++C1++(L.drop (s-a)++R.drop (N-s-m)++S))):=⟨_,⟨List.Perm.refl _,S1.out⟩,hid (by have h:=HMq.out;simpa only[List.append_assoc]using h)⟩
         have HKp:=HKq;have HC2:=IH.out (b-mid) (by omega) wq mid (N-s) b (P++C1) (L.drop (s-a)) (R.drop (N-s-m)) S (by omega) (by simpa only[List.append_assoc]using HMp.out) PB.out (by have:=HA.out;have:=HS1.out.1.length_eq;simp at this ⊢;omega) (by have:=HA.out;have:=HS1.out.1.length_eq;simp at this ⊢;omega) (by have:=HA.out;have:=HS1.out.1.length_eq;simp at this ⊢;omega) (by have:=HA.out;simp;omega) (by have:=HA.out;simp;omega);go_wp2_with fail;refine HC2.mono ?_;rintro e wz ⟨⟨vz,rfl⟩,C2,p2,s2,ip,hk2⟩;have HMz:Hid (Mem wz B g n cap bx I ns (P++C1++C2++S)):=ip;have HKz:Hid (Kept (·=g) w wz):=HKp.out.trans hk2 (λ_ _ h=>h) (λ_ _ h=>h);have HS2:Hid (C2.Perm (L.drop (s-a)++R.drop (N-s-m))/\Sorted ns C2):=⟨p2,s2⟩
         clear ip hk2 p2 s2 HC2;go_wp2_with fail;go_end0;have hh:=bL CR.out HS1.out.1 HS1.out.2 HS2.out.1 HS2.out.2;exact⟨⟨_,rfl⟩,C1++C2,hh.1,hh.2,by simpa only[List.append_assoc]using HMz.out,HKz.out⟩
       ·have S2:Hid (Sorted ns (L.drop (s-a)++R.drop (N-s-m))):=hid (by rw[List.drop_eq_nil_of_le (show R.length<=N-s-m by have:=HA.out;omega),List.append_nil];exact PB.out.sa);go_wp2_with fail
        all_goals
         refine HROT.mono ?_;rintro e wq ⟨⟨vq,rfl⟩,hrq,hkq⟩;have HMq:Hid (Mem wq B g n cap bx I ns (P++L.take (s-a)++R.take (N-s-m)++L.drop (s-a)++R.drop (N-s-m)++S)):=hid ((HM2.out.to (d':=P++L.take (s-a)++R.take (N-s-m)++L.drop (s-a)++R.drop (N-s-m)++S) (by simpa only[List.append_assoc]using hrq) hkq));have HKq:Hid (Kept (·=g) w wq):=HK2.out.trans hkq (λ_ _ h=>h) (λ_ _ h=>h);clear hrq hkq HROT;obtain⟨C1,HS1,HMp⟩:∃C1,Hid (C1.Perm (L.take (s-a)++R.take (N-s-m))/\Sorted ns C1)/\Hid (Mem wq B g n cap bx I ns (P++C1++(L.drop (s-a)++R.drop (N-s-m)++S))):=⟨_,⟨List.Perm.refl _,S1.out⟩,hid (by have h:=HMq.out;simpa only[List.append_assoc]using h)⟩
         have HKp:=HKq;obtain⟨C2,HS2,HMz⟩:∃C2,Hid (C2.Perm (L.drop (s-a)++R.drop (N-s-m))/\Sorted ns C2)/\Hid (Mem wq B g n cap bx I ns (P++C1++C2++S)):=⟨_,⟨List.Perm.refl _,S2.out⟩,hid (by have h:=HMp.out;simpa only[List.append_assoc]using h)⟩
         have HKz:=HKp;go_wp2_with fail;go_end0;have hh:=bL CR.out HS1.out.1 HS1.out.2 HS2.out.1 HS2.out.2;exact⟨⟨_,rfl⟩,C1++C2,hh.1,hh.2,by simpa only[List.append_assoc]using HMz.out,HKz.out⟩
     ·have eL:L.drop (s-a)=[]:=List.drop_eq_nil_of_le (by have:=HA.out;omega);have HSAME:Hid (P++L.take (s-a)++R.take (N-s-m)++L.drop (s-a)++R.drop (N-s-m)++S=P++L++R++S):=hid (BQ (.inl eL));have S2:Hid (Sorted ns (L.drop (s-a)++R.drop (N-s-m))):=hid (by rw[eL,List.nil_append];exact PB.out.sb);clear eL;have jW:¬mid<N-s:=(by omega);by_cases hα:a<s
      ·have HMq:Hid (Mem wr B g n cap bx I ns (P++L.take (s-a)++R.take (N-s-m)++L.drop (s-a)++R.drop (N-s-m)++S)):=hid (by have h:=HM2.out;rw[<-HSAME.out]at h;exact h);have HKq:Hid (Kept (·=g) w wr):=HK2.out;have HC1:=IH.out (mid-a) (by omega) wr a s mid P (L.take (s-a)) (R.take (N-s-m)) (L.drop (s-a)++R.drop (N-s-m)++S) (by omega) (by simpa only[List.append_assoc]using HMq.out) PA.out (by have:=HA.out;omega) (by have:=HA.out;simp;omega) (by have:=HA.out;simp;omega) (by have:=HA.out;simp;omega) (by have:=HA.out;simp;omega);go_wp2_with fail
       all_goals
        refine HC1.mono ?_;rintro e wp ⟨⟨vp,rfl⟩,C1,p1,s1,hm1,hk1⟩;have HMp:Hid (Mem wp B g n cap bx I ns (P++C1++(L.drop (s-a)++R.drop (N-s-m)++S))):=hm1;have HKp:Hid (Kept (·=g) w wp):=HKq.out.trans hk1 (λ_ _ h=>h) (λ_ _ h=>h);have HS1:Hid (C1.Perm (L.take (s-a)++R.take (N-s-m))/\Sorted ns C1):=⟨p1,s1⟩
        clear hm1 hk1 p1 s1 HC1;obtain⟨C2,HS2,HMz⟩:∃C2,Hid (C2.Perm (L.drop (s-a)++R.drop (N-s-m))/\Sorted ns C2)/\Hid (Mem wp B g n cap bx I ns (P++C1++C2++S)):=⟨_,⟨List.Perm.refl _,S2.out⟩,hid (by have h:=HMp.out;simpa only[List.append_assoc]using h)⟩
        have HKz:=HKp;go_wp2_with fail;go_end0;have hh:=bL CR.out HS1.out.1 HS1.out.2 HS2.out.1 HS2.out.2;exact⟨⟨_,rfl⟩,C1++C2,hh.1,hh.2,by simpa only[List.append_assoc]using HMz.out,HKz.out⟩
      ·have S1:Hid (Sorted ns (L.take (s-a)++R.take (N-s-m))):=hid (by rw[show s-a=0 by omega,List.take_zero,List.nil_append];exact PA.out.sb);have HMq:Hid (Mem wr B g n cap bx I ns (P++L.take (s-a)++R.take (N-s-m)++L.drop (s-a)++R.drop (N-s-m)++S)):=hid (by have h:=HM2.out;rw[<-HSAME.out]at h;exact h);have HKq:Hid (Kept (·=g) w wr):=HK2.out;obtain⟨C1,HS1,HMp⟩:∃C1,Hid (C1.Perm (L.take (s-a)++R.take (N-s-m))/\Sorted ns C1)/\Hid (Mem wr B g n cap bx I ns (P++C1++(L.drop (s-a)++R.drop (N-s-m)++S))):=⟨_,⟨List.Perm.refl _,S1.out⟩,hid (by have h:=HMq.out;simpa only[List.append_assoc]using h)⟩
       have HKp:=HKq;obtain⟨C2,HS2,HMz⟩:∃C2,Hid (C2.Perm (L.drop (s-a)++R.drop (N-s-m))/\Sorted ns C2)/\Hid (Mem wr B g n cap bx I ns (P++C1++C2++S)):=⟨_,⟨List.Perm.refl _,S2.out⟩,hid (by have h:=HMp.out;simpa only[List.append_assoc]using h)⟩
       have HKz:=HKp;go_wp2_with fail
       all_goals
        go_end0;have hh:=bL CR.out HS1.out.1 HS1.out.2 HS2.out.1 HS2.out.2;exact⟨⟨_,rfl⟩,C1++C2,hh.1,hh.2,by simpa only[List.append_assoc]using HMz.out,HKz.out⟩
    ·have eR:R.take (N-s-m)=[]:=(by rw[show N-s-m=0 by omega];rfl);have HSAME:Hid (P++L.take (s-a)++R.take (N-s-m)++L.drop (s-a)++R.drop (N-s-m)++S=P++L++R++S):=hid (BQ (.inr eR));have S1:Hid (Sorted ns (L.take (s-a)++R.take (N-s-m))):=hid (by rw[eR,List.append_nil];exact PA.out.sa);clear eR;have pL:¬m<N-s:=(by omega);by_cases h3:s<m
     ·by_cases hδ:N-s<b
      ·by_cases hα:a<s
       ·have HMq:Hid (Mem wr B g n cap bx I ns (P++L.take (s-a)++R.take (N-s-m)++L.drop (s-a)++R.drop (N-s-m)++S)):=hid (by have h:=HM2.out;rw[<-HSAME.out]at h;exact h);have HKq:Hid (Kept (·=g) w wr):=HK2.out;obtain⟨C1,HS1,HMp⟩:∃C1,Hid (C1.Perm (L.take (s-a)++R.take (N-s-m))/\Sorted ns C1)/\Hid (Mem wr B g n cap bx I ns (P++C1++(L.drop (s-a)++R.drop (N-s-m)++S))):=⟨_,⟨List.Perm.refl _,S1.out⟩,hid (by have h:=HMq.out;simpa only[List.append_assoc]using h)⟩
        have HKp:=HKq;have HC2:=IH.out (b-mid) (by omega) wr mid (N-s) b (P++C1) (L.drop (s-a)) (R.drop (N-s-m)) S (by omega) (by simpa only[List.append_assoc]using HMp.out) PB.out (by have:=HA.out;have:=HS1.out.1.length_eq;simp at this ⊢;omega) (by have:=HA.out;have:=HS1.out.1.length_eq;simp at this ⊢;omega) (by have:=HA.out;have:=HS1.out.1.length_eq;simp at this ⊢;omega) (by have:=HA.out;simp;omega) (by have:=HA.out;simp;omega);go_wp2_with fail
        all_goals
         refine HC2.mono ?_;rintro e wz ⟨⟨vz,rfl⟩,C2,p2,s2,ip,hk2⟩;have HMz:Hid (Mem wz B g n cap bx I ns (P++C1++C2++S)):=ip;have HKz:Hid (Kept (·=g) w wz):=HKp.out.trans hk2 (λ_ _ h=>h) (λ_ _ h=>h);have HS2:Hid (C2.Perm (L.drop (s-a)++R.drop (N-s-m))/\Sorted ns C2):=⟨p2,s2⟩
         clear ip hk2 p2 s2 HC2;go_wp2_with fail;go_end0;have hh:=bL CR.out HS1.out.1 HS1.out.2 HS2.out.1 HS2.out.2;exact⟨⟨_,rfl⟩,C1++C2,hh.1,hh.2,by simpa only[List.append_assoc]using HMz.out,HKz.out⟩
       ·have HMq:Hid (Mem wr B g n cap bx I ns (P++L.take (s-a)++R.take (N-s-m)++L.drop (s-a)++R.drop (N-s-m)++S)):=hid (by have h:=HM2.out;rw[<-HSAME.out]at h;exact h);have HKq:Hid (Kept (·=g) w wr):=HK2.out;obtain⟨C1,HS1,HMp⟩:∃C1,Hid (C1.Perm (L.take (s-a)++R.take (N-s-m))/\Sorted ns C1)/\Hid (Mem wr B g n cap bx I ns (P++C1++(L.drop (s-a)++R.drop (N-s-m)++S))):=⟨_,⟨List.Perm.refl _,S1.out⟩,hid (by have h:=HMq.out;simpa only[List.append_assoc]using h)⟩
        have HKp:=HKq;have HC2:=IH.out (b-mid) (by omega) wr mid (N-s) b (P++C1) (L.drop (s-a)) (R.drop (N-s-m)) S (by omega) (by simpa only[List.append_assoc]using HMp.out) PB.out (by have:=HA.out;have:=HS1.out.1.length_eq;simp at this ⊢;omega) (by have:=HA.out;have:=HS1.out.1.length_eq;simp at this ⊢;omega) (by have:=HA.out;have:=HS1.out.1.length_eq;simp at this ⊢;omega) (by have:=HA.out;simp;omega) (by have:=HA.out;simp;omega);go_wp2_with fail
        all_goals
         refine HC2.mono ?_;rintro e wz ⟨⟨vz,rfl⟩,C2,p2,s2,ip,hk2⟩;have HMz:Hid (Mem wz B g n cap bx I ns (P++C1++C2++S)):=ip;have HKz:Hid (Kept (·=g) w wz):=HKp.out.trans hk2 (λ_ _ h=>h) (λ_ _ h=>h);have HS2:Hid (C2.Perm (L.drop (s-a)++R.drop (N-s-m))/\Sorted ns C2):=⟨p2,s2⟩
         clear ip hk2 p2 s2 HC2;go_wp2_with fail;go_end0;have hh:=bL CR.out HS1.out.1 HS1.out.2 HS2.out.1 HS2.out.2;exact⟨⟨_,rfl⟩,C1++C2,hh.1,hh.2,by simpa only[List.append_assoc]using HMz.out,HKz.out⟩
      ·have S2:Hid (Sorted ns (L.drop (s-a)++R.drop (N-s-m))):=hid (by rw[List.drop_eq_nil_of_le (show R.length<=N-s-m by have:=HA.out;omega),List.append_nil];exact PB.out.sa);by_cases hα:a<s
       ·have HMq:Hid (Mem wr B g n cap bx I ns (P++L.take (s-a)++R.take (N-s-m)++L.drop (s-a)++R.drop (N-s-m)++S)):=hid (by have h:=HM2.out;rw[<-HSAME.out]at h;exact h);have HKq:Hid (Kept (·=g) w wr):=HK2.out;obtain⟨C1,HS1,HMp⟩:∃C1,Hid (C1.Perm (L.take (s-a)++R.take (N-s-m))/\Sorted ns C1)/\Hid (Mem wr B g n cap bx I ns (P++C1++(L.drop (s-a)++R.drop (N-s-m)++S))):=⟨_,⟨List.Perm.refl _,S1.out⟩,hid (by have h:=HMq.out;simpa only[List.append_assoc]using h)⟩
        have HKp:=HKq;obtain⟨C2,HS2,HMz⟩:∃C2,Hid (C2.Perm (L.drop (s-a)++R.drop (N-s-m))/\Sorted ns C2)/\Hid (Mem wr B g n cap bx I ns (P++C1++C2++S)):=⟨_,⟨List.Perm.refl _,S2.out⟩,hid (by have h:=HMp.out;simpa only[List.append_assoc]using h)⟩
        have HKz:=HKp;go_wp2_with fail
        all_goals
         go_end0;have hh:=bL CR.out HS1.out.1 HS1.out.2 HS2.out.1 HS2.out.2;exact⟨⟨_,rfl⟩,C1++C2,hh.1,hh.2,by simpa only[List.append_assoc]using HMz.out,HKz.out⟩
       ·have HMq:Hid (Mem wr B g n cap bx I ns (P++L.take (s-a)++R.take (N-s-m)++L.drop (s-a)++R.drop (N-s-m)++S)):=hid (by have h:=HM2.out;rw[<-HSAME.out]at h;exact h);have HKq:Hid (Kept (·=g) w wr):=HK2.out;obtain⟨C1,HS1,HMp⟩:∃C1,Hid (C1.Perm (L.take (s-a)++R.take (N-s-m))/\Sorted ns C1)/\Hid (Mem wr B g n cap bx I ns (P++C1++(L.drop (s-a)++R.drop (N-s-m)++S))):=⟨_,⟨List.Perm.refl _,S1.out⟩,hid (by have h:=HMq.out;simpa only[List.append_assoc]using h)⟩
        have HKp:=HKq;obtain⟨C2,HS2,HMz⟩:∃C2,Hid (C2.Perm (L.drop (s-a)++R.drop (N-s-m))/\Sorted ns C2)/\Hid (Mem wr B g n cap bx I ns (P++C1++C2++S)):=⟨_,⟨List.Perm.refl _,S2.out⟩,hid (by have h:=HMp.out;simpa only[List.append_assoc]using h)⟩
        have HKz:=HKp;go_wp2_with fail
        all_goals
         go_end0;have hh:=bL CR.out HS1.out.1 HS1.out.2 HS2.out.1 HS2.out.2;exact⟨⟨_,rfl⟩,C1++C2,hh.1,hh.2,by simpa only[List.append_assoc]using HMz.out,HKz.out⟩
     ·have S2:Hid (Sorted ns (L.drop (s-a)++R.drop (N-s-m))):=hid (by rw[List.drop_eq_nil_of_le (show L.length<=s-a by have:=HA.out;omega),List.nil_append];exact PB.out.sb);have jW:¬mid<N-s:=(by omega);by_cases hα:a<s
      ·have HMq:Hid (Mem wr B g n cap bx I ns (P++L.take (s-a)++R.take (N-s-m)++L.drop (s-a)++R.drop (N-s-m)++S)):=hid (by have h:=HM2.out;rw[<-HSAME.out]at h;exact h);have HKq:Hid (Kept (·=g) w wr):=HK2.out;obtain⟨C1,HS1,HMp⟩:∃C1,Hid (C1.Perm (L.take (s-a)++R.take (N-s-m))/\Sorted ns C1)/\Hid (Mem wr B g n cap bx I ns (P++C1++(L.drop (s-a)++R.drop (N-s-m)++S))):=⟨_,⟨List.Perm.refl _,S1.out⟩,hid (by have h:=HMq.out;simpa only[List.append_assoc]using h)⟩
       have HKp:=HKq;obtain⟨C2,HS2,HMz⟩:∃C2,Hid (C2.Perm (L.drop (s-a)++R.drop (N-s-m))/\Sorted ns C2)/\Hid (Mem wr B g n cap bx I ns (P++C1++C2++S)):=⟨_,⟨List.Perm.refl _,S2.out⟩,hid (by have h:=HMp.out;simpa only[List.append_assoc]using h)⟩
       have HKz:=HKp;go_wp2_with fail
       all_goals
        go_end0;have hh:=bL CR.out HS1.out.1 HS1.out.2 HS2.out.1 HS2.out.2;exact⟨⟨_,rfl⟩,C1++C2,hh.1,hh.2,by simpa only[List.append_assoc]using HMz.out,HKz.out⟩
      ·have HMq:Hid (Mem wr B g n cap bx I ns (P++L.take (s-a)++R.take (N-s-m)++L.drop (s-a)++R.drop (N-s-m)++S)):=hid (by have h:=HM2.out;rw[<-HSAME.out]at h;exact h);have HKq:Hid (Kept (·=g) w wr):=HK2.out;obtain⟨C1,HS1,HMp⟩:∃C1,Hid (C1.Perm (L.take (s-a)++R.take (N-s-m))/\Sorted ns C1)/\Hid (Mem wr B g n cap bx I ns (P++C1++(L.drop (s-a)++R.drop (N-s-m)++S))):=⟨_,⟨List.Perm.refl _,S1.out⟩,hid (by have h:=HMq.out;simpa only[List.append_assoc]using h)⟩
       have HKp:=HKq;obtain⟨C2,HS2,HMz⟩:∃C2,Hid (C2.Perm (L.drop (s-a)++R.drop (N-s-m))/\Sorted ns C2)/\Hid (Mem wr B g n cap bx I ns (P++C1++C2++S)):=⟨_,⟨List.Perm.refl _,S2.out⟩,hid (by have h:=HMp.out;simpa only[List.append_assoc]using h)⟩
       have HKz:=HKp;go_wp2_with fail
       all_goals
        go_end0;have hh:=bL CR.out HS1.out.1 HS1.out.2 HS2.out.1 HS2.out.2;exact⟨⟨_,rfl⟩,C1++C2,hh.1,hh.2,by simpa only[List.append_assoc]using HMz.out,HKz.out⟩
theorem BA(k B g n cap bx:Nat)(I:Nat→Prop)(ns:List Nat):∀(w:World) (a m b:Nat) (P L R S:List Nat),b-a≤k→Mem w B g n cap bx I ns (P++L++R++S)→Parts ns L R→a=P.length→m=P.length+L.length→b=P.length+L.length+R.length→0<L.length→0<R.length →
   Calls Tryz.prog 203 #[.slice (some ⟨g,0,none⟩) n cap,.int .i64 (a:Nat),.int .i64 (m:Nat),.int .i64 (b:Nat),oZ bx] w λe w'=>(∃v,e=.returned v)/\oA w w' B g n cap bx I ns P L R S:=by
 induction k using Nat.strongRecOn with
 | ind k ih=>
  intro w a m b P L R S hk hM hP ha hm hb hL hR;by_cases h1:L.length=1
  ·obtain⟨x,rfl⟩:=List.length_eq_one_iff.1 h1;exact JK w B g n cap bx a m b I ns P R S x hM hP ha hm hb
  ·by_cases h2:R.length=1
   ·obtain⟨y,rfl⟩:=List.length_eq_one_iff.1 h2;exact Hc w B g n cap bx a m b I ns P L S y hM hP ha hm hb (by omega)
   ·exact FJ k B g n cap bx I ns ih w a m b P L R S hk hM hP ha hm hb (by omega) (by omega)
inductive Blocks(ns:List Nat)(k:Nat):List Nat->Prop
 | last (l:List Nat) (h:l.length<=k) (s:Sorted ns l):Blocks ns k l
 | cons (e r:List Nat) (h:e.length=k) (s:Sorted ns e) (a:Ahead e r) (b:Blocks ns k r):Blocks ns k (e++r)
theorem Blocks.split{ns l:List Nat}{k:Nat}(h:Blocks ns k l)(hl:k<=l.length):∃e r,l=e++r/\e.length=k/\Sorted ns e/\Ahead e r/\Blocks ns k r:=by
 cases h with
 | last _ h s=>exact⟨l,[],by simp,by omega,s,by intro x _ y hy;simp at hy,.last [] (by simp) List.Pairwise.nil⟩
 | cons e r h s a b=>exact⟨e,r,rfl,h,s,a,b⟩
theorem Blocks.short{ns l:List Nat}{k:Nat}(h:Blocks ns k l)(hl:l.length<=k):Sorted ns l:=by
 cases h with
 | last _ h s=>exact s
 | cons e r h s a b=>
  have:r=[]:=List.eq_nil_of_length_eq_zero (by simp at hl;omega);subst this;simpa using s
def Goes(ns:List Nat)(k:Nat)(d D rest:List Nat):Prop:=(D++rest).Perm d/\∀r:List Nat,r.Perm rest->Blocks ns k r->Blocks ns k (D++r)
theorem Goes.start(ns:List Nat)(k:Nat)(d:List Nat):Goes ns k d [] d:=⟨by simp,λr _ h=>by simpa using h⟩
theorem Goes.step{ns d D r C:List Nat}{k:Nat}(e:List Nat)(h:Goes ns k d D (e++r))(hC:C.Perm e)(hl:e.length=k)(hs:Sorted ns C)(ha:Ahead e r):Goes ns k d (D++C) r:=by
 refine⟨?_,λr' hr hb=>?_⟩
 ·refine List.Perm.trans ?_ h.1;rw[List.append_assoc];exact List.Perm.append_left _ (hC.append_right r)
 ·rw[List.append_assoc];exact h.2 (C++r') (hC.append hr) (.cons C r' (by rw[hC.length_eq,hl]) hs (ha.perm hC hr) hb)
theorem Goes.finish{ns d D r r':List Nat}{k:Nat}(h:Goes ns k d D r)(hp:r'.Perm r)(hb:Blocks ns k r'):(D++r').Perm d/\Blocks ns k (D++r'):=
 ⟨(List.Perm.append_left D hp).trans h.1,h.2 r' hp hb⟩
theorem AJ(w:World)(B g n cap bx:Nat)(I:Nat→Prop)(ns d:List Nat)(hM:Mem w B g n cap bx I ns d)(hd:d.Pairwise (· < ·))(hm:∀x∈d,x<ns.length):
  Calls Tryz.prog 196 #[.slice (some ⟨g,0,none⟩) n cap,.int .i64 (n:Nat),oZ bx] w λe w'=>(∃v,e=.returned v)/\∃d',d'.Perm d/\Sorted ns d'/\Mem w' B g n cap bx I ns d'/\Kept (·=g) w w':=by
 have ag:=hM.row.len;have hn:=hM.hn;have HM:Hid (Mem w B g n cap bx I ns d):=hM;have HD:Hid (d.Pairwise (· < ·)):=hd;have HX:Hid (∀x∈d,x<ns.length):=hm;have HN:Hid (d.length=n):=ag;clear hM hd hm ag;go_enter Tryz.func196,Tryz.ntmps196;go_wp2_with fail;go_loopg [7,8] n (λq za zb wr=>∃(a:Nat) (D r:List Nat),n-a<=q/\a<=n/\za=.int .i64 (a:Nat)/\zb=.int .i64 ((a+20:Nat):Int)/\Hid (D.length=a/\a+r.length=n/\r.Pairwise (· < ·)/\Goes ns 20 d D r)/\Hid (Mem wr B g n cap bx I ns (D++r))/\Hid (Kept (·=g) w wr))
 case atStart=>exact⟨0,[],d,by omega,by omega,rfl,rfl,⟨rfl,by have:=HN.out;omega,HD.out,Goes.start ns 20 d⟩,HM.out,Kept.refl _ w⟩
 case round=>
  obtain⟨a,D,r,hq,K2,rfl,rfl,HF,HM2,HK2⟩:=hrel;clear HM;by_cases mr:a+20<=n
  ·have XI:20<=r.length:=(by have:=HF.out.2.1;omega);have ew:∀x∈r.take 20,x<ns.length:=λx hx=>HX.out x (HF.out.2.2.2.1.mem_iff.1 (List.mem_append_right _ (List.mem_of_mem_take hx)))
   have HC:=lH wr B g n cap a (a+20) bx I ns D (r.take 20) (r.drop 20) (by have h:=HM2.out.row;rw[<-List.take_append_drop 20 r,<-List.append_assoc]at h;exact h) HF.out.1.symm (by have:=HF.out.1;simp;omega) hn HM2.out.hns HM2.out.cmp HM2.out.hbx HM2.out.hI (List.Pairwise.sublist (List.take_sublist _ _) HF.out.2.2.1) ew;have hc:((a+20:Nat):Int)<=(n:Int):=(by omega);clear ew;go_wp2_with fail;refine HC.mono ?_;rintro e w2 ⟨⟨v,rfl⟩,⟨C,p1,s1,hr1⟩,hk1⟩;have HC1:Hid (C.Perm (r.take 20)/\Sorted ns C):=⟨p1,s1⟩
   have HM3:Hid (Mem w2 B g n cap bx I ns (D++C++r.drop 20)):=hid (HM2.out.to hr1 hk1);have HK3:Hid (Kept (·=g) w w2):=HK2.out.trans hk1 (λ_ _ h=>h) (λ_ _ h=>h);clear p1 s1 hr1 hk1 HC;go_wp2_with fail;go_roundg (gk-20)
   case measure=>omega
   case rel=>
    refine⟨a+20,D++C,r.drop 20,by omega,by omega,rfl,by go_num,⟨?_,?_,?_,?_⟩,HM3.out,HK3.out⟩
    ·have:=HC1.out.1.length_eq;have:=HF.out.1;simp at *;omega
    ·have:=HF.out.2.1;simp;omega
    ·exact List.Pairwise.sublist (List.drop_sublist _ _) HF.out.2.2.1
    ·have hg:=HF.out.2.2.2;rw[<-List.take_append_drop 20 r]at hg;refine Goes.step (r.take 20) hg HC1.out.1 (by simp;omega) HC1.out.2 ?_;have ml:=HF.out.2.2.1;rw[<-List.take_append_drop 20 r]at ml;exact(List.pairwise_append.1 ml).2.2
  ·have ew:∀x∈r,x<ns.length:=λx hx=>HX.out x (HF.out.2.2.2.1.mem_iff.1 (List.mem_append_right _ hx))
   have HC:=lH wr B g n cap a n bx I ns D r [] (by simpa using HM2.out.row) HF.out.1.symm (by have:=HF.out;omega) hn HM2.out.hns HM2.out.cmp HM2.out.hbx HM2.out.hI HF.out.2.2.1 ew;have hc:¬((a+20:Nat):Int)<=(n:Int):=(by omega);clear ew;go_wp2_with fail;refine HC.mono ?_;rintro e w2 ⟨⟨v,rfl⟩,⟨C,p1,s1,hr1⟩,hk1⟩;obtain⟨d1,Cq⟩:∃d1,d1=D++C:=⟨_,rfl⟩
   have HB:Hid (d1.Perm d/\Blocks ns 20 d1):=(by rw[Cq];exact HF.out.2.2.2.finish p1 (.last C (by have:=p1.length_eq;have:=HF.out.2.1;omega) s1));have HM3:Hid (Mem w2 B g n cap bx I ns d1):=hid (HM2.out.to (by rw[Cq];simpa using hr1) hk1);have HK3:Hid (Kept (·=g) w w2):=HK2.out.trans hk1 (λ_ _ h=>h) (λ_ _ h=>h);clear p1 s1 hr1 hk1 HC Cq HM2 HK2 HF hc mr hq K2;go_wp2_with fail;go_loopg [6] n (λq z wr=>∃(k:Nat) (d1:List Nat),n-k<=q/\20<=k/\k<=2000000/\z=.int .i64 (k:Nat)/\Hid (d1.Perm d/\Blocks ns k d1)/\Hid (Mem wr B g n cap bx I ns d1)/\Hid (Kept (·=g) w wr))
   case atStart=>exact⟨20,d1,by omega,by omega,by omega,rfl,HB,HM3,HK3⟩
   case round=>
    obtain⟨k,d2,hq,Yo,Rr,rfl,HB2,HM4,HK4⟩:=hrel;obtain⟨IY,oY⟩:∃x,x=gk:=⟨_,rfl⟩
    rw[<-oY]at hq;have HG:Hid (IY=gk):=oY;clear oY HB HM3 HK3;by_cases hlt:k<n
    ·go_wp2_with fail;go_loopg [7,8] n (λq za zb wr=>∃(a:Nat) (D r:List Nat),n-a<=q/\a<=n/\za=.int .i64 (a:Nat)/\zb=.int .i64 ((a+2*k:Nat):Int)/\Hid (D.length=a/\a+r.length=n/\Blocks ns k r/\Goes ns (2*k) d D r)/\Hid (Mem wr B g n cap bx I ns (D++r))/\Hid (Kept (·=g) w wr))
     case atStart=>exact⟨0,[],d2,by omega,by omega,rfl,by congr 1<;>omega,⟨rfl,by have:=HN.out;have:=HB2.out.1.length_eq;omega,HB2.out.2,⟨HB2.out.1,λr _ h=>by simpa using h⟩⟩,HM4.out,HK4.out⟩
     case round=>
      obtain⟨a,D,r,Lx,K2,rfl,rfl,HF,HM5,HK5⟩:=hrel;clear HM4 HK4;by_cases mr:a+2*k<=n
      ·obtain⟨e1,r1,hr1,kY,hs1,LG,hb1⟩:=HF.out.2.2.1.split (by have:=HF.out.2.1;omega);obtain⟨e2,r2,hr2,vf,hs2,Ts,hb2⟩:=hb1.split (by have:=HF.out.2.1;subst hr1;simp at this;omega);subst hr2;have ew:∀x∈e1++e2,x<ns.length:=λx hx=>HX.out x (HF.out.2.2.2.1.mem_iff.1 (by rw[hr1];simp at hx ⊢;rcases hx with h | h<;>simp[h]))
       have hP:Parts ns e1 e2:=⟨hs1,hs2,λx hx y hy=>LG x hx y (by simp[hy]),λx hx=>ew x (by simp[hx]),λx hx=>ew x (by simp[hx])⟩
       have HC:=BA (2*k) B g n cap bx I ns wr a (a+k) (a+2*k) D e1 e2 r2 (by omega) (by have h:=HM5.out;rw[hr1]at h;simpa using h) hP HF.out.1.symm (by have:=HF.out.1;omega) (by have:=HF.out.1;omega) (by omega) (by omega);have HE:Hid (r=e1++(e2++r2)/\e1.length=k/\e2.length=k/\Ahead e1 (e2++r2)/\Ahead e2 r2/\Blocks ns k r2):=⟨hr1,kY,vf,LG,Ts,hb2⟩
       have hc:((a+2*k:Nat):Int)<=(n:Int):=(by omega);clear hr1 kY vf LG Ts hb2 hb1 ew hP hs1 hs2;go_wp2_with fail;refine HC.mono ?_;rintro e w3 ⟨⟨v,rfl⟩,C,p1,s1,hm1,hk1⟩;have HC1:Hid (C.Perm (e1++e2)/\Sorted ns C):=⟨p1,s1⟩
       have HM6:Hid (Mem w3 B g n cap bx I ns (D++C++r2)):=hm1;have HK6:Hid (Kept (·=g) w w3):=HK5.out.trans hk1 (λ_ _ h=>h) (λ_ _ h=>h);clear p1 s1 hm1 hk1 HC;go_wp2_with fail;go_roundg (gk-1)
       case measure=>omega
       case rel=>
        refine⟨a+2*k,D++C,r2,by omega,by omega,rfl,by congr 1<;>omega,⟨?_,?_,HE.out.2.2.2.2.2,?_⟩,HM6.out,HK6.out⟩
        ·have h1:=HC1.out.1.length_eq;have:=HF.out.1;have h2:=HE.out;simp at *;omega
        ·have h1:=HF.out.2.1;have h2:=HE.out;rw[h2.1]at h1;simp at h1;omega
        ·have hg:=HF.out.2.2.2;rw[HE.out.1,<-List.append_assoc]at hg;refine Goes.step (e1++e2) hg HC1.out.1 (by have:=HE.out;simp;omega) HC1.out.2 ?_;intro x hx y hy;rcases List.mem_append.1 hx with hx | hx
         ·exact HE.out.2.2.2.1 x hx y (by simp[hy])
         ·exact HE.out.2.2.2.2.1 x hx y hy
      ·have hc:¬((a+2*k:Nat):Int)<=(n:Int):=(by omega);by_cases UT:a+k<n
       ·obtain⟨e1,r1,hr1,kY,hs1,LG,hb1⟩:=HF.out.2.2.1.split (by have:=HF.out.2.1;omega);have vf:r1.length<=k:=(by have:=HF.out.2.1;rw[hr1]at this;simp at this;omega);have ew:∀x∈e1++r1,x<ns.length:=λx hx=>HX.out x (HF.out.2.2.2.1.mem_iff.1 (by rw[hr1];simp at hx ⊢;rcases hx with h | h<;>simp[h]))
        have hP:Parts ns e1 r1:=⟨hs1,hb1.short vf,LG,λx hx=>ew x (by simp[hx]),λx hx=>ew x (by simp[hx])⟩
        have HC:=BA (2*k) B g n cap bx I ns wr a (a+k) n D e1 r1 [] (by omega) (by have h:=HM5.out;rw[hr1]at h;simpa using h) hP HF.out.1.symm (by have:=HF.out.1;omega) (by have:=HF.out;rw[hr1]at this;simp at this;omega) (by omega) (by have:=HF.out.2.1;rw[hr1]at this;simp at this;omega);have HE:Hid (r=e1++r1/\e1.length=k/\r1.length<=k):=⟨hr1,kY,vf⟩
        clear hr1 kY vf LG hb1 ew hP hs1;go_wp2_with fail;refine HC.mono ?_;rintro e w3 ⟨⟨v,rfl⟩,C,p1,s1,hm1,hk1⟩;have HC1:Hid (C.Perm (e1++r1)/\Sorted ns C):=⟨p1,s1⟩
        have HM6:Hid (Mem w3 B g n cap bx I ns (D++C)):=hid (by simpa using hm1);have HK6:Hid (Kept (·=g) w w3):=HK5.out.trans hk1 (λ_ _ h=>h) (λ_ _ h=>h);clear p1 s1 hm1 hk1 HC;go_wp2_with fail;go_roundg (IY-1)
        case measure=>have:=HG.out;omega
        case rel=>
         refine⟨2*k,D++C,by omega,by omega,by omega,by congr 1<;>omega,?_,HM6.out,HK6.out⟩;refine hid (HF.out.2.2.2.finish (by rw[HE.out.1];exact HC1.out.1) (.last C ?_ HC1.out.2));have:=HC1.out.1.length_eq;have:=HE.out;simp at *;omega
       ·have cS:¬((a+k:Nat):Int)<(n:Int):=(by omega);go_wp2_with fail;go_roundg (IY-1)
        case measure=>have:=HG.out;omega
        case rel=>
         refine⟨2*k,D++r,by omega,by omega,by omega,by congr 1<;>omega,?_,HM5.out,HK5.out⟩;exact hid (HF.out.2.2.2.finish (List.Perm.refl _) (.last r (by have:=HF.out.2.1;omega) (HF.out.2.2.1.short (by have:=HF.out.2.1;omega))))
    ·go_wp2_with fail;go_end0;exact⟨⟨_,rfl⟩,d2,HB2.out.1,HB2.out.2.short (by have:=HB2.out.1.length_eq;have:=HN.out;omega),HM4.out,HK4.out⟩
theorem vJ(w:World)(ao:Option Addr)(cap:Nat)(cv:Value):
  Calls Tryz.prog 196 #[.slice ao 0 cap,.int .i64 0,cv] w λe w'=>(∃v,e=.returned v)/\w'=w:=by
 have HI:Calls Tryz.prog 202 #[.slice ao 0 cap,.int .i64 0,.int .i64 0,cv] w λe w'=>(∃v,e=.returned v)/\w'=w:=by
  go_enter Tryz.func202,Tryz.ntmps202;go_wp2_with fail;go_loopg [8] 1 (λ_ z wr=>z=.int .i64 1/\wr=w)
  case atStart=>exact⟨rfl,rfl⟩
  case round=>
   obtain⟨rfl,rfl⟩:=hrel;go_wp2_with fail;go_end0;exact⟨⟨_,rfl⟩,rfl⟩
 go_enter Tryz.func196,Tryz.ntmps196;go_wp2_with fail;go_loopg [7,8] 1 (λ_ z y wr=>z=.int .i64 0/\y=.int .i64 20/\wr=w)
 case atStart=>exact⟨rfl,rfl,rfl⟩
 case round=>
  obtain⟨rfl,rfl,rfl⟩:=hrel;go_wp2_with fail;refine HI.mono ?_;rintro e w2 ⟨⟨v,rfl⟩,rfl⟩;go_wp2_with fail;go_loopg [6] 1 (λ_ z wx=>z=.int .i64 20/\wx=w2)
  case atStart=>exact⟨rfl,rfl⟩
  case round=>
   obtain⟨rfl,rfl⟩:=hrel;go_wp2_with fail;go_end0;exact⟨⟨_,rfl⟩,rfl⟩
theorem DB(w:World)(ao:Option Addr)(cap:Nat)(cv:Value):
  Calls Tryz.prog 179 #[.slice ao 0 cap,cv] w λe w'=>(∃v,e=.returned v)/\w'=w:=by
 have H:=vJ w ao cap cv;go_enter Tryz.func179,Tryz.ntmps179;go_wp2_with fail;refine H.mono ?_;rintro e w2 ⟨⟨v,rfl⟩,rfl⟩;go_wp2_with fail;go_end0;exact⟨⟨_,rfl⟩,rfl⟩
theorem Gg(w:World)(B g n cap bx:Nat)(I:Nat→Prop)(ns d:List Nat)(hM:Mem w B g n cap bx I ns d)(hd:d.Pairwise (· < ·))(hm:∀x∈d,x<ns.length):
  Calls Tryz.prog 179 #[.slice (some ⟨g,0,none⟩) n cap,oZ bx] w λe w'=>(∃v,e=.returned v)/\∃d',d'.Perm d/\Sorted ns d'/\Mem w' B g n cap bx I ns d'/\Kept (·=g) w w':=by
 have H:=AJ w B g n cap bx I ns d hM hd hm;clear hM hd hm;go_enter Tryz.func179,Tryz.ntmps179;go_wp2_with fail;refine H.mono ?_;rintro e w2 ⟨⟨v,rfl⟩,h⟩;have HH:Hid (∃d',d'.Perm d/\Sorted ns d'/\Mem w2 B g n cap bx I ns d'/\Kept (·=g) w w2):=h;clear h H;go_wp2_with fail;go_end0;exact⟨⟨_,rfl⟩,HH.out⟩
def cW(ns:List Nat)(i:Nat):List Nat:=(List.range i).filter (λs=>key ns s != 0)
theorem fO(ns:List Nat)(i:Nat):cW ns (i+1)=cW ns i++(if key ns i=0 then []else [i]):=by unfold cW;rw[List.range_succ,List.filter_append];congr 1;by_cases h:key ns i=0<;>simp[h]
theorem se(ns:List Nat)(i:Nat):(cW ns i).length<=i:=by have:=List.length_filter_le (λs=>key ns s != 0) (List.range i);simpa[cW]using this
structure Ml(w w':World)(v:Value)(xs:List Nat):Prop where
 row:NRow w.heap.size w' v xs
 same:Same w w'
theorem lW(w:World)(v:Value)(I:Nat→Prop)(ns:List Nat)(hs:SrcE am w I v ns)(hn:ns.length≤1000000):
  Calls Tryz.prog 151 #[v] w λe w'=>∃v',e=.returned v'/\Ml w w' v' (aD ns):=by
 obtain⟨ao,cap,rfl,_,_⟩:=id hs;have CB:=hs.low;have HS:Hid (SrcE am w (λk=>I k/\k<w.heap.size) (.slice ao ns.length cap) ns):=CB;clear hs CB;go_enter Tryz.func151,Tryz.ntmps151;go_wp2_with fail;go_loopg [3,8] ns.length (λq zo zi wr=>∃(i:Nat),ns.length-i<=q/\i<=ns.length/\zi=.int .i64 (i:Nat)/\Hid (NRow (w.heap.size+1) wr zo (cW ns i))/\Hid (Kept (λ_=>False) (w.alloc (.cells #[.slice ao ns.length cap] 143)) wr))
 case atStart=>exact⟨0,by omega,by omega,rfl,RowE.nil,Kept.refl _ _⟩
 case round=>
  obtain⟨i,hq,yK,rfl,HR,HK⟩:=hrel;have HK0:Hid (Same w wr):=hid (Same.trans ((Kept.refl _ w).alloc _) HK.out);have dA:w.heap.size+1<=wr.heap.size:=(by have:=HK.out.size;simpa using this);by_cases hlt:i<ns.length
  ·obtain⟨b,o,eS,e,_,_,hc⟩:=(HS.out.same HK0.out).get i hlt;simp only[Value.slice.injEq]at e;obtain⟨rfl,_,rfl⟩:=e;rw[<-aZ hlt]at hc;unfold am at hc;by_cases h0:key ns i=0
   ·rw[h0]at hc;have HE:Hid (cW ns (i+1)=cW ns i):=hid (by rw[fO,if_pos h0,List.append_nil]);clear h0;go_wp2_with fail;go_roundg (gk-1)
    case measure=>omega
    case rel=>exact⟨i+1,by omega,by omega,by go_num,hid (by rw[HE.out];exact HR.out),HK⟩
   ·obtain⟨z,hz⟩:∃z,z=key ns i:=⟨_,rfl⟩
    rw[<-hz]at hc h0;have hd:((z:Int) != 0)=true:=(by simp;omega);have HE:Hid (cW ns (i+1)=cW ns i++[i]):=hid (by rw[fO,if_neg (by omega)]);have HL:Hid ((cW ns i).length+[i].length<=1000000000):=hid (by have:=se ns i;simp;omega);clear hz;go_wp2_with (at_builtin;refine aY _ am dK (w.heap.size+1) 143 3 (am 0) 8 Tryz.underlying143 Tryz.infoN rfl (by decide) rfl (.tmp 15) (.tmp 17) rfl u3 (cW ns i) rfl (World.ownsRow.alloc HR.out _) ⟨wr.heap.size,0,none⟩ 1 1 [i] rfl rfl (bA _ _ _) HL.out (by simp;omega) ?_;intro v' w1 hrow mw);have HR1:Hid (NRow (w.heap.size+1) w1 v' (cW ns i++[i])):=hrow;have HK1:Hid (Kept (λ_=>False) (w.alloc (.cells #[.slice (some ⟨b,o,none⟩) ns.length cap] 143)) w1):=hid ((HK.out.alloc _).grown mw (λk e=>.inr (by have:=HR.out.ge e;simpa using this)));clear hrow mw;go_wp2_with fail;go_roundg (gk-1)
    case measure=>omega
    case rel=>exact⟨i+1,by omega,by omega,by go_num,hid (by rw[HE.out];exact HR1.out),HK1⟩
  ·have hi:i=ns.length:=(by omega);subst hi;have M8:wr.cell? ⟨w.heap.size,0,none⟩=some (.slice ao ns.length cap):=HK.out.cell (by simp) (λh=>h);have hu:cW ns ns.length=eU ns:=rfl;have HR1:Hid (NRow (w.heap.size+1) wr u3 (eU ns)):=HR;clear HR hu;by_cases fB:eU ns=[]
   ·obtain⟨Vm,eS,rfl,_⟩:=HR1.out.shape;have h0:(eU ns).length=0:=(by rw[fB];rfl);have HR2:=HR1;rw[h0]at HR2 ⊢;have HC:=DB wr Vm eS (oZ w.heap.size);have HNIL:Hid (eU ns=[]):=fB;clear h0 fB hlt M8;go_wp2_with fail;refine HC.mono ?_;rintro e w2 ⟨⟨vv,rfl⟩,rfl⟩;go_wp2_with fail;go_ret;have e0:aD ns=eU ns:=List.Perm.eq_nil (by have:=fP ns;rw[HNIL.out]at this;exact this) |>.trans HNIL.out.symm;exact⟨_,rfl,by rw[e0];exact RowE.base HR2.out (by omega),HK0.out⟩
   ·obtain⟨g,eS,rfl,pL,nN,_⟩:=HR1.out.some fB;have HM:Mem wr (w.heap.size+1) g (eU ns).length eS w.heap.size (λk=>I k/\k<w.heap.size) ns (eU ns):=
     ⟨HR1.out,⟨_,M8,HS.out.same HK0.out⟩,by omega,λk hk=>by omega,by have:=ny ns;omega,hn⟩
    have HC:=Gg wr _ _ _ _ _ _ _ _ HM (wn ns) (λx hx=>(sN.1 hx).1);clear HM fB hlt M8;generalize (eU ns).length=un at *
    go_wp2_with fail;refine HC.mono ?_;rintro e w2 ⟨⟨vv,rfl⟩,d',p1,s1,hm1,hk1⟩;have HN:Hid (Ml w w2 (.slice (some ⟨g,0,none⟩) un eS) (aD ns)):=hid (by
     refine⟨?_,HK0.out.then hk1 (λx hx e=>by omega)⟩;rw[<-Mb s1 p1];exact RowE.base hm1.row (by omega))
    clear p1 s1 hm1 hk1 HC;go_wp2_with fail;go_ret;exact⟨_,rfl,HN.out⟩
def d6(lo hi z:Int):Bool:=decide (z<lo) || decide (hi<z)
theorem Ds(w:World)(p q:Nat)(lo hi z:Int)(hp:w.cell? ⟨p,0,none⟩=some (.int .i64 lo))(hq:w.cell? ⟨q,0,none⟩=some (.int .i64 hi)):
  Calls Tryz.prog 178 #[.int .i64 z,.pointer (some ⟨p,0,none⟩),.pointer (some ⟨q,0,none⟩)] w λe w'=>e=.returned (.bool (d6 lo hi z))/\∃m,w'=w.drewN m:=by
 go_enter Tryz.func178,Tryz.ntmps178;by_cases h:z<lo
 ·go_wp2_with fail;go_ret;exact⟨by simp[d6,h],0,rfl⟩
 ·go_wp2_with fail;go_ret;have h':decide (z<lo)=false:=(by simp;omega);exact⟨by simp only[d6,h',Bool.false_or];rfl,0,rfl⟩
abbrev FN(p q:Nat):Value:=.func (.func 178) #[] #[.pointer (some ⟨p,0,none⟩),.pointer (some ⟨q,0,none⟩)]
theorem D8(w:World)(v:Value)(I:Nat→Prop)(zs:List Int)(p q:Nat)(lo hi:Int)(hs:SrcE bI w I v zs)(hn:zs.length≤1000000)(hp:w.cell? ⟨p,0,none⟩=some (.int .i64 lo))(hq:w.cell? ⟨q,0,none⟩=some (.int .i64 hi)):
  Calls Tryz.prog 184 #[v,FN p q] w λe w'=>(∃z:Int,e=.returned (.int .i64 z)/\decide (0<=z)=zs.any (d6 lo hi))/\Same w w':=by
 obtain⟨ao,cap,rfl,_,_⟩:=id hs;have HS:Hid (SrcE bI w I (.slice ao zs.length cap) zs):=hs;clear hs;go_enter Tryz.func184,Tryz.ntmps184;go_wp2_with fail;go_loopg [8] zs.length (λk z wr=>∃i:Nat,zs.length-i<=k/\i<=zs.length/\z=.int .i64 (i:Nat)/\Hid ((zs.take i).any (d6 lo hi)=false)/\Hid (Same w wr))
 case atStart=>exact⟨0,by omega,by omega,rfl,hid (by simp),Kept.refl _ _⟩
 case round=>
  obtain⟨i,hk,yr,rfl,HF,HK⟩:=hrel;by_cases hlt:i<zs.length
  ·obtain⟨b,o,eS,e,_,_,hc⟩:=(HS.out.same HK.out).get i hlt;simp only[Value.slice.injEq]at e;obtain⟨rfl,_,rfl⟩:=e;obtain⟨x,hx⟩:∃x,x=zs[i]:=⟨_,rfl⟩
   rw[<-hx]at hc;unfold bI at hc;have HX:Hid (x=zs[i]):=hx;have HC:=Ds wr p q lo hi x (HK.out.cell hp (λh=>h)) (HK.out.cell hq (λh=>h));clear hx;cases hb:d6 lo hi x with
   | true=>
    rw[hb]at HC;have HB:Hid (d6 lo hi x=true):=hb;clear hb;go_wp2_with fail;refine HC.mono ?_;rintro e w2 ⟨rfl,m,rfl⟩;go_wp2_with fail;go_ret;refine⟨⟨_,rfl,?_⟩,HK.out.drewN _⟩;have h1:zs.any (d6 lo hi)=true:=List.any_eq_true.2 ⟨x,by rw[HX.out];exact List.getElem_mem _,HB.out⟩;rw[h1];simp
   | false=>
    rw[hb]at HC;have HB:Hid (d6 lo hi x=false):=hb;clear hb;go_wp2_with fail;refine HC.mono ?_;rintro e w2 ⟨rfl,m,rfl⟩;go_wp2_with fail;go_roundg (gk-1)
    case measure=>omega
    case rel=>
     refine⟨i+1,by omega,by omega,by go_num,hid ?_,HK.out.drewN _⟩;rw[List.take_succ_eq_append_getElem hlt,List.any_append,HF.out,<-HX.out];simp[HB.out]
  ·have:i=zs.length:=(by omega);subst this;go_wp2_with fail;go_ret;refine⟨⟨_,rfl,?_⟩,HK.out⟩;have h:=HF.out;rw[List.take_of_length_le (Nat.le_refl _)]at h;rw[h];simp
theorem uP(w:World)(v:Value)(I:Nat→Prop)(zs:List Int)(p q:Nat)(lo hi:Int)(hs:SrcE bI w I v zs)(hn:zs.length≤1000000)(hp:w.cell? ⟨p,0,none⟩=some (.int .i64 lo))(hq:w.cell? ⟨q,0,none⟩=some (.int .i64 hi)):
  Calls Tryz.prog 155 #[v,FN p q] w λe w'=>e=.returned (.bool (zs.any (d6 lo hi)))/\Same w w':=by
 have H:=D8 w v I zs p q lo hi hs hn hp hq;clear hs hp hq;go_enter Tryz.func155,Tryz.ntmps155;go_wp2_with fail;refine H.mono ?_;rintro e w2 ⟨⟨z,rfl,hz⟩,hk⟩;have HZ:Hid (decide (0<=z)=zs.any (d6 lo hi)):=hz;have HK:Hid (Same w w2):=hk;clear hz hk H;go_wp2_with fail;go_ret;refine⟨?_,HK.out⟩;rw[<-HZ.out];rfl
def eC(zs:List Int)(lo hi:Int):Bool:=decide (0<zs.length) && decide (zs.length<=288) && !(zs.any (d6 lo hi))
theorem BK(w:World)(v:Value)(I:Nat→Prop)(zs:List Int)(lo hi:Int)(hs:SrcE bI w I v zs)(hn:zs.length≤1000000):
  Calls Tryz.prog 150 #[v,.int .i64 lo,.int .i64 hi] w λe w'=>e=.returned (.bool (eC zs lo hi))/\Same w w':=by
 obtain⟨ao,cap,rfl,_,_⟩:=id hs;have hk0:Same w ((w.alloc (.cells #[.int .i64 lo] 3)).alloc (.cells #[.int .i64 hi] 3)):=((Kept.refl _ w).alloc _).alloc _;have HC:=uP ((w.alloc (.cells #[.int .i64 lo] 3)).alloc (.cells #[.int .i64 hi] 3)) _ I zs w.heap.size (w.heap.size+1) lo hi (hs.same hk0) hn (by simp) (by
  have:=World.size_alloc w (.cells #[.int .i64 lo] 3);rw[<-this];simp)
 have HK0:Hid (Same w ((w.alloc (.cells #[.int .i64 lo] 3)).alloc (.cells #[.int .i64 hi] 3))):=hk0;clear hs hk0;go_enter Tryz.func150,Tryz.ntmps150;by_cases h0:0<zs.length
 ·by_cases h1:zs.length<=288
  ·have Y0:decide (0<zs.length)=true:=(by simp[h0]);have YM:decide (zs.length<=288)=true:=(by simp[h1]);go_wp2_with fail;refine HC.mono ?_;rintro e w2 ⟨rfl,hk⟩;have HK:Hid (Same w w2):=hid (HK0.out.trans hk);clear hk HC;go_wp2_with fail;go_ret;exact⟨by simp[eC,h0,h1],HK.out⟩
  ·go_wp2_with fail;go_ret;exact⟨by simp[eC,h1],HK0.out⟩
 ·go_wp2_with fail;go_ret;exact⟨by simp[eC,h0],HK0.out⟩
def eM(n:Nat):Nat:=if n=0 then 0 else 2 ^ (15-n)
def measure(ns:List Nat):Nat:=(ns.map eM).sum
def dE(ns:List Nat):Nat:=ns.countP (λn=>n != 0)
def bw(ns:List Nat):Nat:=if 32768<measure ns then 30 else if measure ns=32768 then 0 else if dE ns=1/\measure ns=16384 then 0 else 31
def chk(zs:List Int):Nat:=if eC zs 0 15=true then bw (zs.map Int.toNat)else 1
theorem oh{zs:List Int}{hi:Int}(h:eC zs 0 hi=true):((zs.map Int.toNat).map am=zs.map bI)/\0<zs.length/\zs.length<=288/\∀n∈zs.map Int.toNat,(n:Int)<=hi:=by
 simp only[eC,Bool.and_eq_true,decide_eq_true_eq,Bool.not_eq_true',List.any_eq_false]at h;obtain⟨⟨h1,h2⟩,h3⟩:=h;have h4:∀z∈zs,0<=z/\z<=hi:=λz hz=>by have:=h3 z hz;simp[d6]at this;omega
 refine⟨?_,h1,h2,?_⟩
 ·rw[List.map_map];refine List.map_congr_left (λz hz=>?_);simp only[Function.comp,am,bI];rw[Int.toNat_of_nonneg (h4 z hz).1]
 ·intro n hn;obtain⟨z,hz,rfl⟩:=List.mem_map.1 hn;have:=h4 z hz;omega
theorem mW(ns:List Nat)(n:Nat):measure (ns++[n])=measure ns+eM n:=by simp[measure]
theorem qe(ns:List Nat)(n:Nat):dE (ns++[n])=dE ns+(if n=0 then 0 else 1):=by by_cases h:n=0<;>simp[dE,h]
theorem JB(n:Nat):eM n<=16384:=by
 unfold eM;split
 ·omega
 ·exact Nat.le_trans (Nat.pow_le_pow_right (by omega) (show 15-n<=14 by omega)) (by decide)
theorem measure_le(ns:List Nat):measure ns<=16384*ns.length:=by
 induction ns with
 | nil=>simp[measure]
 | cons a r ih=>have:=JB a;simp[measure]at *;omega
theorem F2(ns:List Nat):dE ns<=ns.length:=List.countP_le_length
theorem zB{n:Nat}(h0:n≠0)(h:n<=15):eM n=32768 / 2 ^ n:=by unfold eM;rw[if_neg h0,show(32768:Nat)=2 ^ 15 by rfl,Nat.pow_div h (by omega)]
theorem kL(w:World)(v:Value)(I:Nat→Prop)(zs:List Int)(hs:SrcE bI w I v zs)(hn:zs.length≤1000000):
  Calls Tryz.prog 173 #[v] w λe w'=>e=.returned (.int .i64 (chk zs:Nat))/\Same w w':=by
 obtain⟨ao,cap,rfl,_,_⟩:=id hs;have HC:=BK w _ I zs 0 15 hs hn;have HS:Hid (SrcE bI w I (.slice ao zs.length cap) zs):=hs;clear hs;go_enter Tryz.func173,Tryz.ntmps173;go_wp2_with fail;refine HC.mono ?_;rintro e w2 ⟨rfl,hk⟩;have HK:Hid (Same w w2):=hk;clear hk HC;cases hok:eC zs 0 15 with
 | false=>
  go_wp2_with fail;go_ret;exact⟨by simp[chk,hok],HK.out⟩
 | true=>
  obtain⟨e1,h0,KE,h15⟩:=oh hok;have HCH:Hid (chk zs=bw (zs.map Int.toNat)):=hid (by simp[chk,hok]);have hl:(zs.map Int.toNat).length=zs.length:=(by simp);have HS2:Hid (SrcE am w I (.slice ao zs.length cap) (zs.map Int.toNat)):=hid (SrcE.recode HS.out e1);generalize zs.map Int.toNat=ns at *
  rw[<-hl]at HS2 KE h0 ⊢;clear hl hok e1 HS hn;have H15:Hid (∀n∈ns,(n:Int)<=15):=h15;clear h15;go_wp2_with fail;go_loopg [3,4,13] ns.length (λq zm zu zi wr=>∃(i m u:Nat),ns.length-i<=q/\i<=ns.length/\m<=16384*288/\u<=288/\zi=.int .i64 (i:Nat)/\zm=.int .i64 (m:Nat)/\zu=.int .i64 (u:Nat)/\wr=w2/\Hid (m=measure (ns.take i)/\u=dE (ns.take i)))
  case atStart=>exact⟨0,0,0,by omega,by omega,by omega,by omega,rfl,rfl,rfl,rfl,⟨rfl,rfl⟩⟩
  case round=>
   obtain⟨i,m,u,hq,hi,hm,hu,rfl,rfl,rfl,rfl,HF⟩:=hrel;by_cases hlt:i<ns.length
   ·obtain⟨b,o,eS,e,_,_,hc⟩:=(HS2.out.same HK.out).get i hlt;simp only[Value.slice.injEq]at e;obtain⟨rfl,_,rfl⟩:=e;obtain⟨x,hx⟩:∃x,x=ns[i]:=⟨_,rfl⟩
    rw[<-hx]at hc;unfold am at hc;have Rv:x<=15:=(by have:=H15.out x (by rw[hx];exact List.getElem_mem _);omega);have ip:measure (ns.take (i+1))=measure (ns.take i)+eM x:=(by rw[List.take_succ_eq_append_getElem hlt,mW,hx]);have yB:dE (ns.take (i+1))=dE (ns.take i)+(if x=0 then 0 else 1):=(by rw[List.take_succ_eq_append_getElem hlt,qe,hx]);have hb1:measure (ns.take (i+1))<=16384*288:=Nat.le_trans (measure_le _) (Nat.mul_le_mul_left _ (by simp;omega));have hb2:dE (ns.take (i+1))<=288:=Nat.le_trans (F2 _) (by simp;omega);clear hx;by_cases yH:x=0
    ·rw[if_pos yH]at yB;have LR:eM x=0:=(by simp[eM,yH]);rw[LR]at ip;have HF2:Hid (measure (ns.take (i+1))=measure (ns.take i)/\dE (ns.take (i+1))=dE (ns.take i)):=⟨ip,yB⟩
     clear ip yB LR hb1 hb2;rw[yH]at hc;go_wp2_with fail;go_roundg (gk-1)
     case measure=>omega
     case rel=>exact⟨i+1,m,u,by omega,by omega,hm,hu,by go_num,rfl,rfl,rfl,hid (by rw[HF2.out.1,HF2.out.2];exact HF.out)⟩
    ·rw[if_neg yH]at yB;have uT:0<x:=(by omega);have Q2:((32768:Int) / 2 ^ x)=((eM x:Nat):Int):=(by rw[zB yH Rv];simp);have HF2:Hid (measure (ns.take (i+1))=m+eM x/\dE (ns.take (i+1))=u+1):=hid ⟨by rw[ip,HF.out.1],by rw[yB,HF.out.2]⟩;have hb3:m+eM x<=16384*288:=(by rw[<-HF2.out.1];exact hb1);have hb4:u+1<=288:=(by rw[<-HF2.out.2];exact hb2);clear ip yB hb1 hb2 yH;generalize eM x=ux at *
     go_wp2_with fail;go_roundg (gk-1)
     case measure=>omega
     case rel=>exact⟨i+1,m+ux,u+1,by omega,by omega,hb3,hb4,by go_num,by go_num,by go_num,rfl,hid ⟨HF2.out.1.symm,HF2.out.2.symm⟩⟩
   ·have:i=ns.length:=(by omega);subst this;have Pi:m=measure ns:=(by have:=HF.out.1;rw[List.take_of_length_le (Nat.le_refl _)]at this;exact this);have UF:u=dE ns:=(by have:=HF.out.2;rw[List.take_of_length_le (Nat.le_refl _)]at this;exact this);have HU:Hid (m=measure ns/\u=dE ns):=⟨Pi,UF⟩
    clear Pi UF HF;by_cases hover:32768<m
    ·by_cases O1:u=1
     ·go_wp2_with fail;go_ret;refine⟨?_,HK.out⟩;rw[HCH.out,bw,<-HU.out.1,if_pos hover];rfl
     ·have hd:((u:Int)==1)=false:=(by simp;omega);go_wp2_with fail;go_ret;refine⟨?_,HK.out⟩;rw[HCH.out,bw,<-HU.out.1,if_pos hover];rfl
    ·by_cases LR:m<32768
     ·by_cases O1:u=1
      ·by_cases hh:m=16384
       ·go_wp2_with fail;go_ret;refine⟨?_,HK.out⟩;rw[HCH.out,bw,<-HU.out.1,<-HU.out.2,if_neg hover,if_neg (by omega),if_pos ⟨O1,hh⟩];rfl
       ·have hd:((m:Int)==16384)=false:=(by simp;omega);have HV:Hid (bw ns=31):=hid (by rw[bw,<-HU.out.1,<-HU.out.2,if_neg hover,if_neg (by omega),if_neg (λh=>hh h.2)]);have b1:decide ((32768:Int)<(m:Int))=false:=(by simp;omega);have b2:decide ((m:Int)<32768)=true:=(by simp;omega);clear hh LR hover;go_wp2_with fail;go_ret;refine⟨?_,HK.out⟩;rw[HCH.out,HV.out];rfl
      ·have hd:((u:Int)==1)=false:=(by simp;omega);have HV:Hid (bw ns=31):=hid (by rw[bw,<-HU.out.1,<-HU.out.2,if_neg hover,if_neg (by omega),if_neg (λh=>O1 h.1)]);have b1:decide ((32768:Int)<(m:Int))=false:=(by simp;omega);have b2:decide ((m:Int)<32768)=true:=(by simp;omega);clear LR hover O1;go_wp2_with fail;go_ret;refine⟨?_,HK.out⟩;rw[HCH.out,HV.out];rfl
     ·have hm3:m=32768:=(by omega);by_cases O1:u=1
      ·go_wp2_with fail;go_ret;refine⟨?_,HK.out⟩;rw[HCH.out,bw,<-HU.out.1,<-HU.out.2,if_neg hover,if_pos hm3];rfl
      ·have hd:((u:Int)==1)=false:=(by simp;omega);go_wp2_with fail;go_ret;refine⟨?_,HK.out⟩;rw[HCH.out,bw,<-HU.out.1,<-HU.out.2,if_neg hover,if_pos hm3];rfl
end Go.Proofs.YtkhagfgineifhaaGreatDoor
