import Derived.Test.YtkhagfgineifhaaGreatDoorHSortM
import Derived.RegionTactic
import Derived.ChangeAlike
import Derived.Deep.RegionWith
set_option maxHeartbeats 1000000
namespace Go.Proofs.YtkhagfgineifhaaGreatDoor
open Go.RowKit
theorem ky{B t g n cap:Nat}{α:Type}{enc:α→Value}{w:World}{P M S:List α}{x y:α}(h:RowE B t enc w (.slice (some ⟨g,0,none⟩) n cap) (P++x::M++y::S)){i j:Nat}(hi:i=P.length)(hj:j=P.length+1+M.length):
  w.cell? ⟨g,i,none⟩=some (enc x)/\w.cell? ⟨g,j,none⟩=some (enc y)/\w.frozen? ⟨g,i,none⟩=false/\w.frozen? ⟨g,j,none⟩=false/\i<n/\j<n/\i≠j:=by
 have hl:=h.len;simp at hl;subst hi hj;refine⟨?_,?_,h.frozen _,h.frozen _,by omega,by omega,by omega⟩
 ·rw[h.cell P.length (by simp)];simp
 ·rw[h.cell (P.length+1+M.length) (by simp;omega)];congr 2;rw[List.getElem_append_right (by simp;omega)];simp[show P.length+1+M.length-(P.length+(M.length+1))=0 by omega]
theorem BI{B t g n cap:Nat}{α:Type}{enc:α→Value}{w:World}{P M S:List α}{x y:α}(h:RowE B t enc w (.slice (some ⟨g,0,none⟩) n cap) (P++x::M++y::S)){i j:Nat}(hi:i=P.length)(hj:j=P.length+1+M.length):
  RowE B t enc ((w.setCell ⟨g,i,none⟩ (enc y)).setCell ⟨g,j,none⟩ (enc x)) (.slice (some ⟨g,0,none⟩) n cap) (P++y::M++x::S):=by
 have h2:=(h.lay i y).lay j x;subst hi hj;have e:((P++x::M++y::S).set P.length y).set (P.length+1+M.length) x=P++y::M++x::S:=by
  rw[List.append_assoc,List.set_append_right _ _ (by omega),Nat.sub_self,List.cons_append,List.set_cons_zero,List.set_append_right _ _ (by omega),
   show P.length+1+M.length-P.length=M.length+1 by omega,List.set_cons_succ,List.set_append_right _ _ (by omega)]
  simp
 rw[e]at h2;exact h2
theorem xP{B t g n cap:Nat}{α:Type}{enc:α→Value}{w:World}{P M S:List α}{x y:α}(h:RowE B t enc w (.slice (some ⟨g,0,none⟩) n cap) (P++x::M++y::S)){i j:Nat}(hi:i=P.length)(hj:j=P.length+1+M.length):
  RowE B t enc ((w.setCell ⟨g,j,none⟩ (enc x)).setCell ⟨g,i,none⟩ (enc y)) (.slice (some ⟨g,0,none⟩) n cap) (P++y::M++x::S):=by
 have h2:=(h.lay j x).lay i y;subst hi hj;have e:((P++x::M++y::S).set (P.length+1+M.length) x).set P.length y=P++y::M++x::S:=by
  rw[List.set_comm _ _ (by omega),List.append_assoc,List.set_append_right _ _ (by omega),Nat.sub_self,List.cons_append,List.set_cons_zero,List.set_append_right _ _ (by omega),
   show P.length+1+M.length-P.length=M.length+1 by omega,List.set_cons_succ,List.set_append_right _ _ (by omega)]
  simp
 rw[e]at h2;exact h2
theorem pY(w:World)(B g n cap a b k:Nat)(cv:Value)(P X M Y S:List Nat)(U9:X.length=Y.length)(hrow:NRow B w (.slice (some ⟨g,0,none⟩) n cap) (P++X++M++Y++S))(ha:a=P.length)(hb:b=P.length+X.length+M.length)(hk:k=X.length)(hn:n≤1000000):
  Calls Tryz.prog 212 #[.slice (some ⟨g,0,none⟩) n cap,.int .i64 (a:Nat),.int .i64 (b:Nat),.int .i64 (k:Nat),cv] w λe w'=>(∃v,e=.returned v)/\NRow B w' (.slice (some ⟨g,0,none⟩) n cap) (P++Y++M++X++S)/\Kept (·=g) w w':=by
 have ag:=hrow.len;simp at ag;have HR:Hid (NRow B w (.slice (some ⟨g,0,none⟩) n cap) (P++X++M++Y++S)):=hrow;have HL:Hid (X.length=Y.length):=U9;have HA:Hid (a=P.length):=ha;have HB:Hid (b=P.length+X.length+M.length):=hb;have HK:Hid (k=X.length):=hk;have Fa:a+k<=n/\b+k<=n:=by omega
 clear hrow U9 ha hb hk ag;go_enter Tryz.func212,Tryz.ntmps212;go_wp2_with fail;go_loopg [10] k (λq z wr=>∃i:Nat,i<=k/\k-i<=q/\z=.int .i64 (i:Nat)/\NRow B wr (.slice (some ⟨g,0,none⟩) n cap) (P++Y.take i++X.drop i++M++X.take i++Y.drop i++S)/\Kept (·=g) w wr)
 case atStart=>exact⟨0,by omega,by omega,rfl,by simpa using HR.out,Kept.refl _ w⟩
 case round=>
  obtain⟨i,hi,Ik,rfl,hr,hkp⟩:=hrel;have HR2:Hid (NRow B wr (.slice (some ⟨g,0,none⟩) n cap) (P++Y.take i++X.drop i++M++X.take i++Y.drop i++S)):=hr;have HK2:Hid (Kept (·=g) w wr):=hkp;clear hr hkp HR;by_cases hlt:i<k
  ·have hx:i<X.length:=(by have:=HK.out;omega);have hy:i<Y.length:=(by have:=HL.out;omega);obtain⟨x,ic⟩:∃x,x=X[i]:=⟨_,rfl⟩
   obtain⟨y,NU⟩:∃y,y=Y[i]:=⟨_,rfl⟩
   have hr3:=HR2.out;rw[List.drop_eq_getElem_cons hx,List.drop_eq_getElem_cons hy,<-ic,<-NU]at hr3;have hr4:NRow B wr (.slice (some ⟨g,0,none⟩) n cap) ((P++Y.take i)++x::(X.drop (i+1)++M++X.take i)++y::(Y.drop (i+1)++S)):=(by simpa using hr3);have e1:a+i=(P++Y.take i).length:=(by have:=HA.out;simp;omega);have e2:b+i=(P++Y.take i).length+1+(X.drop (i+1)++M++X.take i).length:=(by have:=HB.out;simp;omega);obtain⟨c1,c2,f1,f2,l1,l2,bm⟩:=ky hr4 e1 e2;have HR4:Hid (NRow B ((wr.setCell ⟨g,a+i,none⟩ (am y)).setCell ⟨g,b+i,none⟩ (am x)) (.slice (some ⟨g,0,none⟩) n cap) (P++Y.take (i+1)++X.drop (i+1)++M++X.take (i+1)++Y.drop (i+1)++S)):=(by have h:=BI hr4 e1 e2;have h5:NRow B ((wr.setCell ⟨g,a+i,none⟩ (am y)).setCell ⟨g,b+i,none⟩ (am x)) (.slice (some ⟨g,0,none⟩) n cap) (P++Y.take (i+1)++X.drop (i+1)++M++X.take (i+1)++Y.drop (i+1)++S):=(by rw[List.take_succ_eq_append_getElem hx,List.take_succ_eq_append_getElem hy,<-ic,<-NU];simpa using h);exact h5);clear hr3 hr4 e1 e2 ic NU HR2 hx hy;unfold am at c1 c2;go_wp2_with fail;go_region
   all_goals
    go_wp2_with fail;go_roundg (gk-1)
    case measure=>omega
    case rel=>exact⟨i+1,by omega,by omega,by go_num,HR4.out,((HK2.out.setCell ⟨g,a+i,none⟩ _ (.inl rfl)).setCell ⟨g,b+i,none⟩ _ (.inl rfl)).drew⟩
  ·have e:i=k:=(by omega);subst e;go_wp2_with fail;go_end0;refine⟨⟨_,rfl⟩,?_,HK2.out⟩;have h:=HR2.out;have hk1:=HK.out;have hk2:=HL.out;have t1:X.take i=X:=List.take_of_length_le (by omega);have t2:Y.take i=Y:=List.take_of_length_le (by omega);have t3:X.drop i=[]:=List.drop_eq_nil_of_le (by omega);have t4:Y.drop i=[]:=List.drop_eq_nil_of_le (by omega);rw[t1,t2,t3,t4]at h;simpa using h
theorem pS(w:World)(B g n cap a m b:Nat)(cv:Value)(P X Y S:List Nat)(hX:0<X.length)(hY:0<Y.length)(hrow:NRow B w (.slice (some ⟨g,0,none⟩) n cap) (P++X++Y++S))(ha:a=P.length)(hm:m=P.length+X.length)(hb:b=P.length+X.length+Y.length)(hn:n≤1000000):
  Calls Tryz.prog 208 #[.slice (some ⟨g,0,none⟩) n cap,.int .i64 (a:Nat),.int .i64 (m:Nat),.int .i64 (b:Nat),cv] w λe w'=>(∃v,e=.returned v)/\NRow B w' (.slice (some ⟨g,0,none⟩) n cap) (P++Y++X++S)/\Kept (·=g) w w':=by
 have ag:=hrow.len;simp at ag;have HR:Hid (NRow B w (.slice (some ⟨g,0,none⟩) n cap) (P++X++Y++S)):=hrow;have HA:Hid (a=P.length/\m=P.length+X.length/\b=P.length+X.length+Y.length):=⟨ha,hm,hb⟩
 have Fa:a<m/\m<b/\b<=n:=by omega
 clear hrow ha hm hb ag;go_enter Tryz.func208,Tryz.ntmps208;go_wp2_with fail;go_loopg [10,11] (b-a) (λq zi zj wr=>∃(i j:Nat) (P' L R S':List Nat),i+j<=q/\0<i/\0<j/\i<=m/\m+j<=n/\zi=.int .i64 (i:Nat)/\zj=.int .i64 (j:Nat)/\Hid (L.length=i/\R.length=j/\P'.length=m-i/\P'++R++L++S'=P++Y++X++S)/\Hid (NRow B wr (.slice (some ⟨g,0,none⟩) n cap) (P'++L++R++S'))/\Hid (Kept (·=g) w wr))
 case atStart=>exact⟨m-a,b-m,P,X,Y,S,by omega,by omega,by omega,by omega,by omega,by congr 1;omega,by congr 1;omega,⟨by have:=HA.out;omega,by have:=HA.out;omega,by have:=HA.out;omega,rfl⟩,HR.out,Kept.refl _ w⟩
 case round=>
  obtain⟨i,j,P',L,R,S',hq,U4,QC,Zi,OJ,rfl,rfl,HF,HR2,HK2⟩:=hrel;clear HR HA;by_cases he:i=j
  ·have hd:((i:Int) != (j:Int))=false:=(by simp[he]);have e1:((m:Int)-(i:Int))=((m-i:Nat):Int):=(by omega);have HC:=pY wr B g n cap (m-i) m i cv P' L [] R S' (by have:=HF.out;omega) (by simpa using HR2.out) HF.out.2.2.1.symm (by have:=HF.out;simp;omega) (by have:=HF.out;omega) hn;have HE:Hid (i=j):=he;clear he;go_wp2_with fail;refine HC.mono ?_;rintro e w2 ⟨⟨v,rfl⟩,hr,hkp⟩;have HR3:Hid (NRow B w2 (.slice (some ⟨g,0,none⟩) n cap) (P'++R++[]++L++S')):=hr;have HK3:Hid (Kept (·=g) wr w2):=hkp;clear hr hkp;go_wp2_with fail;go_end0;refine⟨⟨_,rfl⟩,?_,HK2.out.trans HK3.out (λ_ _ h=>h) (λ_ _ h=>h)⟩;rw[<-HF.out.2.2.2];simpa using HR3.out
  ·have hd:((i:Int) != (j:Int))=true:=(by simp;omega);by_cases NO:j<i
   ·have e1:((m:Int)-(i:Int))=((m-i:Nat):Int):=(by omega);have pM:NRow B wr (.slice (some ⟨g,0,none⟩) n cap) (P'++L.take j++L.drop j++R++S'):=(by simpa using HR2.out);have HC:=pY wr B g n cap (m-i) m j cv P' (L.take j) (L.drop j) R S' (by have:=HF.out;simp;omega) pM HF.out.2.2.1.symm (by have:=HF.out;simp;omega) (by have:=HF.out;simp;omega) hn;clear pM;go_wp2_with fail;refine HC.mono ?_;rintro e w2 ⟨⟨v,rfl⟩,hr,hkp⟩;have HR3:Hid (NRow B w2 (.slice (some ⟨g,0,none⟩) n cap) (P'++R++L.drop j++L.take j++S')):=hr;have HK3:Hid (Kept (·=g) wr w2):=hkp;clear hr hkp;go_wp2_with fail;go_roundg (gk-j)
    case measure=>omega
    case rel=>
     refine⟨i-j,j,P'++R,L.drop j,L.take j,S',by omega,by omega,by omega,by omega,by omega,by congr 1;omega,rfl,⟨?_,?_,?_,?_⟩,?_,(HK2.out.trans HK3.out (λ_ _ h=>h) (λ_ _ h=>h))⟩
     ·have:=HF.out;simp;omega
     ·have:=HF.out;simp;omega
     ·have:=HF.out;simp;omega
     ·rw[<-HF.out.2.2.2];simp
     ·exact hid (by simpa using HR3.out)
   ·have e1:((m:Int)-(i:Int))=((m-i:Nat):Int):=(by omega);have e2:((m:Int)+(j:Int)-(i:Int))=((m+j-i:Nat):Int):=(by omega);have pM:NRow B wr (.slice (some ⟨g,0,none⟩) n cap) (P'++L++R.take (j-i)++R.drop (j-i)++S'):=(by simpa using HR2.out);have HC:=pY wr B g n cap (m-i) (m+j-i) i cv P' L (R.take (j-i)) (R.drop (j-i)) S' (by have:=HF.out;simp;omega) pM HF.out.2.2.1.symm (by have:=HF.out;simp;omega) (by have:=HF.out;omega) hn;clear pM;go_wp2_with fail;refine HC.mono ?_;rintro e w2 ⟨⟨v,rfl⟩,hr,hkp⟩;have HR3:Hid (NRow B w2 (.slice (some ⟨g,0,none⟩) n cap) (P'++R.drop (j-i)++R.take (j-i)++L++S')):=hr;have HK3:Hid (Kept (·=g) wr w2):=hkp;clear hr hkp;go_wp2_with fail;go_roundg (gk-i)
    case measure=>omega
    case rel=>
     refine⟨i,j-i,P',R.drop (j-i),R.take (j-i),L++S',by omega,by omega,by omega,by omega,by omega,rfl,by congr 1;omega,⟨?_,?_,?_,?_⟩,?_,(HK2.out.trans HK3.out (λ_ _ h=>h) (λ_ _ h=>h))⟩
     ·have:=HF.out;simp;omega
     ·have:=HF.out;simp;omega
     ·have:=HF.out;omega
     ·rw[<-HF.out.2.2.2];simp
     ·exact hid (by simpa using HR3.out)
end Go.Proofs.YtkhagfgineifhaaGreatDoor
