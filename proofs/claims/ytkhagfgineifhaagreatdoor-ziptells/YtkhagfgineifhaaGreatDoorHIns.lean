import Derived.Test.YtkhagfgineifhaaGreatDoorHSwap
set_option maxHeartbeats 2000000
set_option maxRecDepth 100000
namespace Go.Proofs.YtkhagfgineifhaaGreatDoor
open Go.RowKit
def tF(x y:Nat):Int:=if x<y then -1 else if y<x then 1 else 0
theorem pQ{x y:Nat}(h:x<y):decide (tF x y<0)=true:=by simp[tF,h]
theorem qg{x y:Nat}(h:¬x<y):decide (tF x y<0)=false:=by unfold tF;rw[if_neg h];split<;>simp
theorem tC(x:Int)(w:World):Calls Tryz.prog 197 #[.int .i64 x] w λe w'=>e=.returned (.bool false)/\w'=w:=by
 have hd:(x != x)=false:=by simp
 go_enter Tryz.func197,Tryz.ntmps197;go_wp2;go_ret;simp
theorem xO(x y:Nat)(w:World):Calls Tryz.prog 181 #[.int .i64 (x:Nat),.int .i64 (y:Nat)] w λe w'=>e=.returned (.int .i64 (tF x y))/\w'=w:=by
 have H1:=tC (x:Int) w;have H2:=tC (y:Int) w;go_enter Tryz.func181,Tryz.ntmps181;go_wp2_with fail;refine H1.mono ?_;rintro e w' ⟨rfl,rfl⟩;go_wp2_with fail;refine H2.mono ?_;rintro e w'' ⟨rfl,rfl⟩;by_cases h:x<y
 ·go_wp2_with fail;go_ret;simp[tF,h]
 ·by_cases h2:y<x
  ·go_wp2_with fail;go_ret;simp[tF,h,h2]
  ·go_wp2_with fail;go_ret;simp[tF,h,h2]
structure Cmp(w:World)(bx:Nat)(I:Nat->Prop)(ns:List Nat):Prop where
 ex:∃v,w.cell? ⟨bx,0,none⟩=some v/\SrcE am w I v ns
theorem Cmp.kept{F:Nat->Prop}{w w':World}{bx:Nat}{I:Nat->Prop}{ns:List Nat}(h:Cmp w bx I ns)(hk:Kept F w w')(h1:¬F bx)(h2:∀k,I k->k<w.heap.size->¬F k):Cmp w' bx I ns:=by obtain⟨v,hv,hs⟩:=h.ex;exact⟨v,hk.cell hv h1,hs.kept hk h2⟩
abbrev oZ(bx:Nat):Value:=.func (.func 180) #[] #[.pointer (some ⟨bx,0,none⟩)]
theorem Hf(w:World)(bx:Nat)(I:Nat→Prop)(ns:List Nat)(h:Cmp w bx I ns)(_hn:ns.length≤1000000)(a b:Nat)(ha:a<ns.length)(hb:b<ns.length):
  Calls Tryz.prog 180 #[.int .i64 (a:Nat),.int .i64 (b:Nat),.pointer (some ⟨bx,0,none⟩)] w λe w'=>e=.returned (.int .i64 (tF (key ns a) (key ns b)))/\∃m,w'=w.drewN m:=by
 obtain⟨v,hv,hs⟩:=h.ex;obtain⟨b1,o1,cap,rfl,_,_,c1⟩:=hs.get a ha;obtain⟨b2,o2,eS,e,_,_,c2⟩:=hs.get b hb;simp only[Value.slice.injEq,Option.some.injEq,Addr.mk.injEq,and_true]at e;obtain⟨⟨rfl,rfl⟩,_,rfl⟩:=e;rw[<-aZ ha]at c1;rw[<-aZ hb]at c2;unfold am at c1 c2;have HC:=λq=>xO (key ns a) (key ns b) (w.drewN q)
 generalize key ns a=x at *
 generalize key ns b=y at *
 clear hs h;go_enter Tryz.func180,Tryz.ntmps180;go_wp2_with fail;go_quiet ((go_at_call 181;exact Calls.quiet_of_same (HC _)));go_wp2_with fail;go_ret;exact⟨rfl,_,rfl⟩
theorem ni(w:World)(bx:Nat)(I:Nat→Prop)(ns:List Nat)(h:Cmp w bx I ns)(hn:ns.length≤1000000)(a b:Nat)(ha:a<ns.length)(hb:b<ns.length)(q:Nat):
  Calls Tryz.prog 180 #[.int .i64 (a:Nat),.int .i64 (b:Nat),.pointer (some ⟨bx,0,none⟩)] (w.drewN q) λe w'=>e=.returned (.int .i64 (tF (key ns a) (key ns b)))/\∃m,w'=(w.drewN q).drewN m:=
 Hf (w.drewN q) bx I ns ⟨h.ex⟩ hn a b ha hb
theorem Gj{ns T1 T2:List Nat}{x:Nat}(hT:Sorted ns (T1++T2))(h1:AllLt ns T1 [x])(h2:AllLt ns [x] T2):Sorted ns (T1++x::T2):=by
 refine Sorted.append hT.left (List.pairwise_cons.2 ⟨λy hy=>h2 x (by simp) y hy,hT.right⟩) ?_;intro a ha b hb;rcases List.mem_cons.1 hb with rfl | hb
 ·exact h1 a ha _ (by simp)
 ·exact hT.cross a ha b hb
theorem El{ns T0:List Nat}{y x:Nat}(hT:Sorted ns (T0++[y]))(h:Lt ns y x):AllLt ns (T0++[y]) [x]:=by
 intro a ha b hb;have hb:b=x:=by simpa using hb
 subst hb;rcases List.mem_append.1 ha with ha | ha
 ·exact(hT.cross a ha y (by simp)).trans h
 ·have:a=y:=(by simpa using ha);subst this;exact h
theorem yg{ns E T U' T1 T2:List Nat}{x a i b:Nat}(hF:(a+T.length=i∨T=[]∧x::U'=[])∧b=a+T.length+(x::U').length∧Sorted ns T∧Ahead T (x::U')∧(x::U').Pairwise (· < ·)∧(T++x::U').Perm E)
  (hT:T=T1++T2) (h1:AllLt ns T1 [x]) (h2:AllLt ns [x] T2):
  (a+(T1++x::T2).length=i+1\/T1++x::T2=[]/\U'=[])/\b=a+(T1++x::T2).length+U'.length/\Sorted ns (T1++x::T2)/\Ahead (T1++x::T2) U'/\U'.Pairwise (· < ·)/\((T1++x::T2)++U').Perm E:=by
 obtain⟨f1,f2,f3,f4,f5,f6⟩:=hF;subst hT;have hp:((T1++x::T2)++U').Perm (T1++T2++x::U'):=by have:(T1++x::T2).Perm (T1++T2++[x]):=(by rw[List.append_assoc];exact List.Perm.append_left _ (List.perm_append_singleton x T2).symm);have h2:=this.append_right U';simpa using h2
 have Wl:=f1.resolve_right (by simp);refine⟨.inl ?_,?_,Gj f3 h1 h2,?_,(List.pairwise_cons.1 f5).2,hp.trans f6⟩
 ·simp at Wl ⊢;omega
 ·simp at f2 ⊢;omega
 ·intro y hy z hz;have Ba:y∈T1++T2\/y=x:=by
   simp at hy ⊢;rcases hy with h | h | h
   ·exact .inl (.inl h)
   ·exact .inr h
   ·exact .inl (.inr h)
  rcases Ba with Ba | rfl
  ·exact f4 y Ba z (List.mem_cons_of_mem _ hz)
  ·exact(List.pairwise_cons.1 f5).1 z hz
theorem lH(w:World)(B g n cap a b bx:Nat)(I:Nat→Prop)(ns P E S:List Nat)(hrow:NRow B w (.slice (some ⟨g,0,none⟩) n cap) (P++E++S))(ha:a=P.length)(hb:b=P.length+E.length)(hn:n≤1000000)(hns:ns.length≤1000000)
  (hc:Cmp w bx I ns) (hbx:bx≠g) (hI:∀k,I k->k≠g) (hE:E.Pairwise (· < ·)) (hm:∀x∈E,x<ns.length):
  Calls Tryz.prog 202 #[.slice (some ⟨g,0,none⟩) n cap,.int .i64 (a:Nat),.int .i64 (b:Nat),oZ bx] w λe w'=>(∃v,e=.returned v)/\(∃E',E'.Perm E/\Sorted ns E'/\NRow B w' (.slice (some ⟨g,0,none⟩) n cap) (P++E'++S))/\Kept (·=g) w w':=by
 have ag:=hrow.len;simp at ag;have HR:Hid (NRow B w (.slice (some ⟨g,0,none⟩) n cap) (P++E++S)):=hrow;have HA:Hid (a=P.length/\b=P.length+E.length):=⟨ha,hb⟩
 have HC:Hid (Cmp w bx I ns):=hc;have HE:Hid (E.Pairwise (· < ·)):=hE;have HM:Hid (∀x∈E,x<ns.length):=hm;have HI:Hid (∀k,I k->k≠g):=hI;have HX:Hid (bx≠g):=hbx;have Fa:a<=b/\b<=n:=by omega
 clear hrow ha hb ag hc hE hm hI hbx;go_enter Tryz.func202,Tryz.ntmps202;go_wp2_with fail;go_loopg [8] (b-a) (λq z wr=>∃(i:Nat) (T U:List Nat),b-i<=q/\0<i/\a<i/\i<=b+1/\z=.int .i64 (i:Nat)/\Hid ((a+T.length=i\/T=[]/\U=[])/\b=a+T.length+U.length/\Sorted ns T/\Ahead T U/\U.Pairwise (· < ·)/\(T++U).Perm E)/\Hid (NRow B wr (.slice (some ⟨g,0,none⟩) n cap) (P++T++U++S))/\Hid (Kept (·=g) w wr))
 case atStart=>
  refine⟨a+1,E.take 1,E.drop 1,by omega,by omega,by omega,by omega,by go_num,⟨?_,?_,?_,?_,?_,?_⟩,?_,Kept.refl _ w⟩
  ·cases E with
   | nil=>right;simp
   | cons x r=>left;simp
  ·have:=HA.out;simp;omega
  ·cases E with
   | nil=>simp[Sorted]
   | cons x r=>simp[Sorted]
  ·have h:=HE.out;rw[<-List.take_append_drop 1 E]at h;exact(List.pairwise_append.1 h).2.2
  ·have h:=HE.out;rw[<-List.take_append_drop 1 E]at h;exact(List.pairwise_append.1 h).2.1
  ·rw[List.take_append_drop]
  ·have h:=HR.out;have e:P++E.take 1++E.drop 1++S=P++E++S:=(by rw[List.append_assoc P,List.take_append_drop]);show NRow B w (.slice (some ⟨g,0,none⟩) n cap) (P++E.take 1++E.drop 1++S);rw[e];exact h
 case round=>
  obtain⟨i,T,U,hq,U4,Us,Pg,rfl,HF,HR2,HK2⟩:=hrel;obtain⟨IY,oY⟩:∃x,x=gk:=⟨_,rfl⟩
  rw[<-oY]at hq;have HG:Hid (IY=gk):=oY;clear oY HR;by_cases hlt:i<b
  ·obtain⟨x,U',hU⟩:∃x U',U=x::U':=by
    cases hU:U with
    | nil=>have h:=HF.out;subst hU;have h1:=h.2.1;have h2:=h.1;simp at h1 h2;rcases h2 with h2 | h2;omega;subst h2;simp at h1;omega
    | cons x r=>exact⟨x,r,rfl⟩
   subst hU;have hT:a+T.length=i:=(HF.out.1).resolve_right (by simp);have HT:Hid (a+T.length=i):=hT;clear hT U4;go_wp2_with fail;go_loopg [9] (i-a) (λq z Pv=>∃(j:Nat) (T1 T2:List Nat),j-a<=q/\a<=j/\j<=i/\z=.int .i64 (j:Nat)/\Hid (a+T1.length=j/\T=T1++T2/\AllLt ns [x] T2)/\Hid (NRow B Pv (.slice (some ⟨g,0,none⟩) n cap) (P++T1++x::T2++U'++S))/\Hid (Kept (·=g) w Pv))
   case atStart=>exact⟨i,T,[],by omega,by omega,by omega,rfl,⟨HT.out,by simp,by simp[AllLt]⟩,by have h:=HR2.out;show NRow B wr _ _;simpa using h,HK2.out⟩
   case round=>
    obtain⟨j,T1,T2,Lx,YR,WZ,rfl,HF2,HR3,HK3⟩:=hrel;clear HR2 HK2;by_cases hja:a<j
    ·obtain⟨T0,y,Vv⟩:∃T0 y,T1=T0++[y]:=by
      rcases List.eq_nil_or_concat T1 with rfl | ⟨es,y,e⟩
      ·have:=HF2.out.1;simp at this;omega
      ·exact⟨es,y,by rw[e,List.concat_eq_append]⟩
     subst Vv;have hperm:=HF.out.2.2.2.2.2;have yQ:x<ns.length:=HM.out x (hperm.mem_iff.1 (by simp));have yP:y<ns.length:=HM.out y (hperm.mem_iff.1 (by rw[HF2.out.2.1];simp));have Oa:y<x:=HF.out.2.2.2.1 y (by rw[HF2.out.2.1];simp) x (by simp);have bZ:NRow B wr (.slice (some ⟨g,0,none⟩) n cap) ((P++T0)++y::[]++x::(T2++U'++S)):=(by have h:=HR3.out;simpa using h);have e1:j-1=(P++T0).length:=by have:=HF2.out.1;have:=HA.out.1;simp at *;omega
     have e2:j=(P++T0).length+1+([]:List Nat).length:=by have:=HF2.out.1;have:=HA.out.1;simp at *;omega
     obtain⟨c1,c2,f1,f2,l1,l2,bm⟩:=ky bZ e1 e2;have jE:((j:Int)-1)=((j-1:Nat):Int):=(by omega);have HL:=ni wr bx I ns (HC.out.kept HK3.out (λe=>HX.out e) (λk hk _ e=>HI.out k hk e)) hns x y yQ yP;unfold am at c1 c2;by_cases tP:key ns x<key ns y
     ·have hd:=pQ tP;have HLT:Hid (Lt ns x y):=(Lt.iff_of_gt Oa).2 tP;have HR4:Hid (NRow B ((wr.setCell ⟨g,j,none⟩ (am y)).setCell ⟨g,j-1,none⟩ (am x)) (.slice (some ⟨g,0,none⟩) n cap) (P++T0++x::(y::T2)++U'++S)):=by
       have h:=xP bZ e1 e2;have h5:NRow B ((wr.setCell ⟨g,j,none⟩ (am y)).setCell ⟨g,j-1,none⟩ (am x)) (.slice (some ⟨g,0,none⟩) n cap) (P++T0++x::(y::T2)++U'++S):=(by simpa using h);exact h5
      generalize tF (key ns x) (key ns y)=cz at HL hd;clear bZ e1 e2 hperm yQ yP Oa tP;go_wp2_with fail;go_quiet ((go_at_call 180;exact Calls.quiet_of (HL _)));go_wp2_with fail;go_region
      all_goals
       go_wp2_with fail;go_roundg (gk-1)
       case measure=>omega
       case rel=>
        refine⟨j-1,T0,y::T2,by omega,by omega,by omega,by congr 1,⟨?_,?_,?_⟩,HR4.out,(((HK3.out.drewN _).setCell ⟨g,j,none⟩ _ (.inl rfl)).setCell ⟨g,j-1,none⟩ _ (.inl rfl))⟩
        ·have:=HF2.out.1;simp at this;omega
        ·rw[HF2.out.2.1];simp
        ·intro p hp q hq;have hp:p=x:=(by simpa using hp);subst hp;rcases List.mem_cons.1 hq with rfl | hq
         ·exact HLT.out
         ·exact HF2.out.2.2 p (by simp) q hq
     ·have hd:=qg tP;have HLT:Hid (Lt ns y x):=Lt.of_not Oa tP;generalize tF (key ns x) (key ns y)=cz at HL hd;clear bZ e1 e2 hperm yQ yP Oa tP;go_wp2_with fail;go_quiet ((go_at_call 180;exact Calls.quiet_of (HL _)));go_wp2_with fail;go_roundg (IY-1)
      case measure=>have:=HG.out;omega
      case rel=>
       refine⟨i+1,(T0++[y])++x::T2,U',by omega,by omega,by omega,by omega,by go_num,yg HF.out HF2.out.2.1 (El ?_ HLT.out) HF2.out.2.2,hid (RowE.drewN _ (by simpa using HR3.out)),HK3.out.drewN _⟩;have h:=HF.out.2.2.1;rw[HF2.out.2.1]at h;exact h.left
    ·have Yx:j=a:=(by omega);have hd:decide (a<j)=false:=(by simp;omega);have Q8:T1=[]:=List.eq_nil_of_length_eq_zero (by have:=HF2.out.1;omega);subst Q8;go_wp2_with fail;go_quiet (fail);go_wp2_with fail;go_roundg (IY-1)
     case measure=>have:=HG.out;omega
     case rel=>exact⟨i+1,[]++x::T2,U',by omega,by omega,by omega,by omega,by go_num,yg HF.out HF2.out.2.1 (by simp[AllLt]) HF2.out.2.2,hid (RowE.drewN _ (by simpa using HR3.out)),HK3.out.drewN _⟩
  ·go_wp2_with fail;go_end0;have hU:U=[]:=by
    rcases HF.out.1 with h | h
    ·exact List.eq_nil_of_length_eq_zero (by have:=HF.out.2.1;omega)
    ·exact h.2
   subst hU;exact⟨⟨_,rfl⟩,⟨T,by simpa using HF.out.2.2.2.2.2,HF.out.2.2.1,by simpa using HR2.out⟩,HK2.out⟩
end Go.Proofs.YtkhagfgineifhaaGreatDoor
