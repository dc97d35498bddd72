import Derived.Test.YtkhagfgineifhaaGreatDoorZqK
import Derived.Test.YtkhagfgineifhaaGreatDoorLRef
import Derived.BigQuiet
set_option maxHeartbeats 400000
set_option maxRecDepth 100000
namespace Go.Proofs.YtkhagfgineifhaaGreatDoor
open Go.RowKit
theorem DH(w:World)(v:Value)(I:Nat→Prop)(cs:List Nat)(hsrc:Src w I v cs)(ag:cs.length≤100000000):
  Calls Tryz.prog 11 #[v] w λe w'=>∃g,e=.returned (.slice (some ⟨g,0,none⟩) cs.length (cs.length+1))/\Row w' (.slice (some ⟨g,0,none⟩) (cs.length+1) (cs.length+1)) (cs++[99])/\Kept (λ_=>False) w w'/\w.heap.size<=g:=by
 obtain⟨ao,cap,rfl,_⟩:=id hsrc;have HS:Hid (Src w I (.slice ao cs.length cap) cs):=hsrc;clear hsrc;go_enter Tryz.func11,Tryz.ntmps11;go_wp2_with (first | (at_make;refine eF _ rfl _ _ rfl _ _ _ _ (cs.length+1) rfl rfl (by omega) (by omega) (by omega) ?_;intro w1 hr1 pL hs1;have HR:Hid (Row w1 (.slice (some ⟨w.heap.size,0,none⟩) (cs.length+1) (cs.length+1)) (List.replicate (cs.length+1) 0)):=hr1;have HK:Hid (Kept (λ_=>False) w w1):=(Kept.refl _ w).grown pL (by simp);clear hr1 pL) | (with_reducible refine oy ?_;refine dD _ rfl (.tmp 8) (.tmp 9) rfl w.heap.size (cs.length+1) (cs.length+1) ao cs.length cap (List.replicate (cs.length+1) 0) cs I rfl rfl HR.out (HS.out.kept HK.out (λ_ _ _ h=>h)) (by simp) ?_));intro w2 hr2 nN hs2;have hr3:Row w2 (.slice (some ⟨w.heap.size,0,none⟩) (cs.length+1) (cs.length+1)) (cs++[0]):=by simpa using hr2
 have c1:w2.cell? ⟨w.heap.size,cs.length,none⟩=some (.int .u8 0):=by rw[Row.cell' hr3 cs.length (by simp)];simp
 have f1:w2.frozen? ⟨w.heap.size,cs.length,none⟩=false:=Row.frozen' hr3 _;have HR2:Hid (Row w2 (.slice (some ⟨w.heap.size,0,none⟩) (cs.length+1) (cs.length+1)) (cs++[0])):=hr3;have HK2:Hid (Kept (λ_=>False) w w2):=HK.out.grown nN (λk e=>.inr (by simp at e;omega));clear hr2 hr3 nN hs2 HR HK;go_wp2_with fail;go_ret;refine⟨w.heap.size,rfl,?_,HK2.out.setCell _ _ (.inr (Nat.le_refl _)),Nat.le_refl _⟩;have h:=Row.lay HR2.out cs.length 99;rw[Ma _ _ _ _ _ rfl]at h;exact h
theorem Ents.ofRow{B:Nat}{w:World}{a:Option Addr}{n c:Nat}{ys:List En}(h:RowC B 42 2 yL w (.slice a n c) ys)(hn:n=ys.length):Ents w (λ_=>True) a n (λj=>ys.getD j default):=by
 subst hn;intro j hj;obtain⟨g,cap,hv,_,hc⟩:=h.at8 Fo j hj;simp only[Value.slice.injEq]at hv;have e:ys.getD j default=ys[j]:=by rw[List.getD_eq_getElem?_getD,List.getElem?_eq_getElem hj];rfl
 simp only[e];refine⟨g,0,hv.1,trivial,?_,?_⟩
 ·have:=hc 0 (by decide);simpa[yL]using this
 ·have:=hc 1 (by decide);simpa[yL]using this
theorem zS(w:World)(a b:Option Addr)(n c d:Nat)(E:Nat→En)(I J:Nat→Prop)(ha:Ents w I a n E)(hb:Ents w J b n E)(hn:n≤100000000):
  Calls Tryz.prog 12 #[.slice a n c,.slice b n d] w λe w'=>e=.returned (.bool true)/\Same w w':=by
 have HA:Hid (Ents w I a n E):=ha;have HB:Hid (Ents w J b n E):=hb;have Za:((n:Int)==(n:Int))=true:=by simp
 clear ha hb;go_enter Tryz.func12,Tryz.ntmps12;go_wp2_with fail;go_loopg [5] n (λk z wr=>∃i:Nat,n-i<=k/\i<=n/\z=.int .i64 (i:Nat)/\Hid (Same w wr))
 case atStart=>exact⟨0,by omega,by omega,rfl,hid (Kept.refl _ _)⟩
 case round=>
  obtain⟨i,hk,yr,rfl,HK⟩:=hrel;by_cases hlt:i<n
  ·have nM:decide (i<n)=true:=(by simp;omega);obtain⟨g1,o1,e1,_,c0,c1⟩:=HA.out i hlt;obtain⟨g2,o2,e2,_,d0,d1⟩:=HB.out i hlt;subst e1;subst e2;have c0:=HK.out.cell c0 (λf=>f);have c1:=HK.out.cell c1 (λf=>f);have d0:=HK.out.cell d0 (λf=>f);have d1:=HK.out.cell d1 (λf=>f);obtain⟨y,hy⟩:∃y,y=E i:=⟨_,rfl⟩
   rw[<-hy]at c0 c1 d0 d1;have q0:(y.n.toList==y.n.toList)=true:=(by simp);have q1:(y.d.toList==y.d.toList)=true:=(by simp);have EP:IntKind.i64.wrap ((i:Int)+1)=((i+1:Nat):Int):=(by rw[IntKind.wrap_i64];omega);have i1:(0:Int)<=(i:Int):=(by omega);have i2:(i:Int)<(n:Int):=(by omega);clear hy;go_wp2_with fail;go_quiet (fail);go_wp2_with fail;go_roundg (gk-1)
   case measure=>omega
   case rel=>exact⟨i+1,by omega,by omega,by go_num,hid (HK.out.drewN _)⟩
  ·have nM:decide (i<n)=false:=(by simp;omega);go_wp2_with fail;go_ret;exact⟨rfl,HK.out⟩
end Go.Proofs.YtkhagfgineifhaaGreatDoor
