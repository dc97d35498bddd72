import Derived.Test.YtkhagfgineifhaaGreatDoorZqG
import Derived.Test.YtkhagfgineifhaaGreatDoorCopyK
set_option maxHeartbeats 400000
set_option maxRecDepth 100000
namespace Go.Proofs.YtkhagfgineifhaaGreatDoor
open Go.RowKit
def vT(D:List (List Nat×List Nat))(o:Except Nat (List (List Nat×List Nat))):Except Nat (List (List Nat×List Nat)):=match o with
 | .error e=>.error e
 | .ok r=>.ok (D++r)
theorem G8{D:List (List Nat×List Nat)}{L:List It}{j k:Nat}{y:It}(h:L[j]? = some y)(hu:df y=.error k):vT D (io (L.drop j))=.error k:=by have hj:=(List.getElem?_eq_some_iff.1 h).1;have e:=(List.getElem?_eq_some_iff.1 h).2;rw[List.drop_eq_getElem_cons hj,e,io,hu];rfl
theorem Dx{D:List (List Nat×List Nat)}{L:List It}{j:Nat}{y:It}{d:List Nat}(h:L[j]? = some y)(hu:df y=.ok d):vT D (io (L.drop j))=vT (D++[(y.lab.name,d)]) (io (L.drop (j+1))):=by
 have hj:=(List.getElem?_eq_some_iff.1 h).1;have e:=(List.getElem?_eq_some_iff.1 h).2;rw[List.drop_eq_getElem_cons hj,e,io,hu];simp only;cases io (L.drop (j+1)) with
 | error e=>rfl
 | ok r=>simp[vT]
def mS(p:List Nat×List Nat):En:=⟨bH p.1,bH p.2⟩
def AllA(w w':World)(o:Except Nat (List (List Nat×List Nat)))(e:Ending):Prop:=
 (∀k,o=.error k->e=aG k)/\(∀D,o=.ok D->∃a n c,e=.returned (.slice a n c)/\RowC w.heap.size 42 2 yL w' (.slice a n c) (D.map mS)/\n=D.length)/\Same w w'
theorem AllA.bad{w w':World}{o:Except Nat (List (List Nat×List Nat))}{e:Ending}{k:Nat}(h:o=.error k)(he:e=aG k)(hk:Same w w'):AllA w w' o e:=
 ⟨λn h'=>by rw[h]at h';simp only[Except.error.injEq]at h';subst h';exact he,λd h'=>(by rw[h]at h';cases h'),hk⟩
structure Tq(w wr:World)(L:List It)(i:Nat)(v:Value)(D:List (List Nat×List Nat)):Prop where
 row:RowC w.heap.size 42 2 yL wr v (D.map mS)
 len:D.length=i
 same:Same w wr
 eq:io L=vT D (io (L.drop i))
theorem zR(w:World)(y:En):aS (w.alloc (.cells #[.string y.n,.string y.d] 42)) ⟨w.heap.size,0,none⟩ ([y].flatMap yL):=by
 intro j u hj
 match j,hj with
 | 0,hj=>simp[yL]at hj;subst hj;simp[cf]
 | 1,hj=>simp[yL]at hj;subst hj;simp[cf]
 | j+2,hj=>simp[yL]at hj
theorem rV(N:Nat)(w:World)(a:Option Addr)(n c:Nat)(xs:List Itv)(L:List It)(hrow:RowC N 60 6 mu w (.slice a n c) xs)(Il:Its N w xs L)(hn:n=xs.length)(ET:n≤64)
  (hU:∀(j:Nat) (x:Itv) (y:It) (wx:World),xs[j]? = some x->L[j]? = some y->Same w wx->Calls Tryz.prog 30 #[.agg (jr x.m (.slice x.a x.n x.c))] wx λe w'=>UnpZ wx w' (df y) e):
  Calls Tryz.prog 25 #[.slice a n c] w λe w'=>AllA w w' (io L) e:=by
 have HU:Hid _:=hid hU;have HROW:Hid (RowC N 60 6 mu w (.slice a n c) xs):=hrow;have HITS:Hid (Its N w xs L):=Il;have HN:Hid (n=xs.length/\n=L.length):=hid ⟨hn,by rw[hn];exact Il.1⟩;clear hU hrow Il hn;go_enter Tryz.func25,Tryz.ntmps25;go_wp2_with fail;go_loopg [3,8] n (λqq z3 z8 wr=>∃(i:Nat) (D:List (List Nat×List Nat)),z8=.int .i64 (i:Nat)/\i<=n/\n-i<=qq/\Hid (Tq w wr L i z3 D))
 case atStart=>exact⟨0,[],rfl,by omega,by omega,hid ⟨RowC.nil,rfl,Kept.refl _ _,by simp[vT];cases io L<;>rfl⟩⟩
 case round=>
  obtain⟨i,D,rfl,hi1,Lv,HI⟩:=hrel;obtain⟨v0,tJ⟩:∃v,v=u3:=⟨_,rfl⟩
  rw[<-tJ]at HI;rw[<-tJ];clear tJ;obtain⟨a0,c0,tJ,_⟩:=HI.out.row.shape;rw[List.length_map,HI.out.len]at tJ;subst tJ;by_cases hi:i<n
  ·have nM:decide (i<n)=true:=(by simp;omega);have hx:=List.getElem?_eq_getElem (l:=xs) (i:=i) (by have:=HN.out;omega);have hy:=List.getElem?_eq_getElem (l:=L) (i:=i) (by have:=HN.out;omega);obtain⟨x,ED⟩:∃x,x=xs[i]'(by have:=HN.out;omega):=⟨_,rfl⟩
   obtain⟨y,Pw⟩:∃y,y=L[i]'(by have:=HN.out;omega):=⟨_,rfl⟩
   rw[<-ED]at hx;rw[<-Pw]at hy;obtain⟨g,cap,hv,_,hc⟩:=HROW.out.at8 pV i (by have:=HN.out;omega);rw[<-ED]at hc;simp only[Value.slice.injEq]at hv;have fA:=hv.1;clear hv;subst fA;have rN:∀k u,k<6->(mu x)[k]? = some u->wr.cell? ⟨g,i*6+k,none⟩=some u:=λk u h1 h2=>HI.out.same.cell ((hc k h1).trans h2) (λf=>f)
   have k0:=rN 0 _ (by decide) rfl;have k1:=rN 1 _ (by decide) rfl;have k2:=rN 2 _ (by decide) rfl;have k3:=rN 3 _ (by decide) rfl;have k4:=rN 4 _ (by decide) rfl;have k5:=rN 5 _ (by decide) rfl;rw[Nat.add_zero]at k0;have EP:IntKind.i64.wrap ((i:Int)+1)=((i+1:Nat):Int):=(by rw[IntKind.wrap_i64];omega);have i1:(0:Int)<=(i:Int):=(by omega);have i2:(i:Int)<(n:Int):=(by omega);have HY:Hid (L[i]? = some y):=hy;have HXL:Hid (x.m=y.lab):=hid (HITS.out.2 i x y hx hy).lab;obtain⟨wA,pN⟩:∃W,W=wr.alloc (.cells (jr x.m (.slice x.a x.n x.c)) 60):=⟨_,rfl⟩
   obtain⟨xb,ie⟩:∃b,b=wr.heap.size:=⟨_,rfl⟩
   have HKA:Hid (Same wr wA):=hid (by rw[pN];exact(Kept.refl _ wr).alloc _);have HXA:Hid (Blk wA xb (jr x.m (.slice x.a x.n x.c)) 60):=hid (by rw[pN,ie];exact Blk.new wr _ _);have HC:Hid (∀wx,Same wA wx->Calls Tryz.prog 30 #[.agg (jr x.m (.slice x.a x.n x.c))] wx λe w'=>UnpZ wx w' (df y) e):=hid (λwx hk=>HU.out i x y wx hx hy (Same.trans HI.out.same (Same.trans HKA.out hk)));clear ED Pw hx hy hc rN;unfold jr at pN HC HXA;have q0:wA.cell? ⟨xb,0,none⟩=some (.int .u16 (x.m.way:Nat)):=HXA.out.cell 0;have q1:wA.cell? ⟨xb,1,none⟩=some (.int .u32 (x.m.sum:Nat)):=HXA.out.cell 1;have q2:wA.cell? ⟨xb,2,none⟩=some (.int .u32 (x.m.packed:Nat)):=HXA.out.cell 2;have q3:wA.cell? ⟨xb,3,none⟩=some (.int .u32 (x.m.size:Nat)):=HXA.out.cell 3;have q4:wA.cell? ⟨xb,4,none⟩=some (.string (bH x.m.name)):=HXA.out.cell 4;have q5:wA.cell? ⟨xb,5,none⟩=some (.slice x.a x.n x.c):=HXA.out.cell 5;cases hu:df y with
   | error k=>
    rw[hu]at HC;have HE:Hid (io L=.error k):=hid (by rw[HI.out.eq];exact G8 HY.out hu);clear hu;go_wp2_with fail;rw[<-pN,<-ie];clear pN ie;go_region_dies
    all_goals
     refine(HC.out _ ((Kept.refl _ wA).drew)).mono ?_;intro e w4 h4;obtain rfl:=h4.2.1 k rfl;exact⟨rfl,AllA.bad HE.out rfl (Same.trans HI.out.same (Same.trans HKA.out (Same.trans ((Kept.refl _ wA).drew) h4.2.2)))⟩
   | ok d=>
    rw[hu]at HC;have HE:Hid (io L=vT (D++[(y.lab.name,d)]) (io (L.drop (i+1)))):=hid (by rw[HI.out.eq];exact Dx HY.out hu);clear hu;go_wp2_with fail;rw[<-pN,<-ie];clear pN ie;have HSZ:Hid (w.heap.size<=wr.heap.size/\xb<wA.heap.size):=hid ⟨HI.out.same.size,HXA.out.lt⟩;have HOX:Hid ((Value.slice a0 i c0).ownBlock≠some xb):=hid ((HI.out.row.kept HKA.out (λ_ _ f=>f)).off HXA.out (by decide));go_region_held3 (λw'=>w'.cell? ⟨xb,0,none⟩=some (.int .u16 (x.m.way:Nat))/\w'.cell? ⟨xb,1,none⟩=some (.int .u32 (x.m.sum:Nat))/\w'.cell? ⟨xb,2,none⟩=some (.int .u32 (x.m.packed:Nat))/\w'.cell? ⟨xb,3,none⟩=some (.int .u32 (x.m.size:Nat))/\w'.cell? ⟨xb,4,none⟩=some (.string (bH x.m.name))/\w'.cell? ⟨xb,5,none⟩=some (.slice x.a x.n x.c))
     (first
      | (go_split_ands;exact⟨hk5.cell (by assumption) HOX.out,hk5.cell (by assumption) HOX.out,hk5.cell (by assumption) HOX.out,hk5.cell (by assumption) HOX.out,hk5.cell (by assumption) HOX.out,hk5.cell (by assumption) HOX.out⟩)
      | (go_split_ands;exact⟨hk4.cell (by assumption) (λf=>f),hk4.cell (by assumption) (λf=>f),hk4.cell (by assumption) (λf=>f),hk4.cell (by assumption) (λf=>f),hk4.cell (by assumption) (λf=>f),hk4.cell (by assumption) (λf=>f)⟩)
      | go_keep)
     (first
      | (go_at_call 30;refine(HC.out _ (by first | exact(Kept.refl _ _).drew | exact Kept.refl _ _ | exact(Kept.refl _ _).drewN _)).mono ?_;intro e w4 h4;obtain rfl:=h4.1 d rfl;have hk4:=h4.2.2;clear h4)
      | (have hw4:Same wA w4:=Same.trans ((Kept.refl _ wA).drew) hk4;refine iJ yL 2 Fo w.heap.size 22 42 (.agg #[.string ⟨#[]⟩,.string ⟨#[]⟩]) 32 Tryz.underlying22 Tryz.infoEntry rfl (by decide) (by rfl) (.tmp 12) (.tmp 19) (by rfl) (.slice a0 i c0) (D.map mS) (by rfl) (((HI.out.row.kept HKA.out (λ_ _ f=>f)).kept hw4 (λ_ _ f=>f)).kept (show Same _ _ from(Kept.refl _ _).alloc _) (λ_ _ f=>f)) ⟨w4.heap.size,0,none⟩ 1 1 [⟨bH x.m.name,bH d⟩] (by rfl) (by rfl) (zR w4 ⟨bH x.m.name,bH d⟩) (by rw[List.length_map,HI.out.len];simp;omega) (by have:=HSZ.out;have:=HKA.out.size;have:=hw4.size;simp;omega) ?_;intro v5 w5 hr5 ef;have hk5:Kept (λk=>(Value.slice a0 i c0).ownBlock=some k) (w4.alloc (.cells #[.string (bH x.m.name),.string (bH d)] 42)) w5:=(Kept.refl _ _).grown ef (λk e=>.inl e);clear ef))
    all_goals
     have HF:Hid (Tq w w5 L (i+1) v5 (D++[(y.lab.name,d)])):=hid ⟨by rw[List.map_append];show RowC _ _ _ _ _ _ (D.map mS++[mS (y.lab.name,d)]);rw[<-HXL.out];exact hr5,by rw[List.length_append,HI.out.len];rfl,(Same.trans HI.out.same (Same.trans HKA.out (Same.trans ((Kept.refl _ wA).drew) (Same.trans hk4 (show Same w4 (w4.alloc (.cells #[.string (bH x.m.name),.string (bH d)] 42)) from(Kept.refl _ _).alloc _))))).then hk5 (λx hx e=>by have:=HI.out.row.ge e;omega),HE.out⟩;clear hr5 hk5 hk4;go_wp2_with fail;go_roundg (gk-1)
     case measure=>omega
     case rel=>exact⟨i+1,_,by go_num,by omega,by omega,HF⟩
  ·have nM:decide (i<n)=false:=(by simp;omega);obtain rfl:i=n:=(by omega);go_wp2_with fail;go_ret;have h9:=HI.out.eq;rw[List.drop_eq_nil_of_le (by have:=HN.out;omega)]at h9;refine⟨λk e=>(by rw[h9]at e;cases e),λD' e=>?_,HI.out.same⟩;rw[h9]at e;simp only[vT,io,List.append_nil,Except.ok.injEq]at e;subst e;exact⟨_,_,_,rfl,HI.out.row,HI.out.len.symm⟩
end Go.Proofs.YtkhagfgineifhaaGreatDoor
