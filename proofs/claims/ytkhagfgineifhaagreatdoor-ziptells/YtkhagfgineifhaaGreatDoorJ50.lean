import Derived.Laws.BytesArg
import Derived.Deep.Slices
import Derived.Deep.Strs
import Derived.SizedLaws
import Derived.Test.YtkhagfgineifhaaGreatDoorJ26
import Derived.Test.YtkhagfgineifhaaGreatDoorJ44
namespace Go.Proofs.YtkhagfgineifhaaGreatDoor
open Go.ChangeShapes Go.WideShapes Go.ChangeAt Go.RowKit Go.Deep
theorem Tryz.cellsEn:Tryz.prog.cellsOf 42=2:=by kernel_rfl
theorem Tryz.cellsStr8:Tryz.prog.cellsOf 9=1:=by kernel_rfl
theorem tc{H:Type}{P:Program}{e:TypeId}:∀{l:List (DataW H)} {d:DataW H},d∈l->∀n∈d.weights P e,n∈DataW.weightsAll P e l
 | d'::r,d,hd,n,hn=>by
  simp only[DataW.weightsAll,List.mem_append];rcases List.mem_cons.1 hd with rfl | h
  ·exact Or.inl hn
  ·exact Or.inr (tc h n hn)
theorem rq{w:World}{base:Nat}{x:Addr}{cs:List Value}(h:w.cells? base x 2=some cs):∃u0 u1,cs=[u0,u1]/\w.cell? (x.add 0)=some u0/\w.cell? (x.add 1)=some u1:=by
 obtain⟨_,hl,hc⟩:=World.cells?_some h
 match cs,hl with
 | [u0,u1],_=>exact⟨u0,u1,rfl,by simpa using hc 0 (by omega),by simpa using hc 1 (by omega)⟩
theorem tj(x:Addr):x.add 0=x:=by unfold Addr.add;simp
theorem Ap{H:Type}{enc:TypeId×Value→H}{W:World}{a:Option Addr}{len cap fuel:Nat}{x:DataW H×List MemPlace}(h:DataW.trod enc Tryz.prog W 0 (fun _=>true) true fuel 22 [.slice a len cap]=some x)(hw:∀n∈x.1.weights Tryz.prog 22,n≤reachBytes):
  ∃E:Nat->En,Ents W (λ_=>True) a len E/\len<=cap/\len<=reachBytes/\∀j,j<len->(E j).n.size<=reachBytes/\(E j).d.size<=reachBytes:=by
 rcases open_slice Tryz.underlying22 h with⟨eY,_⟩ | ⟨x0,l,c,m,n,D,Pl,eY,_,hl,_,hm,ED,hx⟩
 ·simp only[List.cons.injEq,Value.slice.injEq,and_true]at eY;obtain⟨rfl,rfl,rfl⟩:=eY;exact⟨λ_=>default,λj hj=>by omega,Nat.le_refl _,Nat.zero_le _,λj hj=>by omega⟩
 ·simp only[List.cons.injEq,Value.slice.injEq,and_true]at eY;obtain⟨rfl,rfl,rfl⟩:=eY;simp only[if_true]at hm;subst hm;rw[ED]at hw;simp only[DataW.weights,Tryz.underlying22]at hw;rw[Tryz.cellsEn]at hx;have AX:∀j,j<len->∃y:En,(∃b o,some x0=some ⟨b,o,none⟩/\True/\W.cell? ⟨b,o+j*2,none⟩=some (.string y.n)/\W.cell? ⟨b,o+j*2+1,none⟩=some (.string y.d))/\y.n.size<=reachBytes/\y.d.size<=reachBytes:=by
   intro j hj;obtain⟨ZL,mj,_⟩:=hx 0 (by omega);obtain⟨u0,_,_,T4,_⟩:=rq mj;rw[Nat.zero_mul,tj]at T4;obtain⟨b,o,rfl⟩:∃b o,x0=⟨b,o,none⟩:=⟨x0.block,x0.off,DA T4⟩
   obtain⟨cs,hc,ht⟩:=hx j (by omega);obtain⟨k0,k1,rfl,h0,h1⟩:=rq hc;obtain⟨y0,y1,n',hD,_,t0,t1⟩:=trod_struct2 Tryz.underlying42 ht;simp only[Tryz.cellsStr8,List.drop_zero,List.drop_succ_cons,List.take_succ_cons,List.take_zero]at t0 t1;obtain⟨q0,e0,f0,_⟩:=DataW.trod_string Tryz.underlying9 t0;obtain⟨q1,e1,f1,_⟩:=DataW.trod_string Tryz.underlying9 t1;simp only[List.cons.injEq,and_true]at e0 e1;subst e0 e1;have VF:D j=.agg [.lit (.string q0.data.toList),.lit (.string q1.data.toList)]:=by have h9:=congrArg Prod.fst hD;simp only at h9;rw[h9,f0,f1]
   have ew:∀n∈(D j).weights Tryz.prog 42,n<=reachBytes:=(by intro n hn;refine hw n (List.mem_cons_of_mem _ (List.mem_append_left _ (tc (List.mem_map.2 ⟨j,List.mem_range.2 hj,rfl⟩) n hn))));rw[VF]at ew;simp only[DataW.weights,Tryz.underlying42]at ew;refine⟨⟨q0,q1⟩,⟨b,o,rfl,trivial,?_,?_⟩,?_,?_⟩
   ·rw[tj,cf]at h0;exact h0
   ·rw[cf,cf]at h1;exact h1
   ·have:=ew q0.data.toList.length (by simp[DataW.weightsEach,DataW.weights]);simpa using this
   ·have:=ew q1.data.toList.length (by simp[DataW.weightsEach,DataW.weights]);simpa using this
  have A6:Tryz.prog.bytesOf 42=32:=(by kernel_rfl);have OI:len<=reachBytes:=(by have:=hw _ List.mem_cons_self;rw[A6]at this;simp only[List.length_map,List.length_range]at this;have h3:len*32<=(len+(m-len))*32:=Nat.mul_le_mul_right _ (by omega);omega);obtain⟨f,hf⟩:=choose_lt AX;exact⟨f,λj hj=>(hf j hj).1,hl,OI,λj hj=>(hf j hj).2⟩
end Go.Proofs.YtkhagfgineifhaaGreatDoor
