/-
  A file of any entries in which one byte of an entry that is kept as it is was changed is listed the same and refused with ErrZipSum by Read and Find;for every list of entries,number and byte within the reach of the card.
  (Parts: ZipTellsProof.)
-/
import Derived.ProofKit
import Derived.OpenShut
import Derived.ShutString
import Derived.ChangeOld
import Derived.Deep.DeepHandedRow
import Derived.Test.YtkhagfgineifhaaGreatDoorCards
import Derived.Test.YtkhagfgineifhaaGreatDoorTie
import Derived.Test.YtkhagfgineifhaaGreatDoorJ48
import Derived.Test.YtkhagfgineifhaaGreatDoorJ49
import Derived.Test.YtkhagfgineifhaaGreatDoorJ50
/-
  A file of any entries in which one byte of an entry that is kept as it is was changed is listed the same and refused with ErrZipSum by Read and Find;for every list of entries,number and byte within the reach of the card.
-/
set_option maxRecDepth 100000
namespace Go.Proofs.YtkhagfgineifhaaGreatDoor
open Go.ChangeShapes Go.WideShapes Go.ChangeAt Go.RowKit
open Go.ChangeMaps (open_string shut_string)
theorem tS:ownKnob Tryz.prog.godebug=none:=by kernel_rfl
theorem nT:laidOutB Tryz.prog=true:=by kernel_rfl
theorem mU(H:Type)(enc:TypeId×Value→H)(W:World)(base:Nat)(args:Array Value)(ds gs:List (DataW H))(before:List MemPlace)
  (LD:∀(j:Nat) t v,Tryz.f3.params[j]? = some t->args[j]? = some v->Value.okWide Tryz.prog W .any base t v)
  (hW:DataW.Whole enc Tryz.prog Tryz.f3.params.toList Rows.zipTellsSpec.vars false W args.toList ds gs before) (hL:laidMetH Tryz.prog Rows.zipTellsRow.laid W) (dA:(DataW.weightsEach Tryz.prog (Tryz.f3.params.toList++(OpenSpec.ofChange Rows.zipTellsSpec).bare.plain.varTypes Tryz.prog) (ds++gs)).all (·<=reachBytes)=true) (hS:W.ShapedOpen Tryz.prog):
  Calls Tryz.prog 3 args W λe W'=>∃v,e=.returned v/\Rows.zipTellsSpec.post enc Tryz.prog Tryz.f3 false true false false W args v W':=by
 have vg:∀(j:Nat) t v,Tryz.f3.params[j]? = some t->args[j]? = some v->Value.okWide Tryz.prog W .any base t v:=LD;have Xy:=hW;obtain⟨p,q,KR,hV,rfl,Sp,U3⟩:=hW;have hA:DataW.TrodAll enc Tryz.prog W 0 (λ_=>true) true Tryz.f3.params.toList args.toList ds p:=KR;rw[Tryz.params3]at hA vg;obtain⟨v0,YD,d0,YU,p0,q0,T9,rfl,rfl,h0,r0⟩:=trodAll_cons hA;obtain⟨v1,YE,d1,Y2,p1,q1,rfl,rfl,rfl,h1,r1⟩:=trodAll_cons r0;obtain⟨v2,LE,d2,Y3,p2,q2,rfl,rfl,rfl,h2,r2⟩:=trodAll_cons r1;obtain⟨rfl,rfl,rfl⟩:=trodAll_nil r2;obtain rfl:args=#[v0,v1,v2]:=by cases args;simp_all
 obtain⟨rfl,rfl⟩:=trodVars_none hV;obtain⟨a0,IU,OX,rfl⟩:=okWide_slice Tryz.underlying22 (vg 0 22 v0 rfl rfl);have k0:=h0;have Xl:∀x∈p0,x.block<W.heap.size:=by obtain⟨m,hm⟩:=k0;exact DataW.trod_lt m _ _ _ hm
 obtain⟨E0,LT,mj,pM,fG⟩:∃E:Nat->En,Ents W (λ_=>True) a0 IU E/\IU<=OX/\IU<=reachBytes/\∀j,j<IU->(E j).n.size<=reachBytes/\(E j).d.size<=reachBytes:=by obtain⟨fuel,hf⟩:=h0;refine Ap (by simpa[Value.cells]using hf) (λn hn=>?_);have h9:=List.all_eq_true.1 dA n (DataW.weights_mem_each (j:=0) (by rw[Tryz.params3];rfl) rfl n hn);simpa using h9
 obtain⟨a1,rfl,rfl,rfl,w1⟩:=open_int Tryz.underlying3 (vg 1 3 v1 rfl rfl) h1;obtain⟨a2,rfl,rfl,rfl,w2⟩:=open_int Tryz.underlying5 (vg 2 5 v2 rfl rfl) h2;clear KR LD dA;refine(tU a0 IU OX E0 a1 a2 W LT mj pM fG w1 w2 (Ko hL) (Mq hS)).mono λe W' ⟨he,bel⟩=>?_
 subst he;exact⟨_,rfl,_,_,_,[],_,[],Xy,trodAll_mk1 (shut_bool Tryz.underlying4 _),(trodAll_cons_mk (Below.trod nT (by kernel_rfl) (of_decide_eq_true (by kernel_rfl)) k0 bel Xl) (trodAll_cons_mk (shut_int Tryz.underlying3 w1) (trodAll_cons_mk (shut_int Tryz.underlying5 w2) trodAll_mk0))),rfl,bel.frame _,λh=>by cases h⟩
theorem mH(os:Os):laidMet Tryz.prog Rows.zipTellsRow.laid ((mh os).forCall (λ_ _=>0) ⟨#[],#[.slice none 0 0,.int .i64 0,.int .u8 0],[]⟩).memory:=
 laidMet_of_run' 8 (by kernel_rfl) (by kernel_rfl)
theorem qk(os:Os){H:Type}(enc:TypeId×Value->H):∃places,DataW.whole enc Tryz.prog ((mh os).forCall (λ_ _=>0) ⟨#[],#[.slice none 0 0,.int .i64 0,.int .u8 0],[]⟩).memory Tryz.f3.params.toList Rows.zipTellsSpec.vars false (#[.slice none 0 0,.int .i64 0,.int .u8 0]:Array Value).toList 8=some ([.nil,.lit (.int .i64 0),.lit (.int .u8 0)],[],places):=
 ⟨[],by kernel_rfl⟩
theorem pr(os:Os)(started:os.Started)(H:Type)(enc:TypeId×Value→H)(F:Stop.Interp):
  ReturnsInHanded {} Tryz.checked os 3 .any ((OpenSpec.ofChange Rows.zipTellsSpec).preRow enc Tryz.prog Tryz.f3 Rows.zipTellsRow.domain false Rows.zipTellsRow.laid) (((OpenSpec.ofChange Rows.zipTellsSpec).at F).post enc Tryz.prog Tryz.f3 false true false false):=by
 obtain⟨places,hx⟩:=qk os enc;refine returnsInHanded_of_row (C:=Tryz.checked) (s:=OpenSpec.ofChange Rows.zipTellsSpec) tS started (by kernel_rfl) Tryz.func3
  (witness_row_at (enc:=enc) (C:=Tryz.checked) false (mh os) #[.slice none 0 0,.int .i64 0,.int .u8 0] rfl (by kernel_rfl) (by kernel_rfl) (by kernel_rfl)
   (OpenSpec.preRow_of_cond 8 hx (by kernel_rfl) (λk hk=>by cases hk) (by kernel_rfl) (mH os))) ?_
 intro W base args ds gs before vg hW _ _ dA hL hS _;exact mU H enc W base args ds gs before vg hW hL dA hS
theorem rS:Rows.ZipTellsSaid:=
 OpenClaim.holds_of_cond 3 Tryz.f3 rfl rfl rfl rfl rfl rfl rfl ⟨rfl,rfl,rfl,rfl,rfl⟩ rfl rfl rfl rfl rfl (by kernel_rfl) Tryz.func3 (by kernel_rfl)
  (of_decide_eq_true (by kernel_rfl)) (by unfold Func.isWrapper;first | (rw[if_pos (by decide +kernel)];kernel_rfl) | (rw[if_neg (by decide +kernel)];exact⟨rfl,rfl⟩))
  (λos started H enc _ F=>by rw[OpenClaim.pre_eq_preRow];exact pr os started H enc F)
theorem qZ(f:FuncId)(fn:Func)(hf:Tryz.pinned.checked.prog.funcNamed "haversack/haversacklaw08.ZipTells" = some f)(Lm:Tryz.pinned.checked.prog.funcs[f]? = some fn):
  true=Tryz.pinned.checked.prog.looks []/\∀(j:Nat) t,fn.params[j]? = some t->Tryz.pinned.checked.prog.wantsStandIn t=false:=by
 obtain rfl:f=3:=Option.some.inj ((show Tryz.prog.funcNamed "haversack/haversacklaw08.ZipTells" = some 3 by kernel_rfl).symm.trans hf) |>.symm;obtain rfl:fn=Tryz.f3:=(Option.some.inj (Tryz.func3.symm.trans Lm)).symm;refine⟨by kernel_rfl,λj t ht=>?_⟩;rw[Tryz.params3]at ht;have hm:t=22\/t=3\/t=5:=by simpa using Array.mem_of_getElem? ht
 rcases hm with rfl | rfl | rfl
 ·exact(show Tryz.prog.wantsStandIn 22=false by kernel_rfl)
 ·exact(show Tryz.prog.wantsStandIn 3=false by kernel_rfl)
 ·exact(show Tryz.prog.wantsStandIn 5=false by kernel_rfl)
theorem zipTells_holds:Rows.ZipTellsCardSaid:=
 Claim7.holds_tied_plain_at .later [] _ _ _ _ rS (λ_ h=>by cases h) (by kernel_rfl) (λ_ h=>by cases h) zipTells_row_tie rfl ⟨rfl,rfl⟩ (by kernel_rfl) rfl qZ (by kernel_rfl)
#print axioms zipTells_holds
end Go.Proofs.YtkhagfgineifhaaGreatDoor
