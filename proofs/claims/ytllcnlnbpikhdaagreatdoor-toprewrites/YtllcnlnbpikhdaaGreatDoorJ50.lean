/-
  what is read of a file is written again,and read again as the same
  (Parts: TopRewritesProof.)
-/
import Derived.Deep.Slices
import Derived.Deep.Strs
import Derived.SizedLaws
import Derived.ProofKit
import Derived.OpenShut
import Derived.ShutString
import Derived.ChangeOld
import Derived.Deep.DeepHandedRow
import Derived.Test.YtllcnlnbpikhdaaGreatDoorCards
import Derived.Test.YtllcnlnbpikhdaaGreatDoorTie
import Derived.Test.YtllcnlnbpikhdaaGreatDoorJ48
import Derived.Test.YtllcnlnbpikhdaaGreatDoorJ49
/-
  what is read of a file is written again,and read again as the same
-/
set_option maxRecDepth 100000
namespace Go.Proofs.YtllcnlnbpikhdaaGreatDoor
open Go.ChangeShapes Go.WideShapes Go.ChangeAt Go.RowKit
open Go.ChangeMaps (open_string shut_string)
theorem oU:ownKnob Tryz.prog.godebug=none:=by kernel_rfl
theorem kJ:laidOutB Tryz.prog=true:=by kernel_rfl
theorem jP(H:Type)(enc:TypeId×Value→H)(W:World)(base:Nat)(args:Array Value)(ds gs:List (DataW H))(before:List MemPlace)
  (KN:∀(j:Nat) t v,Tryz.f3.params[j]? = some t->args[j]? = some v->Value.okWide Tryz.prog W .any base t v)
  (hW:DataW.Whole enc Tryz.prog Tryz.f3.params.toList Rows.topRewritesSpec.vars false W args.toList ds gs before) (hL:laidMetH Tryz.prog Rows.topRewritesRow.laid W) (cX:(DataW.weightsEach Tryz.prog (Tryz.f3.params.toList++(OpenSpec.ofChange Rows.topRewritesSpec).bare.plain.varTypes Tryz.prog) (ds++gs)).all (·<=reachBytes)=true) (hS:W.ShapedOpen Tryz.prog):
  Calls Tryz.prog 3 args W λe W'=>∃v,e=.returned v/\Rows.topRewritesSpec.post enc Tryz.prog Tryz.f3 false true false false W args v W':=by
 have As:∀(j:Nat) t v,Tryz.f3.params[j]? = some t->args[j]? = some v->Value.okWide Tryz.prog W .any base t v:=KN;have WL:=hW;obtain⟨p,q,J5,hV,rfl,QQ,Pw⟩:=hW;have hA:DataW.TrodAll enc Tryz.prog W 0 (λ_=>true) true Tryz.f3.params.toList args.toList ds p:=J5;rw[Tryz.params3]at hA As;obtain⟨v0,X5,d0,XP,p0,q0,TM,rfl,rfl,h0,r0⟩:=trodAll_cons hA;obtain⟨rfl,rfl,rfl⟩:=trodAll_nil r0;obtain rfl:args=#[v0]:=by cases args;simp_all
 obtain⟨rfl,rfl⟩:=trodVars_none hV;obtain⟨a0,NC,NT,rfl⟩:=okWide_slice Tryz.underlying22 (As 0 22 v0 rfl rfl);have k0:=h0;have Xj:∀x∈p0,x.block<W.heap.size:=by obtain⟨m,hm⟩:=k0;exact DataW.trod_lt m _ _ _ hm
 obtain⟨z0,w0⟩:∃zs,IsRow .u8 W a0 NC NT zs:=by
  obtain⟨fuel,hf⟩:=h0;rcases open_ints Tryz.underlying22 Tryz.underlying5 (by kernel_rfl) hf with⟨eO,_⟩ | ⟨x,l,c,zs,eO,_,hl,hm,hz,_,bO,nk⟩
  ·simp[Value.cells]at eO;obtain⟨rfl,rfl,rfl⟩:=eO;exact⟨[],.inl ⟨rfl,rfl,rfl,rfl⟩⟩
  ·simp[Value.cells]at eO;obtain⟨rfl,rfl,rfl⟩:=eO;exact⟨zs,.inr ⟨_,rfl,hl,hm,by simpa using hz,bO,nk⟩⟩
 clear J5 KN cX;refine(oX a0 NC NT z0 W w0 (Jb hL) (K8 hS)).mono λe W' ⟨he,bel⟩=>?_
 subst he;exact⟨_,rfl,_,_,_,[],_,[],WL,trodAll_mk1 (shut_bool Tryz.underlying4 _),(trodAll_cons_mk (Below.trod kJ (by kernel_rfl) (of_decide_eq_true (by kernel_rfl)) k0 bel Xj) trodAll_mk0),rfl,bel.frame _,λh=>by cases h⟩
theorem jS(os:Os):laidMet Tryz.prog Rows.topRewritesRow.laid ((lU os).forCall (λ_ _=>0) ⟨#[],#[.slice none 0 0],[]⟩).memory:=
 laidMet_of_run' 8 (by kernel_rfl) (by kernel_rfl)
theorem mC(os:Os){H:Type}(enc:TypeId×Value->H):∃places,DataW.whole enc Tryz.prog ((lU os).forCall (λ_ _=>0) ⟨#[],#[.slice none 0 0],[]⟩).memory Tryz.f3.params.toList Rows.topRewritesSpec.vars false (#[.slice none 0 0]:Array Value).toList 8=some ([.nil],[],places):=
 ⟨[],by kernel_rfl⟩
theorem lR(os:Os)(started:os.Started)(H:Type)(enc:TypeId×Value→H)(F:Stop.Interp):
  ReturnsInHanded {} Tryz.checked os 3 .any ((OpenSpec.ofChange Rows.topRewritesSpec).preRow enc Tryz.prog Tryz.f3 Rows.topRewritesRow.domain false Rows.topRewritesRow.laid) (((OpenSpec.ofChange Rows.topRewritesSpec).at F).post enc Tryz.prog Tryz.f3 false true false false):=by
 obtain⟨places,hx⟩:=mC os enc;refine returnsInHanded_of_row (C:=Tryz.checked) (s:=OpenSpec.ofChange Rows.topRewritesSpec) oU started (by kernel_rfl) Tryz.func3
  (witness_row_at (enc:=enc) (C:=Tryz.checked) false (lU os) #[.slice none 0 0] rfl (by kernel_rfl) (by kernel_rfl) (by kernel_rfl)
   (OpenSpec.preRow_of_cond 8 hx (by kernel_rfl) (λk hk=>by cases hk) (by kernel_rfl) (jS os))) ?_
 intro W base args ds gs before As hW _ _ cX hL hS _;exact jP H enc W base args ds gs before As hW hL cX hS
theorem nO:Rows.TopRewritesSaid:=
 OpenClaim.holds_of_cond 3 Tryz.f3 rfl rfl rfl rfl rfl rfl rfl ⟨rfl,rfl,rfl,rfl,rfl⟩ rfl rfl rfl rfl rfl (by kernel_rfl) Tryz.func3 (by kernel_rfl)
  (of_decide_eq_true (by kernel_rfl)) (by unfold Func.isWrapper;first | (rw[if_pos (by decide +kernel)];kernel_rfl) | (rw[if_neg (by decide +kernel)];exact⟨rfl,rfl⟩))
  (λos started H enc _ F=>by rw[OpenClaim.pre_eq_preRow];exact lR os started H enc F)
theorem mh(f:FuncId)(fn:Func)(hf:Tryz.pinned.checked.prog.funcNamed "haversack/haversacktop.TopRewrites" = some f)(KX:Tryz.pinned.checked.prog.funcs[f]? = some fn):
  true=Tryz.pinned.checked.prog.looks []/\∀(j:Nat) t,fn.params[j]? = some t->Tryz.pinned.checked.prog.wantsStandIn t=false:=by
 obtain rfl:f=3:=Option.some.inj ((show Tryz.prog.funcNamed "haversack/haversacktop.TopRewrites" = some 3 by kernel_rfl).symm.trans hf) |>.symm;obtain rfl:fn=Tryz.f3:=(Option.some.inj (Tryz.func3.symm.trans KX)).symm;refine⟨by kernel_rfl,λj t ht=>?_⟩;rw[Tryz.params3]at ht;have hm:t=22:=by simpa using Array.mem_of_getElem? ht
 rcases hm with rfl;exact(show Tryz.prog.wantsStandIn 22=false by kernel_rfl)
theorem topRewrites_holds:Rows.TopRewritesCardSaid:=
 Claim7.holds_tied_plain_at .later [] _ _ _ _ nO (λ_ h=>by cases h) (by kernel_rfl) (λ_ h=>by cases h) topRewrites_row_tie rfl ⟨rfl,rfl⟩ (by kernel_rfl) rfl mh (by kernel_rfl)
#print axioms topRewrites_holds
end Go.Proofs.YtllcnlnbpikhdaaGreatDoor
