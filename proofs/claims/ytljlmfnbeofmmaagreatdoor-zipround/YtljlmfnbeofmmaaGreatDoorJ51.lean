/-
  P8.6: what is written is read as the same entries. Of any entries,with no condition but the program's tables as its text lays them.
  (Parts: ZipRoundProof.)
-/
import Derived.ProofKit
import Derived.OpenShut
import Derived.ShutString
import Derived.ChangeOld
import Derived.Deep.DeepHandedRow
import Derived.Test.YtljlmfnbeofmmaaGreatDoorCards
import Derived.Test.YtljlmfnbeofmmaaGreatDoorTie
import Derived.Test.YtljlmfnbeofmmaaGreatDoorJ48
import Derived.Test.YtljlmfnbeofmmaaGreatDoorJ49
import Derived.Test.YtljlmfnbeofmmaaGreatDoorJ50
/-
  P8.6: what is written is read as the same entries. Of any entries,with no condition but the program's tables as its text lays them.
-/
set_option maxRecDepth 100000
namespace Go.Proofs.YtljlmfnbeofmmaaGreatDoor
open Go.ChangeShapes Go.WideShapes Go.ChangeAt Go.RowKit
open Go.ChangeMaps (open_string shut_string)
theorem uA:ownKnob Tryz.prog.godebug=none:=by kernel_rfl
theorem nY:laidOutB Tryz.prog=true:=by kernel_rfl
theorem nz(H:Type)(enc:TypeId×Value→H)(W:World)(base:Nat)(args:Array Value)(ds gs:List (DataW H))(before:List MemPlace)
  (Lq:∀(j:Nat) t v,Tryz.f6.params[j]? = some t->args[j]? = some v->Value.okWide Tryz.prog W .any base t v)
  (hW:DataW.Whole enc Tryz.prog Tryz.f6.params.toList Rows.zipRoundSpec.vars false W args.toList ds gs before) (hL:laidMetH Tryz.prog Rows.zipRoundRow.laid W) (cZ:(DataW.weightsEach Tryz.prog (Tryz.f6.params.toList++(OpenSpec.ofChange Rows.zipRoundSpec).bare.plain.varTypes Tryz.prog) (ds++gs)).all (·<=reachBytes)=true) (hS:W.ShapedOpen Tryz.prog):
  Calls Tryz.prog 6 args W λe W'=>∃v,e=.returned v/\Rows.zipRoundSpec.post enc Tryz.prog Tryz.f6 false true false false W args v W':=by
 have A7:∀(j:Nat) t v,Tryz.f6.params[j]? = some t->args[j]? = some v->Value.okWide Tryz.prog W .any base t v:=Lq;have XL:=hW;obtain⟨p,q,K7,hV,rfl,R1,UB⟩:=hW;have hA:DataW.TrodAll enc Tryz.prog W 0 (λ_=>true) true Tryz.f6.params.toList args.toList ds p:=K7;rw[Tryz.params6]at hA A7;obtain⟨v0,ZC,d0,YV,p0,q0,UY,rfl,rfl,h0,r0⟩:=trodAll_cons hA;obtain⟨rfl,rfl,rfl⟩:=trodAll_nil r0;obtain rfl:args=#[v0]:=by cases args;simp_all
 obtain⟨rfl,rfl⟩:=trodVars_none hV;obtain⟨a0,Is,O9,rfl⟩:=okWide_slice Tryz.underlying24 (A7 0 24 v0 rfl rfl);have k0:=h0;have Wj:∀x∈p0,x.block<W.heap.size:=by obtain⟨m,hm⟩:=k0;exact DataW.trod_lt m _ _ _ hm
 obtain⟨E0,Lr,lK,pL,iv⟩:∃E:Nat->En,Ents W (λ_=>True) a0 Is E/\Is<=O9/\Is<=reachBytes/\∀j,j<Is->(E j).n.size<=reachBytes/\(E j).d.size<=reachBytes:=by obtain⟨fuel,hf⟩:=h0;refine zL (by simpa[Value.cells]using hf) (λn hn=>?_);have h9:=List.all_eq_true.1 cZ n (DataW.weights_mem_each (j:=0) (by rw[Tryz.params6];rfl) rfl n hn);simpa using h9
 clear K7 Lq cZ;refine(tZ a0 Is O9 E0 W Lr lK pL iv (JY hL) (Me hS)).mono λe W' ⟨he,bel⟩=>?_
 subst he;exact⟨_,rfl,_,_,_,[],_,[],XL,trodAll_mk1 (shut_bool Tryz.underlying4 _),(trodAll_cons_mk (Below.trod nY (by kernel_rfl) (of_decide_eq_true (by kernel_rfl)) k0 bel Wj) trodAll_mk0),rfl,bel.frame _,λh=>by cases h⟩
theorem mW(os:Os):laidMet Tryz.prog Rows.zipRoundRow.laid ((mi os).forCall (λ_ _=>0) ⟨#[],#[.slice none 0 0],[]⟩).memory:=
 laidMet_of_run' 8 (by kernel_rfl) (by kernel_rfl)
theorem rt(os:Os){H:Type}(enc:TypeId×Value->H):∃places,DataW.whole enc Tryz.prog ((mi os).forCall (λ_ _=>0) ⟨#[],#[.slice none 0 0],[]⟩).memory Tryz.f6.params.toList Rows.zipRoundSpec.vars false (#[.slice none 0 0]:Array Value).toList 8=some ([.nil],[],places):=
 ⟨[],by kernel_rfl⟩
theorem py(os:Os)(started:os.Started)(H:Type)(enc:TypeId×Value→H)(F:Stop.Interp):
  ReturnsInHanded {} Tryz.checked os 6 .any ((OpenSpec.ofChange Rows.zipRoundSpec).preRow enc Tryz.prog Tryz.f6 Rows.zipRoundRow.domain false Rows.zipRoundRow.laid) (((OpenSpec.ofChange Rows.zipRoundSpec).at F).post enc Tryz.prog Tryz.f6 false true false false):=by
 obtain⟨places,hx⟩:=rt os enc;refine returnsInHanded_of_row (C:=Tryz.checked) (s:=OpenSpec.ofChange Rows.zipRoundSpec) uA started (by kernel_rfl) Tryz.func6
  (witness_row_at (enc:=enc) (C:=Tryz.checked) false (mi os) #[.slice none 0 0] rfl (by kernel_rfl) (by kernel_rfl) (by kernel_rfl)
   (OpenSpec.preRow_of_cond 8 hx (by kernel_rfl) (λk hk=>by cases hk) (by kernel_rfl) (mW os))) ?_
 intro W base args ds gs before A7 hW _ _ cZ hL hS _;exact nz H enc W base args ds gs before A7 hW hL cZ hS
theorem rS:Rows.ZipRoundSaid:=
 OpenClaim.holds_of_cond 6 Tryz.f6 rfl rfl rfl rfl rfl rfl rfl ⟨rfl,rfl,rfl,rfl,rfl⟩ rfl rfl rfl rfl rfl (by kernel_rfl) Tryz.func6 (by kernel_rfl)
  (of_decide_eq_true (by kernel_rfl)) (by unfold Func.isWrapper;first | (rw[if_pos (by decide +kernel)];kernel_rfl) | (rw[if_neg (by decide +kernel)];exact⟨rfl,rfl⟩))
  (λos started H enc _ F=>by rw[OpenClaim.pre_eq_preRow];exact py os started H enc F)
theorem rC(f:FuncId)(fn:Func)(hf:Tryz.pinned.checked.prog.funcNamed "haversack/haversacklaw08.ZipRound" = some f)(LG:Tryz.pinned.checked.prog.funcs[f]? = some fn):
  true=Tryz.pinned.checked.prog.looks []/\∀(j:Nat) t,fn.params[j]? = some t->Tryz.pinned.checked.prog.wantsStandIn t=false:=by
 obtain rfl:f=6:=Option.some.inj ((show Tryz.prog.funcNamed "haversack/haversacklaw08.ZipRound" = some 6 by kernel_rfl).symm.trans hf) |>.symm;obtain rfl:fn=Tryz.f6:=(Option.some.inj (Tryz.func6.symm.trans LG)).symm;refine⟨by kernel_rfl,λj t ht=>?_⟩;rw[Tryz.params6]at ht;have hm:t=24:=by simpa using Array.mem_of_getElem? ht
 rcases hm with rfl;exact(show Tryz.prog.wantsStandIn 24=false by kernel_rfl)
theorem zipRound_holds:Rows.ZipRoundCardSaid:=
 Claim7.holds_tied_plain_at .later [] _ _ _ _ rS (λ_ h=>by cases h) (by kernel_rfl) (λ_ h=>by cases h) zipRound_row_tie rfl ⟨rfl,rfl⟩ (by kernel_rfl) rfl rC (by kernel_rfl)
#print axioms zipRound_holds
end Go.Proofs.YtljlmfnbeofmmaaGreatDoor
