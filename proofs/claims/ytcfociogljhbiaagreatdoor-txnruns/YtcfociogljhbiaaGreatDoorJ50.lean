/-
  TxnRuns: for every list of archives and every list of calls,each call of the program's manager answers what the reference's manager (all states,one behind the other) answers;conditions: none but what the card lists (the library's tables as its texts lay them).
  (Parts: TxnRunsProof.)
-/
import Derived.ProofKit
import Derived.OpenShut
import Derived.ShutString
import Derived.ChangeOld
import Derived.Deep.DeepHandedRow
import Derived.Test.YtcfociogljhbiaaGreatDoorRows
import Derived.Test.YtcfociogljhbiaaGreatDoorCards
import Derived.Test.YtcfociogljhbiaaGreatDoorTie
import Derived.Test.YtcfociogljhbiaaGreatDoorJ47
import Derived.Test.YtcfociogljhbiaaGreatDoorJ48
import Derived.Test.YtcfociogljhbiaaGreatDoorJ49
import Derived.Test.YtcfociogljhbiaaGreatDoorJ7

/-
  TxnRuns: for every list of archives and every list of calls,each call of the program's manager answers what the reference's manager (all states,one behind the other) answers;conditions: none but what the card lists (the library's tables as its texts lay them).
-/
namespace Go.Proofs.YtcfociogljhbiaaGreatDoor
open Go.ChangeShapes Go.WideShapes Go.ChangeAt Go.RowKit
open Go.ChangeMaps (open_string shut_string)

theorem txnRuns_own:ownKnob Tryz.prog.godebug=none:=by kernel_rfl
theorem txnRuns_laidOut:laidOutB Tryz.prog=true:=by kernel_rfl

set_option maxRecDepth 100000 in
theorem txnRuns_contract(H:Type)(enc:TypeId×Value→H)(W:World)(base:Nat)(args:Array Value)(ds gs:List (DataW H))(before:List MemPlace)
  (hval0:∀(j:Nat) t v,Tryz.f4.params[j]? = some t→args[j]? = some v→Value.okWide Tryz.prog W .any base t v)
  (hW:DataW.Whole enc Tryz.prog Tryz.f4.params.toList Rows.txnRunsSpec.vars false W args.toList ds gs before) (_hL:laidMetH Tryz.prog Rows.txnRunsRow.laid W) (hsz:(DataW.weightsEach Tryz.prog (Tryz.f4.params.toList++(OpenSpec.ofChange Rows.txnRunsSpec).bare.plain.varTypes Tryz.prog) (ds++gs)).all (·≤reachBytes)=true) (hS:W.ShapedOpen Tryz.prog):
  Calls Tryz.prog 4 args W fun e W'=>∃v,e=.returned v∧Rows.txnRunsSpec.post enc Tryz.prog Tryz.f4 false true false false W args v W':=by
 have hval:∀(j:Nat) t v,Tryz.f4.params[j]? = some t→args[j]? = some v→Value.okWide Tryz.prog W .any base t v:=hval0
 have hW':=hW
 obtain⟨p,q,hA0,hV,rfl,hfz,hnd⟩:=hW
 have hA:DataW.TrodAll enc Tryz.prog W 0 (fun _=>true) true Tryz.f4.params.toList args.toList ds p:=hA0
 rw[Tryz.params4]at hA hval
 obtain⟨v0,vs0,d0,ds0,p0,q0,hargs,rfl,rfl,h0,r0⟩:=trodAll_cons hA
 obtain⟨v1,vs1,d1,ds1,p1,q1,rfl,rfl,rfl,h1,r1⟩:=trodAll_cons r0
 obtain⟨rfl,rfl,rfl⟩:=trodAll_nil r1
 obtain rfl:args=#[v0,v1]:=by cases args;simp_all
 obtain⟨rfl,rfl⟩:=trodVars_none hV
 obtain⟨a0,len0,cap0,rfl⟩:=okWide_slice Tryz.underlying22 (hval 0 22 v0 rfl rfl)
 have k0:=h0
 have lt0:∀x∈p0,x.block<W.heap.size:=by obtain⟨m,hm⟩:=k0;exact DataW.trod_lt m _ _ _ hm
 have z0:∀m∈d0.weights Tryz.prog 22,m≤reachBytes:=fun m hm=>by
  have:=List.all_eq_true.1 hsz _ (DataW.weights_mem_each (j:=0) (t:=22) (by rw[Tryz.params4];rfl) (by rfl) m hm)
  simpa using this
 obtain⟨L0,hl0,hn0,hd0⟩:∃As:List Ad,ArcI W (fun j=>j<W.heap.size) (.slice a0 len0 cap0) As∧len0≤reachBytes∧∀x∈As,x.n≤reachBytes:=by
  obtain⟨fuel,hf⟩:=h0
  exact arcs14_ofz (cap:=cap0) (by simpa[Value.cells]using hf) z0
 obtain⟨a1,len1,cap1,rfl⟩:=okWide_slice Tryz.underlying36 (hval 1 36 v1 rfl rfl)
 have k1:=h1
 have lt1:∀x∈p1,x.block<W.heap.size:=by obtain⟨m,hm⟩:=k1;exact DataW.trod_lt m _ _ _ hm
 have z1:∀m∈d1.weights Tryz.prog 36,m≤reachBytes:=fun m hm=>by
  have:=List.all_eq_true.1 hsz _ (DataW.weights_mem_each (j:=1) (t:=36) (by rw[Tryz.params4];rfl) (by rfl) m hm)
  simpa using this
 obtain⟨L1,hl1,hn1,hd1⟩:∃ks:List Ot,SrcC 6 otE W (fun j=>j<W.heap.size) (.slice a1 len1 cap1) ks∧len1≤reachBytes∧∀o∈ks,o.dt.size≤reachBytes:=by
  obtain⟨fuel,hf⟩:=h1
  exact ops14_ofz (cap:=cap1) (by simpa[Value.cells]using hf) z1
 clear hA0 hval0 hsz
 refine(txnRuns_all a0 len0 cap0 L0 a1 len1 cap1 L1 W hl0 hn0 hd0 hl1 hn1 hd1 (mxl17_of hS)).mono fun e W' ⟨he,bel⟩=>?_
 subst he
 exact⟨_,rfl,_,_,_,[],_,[],hW',trodAll_mk1 (shut_bool Tryz.underlying4 _),(trodAll_cons_mk (Below.trod txnRuns_laidOut (by kernel_rfl) (of_decide_eq_true (by kernel_rfl)) k0 bel lt0) (trodAll_cons_mk (Below.trod txnRuns_laidOut (by kernel_rfl) (of_decide_eq_true (by kernel_rfl)) k1 bel lt1) trodAll_mk0)),rfl,bel.frame _,fun h=>by cases h⟩

theorem txnRuns_laid_met(os:Os):laidMet Tryz.prog Rows.txnRunsRow.laid ((laidWorld17 os).forCall (fun _ _=>0) ⟨#[],#[.slice none 0 0,.slice none 0 0],[]⟩).memory:=
 laidMet_of_run' 8 (by kernel_rfl) (by kernel_rfl)
theorem txnRuns_reads(os:Os){H:Type}(enc:TypeId×Value→H):∃places,DataW.whole enc Tryz.prog ((laidWorld17 os).forCall (fun _ _=>0) ⟨#[],#[.slice none 0 0,.slice none 0 0],[]⟩).memory Tryz.f4.params.toList Rows.txnRunsSpec.vars false (#[.slice none 0 0,.slice none 0 0]:Array Value).toList 8=some ([.nil,.nil],[],places):=
 ⟨[],by kernel_rfl⟩

set_option maxRecDepth 100000 in
theorem txnRuns_lifted(os:Os)(started:os.Started)(H:Type)(enc:TypeId×Value→H)(F:Stop.Interp):
  ReturnsInHanded {} Tryz.checked os 4 .any ((OpenSpec.ofChange Rows.txnRunsSpec).preRow enc Tryz.prog Tryz.f4 Rows.txnRunsRow.domain false Rows.txnRunsRow.laid) (((OpenSpec.ofChange Rows.txnRunsSpec).at F).post enc Tryz.prog Tryz.f4 false true false false):=by
 obtain⟨places,hx⟩:=txnRuns_reads os enc
 refine returnsInHanded_of_row (C:=Tryz.checked) (s:=OpenSpec.ofChange Rows.txnRunsSpec) txnRuns_own started (by kernel_rfl) Tryz.func4
  (witness_row_at (enc:=enc) (C:=Tryz.checked) false (laidWorld17 os) #[.slice none 0 0,.slice none 0 0] rfl (by kernel_rfl) (by kernel_rfl) (by kernel_rfl)
   (OpenSpec.preRow_of_cond 8 hx (by kernel_rfl) (fun k hk=>by cases hk) (by kernel_rfl) (txnRuns_laid_met os))) ?_
 intro W base args ds gs before hval hW _ _ hsz hL hS _
 exact txnRuns_contract H enc W base args ds gs before hval hW hL hsz hS

theorem txnRuns_said:Rows.TxnRunsSaid:=
 OpenClaim.holds_of_cond 4 Tryz.f4 rfl rfl rfl rfl rfl rfl rfl ⟨rfl,rfl,rfl,rfl,rfl⟩ rfl rfl rfl rfl rfl (by kernel_rfl) Tryz.func4 (by kernel_rfl)
  (of_decide_eq_true (by kernel_rfl)) (by unfold Func.isWrapper;first | (rw[if_pos (by decide +kernel)];kernel_rfl) | (rw[if_neg (by decide +kernel)];exact⟨rfl,rfl⟩))
  (fun os started H enc _ F=>by rw[OpenClaim.pre_eq_preRow];exact txnRuns_lifted os started H enc F)

theorem txnRuns_plain(f:FuncId)(fn:Func)(hf:Tryz.pinned.checked.prog.funcNamed "haversack/haversacklaw14.TxnRuns" = some f)(hfn:Tryz.pinned.checked.prog.funcs[f]? = some fn):
  false=Tryz.pinned.checked.prog.looks []∧∀(j:Nat) t,fn.params[j]? = some t→Tryz.pinned.checked.prog.wantsStandIn t=false:=by
 obtain rfl:f=4:=Option.some.inj ((show Tryz.prog.funcNamed "haversack/haversacklaw14.TxnRuns" = some 4 by kernel_rfl).symm.trans hf) |>.symm
 obtain rfl:fn=Tryz.f4:=(Option.some.inj (Tryz.func4.symm.trans hfn)).symm
 refine⟨by kernel_rfl,fun j t ht=>?_⟩
 rw[Tryz.params4]at ht
 have hm:t=22∨t=36:=by simpa using Array.mem_of_getElem? ht
 rcases hm with rfl | rfl
 ·exact(show Tryz.prog.wantsStandIn 22=false by kernel_rfl)
 ·exact(show Tryz.prog.wantsStandIn 36=false by kernel_rfl)

theorem txnRuns_holds:Rows.TxnRunsCardSaid:=
 Claim7.holds_tied_plain_at .later [] _ _ _ _ txnRuns_said (fun _ h=>by cases h) (by kernel_rfl) (fun _ h=>by cases h) txnRuns_row_tie rfl ⟨rfl,rfl⟩ (by kernel_rfl) rfl txnRuns_plain (by kernel_rfl)

#print axioms txnRuns_holds
end Go.Proofs.YtcfociogljhbiaaGreatDoor
