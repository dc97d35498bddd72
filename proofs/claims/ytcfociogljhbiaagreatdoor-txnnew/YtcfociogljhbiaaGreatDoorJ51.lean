/-
  TxnNew: for every list of archives,every number and every call,the program's manager begins with just the state that the list says,or the list is refused,as the reference's;conditions: none but what the card lists (the library's tables as its texts lay them).
  (Parts: TxnNewProof.)
-/
import Derived.ProofKit
import Derived.OpenShut
import Derived.ShutString
import Derived.ChangeOld
import Derived.Deep.DeepHandedRow
import Derived.Test.YtcfociogljhbiaaGreatDoorRows
import Derived.Test.YtcfociogljhbiaaGreatDoorCards
import Derived.Test.YtcfociogljhbiaaGreatDoorTie
import Derived.Test.YtcfociogljhbiaaGreatDoorJ50
import Derived.Test.YtcfociogljhbiaaGreatDoorJ48
import Derived.Test.YtcfociogljhbiaaGreatDoorJ49
import Derived.Test.YtcfociogljhbiaaGreatDoorJ7

/-
  TxnNew: for every list of archives,every number and every call,the program's manager begins with just the state that the list says,or the list is refused,as the reference's;conditions: none but what the card lists (the library's tables as its texts lay them).
-/
namespace Go.Proofs.YtcfociogljhbiaaGreatDoor
open Go.ChangeShapes Go.WideShapes Go.ChangeAt Go.RowKit
open Go.ChangeMaps (open_string shut_string)

theorem txnNew_own:ownKnob Tryz.prog.godebug=none:=by kernel_rfl
theorem txnNew_laidOut:laidOutB Tryz.prog=true:=by kernel_rfl

set_option maxRecDepth 100000 in
theorem txnNew_contract(H:Type)(enc:TypeId×Value→H)(W:World)(base:Nat)(args:Array Value)(ds gs:List (DataW H))(before:List MemPlace)
  (hval0:∀(j:Nat) t v,Tryz.f3.params[j]? = some t→args[j]? = some v→Value.okWide Tryz.prog W .any base t v)
  (hW:DataW.Whole enc Tryz.prog Tryz.f3.params.toList Rows.txnNewSpec.vars false W args.toList ds gs before) (_hL:laidMetH Tryz.prog Rows.txnNewRow.laid W) (hsz:(DataW.weightsEach Tryz.prog (Tryz.f3.params.toList++(OpenSpec.ofChange Rows.txnNewSpec).bare.plain.varTypes Tryz.prog) (ds++gs)).all (·≤reachBytes)=true) (hS:W.ShapedOpen Tryz.prog):
  Calls Tryz.prog 3 args W fun e W'=>∃v,e=.returned v∧Rows.txnNewSpec.post enc Tryz.prog Tryz.f3 false true false false W args v W':=by
 have hval:∀(j:Nat) t v,Tryz.f3.params[j]? = some t→args[j]? = some v→Value.okWide Tryz.prog W .any base t v:=hval0
 have hW':=hW
 obtain⟨p,q,hA0,hV,rfl,hfz,hnd⟩:=hW
 have hA:DataW.TrodAll enc Tryz.prog W 0 (fun _=>true) true Tryz.f3.params.toList args.toList ds p:=hA0
 rw[Tryz.params3]at hA hval
 obtain⟨v0,vs0,d0,ds0,p0,q0,hargs,rfl,rfl,h0,r0⟩:=trodAll_cons hA
 obtain⟨v1,vs1,d1,ds1,p1,q1,rfl,rfl,rfl,h1,r1⟩:=trodAll_cons r0
 obtain⟨v2,vs2,d2,ds2,p2,q2,rfl,rfl,rfl,h2,r2⟩:=trodAll_cons r1
 obtain⟨rfl,rfl,rfl⟩:=trodAll_nil r2
 obtain rfl:args=#[v0,v1,v2]:=by cases args;simp_all
 obtain⟨rfl,rfl⟩:=trodVars_none hV
 obtain⟨a0,len0,cap0,rfl⟩:=okWide_slice Tryz.underlying22 (hval 0 22 v0 rfl rfl)
 have k0:=h0
 have lt0:∀x∈p0,x.block<W.heap.size:=by obtain⟨m,hm⟩:=k0;exact DataW.trod_lt m _ _ _ hm
 have z0:∀m∈d0.weights Tryz.prog 22,m≤reachBytes:=fun m hm=>by
  have:=List.all_eq_true.1 hsz _ (DataW.weights_mem_each (j:=0) (t:=22) (by rw[Tryz.params3];rfl) (by rfl) m hm)
  simpa using this
 obtain⟨L0,hl0,hn0,hd0⟩:∃As:List Ad,ArcI W (fun j=>j<W.heap.size) (.slice a0 len0 cap0) As∧len0≤reachBytes∧∀x∈As,x.n≤reachBytes:=by
  obtain⟨fuel,hf⟩:=h0
  exact arcs14_ofz (cap:=cap0) (by simpa[Value.cells]using hf) z0
 obtain⟨a1,rfl,rfl,rfl,w1⟩:=open_int Tryz.underlying3 (hval 1 3 v1 rfl rfl) h1
 obtain⟨cs2,rfl,hq2⟩:=okWide_struct Tryz.underlying24 (hval 2 24 v2 rfl rfl)
 have k2:=h2
 have lt2:∀x∈p2,x.block<W.heap.size:=by obtain⟨m,hm⟩:=k2;exact DataW.trod_lt m _ _ _ hm
 have z2:∀m∈d2.weights Tryz.prog 24,m≤reachBytes:=fun m hm=>by
  have:=List.all_eq_true.1 hsz _ (DataW.weights_mem_each (j:=2) (t:=24) (by rw[Tryz.params3];rfl) (by rfl) m hm)
  simpa using this
 obtain⟨o2,rfl,w2⟩:∃o:Ot,cs2=(otE o).toArray∧o.dt.size≤reachBytes:=by
  obtain⟨fuel,hf⟩:=h2
  obtain⟨o,e⟩:=ot_arg hq2 hf
  subst e
  exact⟨o,rfl,ot_sz (by simpa[Value.cells]using hf) z2⟩
 clear hA0 hval0 hsz
 refine(txnNew_all a0 len0 cap0 L0 a1 o2 W hl0 hn0 hd0 w1 w2 (mxl17_of hS)).mono fun e W' ⟨he,bel⟩=>?_
 subst he
 exact⟨_,rfl,_,_,_,[],_,[],hW',trodAll_mk1 (shut_bool Tryz.underlying4 _),(trodAll_cons_mk (Below.trod txnNew_laidOut (by kernel_rfl) (of_decide_eq_true (by kernel_rfl)) k0 bel lt0) (trodAll_cons_mk (shut_int Tryz.underlying3 w1) (trodAll_cons_mk (Below.trod txnNew_laidOut (by kernel_rfl) (of_decide_eq_true (by kernel_rfl)) k2 bel lt2) trodAll_mk0))),rfl,bel.frame _,fun h=>by cases h⟩

theorem txnNew_laid_met(os:Os):laidMet Tryz.prog Rows.txnNewRow.laid ((laidWorld17 os).forCall (fun _ _=>0) ⟨#[],#[.slice none 0 0,.int .i64 0,.agg #[.int .i64 0,.int .i64 0,.string ⟨#[]⟩,.string ⟨#[]⟩,.string ⟨#[]⟩,.string ⟨#[]⟩]],[]⟩).memory:=
 laidMet_of_run' 8 (by kernel_rfl) (by kernel_rfl)
theorem txnNew_reads(os:Os){H:Type}(enc:TypeId×Value→H):∃places,DataW.whole enc Tryz.prog ((laidWorld17 os).forCall (fun _ _=>0) ⟨#[],#[.slice none 0 0,.int .i64 0,.agg #[.int .i64 0,.int .i64 0,.string ⟨#[]⟩,.string ⟨#[]⟩,.string ⟨#[]⟩,.string ⟨#[]⟩]],[]⟩).memory Tryz.f3.params.toList Rows.txnNewSpec.vars false (#[.slice none 0 0,.int .i64 0,.agg #[.int .i64 0,.int .i64 0,.string ⟨#[]⟩,.string ⟨#[]⟩,.string ⟨#[]⟩,.string ⟨#[]⟩]]:Array Value).toList 8=some ([.nil,.lit (.int .i64 0),.agg [.lit (.int .i64 0),.lit (.int .i64 0),.lit (.string []),.lit (.string []),.lit (.string []),.lit (.string [])]],[],places):=
 ⟨[],by kernel_rfl⟩

set_option maxRecDepth 100000 in
theorem txnNew_lifted(os:Os)(started:os.Started)(H:Type)(enc:TypeId×Value→H)(F:Stop.Interp):
  ReturnsInHanded {} Tryz.checked os 3 .any ((OpenSpec.ofChange Rows.txnNewSpec).preRow enc Tryz.prog Tryz.f3 Rows.txnNewRow.domain false Rows.txnNewRow.laid) (((OpenSpec.ofChange Rows.txnNewSpec).at F).post enc Tryz.prog Tryz.f3 false true false false):=by
 obtain⟨places,hx⟩:=txnNew_reads os enc
 refine returnsInHanded_of_row (C:=Tryz.checked) (s:=OpenSpec.ofChange Rows.txnNewSpec) txnNew_own started (by kernel_rfl) Tryz.func3
  (witness_row_at (enc:=enc) (C:=Tryz.checked) false (laidWorld17 os) #[.slice none 0 0,.int .i64 0,.agg #[.int .i64 0,.int .i64 0,.string ⟨#[]⟩,.string ⟨#[]⟩,.string ⟨#[]⟩,.string ⟨#[]⟩]] rfl (by kernel_rfl) (by kernel_rfl) (by kernel_rfl)
   (OpenSpec.preRow_of_cond 8 hx (by kernel_rfl) (fun k hk=>by cases hk) (by kernel_rfl) (txnNew_laid_met os))) ?_
 intro W base args ds gs before hval hW _ _ hsz hL hS _
 exact txnNew_contract H enc W base args ds gs before hval hW hL hsz hS

theorem txnNew_said:Rows.TxnNewSaid:=
 OpenClaim.holds_of_cond 3 Tryz.f3 rfl rfl rfl rfl rfl rfl rfl ⟨rfl,rfl,rfl,rfl,rfl⟩ rfl rfl rfl rfl rfl (by kernel_rfl) Tryz.func3 (by kernel_rfl)
  (of_decide_eq_true (by kernel_rfl)) (by unfold Func.isWrapper;first | (rw[if_pos (by decide +kernel)];kernel_rfl) | (rw[if_neg (by decide +kernel)];exact⟨rfl,rfl⟩))
  (fun os started H enc _ F=>by rw[OpenClaim.pre_eq_preRow];exact txnNew_lifted os started H enc F)

theorem txnNew_plain(f:FuncId)(fn:Func)(hf:Tryz.pinned.checked.prog.funcNamed "haversack/haversacklaw14.TxnNew" = some f)(hfn:Tryz.pinned.checked.prog.funcs[f]? = some fn):
  false=Tryz.pinned.checked.prog.looks []∧∀(j:Nat) t,fn.params[j]? = some t→Tryz.pinned.checked.prog.wantsStandIn t=false:=by
 obtain rfl:f=3:=Option.some.inj ((show Tryz.prog.funcNamed "haversack/haversacklaw14.TxnNew" = some 3 by kernel_rfl).symm.trans hf) |>.symm
 obtain rfl:fn=Tryz.f3:=(Option.some.inj (Tryz.func3.symm.trans hfn)).symm
 refine⟨by kernel_rfl,fun j t ht=>?_⟩
 rw[Tryz.params3]at ht
 have hm:t=22∨t=3∨t=24:=by simpa using Array.mem_of_getElem? ht
 rcases hm with rfl | rfl | rfl
 ·exact(show Tryz.prog.wantsStandIn 22=false by kernel_rfl)
 ·exact(show Tryz.prog.wantsStandIn 3=false by kernel_rfl)
 ·exact(show Tryz.prog.wantsStandIn 24=false by kernel_rfl)

theorem txnNew_holds:Rows.TxnNewCardSaid:=
 Claim7.holds_tied_plain_at .later [] _ _ _ _ txnNew_said (fun _ h=>by cases h) (by kernel_rfl) (fun _ h=>by cases h) txnNew_row_tie rfl ⟨rfl,rfl⟩ (by kernel_rfl) rfl txnNew_plain (by kernel_rfl)

#print axioms txnNew_holds
end Go.Proofs.YtcfociogljhbiaaGreatDoor
