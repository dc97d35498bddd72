/-
  P8.2: a file has just the bytes that the form says, or the first entry that may not be is refused; what it holds deflated is what deflate tells. Of any entries, with no condition but the program's tables as its text lays them.
  (Parts: ZipWritesProof.)
-/
import Derived.ProofKit
import Derived.OpenShut
import Derived.ShutString
import Derived.ChangeOld
import Derived.Deep.DeepHandedRow
import Derived.Test.YtljlmfnbeofmmaaGreatDoorRows
import Derived.Test.YtljlmfnbeofmmaaGreatDoorCards
import Derived.Test.YtljlmfnbeofmmaaGreatDoorTie
import Derived.Test.YtljlmfnbeofmmaaGreatDoorJ47
import Derived.Test.YtljlmfnbeofmmaaGreatDoorJ48
import Derived.Test.YtljlmfnbeofmmaaGreatDoorJ49
import Derived.Test.YtljlmfnbeofmmaaGreatDoorJ8

/-
  P8.2: a file has just the bytes that the form says, or the first entry that may not be is refused; what it holds deflated is what deflate tells. Of any entries, with no condition but the program's tables as its text lays them.
-/
namespace Go.Proofs.YtljlmfnbeofmmaaGreatDoor
open Go.ChangeShapes Go.WideShapes Go.ChangeAt Go.RowKit
open Go.ChangeMaps (open_string shut_string)

theorem zipWrites_own : ownKnob Tryz.prog.godebug = none := by kernel_rfl
theorem zipWrites_laidOut : laidOutB Tryz.prog = true := by kernel_rfl

set_option maxRecDepth 100000 in
theorem zipWrites_contract (H : Type) (enc : TypeId × Value → H) (W : World) (base : Nat) (args : Array Value) (ds gs : List (DataW H)) (before : List MemPlace)
  (hval0 : ∀ (j : Nat) t v, Tryz.f4.params[j]? = some t → args[j]? = some v → Value.okWide Tryz.prog W .any base t v)
  (hW : DataW.Whole enc Tryz.prog Tryz.f4.params.toList Rows.zipWritesSpec.vars false W args.toList ds gs before) (hL : laidMetH Tryz.prog Rows.zipWritesRow.laid W) (hsz : (DataW.weightsEach Tryz.prog (Tryz.f4.params.toList ++ (OpenSpec.ofChange Rows.zipWritesSpec).bare.plain.varTypes Tryz.prog) (ds ++ gs)).all (· ≤ reachBytes) = true) (hS : W.ShapedOpen Tryz.prog) :
  Calls Tryz.prog 4 args W fun e W' => ∃ v, e = .returned v ∧ Rows.zipWritesSpec.post enc Tryz.prog Tryz.f4 false true false false W args v W' := by
 have hval : ∀ (j : Nat) t v, Tryz.f4.params[j]? = some t → args[j]? = some v → Value.okWide Tryz.prog W .any base t v := hval0
 have hW' := hW
 obtain ⟨p, q, hA0, hV, rfl, hfz, hnd⟩ := hW
 have hA : DataW.TrodAll enc Tryz.prog W 0 (fun _ => true) true Tryz.f4.params.toList args.toList ds p := hA0
 rw [Tryz.params4] at hA hval
 obtain ⟨v0, vs0, d0, ds0, p0, q0, hargs, rfl, rfl, h0, r0⟩ := trodAll_cons hA
 obtain ⟨rfl, rfl, rfl⟩ := trodAll_nil r0
 obtain rfl : args = #[v0] := by cases args; simp_all
 obtain ⟨rfl, rfl⟩ := trodVars_none hV
 obtain ⟨a0, len0, cap0, rfl⟩ := okWide_slice Tryz.underlying24 (hval 0 24 v0 rfl rfl)
 have k0 := h0
 have lt0 : ∀ x ∈ p0, x.block < W.heap.size := by obtain ⟨m, hm⟩ := k0; exact DataW.trod_lt m _ _ _ hm
 obtain ⟨E0, he0, hc0, hr0, hz0⟩ : ∃ E : Nat → En, Ents W (fun _ => True) a0 len0 E ∧ len0 ≤ cap0 ∧ len0 ≤ reachBytes ∧ ∀ j, j < len0 → (E j).n.size ≤ reachBytes ∧ (E j).d.size ≤ reachBytes := by
  obtain ⟨fuel, hf⟩ := h0
  refine entries_of (by simpa [Value.cells] using hf) (fun n hn => ?_)
  have h9 := List.all_eq_true.1 hsz n (DataW.weights_mem_each (j := 0) (by rw [Tryz.params4]; rfl) rfl n hn)
  simpa using h9
 clear hA0 hval0 hsz
 refine (zipWrites_all a0 len0 cap0 E0 W he0 hc0 hr0 hz0 (tab8_of hL) (mxl_of hS)).mono fun e W' ⟨he, bel⟩ => ?_
 subst he
 exact ⟨_, rfl, _, _, _, [], _, [], hW', trodAll_mk1 (shut_bool Tryz.underlying4 _), (trodAll_cons_mk (Below.trod zipWrites_laidOut (by kernel_rfl) (of_decide_eq_true (by kernel_rfl)) k0 bel lt0) trodAll_mk0), rfl, bel.frame _, fun h => by cases h⟩

theorem zipWrites_laid_met (os : Os) : laidMet Tryz.prog Rows.zipWritesRow.laid ((laidWorld8 os).forCall (fun _ _ => 0) ⟨#[], #[.slice none 0 0], []⟩).memory :=
 laidMet_of_run' 8 (by kernel_rfl) (by kernel_rfl)
theorem zipWrites_reads (os : Os) {H : Type} (enc : TypeId × Value → H) : ∃ places, DataW.whole enc Tryz.prog ((laidWorld8 os).forCall (fun _ _ => 0) ⟨#[], #[.slice none 0 0], []⟩).memory Tryz.f4.params.toList Rows.zipWritesSpec.vars false (#[.slice none 0 0] : Array Value).toList 8 = some ([.nil], [], places) :=
 ⟨[], by kernel_rfl⟩

set_option maxRecDepth 100000 in
theorem zipWrites_lifted (os : Os) (started : os.Started) (H : Type) (enc : TypeId × Value → H) (F : Stop.Interp) :
  ReturnsInHanded {} Tryz.checked os 4 .any ((OpenSpec.ofChange Rows.zipWritesSpec).preRow enc Tryz.prog Tryz.f4 Rows.zipWritesRow.domain false Rows.zipWritesRow.laid) (((OpenSpec.ofChange Rows.zipWritesSpec).at F).post enc Tryz.prog Tryz.f4 false true false false) := by
 obtain ⟨places, hx⟩ := zipWrites_reads os enc
 refine returnsInHanded_of_row (C := Tryz.checked) (s := OpenSpec.ofChange Rows.zipWritesSpec) zipWrites_own started (by kernel_rfl) Tryz.func4
  (witness_row_at (enc := enc) (C := Tryz.checked) false (laidWorld8 os) #[.slice none 0 0] rfl (by kernel_rfl) (by kernel_rfl) (by kernel_rfl)
   (OpenSpec.preRow_of_cond 8 hx (by kernel_rfl) (fun k hk => by cases hk) (by kernel_rfl) (zipWrites_laid_met os))) ?_
 intro W base args ds gs before hval hW _ _ hsz hL hS _
 exact zipWrites_contract H enc W base args ds gs before hval hW hL hsz hS

theorem zipWrites_said : Rows.ZipWritesSaid :=
 OpenClaim.holds_of_cond 4 Tryz.f4 rfl rfl rfl rfl rfl rfl rfl ⟨rfl, rfl, rfl, rfl, rfl⟩ rfl rfl rfl rfl rfl (by kernel_rfl) Tryz.func4 (by kernel_rfl)
  (of_decide_eq_true (by kernel_rfl)) (by unfold Func.isWrapper; first | (rw [if_pos (by decide +kernel)]; kernel_rfl) | (rw [if_neg (by decide +kernel)]; exact ⟨rfl, rfl⟩))
  (fun os started H enc _ F => by rw [OpenClaim.pre_eq_preRow]; exact zipWrites_lifted os started H enc F)

theorem zipWrites_plain (f : FuncId) (fn : Func) (hf : Tryz.pinned.checked.prog.funcNamed "haversack/haversacklaw08.ZipWrites" = some f) (hfn : Tryz.pinned.checked.prog.funcs[f]? = some fn) :
  true = Tryz.pinned.checked.prog.looks [] ∧ ∀ (j : Nat) t, fn.params[j]? = some t → Tryz.pinned.checked.prog.wantsStandIn t = false := by
 obtain rfl : f = 4 := Option.some.inj ((show Tryz.prog.funcNamed "haversack/haversacklaw08.ZipWrites" = some 4 by kernel_rfl).symm.trans hf) |>.symm
 obtain rfl : fn = Tryz.f4 := (Option.some.inj (Tryz.func4.symm.trans hfn)).symm
 refine ⟨by kernel_rfl, fun j t ht => ?_⟩
 rw [Tryz.params4] at ht
 have hm : t = 24 := by simpa using Array.mem_of_getElem? ht
 rcases hm with rfl
 exact (show Tryz.prog.wantsStandIn 24 = false by kernel_rfl)

theorem zipWrites_holds : Rows.ZipWritesCardSaid :=
 Claim7.holds_tied_plain_at .later [] _ _ _ _ zipWrites_said (fun _ h => by cases h) (by kernel_rfl) (fun _ h => by cases h) zipWrites_row_tie rfl ⟨rfl, rfl⟩ (by kernel_rfl) rfl zipWrites_plain (by kernel_rfl)

#print axioms zipWrites_holds
end Go.Proofs.YtljlmfnbeofmmaaGreatDoor
