/-
  P8.6: of a file whose last bytes are cut off, or that has a byte ahead of it, nothing is read. Of any entries and number, with no condition but the program's tables as its text lays them.
  (Parts: ZipCutsProof.)
-/
import Derived.ProofKit
import Derived.OpenShut
import Derived.ShutString
import Derived.ChangeOld
import Derived.Deep.DeepHandedRow
import Derived.Test.YtljlmfnbeofmmaaGreatDoorRows
import Derived.Test.YtljlmfnbeofmmaaGreatDoorCards
import Derived.Test.YtljlmfnbeofmmaaGreatDoorTie
import Derived.Test.YtljlmfnbeofmmaaGreatDoorJ46
import Derived.Test.YtljlmfnbeofmmaaGreatDoorJ47
import Derived.Test.YtljlmfnbeofmmaaGreatDoorJ45
import Derived.Test.YtljlmfnbeofmmaaGreatDoorJ8

/-
  P8.6: of a file whose last bytes are cut off, or that has a byte ahead of it, nothing is read. Of any entries and number, with no condition but the program's tables as its text lays them.
-/
namespace Go.Proofs.YtljlmfnbeofmmaaGreatDoor
open Go.ChangeShapes Go.WideShapes Go.ChangeAt Go.RowKit
open Go.ChangeMaps (open_string shut_string)

theorem zipCuts_own : ownKnob Tryz.prog.godebug = none := by kernel_rfl
theorem zipCuts_laidOut : laidOutB Tryz.prog = true := by kernel_rfl

set_option maxRecDepth 100000 in
theorem zipCuts_contract (H : Type) (enc : TypeId × Value → H) (W : World) (base : Nat) (args : Array Value) (ds gs : List (DataW H)) (before : List MemPlace)
  (hval0 : ∀ (j : Nat) t v, Tryz.f7.params[j]? = some t → args[j]? = some v → Value.okWide Tryz.prog W .any base t v)
  (hW : DataW.Whole enc Tryz.prog Tryz.f7.params.toList Rows.zipCutsSpec.vars false W args.toList ds gs before) (hL : laidMetH Tryz.prog Rows.zipCutsRow.laid W) (hsz : (DataW.weightsEach Tryz.prog (Tryz.f7.params.toList ++ (OpenSpec.ofChange Rows.zipCutsSpec).bare.plain.varTypes Tryz.prog) (ds ++ gs)).all (· ≤ reachBytes) = true) (hS : W.ShapedOpen Tryz.prog) :
  Calls Tryz.prog 7 args W fun e W' => ∃ v, e = .returned v ∧ Rows.zipCutsSpec.post enc Tryz.prog Tryz.f7 false true false false W args v W' := by
 have hval : ∀ (j : Nat) t v, Tryz.f7.params[j]? = some t → args[j]? = some v → Value.okWide Tryz.prog W .any base t v := hval0
 have hW' := hW
 obtain ⟨p, q, hA0, hV, rfl, hfz, hnd⟩ := hW
 have hA : DataW.TrodAll enc Tryz.prog W 0 (fun _ => true) true Tryz.f7.params.toList args.toList ds p := hA0
 rw [Tryz.params7] at hA hval
 obtain ⟨v0, vs0, d0, ds0, p0, q0, hargs, rfl, rfl, h0, r0⟩ := trodAll_cons hA
 obtain ⟨v1, vs1, d1, ds1, p1, q1, rfl, rfl, rfl, h1, r1⟩ := trodAll_cons r0
 obtain ⟨rfl, rfl, rfl⟩ := trodAll_nil r1
 obtain rfl : args = #[v0, v1] := by cases args; simp_all
 obtain ⟨rfl, rfl⟩ := trodVars_none hV
 obtain ⟨a0, len0, cap0, rfl⟩ := okWide_slice Tryz.underlying24 (hval 0 24 v0 rfl rfl)
 have k0 := h0
 have lt0 : ∀ x ∈ p0, x.block < W.heap.size := by obtain ⟨m, hm⟩ := k0; exact DataW.trod_lt m _ _ _ hm
 obtain ⟨E0, he0, hc0, hr0, hz0⟩ : ∃ E : Nat → En, Ents W (fun _ => True) a0 len0 E ∧ len0 ≤ cap0 ∧ len0 ≤ reachBytes ∧ ∀ j, j < len0 → (E j).n.size ≤ reachBytes ∧ (E j).d.size ≤ reachBytes := by
  obtain ⟨fuel, hf⟩ := h0
  refine entries_of (by simpa [Value.cells] using hf) (fun n hn => ?_)
  have h9 := List.all_eq_true.1 hsz n (DataW.weights_mem_each (j := 0) (by rw [Tryz.params7]; rfl) rfl n hn)
  simpa using h9
 obtain ⟨a1, rfl, rfl, rfl, w1⟩ := open_int Tryz.underlying3 (hval 1 3 v1 rfl rfl) h1
 clear hA0 hval0 hsz
 refine (zipCuts_all a0 len0 cap0 E0 a1 W he0 hc0 hr0 hz0 w1 (tab8_of hL) (mxl_of hS)).mono fun e W' ⟨he, bel⟩ => ?_
 subst he
 exact ⟨_, rfl, _, _, _, [], _, [], hW', trodAll_mk1 (shut_bool Tryz.underlying4 _), (trodAll_cons_mk (Below.trod zipCuts_laidOut (by kernel_rfl) (of_decide_eq_true (by kernel_rfl)) k0 bel lt0) (trodAll_cons_mk (shut_int Tryz.underlying3 w1) trodAll_mk0)), rfl, bel.frame _, fun h => by cases h⟩

theorem zipCuts_laid_met (os : Os) : laidMet Tryz.prog Rows.zipCutsRow.laid ((laidWorld8 os).forCall (fun _ _ => 0) ⟨#[], #[.slice none 0 0, .int .i64 0], []⟩).memory :=
 laidMet_of_run' 8 (by kernel_rfl) (by kernel_rfl)
theorem zipCuts_reads (os : Os) {H : Type} (enc : TypeId × Value → H) : ∃ places, DataW.whole enc Tryz.prog ((laidWorld8 os).forCall (fun _ _ => 0) ⟨#[], #[.slice none 0 0, .int .i64 0], []⟩).memory Tryz.f7.params.toList Rows.zipCutsSpec.vars false (#[.slice none 0 0, .int .i64 0] : Array Value).toList 8 = some ([.nil, .lit (.int .i64 0)], [], places) :=
 ⟨[], by kernel_rfl⟩

set_option maxRecDepth 100000 in
theorem zipCuts_lifted (os : Os) (started : os.Started) (H : Type) (enc : TypeId × Value → H) (F : Stop.Interp) :
  ReturnsInHanded {} Tryz.checked os 7 .any ((OpenSpec.ofChange Rows.zipCutsSpec).preRow enc Tryz.prog Tryz.f7 Rows.zipCutsRow.domain false Rows.zipCutsRow.laid) (((OpenSpec.ofChange Rows.zipCutsSpec).at F).post enc Tryz.prog Tryz.f7 false true false false) := by
 obtain ⟨places, hx⟩ := zipCuts_reads os enc
 refine returnsInHanded_of_row (C := Tryz.checked) (s := OpenSpec.ofChange Rows.zipCutsSpec) zipCuts_own started (by kernel_rfl) Tryz.func7
  (witness_row_at (enc := enc) (C := Tryz.checked) false (laidWorld8 os) #[.slice none 0 0, .int .i64 0] rfl (by kernel_rfl) (by kernel_rfl) (by kernel_rfl)
   (OpenSpec.preRow_of_cond 8 hx (by kernel_rfl) (fun k hk => by cases hk) (by kernel_rfl) (zipCuts_laid_met os))) ?_
 intro W base args ds gs before hval hW _ _ hsz hL hS _
 exact zipCuts_contract H enc W base args ds gs before hval hW hL hsz hS

theorem zipCuts_said : Rows.ZipCutsSaid :=
 OpenClaim.holds_of_cond 7 Tryz.f7 rfl rfl rfl rfl rfl rfl rfl ⟨rfl, rfl, rfl, rfl, rfl⟩ rfl rfl rfl rfl rfl (by kernel_rfl) Tryz.func7 (by kernel_rfl)
  (of_decide_eq_true (by kernel_rfl)) (by unfold Func.isWrapper; first | (rw [if_pos (by decide +kernel)]; kernel_rfl) | (rw [if_neg (by decide +kernel)]; exact ⟨rfl, rfl⟩))
  (fun os started H enc _ F => by rw [OpenClaim.pre_eq_preRow]; exact zipCuts_lifted os started H enc F)

theorem zipCuts_plain (f : FuncId) (fn : Func) (hf : Tryz.pinned.checked.prog.funcNamed "haversack/haversacklaw08.ZipCuts" = some f) (hfn : Tryz.pinned.checked.prog.funcs[f]? = some fn) :
  true = Tryz.pinned.checked.prog.looks [] ∧ ∀ (j : Nat) t, fn.params[j]? = some t → Tryz.pinned.checked.prog.wantsStandIn t = false := by
 obtain rfl : f = 7 := Option.some.inj ((show Tryz.prog.funcNamed "haversack/haversacklaw08.ZipCuts" = some 7 by kernel_rfl).symm.trans hf) |>.symm
 obtain rfl : fn = Tryz.f7 := (Option.some.inj (Tryz.func7.symm.trans hfn)).symm
 refine ⟨by kernel_rfl, fun j t ht => ?_⟩
 rw [Tryz.params7] at ht
 have hm : t = 24 ∨ t = 3 := by simpa using Array.mem_of_getElem? ht
 rcases hm with rfl | rfl
 ·exact (show Tryz.prog.wantsStandIn 24 = false by kernel_rfl)
 ·exact (show Tryz.prog.wantsStandIn 3 = false by kernel_rfl)

theorem zipCuts_holds : Rows.ZipCutsCardSaid :=
 Claim7.holds_tied_plain_at .later [] _ _ _ _ zipCuts_said (fun _ h => by cases h) (by kernel_rfl) (fun _ h => by cases h) zipCuts_row_tie rfl ⟨rfl, rfl⟩ (by kernel_rfl) rfl zipCuts_plain (by kernel_rfl)

#print axioms zipCuts_holds
end Go.Proofs.YtljlmfnbeofmmaaGreatDoor
