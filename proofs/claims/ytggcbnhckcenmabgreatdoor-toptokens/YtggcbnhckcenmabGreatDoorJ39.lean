/-
  T4: whatever tokens say is what their blocks are inflated to, of each kind. Of any tokens, with no condition but the program's table of the steps' order as its text lays it.
  (Parts: TopTokensProof.)
-/
import Derived.ProofKit
import Derived.OpenShut
import Derived.ShutString
import Derived.ChangeOld
import Derived.Deep.DeepHandedRow
import Derived.Test.YtggcbnhckcenmabGreatDoorRows
import Derived.Test.YtggcbnhckcenmabGreatDoorCards
import Derived.Test.YtggcbnhckcenmabGreatDoorTie
import Derived.Test.YtggcbnhckcenmabGreatDoorJ36
import Derived.Test.YtggcbnhckcenmabGreatDoorJ38
import Derived.Test.YtggcbnhckcenmabGreatDoorJ37
import Derived.Test.YtggcbnhckcenmabGreatDoorJ5

/-
  T4: whatever tokens say is what their blocks are inflated to, of each kind. Of any tokens, with no condition but the program's table of the steps' order as its text lays it.
-/
namespace Go.Proofs.YtggcbnhckcenmabGreatDoor
open Go.ChangeShapes Go.WideShapes Go.ChangeAt Go.RowKit
open Go.ChangeMaps (open_string shut_string)

theorem topTokens_own : ownKnob Tryz.prog.godebug = none := by kernel_rfl
theorem topTokens_laidOut : laidOutB Tryz.prog = true := by kernel_rfl

set_option maxRecDepth 100000 in
theorem topTokens_contract (H : Type) (enc : TypeId × Value → H) (W : World) (base : Nat) (args : Array Value) (ds gs : List (DataW H)) (before : List MemPlace)
  (hval0 : ∀ (j : Nat) t v, Tryz.f4.params[j]? = some t → args[j]? = some v → Value.okWide Tryz.prog W .any base t v)
  (hW : DataW.Whole enc Tryz.prog Tryz.f4.params.toList Rows.topTokensSpec.vars false W args.toList ds gs before) (hL : laidMetH Tryz.prog Rows.topTokensRow.laid W) :
  Calls Tryz.prog 4 args W fun e W' => ∃ v, e = .returned v ∧ Rows.topTokensSpec.post enc Tryz.prog Tryz.f4 false true false false W args v W' := by
 have hval : ∀ (j : Nat) t v, Tryz.f4.params[j]? = some t → args[j]? = some v → Value.okWide Tryz.prog W .any base t v := hval0
 have hW' := hW
 obtain ⟨p, q, hA0, hV, rfl, hfz, hnd⟩ := hW
 have hA : DataW.TrodAll enc Tryz.prog W 0 (fun _ => true) true Tryz.f4.params.toList args.toList ds p := hA0
 rw [Tryz.params4] at hA hval
 obtain ⟨v0, vs0, d0, ds0, p0, q0, hargs, rfl, rfl, h0, r0⟩ := trodAll_cons hA
 obtain ⟨rfl, rfl, rfl⟩ := trodAll_nil r0
 obtain rfl : args = #[v0] := by cases args; simp_all
 obtain ⟨rfl, rfl⟩ := trodVars_none hV
 obtain ⟨a0, len0, cap0, rfl⟩ := okWide_slice Tryz.underlying39 (hval 0 39 v0 rfl rfl)
 have k0 := h0
 have lt0 : ∀ x ∈ p0, x.block < W.heap.size := by obtain ⟨m, hm⟩ := k0; exact DataW.trod_lt m _ _ _ hm
 obtain ⟨ts0, hs0, hl0, hn0, hb0⟩ : ∃ ts : List TK, TkSrc W (fun k => k < W.heap.size) (.slice a0 len0 cap0) ts ∧ ts.length = len0 ∧ (a0 = none → cap0 = 0) ∧ ∀ t ∈ ts, t.lit < 256 := by
  obtain ⟨fuel, hf⟩ := h0
  exact toks_of7 (by simpa [Value.cells] using hf)
 clear hA0 hval0
 refine (topTokens_all a0 len0 cap0 ts0 W hs0 hl0 hn0 hb0 (tab_of hL)).mono fun e W' ⟨he, bel⟩ => ?_
 subst he
 exact ⟨_, rfl, _, _, _, [], _, [], hW', trodAll_mk1 (shut_bool Tryz.underlying4 _), (trodAll_cons_mk (Below.trod topTokens_laidOut (by kernel_rfl) (of_decide_eq_true (by kernel_rfl)) k0 bel lt0) trodAll_mk0), rfl, bel.frame _, fun h => by cases h⟩

theorem topTokens_laid_met (os : Os) : laidMet Tryz.prog Rows.topTokensRow.laid ((laidWorld os).forCall (fun _ _ => 0) ⟨#[], #[.slice none 0 0], []⟩).memory :=
 laidMet_of_run' 8 (by kernel_rfl) (by kernel_rfl)
theorem topTokens_reads (os : Os) {H : Type} (enc : TypeId × Value → H) : ∃ places, DataW.whole enc Tryz.prog ((laidWorld os).forCall (fun _ _ => 0) ⟨#[], #[.slice none 0 0], []⟩).memory Tryz.f4.params.toList Rows.topTokensSpec.vars false (#[.slice none 0 0] : Array Value).toList 8 = some ([.nil], [], places) :=
 ⟨[], by kernel_rfl⟩

set_option maxRecDepth 100000 in
theorem topTokens_lifted (os : Os) (started : os.Started) (H : Type) (enc : TypeId × Value → H) (F : Stop.Interp) :
  ReturnsInHanded {} Tryz.checked os 4 .any ((OpenSpec.ofChange Rows.topTokensSpec).preRow enc Tryz.prog Tryz.f4 Rows.topTokensRow.domain false Rows.topTokensRow.laid) (((OpenSpec.ofChange Rows.topTokensSpec).at F).post enc Tryz.prog Tryz.f4 false true false false) := by
 obtain ⟨places, hx⟩ := topTokens_reads os enc
 refine returnsInHanded_of_row (C := Tryz.checked) (s := OpenSpec.ofChange Rows.topTokensSpec) topTokens_own started (by kernel_rfl) Tryz.func4
  (witness_row_at (enc := enc) (C := Tryz.checked) false (laidWorld os) #[.slice none 0 0] rfl (by kernel_rfl) (by kernel_rfl) (by kernel_rfl)
   (OpenSpec.preRow_of_cond 8 hx (by kernel_rfl) (fun k hk => by cases hk) (by kernel_rfl) (topTokens_laid_met os))) ?_
 intro W base args ds gs before hval hW _ _ _ hL _ _
 exact topTokens_contract H enc W base args ds gs before hval hW hL

theorem topTokens_said : Rows.TopTokensSaid :=
 OpenClaim.holds_of_cond 4 Tryz.f4 rfl rfl rfl rfl rfl rfl rfl ⟨rfl, rfl, rfl, rfl, rfl⟩ rfl rfl rfl rfl rfl (by kernel_rfl) Tryz.func4 (by kernel_rfl)
  (of_decide_eq_true (by kernel_rfl)) (by unfold Func.isWrapper; first | (rw [if_pos (by decide +kernel)]; kernel_rfl) | (rw [if_neg (by decide +kernel)]; exact ⟨rfl, rfl⟩))
  (fun os started H enc _ F => by rw [OpenClaim.pre_eq_preRow]; exact topTokens_lifted os started H enc F)

theorem topTokens_plain (f : FuncId) (fn : Func) (hf : Tryz.pinned.checked.prog.funcNamed "haversack/haversacktop.TopTokens" = some f) (hfn : Tryz.pinned.checked.prog.funcs[f]? = some fn) :
  false = Tryz.pinned.checked.prog.looks [] ∧ ∀ (j : Nat) t, fn.params[j]? = some t → Tryz.pinned.checked.prog.wantsStandIn t = false := by
 obtain rfl : f = 4 := Option.some.inj ((show Tryz.prog.funcNamed "haversack/haversacktop.TopTokens" = some 4 by kernel_rfl).symm.trans hf) |>.symm
 obtain rfl : fn = Tryz.f4 := (Option.some.inj (Tryz.func4.symm.trans hfn)).symm
 refine ⟨by kernel_rfl, fun j t ht => ?_⟩
 rw [Tryz.params4] at ht
 have hm : t = 39 := by simpa using Array.mem_of_getElem? ht
 rcases hm with rfl
 exact (show Tryz.prog.wantsStandIn 39 = false by kernel_rfl)

theorem topTokens_holds : Rows.TopTokensCardSaid :=
 Claim7.holds_tied_plain_at .later [] _ _ _ _ topTokens_said (fun _ h => by cases h) (by kernel_rfl) (fun _ h => by cases h) topTokens_row_tie rfl ⟨rfl, rfl⟩ (by kernel_rfl) rfl topTokens_plain (by kernel_rfl)

#print axioms topTokens_holds
end Go.Proofs.YtggcbnhckcenmabGreatDoor
