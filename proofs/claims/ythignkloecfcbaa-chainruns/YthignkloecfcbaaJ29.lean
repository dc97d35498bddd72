/-
  Each call of a store answers as a list of versions would have it; for every script of calls, in any memory.
  (Parts: ChainRunsProof.)
-/
import Derived.ProofKit
import Derived.OpenShut
import Derived.ShutString
import Derived.ChangeOld
import Derived.Test.YthignkloecfcbaaRows
import Derived.Test.YthignkloecfcbaaJ28
import Derived.Test.YthignkloecfcbaaJ15
import Derived.Test.YthignkloecfcbaaJ22
import Derived.Test.YthignkloecfcbaaJ13

/-
  Each call of a store answers as a list of versions would have it; for every script of calls, in any memory.
-/
namespace Go.Proofs.Ythignkloecfcbaa
open Go.ChangeShapes Go.WideShapes Go.ChangeAt Go.RowKit
open Go.ChangeMaps (open_string shut_string)

theorem chainRuns_own : ownKnob Try.prog.godebug = none := by kernel_rfl
theorem chainRuns_laidOut : laidOutB Try.prog = true := by kernel_rfl

set_option maxRecDepth 100000 in
theorem chainRuns_lifted (os : Os) (started : os.Started) (H : Type) (enc : TypeId × Value → H) :
    ReturnsInHanded {} Try.checked os 3 .any (Rows.chainRunsSpec.pre6 enc Try.prog Try.f3 Rows.chainRunsRow.domain false) (Rows.chainRunsSpec.post enc Try.prog Try.f3 false true false false) := by
  refine returnsInHanded_of_change_sized (C := Try.checked) chainRuns_own started (by kernel_rfl) Try.func3
    (ChangeSpec.witness6 (enc := enc) (C := Try.checked) false ⟨#[], #[.slice none 0 0], []⟩ 8 (by kernel_rfl) (by kernel_rfl) (by kernel_rfl) (by kernel_rfl)) ?_
  intro W base args ds gs before hval0 hW hcnd hsz _
  have hval : ∀ (j : Nat) t v, Try.f3.params[j]? = some t → args[j]? = some v → Value.okWide Try.prog W .any base t v := hval0
  have hW' := hW
  obtain ⟨p, q, hA0, hV, rfl, hfz, hnd⟩ := hW
  have hA : DataW.TrodAll enc Try.prog W 0 (fun _ => true) true Try.f3.params.toList args.toList ds p := hA0
  rw [Try.params3] at hA hval
  obtain ⟨v0, vs0, d0, ds0, p0, q0, hargs, rfl, rfl, h0, r0⟩ := trodAll_cons hA
  obtain ⟨rfl, rfl, rfl⟩ := trodAll_nil r0
  obtain rfl : args = #[v0] := by cases args; simp_all
  obtain ⟨rfl, rfl⟩ := trodVars_none hV
  obtain ⟨a0, len0, cap0, rfl⟩ := okWide_slice Try.underlying22 (hval 0 22 v0 rfl rfl)
  have k0 := h0
  have lt0 : ∀ x ∈ p0, x.block < W.heap.size := by obtain ⟨m, hm⟩ := k0; exact DataW.trod_lt m _ _ _ hm
  obtain ⟨O0, ho0⟩ : ∃ O : Nat → Oc, Ops12 W (fun k => k < W.heap.size) a0 len0 O := by
    obtain ⟨fuel, hf⟩ := h0
    exact ops12_of (cap := cap0) (by simpa [Value.cells] using hf)
  have z0 : ∀ m ∈ d0.weights Try.prog 22, m ≤ reachBytes := fun m hm => by
    have := List.all_eq_true.1 hsz _ (DataW.weights_mem_each (j := 0) (t := 22) (by rfl) (by rfl) m hm)
    simpa using this
  have hs0 : SzOps len0 O0 := by
    obtain ⟨fuel, hf⟩ := k0
    exact ops12_sz (cap := cap0) (by simpa [Value.cells] using hf) z0 ho0
  clear hA0 hval0
  refine (chainRuns_all a0 len0 cap0 O0 W ho0 hs0).mono fun e W' ⟨he, bel⟩ => ?_
  subst he
  exact ⟨_, rfl, _, _, _, [], _, [], hW', trodAll_mk1 (shut_bool Try.underlying4 _), (trodAll_cons_mk (Below.trod chainRuns_laidOut (by kernel_rfl) (of_decide_eq_true (by kernel_rfl)) k0 bel lt0) trodAll_mk0), rfl, bel.frame _, fun h => by cases h⟩

theorem chainRuns_over : Rows.chainRunsRow.holds Try.pinned (OpenSpec.ofChange Rows.chainRunsSpec) :=
  OpenClaim.holds_of_wide 3 Try.f3 rfl rfl rfl rfl rfl rfl rfl ⟨rfl, rfl, rfl, rfl, rfl⟩ rfl rfl rfl rfl rfl (by kernel_rfl) Try.func3 (by kernel_rfl)
    (of_decide_eq_true (by kernel_rfl)) (by unfold Func.isWrapper; first | (rw [if_pos (by decide +kernel)]; kernel_rfl) | (rw [if_neg (by decide +kernel)]; exact ⟨rfl, rfl⟩))
    (fun os started H enc _ => chainRuns_lifted os started H enc)

theorem chainRuns_holds : Rows.ChainRunsSaid := chainRuns_over

#print axioms chainRuns_holds
end Go.Proofs.Ythignkloecfcbaa
