/-
  WirePutResponses is true for every input: a response has just the bytes of the document, or is refused; no condition but the claim's own reach of sizes.
-/
import Derived.Test.YtaefgnakdadgeaaRows
import Derived.Test.YtaefgnakdadgeaaPsX
import Derived.Test.YtaefgnakdadgeaaWiAz
import Derived.Test.YtaefgnakdadgeaaArgs
import Derived.ProofKit
import Derived.OpenShut
import Derived.ShutString
import Derived.ChangeOld
namespace Go.Proofs.Ytaefgnakdadgeaa
open Go.ChangeShapes Go.WideShapes Go.ChangeAt Go.RowKit
open Go.ChangeMaps (open_string shut_string)

theorem wirePutResponses_own : ownKnob Try.prog.godebug = none := by kernel_rfl
theorem wirePutResponses_laidOut : laidOutB Try.prog = true := by kernel_rfl

set_option maxRecDepth 100000 in
theorem wirePutResponses_lifted (os : Os) (started : os.Started) (H : Type) (enc : TypeId × Value → H) :
    ReturnsInHanded {} Try.checked os 5 .any (Rows.wirePutResponsesSpec.pre6 enc Try.prog Try.f5 Rows.wirePutResponsesRow.domain false) (Rows.wirePutResponsesSpec.post enc Try.prog Try.f5 false true false false) := by
  refine returnsInHanded_of_change_sized (C := Try.checked) wirePutResponses_own started (by kernel_rfl) Try.func5
    (ChangeSpec.witness6 (enc := enc) (C := Try.checked) false ⟨#[], #[.agg #[.int .i64 0, .int .i64 0, .int .i64 0, .int .i64 0, .string ⟨#[]⟩, .slice none 0 0, .int .i64 0, .int .i64 0]], []⟩ 8 (by kernel_rfl) (by kernel_rfl) (by kernel_rfl) (by kernel_rfl)) ?_
  intro W base args ds gs before hval0 hW hcnd hsz _
  have hval : ∀ (j : Nat) t v, Try.f5.params[j]? = some t → args[j]? = some v → Value.okWide Try.prog W .any base t v := hval0
  have hW' := hW
  obtain ⟨p, q, hA0, hV, rfl, hfz, hnd⟩ := hW
  have hA : DataW.TrodAll enc Try.prog W 0 (fun _ => true) true Try.f5.params.toList args.toList ds p := hA0
  rw [Try.params5] at hA hval
  obtain ⟨v0, vs0, d0, ds0, p0, q0, hargs, rfl, rfl, h0, r0⟩ := trodAll_cons hA
  obtain ⟨rfl, rfl, rfl⟩ := trodAll_nil r0
  obtain rfl : args = #[v0] := by cases args; simp_all
  obtain ⟨rfl, rfl⟩ := trodVars_none hV
  obtain ⟨cs0, rfl, hz0⟩ := okWide_struct Try.underlying40 (hval 0 40 v0 rfl rfl)
  have k0 := h0
  have lt0 : ∀ x ∈ p0, x.block < W.heap.size := by obtain ⟨m, hm⟩ := k0; exact DataW.trod_lt m _ _ _ hm
  have z0 : ∀ m ∈ d0.weights Try.prog 40, m ≤ reachBytes := fun m hm => by
    have := List.all_eq_true.1 hsz _ (DataW.weights_mem_each (j := 0) (t := 40) (by rfl) (by rfl) m hm)
    simpa using this
  obtain ⟨s0, na0, nn0, nc0, L0, rfl, hL0, hn0, hs0⟩ : ∃ (r : Rs) (a : Option Addr) (n c : Nat) (L : List ByteArray), cs0 = rsV r (.slice a n c) ∧ SrcC 1 nsE W (fun j => j < W.heap.size) (.slice a n c) L ∧ n ≤ 9223372036854775807 ∧ (r.d.size ≤ 140737488351232 ∧ n ≤ 140737488351232) := by
    obtain ⟨fuel, hf⟩ := h0
    obtain ⟨r, a, n, c, L, g1, g2, g3, g4⟩ := res_argz hz0 hf
    exact ⟨r, a, n, c, L, g1, g2, g3, g4 z0⟩
  clear hA0 hval0
  refine (wirePutResponses_all s0 na0 nn0 nc0 L0 W ⟨hL0, hn0⟩ hs0).mono fun e W' ⟨he, bel⟩ => ?_
  subst he
  exact ⟨_, rfl, _, _, _, [], _, [], hW', trodAll_mk1 (shut_bool Try.underlying4 _), (trodAll_cons_mk (Below.trod wirePutResponses_laidOut (by kernel_rfl) (of_decide_eq_true (by kernel_rfl)) k0 bel lt0) trodAll_mk0), rfl, bel.frame _, fun h => by cases h⟩

theorem wirePutResponses_over : Rows.wirePutResponsesRow.holds Try.pinned (OpenSpec.ofChange Rows.wirePutResponsesSpec) :=
  OpenClaim.holds_of_wide 5 Try.f5 rfl rfl rfl rfl rfl rfl rfl ⟨rfl, rfl, rfl, rfl, rfl⟩ rfl rfl rfl rfl rfl (by kernel_rfl) Try.func5 (by kernel_rfl)
    (of_decide_eq_true (by kernel_rfl)) (by unfold Func.isWrapper; first | (rw [if_pos (by decide +kernel)]; kernel_rfl) | (rw [if_neg (by decide +kernel)]; exact ⟨rfl, rfl⟩))
    (fun os started H enc _ => wirePutResponses_lifted os started H enc)

theorem wirePutResponses_holds : Rows.WirePutResponsesSaid := wirePutResponses_over

#print axioms wirePutResponses_holds
end Go.Proofs.Ytaefgnakdadgeaa
