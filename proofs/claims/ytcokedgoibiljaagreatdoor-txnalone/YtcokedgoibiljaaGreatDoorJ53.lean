/-
  TxnAlone: for every list of calls ahead, every list of its own and every name, a transaction behind whose beginning nobody commits does not conflict, whatever it noted, and its commit is what the next one reads; conditions: none but what the card lists (the library's tables as its texts lay them).
  (Parts: TxnAloneProof.)
-/
import Derived.ProofKit
import Derived.OpenShut
import Derived.ShutString
import Derived.ChangeOld
import Derived.Deep.DeepHandedRow
import Derived.Test.YtcokedgoibiljaaGreatDoorRows
import Derived.Test.YtcokedgoibiljaaGreatDoorCards
import Derived.Test.YtcokedgoibiljaaGreatDoorTie
import Derived.Test.YtcokedgoibiljaaGreatDoorJ51
import Derived.Test.YtcokedgoibiljaaGreatDoorJ52
import Derived.Test.YtcokedgoibiljaaGreatDoorJ9

/-
  TxnAlone: for every list of calls ahead, every list of its own and every name, a transaction behind whose beginning nobody commits does not conflict, whatever it noted, and its commit is what the next one reads; conditions: none but what the card lists (the library's tables as its texts lay them).
-/
namespace Go.Proofs.YtcokedgoibiljaaGreatDoor
open Go.ChangeShapes Go.WideShapes Go.ChangeAt Go.RowKit
open Go.ChangeMaps (open_string shut_string)

theorem txnAlone_own : ownKnob Tryz.prog.godebug = none := by kernel_rfl
theorem txnAlone_laidOut : laidOutB Tryz.prog = true := by kernel_rfl

set_option maxRecDepth 100000 in
theorem txnAlone_contract (H : Type) (enc : TypeId × Value → H) (W : World) (base : Nat) (args : Array Value) (ds gs : List (DataW H)) (before : List MemPlace)
    (hval0 : ∀ (j : Nat) t v, Tryz.f6.params[j]? = some t → args[j]? = some v → Value.okWide Tryz.prog W .any base t v)
    (hW : DataW.Whole enc Tryz.prog Tryz.f6.params.toList Rows.txnAloneSpec.vars false W args.toList ds gs before) (_hL : laidMetH Tryz.prog Rows.txnAloneRow.laid W) (hsz : (DataW.weightsEach Tryz.prog (Tryz.f6.params.toList ++ (OpenSpec.ofChange Rows.txnAloneSpec).bare.plain.varTypes Tryz.prog) (ds ++ gs)).all (· ≤ reachBytes) = true) (hS : W.ShapedOpen Tryz.prog) :
    Calls Tryz.prog 6 args W fun e W' => ∃ v, e = .returned v ∧ Rows.txnAloneSpec.post enc Tryz.prog Tryz.f6 false true false false W args v W' := by
  have hval : ∀ (j : Nat) t v, Tryz.f6.params[j]? = some t → args[j]? = some v → Value.okWide Tryz.prog W .any base t v := hval0
  have hW' := hW
  obtain ⟨p, q, hA0, hV, rfl, hfz, hnd⟩ := hW
  have hA : DataW.TrodAll enc Tryz.prog W 0 (fun _ => true) true Tryz.f6.params.toList args.toList ds p := hA0
  rw [Tryz.params6] at hA hval
  obtain ⟨v0, vs0, d0, ds0, p0, q0, hargs, rfl, rfl, h0, r0⟩ := trodAll_cons hA
  obtain ⟨v1, vs1, d1, ds1, p1, q1, rfl, rfl, rfl, h1, r1⟩ := trodAll_cons r0
  obtain ⟨v2, vs2, d2, ds2, p2, q2, rfl, rfl, rfl, h2, r2⟩ := trodAll_cons r1
  obtain ⟨rfl, rfl, rfl⟩ := trodAll_nil r2
  obtain rfl : args = #[v0, v1, v2] := by cases args; simp_all
  obtain ⟨rfl, rfl⟩ := trodVars_none hV
  obtain ⟨a0, len0, cap0, rfl⟩ := okWide_slice Tryz.underlying36 (hval 0 36 v0 rfl rfl)
  have k0 := h0
  have lt0 : ∀ x ∈ p0, x.block < W.heap.size := by obtain ⟨m, hm⟩ := k0; exact DataW.trod_lt m _ _ _ hm
  have z0 : ∀ m ∈ d0.weights Tryz.prog 36, m ≤ reachBytes := fun m hm => by
    have := List.all_eq_true.1 hsz _ (DataW.weights_mem_each (j := 0) (t := 36) (by rw [Tryz.params6]; rfl) (by rfl) m hm)
    simpa using this
  obtain ⟨L0, hl0, hn0, hd0⟩ : ∃ ks : List Ot, SrcC 6 otE W (fun j => j < W.heap.size) (.slice a0 len0 cap0) ks ∧ len0 ≤ reachBytes ∧ ∀ o ∈ ks, o.dt.size ≤ reachBytes := by
    obtain ⟨fuel, hf⟩ := h0
    exact ops14_ofz (cap := cap0) (by simpa [Value.cells] using hf) z0
  obtain ⟨a1, len1, cap1, rfl⟩ := okWide_slice Tryz.underlying36 (hval 1 36 v1 rfl rfl)
  have k1 := h1
  have lt1 : ∀ x ∈ p1, x.block < W.heap.size := by obtain ⟨m, hm⟩ := k1; exact DataW.trod_lt m _ _ _ hm
  have z1 : ∀ m ∈ d1.weights Tryz.prog 36, m ≤ reachBytes := fun m hm => by
    have := List.all_eq_true.1 hsz _ (DataW.weights_mem_each (j := 1) (t := 36) (by rw [Tryz.params6]; rfl) (by rfl) m hm)
    simpa using this
  obtain ⟨L1, hl1, hn1, hd1⟩ : ∃ ks : List Ot, SrcC 6 otE W (fun j => j < W.heap.size) (.slice a1 len1 cap1) ks ∧ len1 ≤ reachBytes ∧ ∀ o ∈ ks, o.dt.size ≤ reachBytes := by
    obtain ⟨fuel, hf⟩ := h1
    exact ops14_ofz (cap := cap1) (by simpa [Value.cells] using hf) z1
  obtain ⟨a2, rfl, rfl, rfl, w2⟩ := open_string Tryz.underlying9 (hval 2 9 v2 rfl rfl) h2
  clear hA0 hval0 hsz
  refine (txnAlone_all a0 len0 cap0 L0 a1 len1 cap1 L1 a2 W hl0 hn0 hd0 hl1 hn1 hd1 w2 (mxl17_of hS)).mono fun e W' ⟨he, bel⟩ => ?_
  subst he
  exact ⟨_, rfl, _, _, _, [], _, [], hW', trodAll_mk1 (shut_bool Tryz.underlying4 _), (trodAll_cons_mk (Below.trod txnAlone_laidOut (by kernel_rfl) (of_decide_eq_true (by kernel_rfl)) k0 bel lt0) (trodAll_cons_mk (Below.trod txnAlone_laidOut (by kernel_rfl) (of_decide_eq_true (by kernel_rfl)) k1 bel lt1) (trodAll_cons_mk (shut_string Tryz.underlying9 w2) trodAll_mk0))), rfl, bel.frame _, fun h => by cases h⟩

theorem txnAlone_laid_met (os : Os) : laidMet Tryz.prog Rows.txnAloneRow.laid ((laidWorld17 os).forCall (fun _ _ => 0) ⟨#[], #[.slice none 0 0, .slice none 0 0, .string ⟨#[]⟩], []⟩).memory :=
  laidMet_of_run' 8 (by kernel_rfl) (by kernel_rfl)
theorem txnAlone_reads (os : Os) {H : Type} (enc : TypeId × Value → H) : ∃ places, DataW.whole enc Tryz.prog ((laidWorld17 os).forCall (fun _ _ => 0) ⟨#[], #[.slice none 0 0, .slice none 0 0, .string ⟨#[]⟩], []⟩).memory Tryz.f6.params.toList Rows.txnAloneSpec.vars false (#[.slice none 0 0, .slice none 0 0, .string ⟨#[]⟩] : Array Value).toList 8 = some ([.nil, .nil, .lit (.string [])], [], places) :=
  ⟨[], by kernel_rfl⟩

set_option maxRecDepth 100000 in
theorem txnAlone_lifted (os : Os) (started : os.Started) (H : Type) (enc : TypeId × Value → H) (F : Stop.Interp) :
    ReturnsInHanded {} Tryz.checked os 6 .any ((OpenSpec.ofChange Rows.txnAloneSpec).preRow enc Tryz.prog Tryz.f6 Rows.txnAloneRow.domain false Rows.txnAloneRow.laid) (((OpenSpec.ofChange Rows.txnAloneSpec).at F).post enc Tryz.prog Tryz.f6 false true false false) := by
  obtain ⟨places, hx⟩ := txnAlone_reads os enc
  refine returnsInHanded_of_row (C := Tryz.checked) (s := OpenSpec.ofChange Rows.txnAloneSpec) txnAlone_own started (by kernel_rfl) Tryz.func6
    (witness_row_at (enc := enc) (C := Tryz.checked) false (laidWorld17 os) #[.slice none 0 0, .slice none 0 0, .string ⟨#[]⟩] rfl (by kernel_rfl) (by kernel_rfl) (by kernel_rfl)
      (OpenSpec.preRow_of_cond 8 hx (by kernel_rfl) (fun k hk => by cases hk) (by kernel_rfl) (txnAlone_laid_met os))) ?_
  intro W base args ds gs before hval hW _ _ hsz hL hS _
  exact txnAlone_contract H enc W base args ds gs before hval hW hL hsz hS

theorem txnAlone_said : Rows.TxnAloneSaid :=
  OpenClaim.holds_of_cond 6 Tryz.f6 rfl rfl rfl rfl rfl rfl rfl ⟨rfl, rfl, rfl, rfl, rfl⟩ rfl rfl rfl rfl rfl (by kernel_rfl) Tryz.func6 (by kernel_rfl)
    (of_decide_eq_true (by kernel_rfl)) (by unfold Func.isWrapper; first | (rw [if_pos (by decide +kernel)]; kernel_rfl) | (rw [if_neg (by decide +kernel)]; exact ⟨rfl, rfl⟩))
    (fun os started H enc _ F => by rw [OpenClaim.pre_eq_preRow]; exact txnAlone_lifted os started H enc F)

/-- No parameter wants a stand-in; the program's own looks are off: what the card asks. -/
theorem txnAlone_plain (f : FuncId) (fn : Func) (hf : Tryz.pinned.checked.prog.funcNamed "haversack/haversacklaw14.TxnAlone" = some f) (hfn : Tryz.pinned.checked.prog.funcs[f]? = some fn) :
    false = Tryz.pinned.checked.prog.looks [] ∧ ∀ (j : Nat) t, fn.params[j]? = some t → Tryz.pinned.checked.prog.wantsStandIn t = false := by
  obtain rfl : f = 6 := Option.some.inj ((show Tryz.prog.funcNamed "haversack/haversacklaw14.TxnAlone" = some 6 by kernel_rfl).symm.trans hf) |>.symm
  obtain rfl : fn = Tryz.f6 := (Option.some.inj (Tryz.func6.symm.trans hfn)).symm
  refine ⟨by kernel_rfl, fun j t ht => ?_⟩
  rw [Tryz.params6] at ht
  have hm : t = 36 ∨ t = 36 ∨ t = 9 := by simpa using Array.mem_of_getElem? ht
  rcases hm with rfl | rfl | rfl
  · exact (show Tryz.prog.wantsStandIn 36 = false by kernel_rfl)
  · exact (show Tryz.prog.wantsStandIn 36 = false by kernel_rfl)
  · exact (show Tryz.prog.wantsStandIn 9 = false by kernel_rfl)

theorem txnAlone_holds : Rows.TxnAloneCardSaid :=
  Claim7.holds_tied_plain_at .later [] _ _ _ _ txnAlone_said (fun _ h => by cases h) (by kernel_rfl) (fun _ h => by cases h) txnAlone_row_tie rfl ⟨rfl, rfl⟩ (by kernel_rfl) rfl txnAlone_plain (by kernel_rfl)

#print axioms txnAlone_holds
end Go.Proofs.YtcokedgoibiljaaGreatDoor
