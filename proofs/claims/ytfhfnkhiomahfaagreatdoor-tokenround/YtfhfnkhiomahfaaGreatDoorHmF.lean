/-
  The program's New and Write.
-/
import Derived.Test.YtfhfnkhiomahfaaGreatDoorHmE
import Derived.Test.YtfhfnkhiomahfaaGreatDoorCopyK
namespace Go.Proofs.YtfhfnkhiomahfaaGreatDoor
open Go.RowKit

/-- A hash to which these bytes were written. -/
def Hs (w : World) (p : Nat) (all : List Nat) : Prop :=
  (∃ blk, HB w p (blkS all (all.length / 64)) blk all.length ∧ blk.take (all.length % 64) = all.drop (64 * (all.length / 64))) ∧ (∀ x ∈ all, x < 256)

theorem Hs.kept {F : Nat → Prop} {w w' : World} {p : Nat} {all : List Nat} (h : Hs w p all) (hk : Kept F w w') (hF : ¬ F p) : Hs w' p all := by
  obtain ⟨⟨blk, hb, ht⟩, ha⟩ := h
  exact ⟨⟨blk, hb.kept hk hF, ht⟩, ha⟩

theorem Hs.lt {w : World} {p : Nat} {all : List Nat} (h : Hs w p all) : p < w.heap.size := by
  obtain ⟨⟨blk, hb, _⟩, _⟩ := h
  exact hb.lt

theorem Tryz.zeroB64 : (Tryz.prog.info? 98).bind (·.zero) = some (.agg ((List.replicate 64 0).map byteV).toArray) := by kernel_rfl

set_option maxRecDepth 100000 in
theorem Tryz.builtHash (w : World) : (Instr.build 128 #[(0, .agg (ivL.map wordV).toArray)]).run Tryz.prog w = .ok (.agg (hCells ivL (List.replicate 64 0) 0).toArray) w := by kernel_rfl

theorem builtHash_at (a : Act) (h : a.eval (.tmp 1) = .agg (ivL.map wordV).toArray) (w : World) : (Instr.build 128 ((#[(0, Operand.tmp 1)] : Array (Nat × Operand)).map fun (i, x) => (i, a.eval x))).run Tryz.prog w = .ok (.agg (hCells ivL (List.replicate 64 0) 0).toArray) w := by
  have e : ((#[(0, Operand.tmp 1)] : Array (Nat × Operand)).map fun (i, x) => (i, a.eval x)) = #[(0, .agg (ivL.map wordV).toArray)] := by simp [h]
  rw [e]
  exact Tryz.builtHash w

theorem hs_new {w : World} {p : Nat} (h : Blk w p (hCells ivL (List.replicate 64 0) 0).toArray 128) : Hs w p [] :=
  ⟨⟨List.replicate 64 0, ⟨h, ivL_wds, by simp, fun x hx => by have := List.eq_of_mem_replicate hx; omega⟩, rfl⟩, by simp⟩

set_option maxRecDepth 100000 in
set_option maxHeartbeats 400000 in
theorem hnew_any (w : World) : Calls Tryz.prog 86 #[] w fun e w' => ∃ p, e = .returned (.pointer (some ⟨p, 0, none⟩)) ∧ Hs w' p [] ∧ Same w w' ∧ w.heap.size ≤ p := by
  go_enter Tryz.func86, Tryz.ntmps86
  go_wp2_with (first
    | (with_reducible refine at_build 128 ?_; refine wpl_build 128 (.agg (hCells ivL (List.replicate 64 0) 0).toArray) (builtHash_at _ rfl _) ?_)
    | (with_reducible refine at_box 128 ?_; refine wpl_box 128 (hCells ivL (List.replicate 64 0) 0).toArray rfl ?_; intro w1 g1 hB1 hk1 hg1 hl1; have HB1 := hid hB1; have HK1 := hid hk1; clear hB1 hk1))
  go_ret
  exact ⟨g1, rfl, hs_new HB1.out, HK1.out, hg1⟩

end Go.Proofs.YtfhfnkhiomahfaaGreatDoor
