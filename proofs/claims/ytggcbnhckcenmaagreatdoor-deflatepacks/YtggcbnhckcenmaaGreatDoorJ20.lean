/-
  Of the proof: parts MtS.
-/
import Derived.Laws.StructEq
import Derived.Test.YtggcbnhckcenmaaGreatDoorJ12
import Derived.Test.YtggcbnhckcenmaaGreatDoorJ11

/-
  What the law lends and gets back; the reference's Same of tokens.
-/
namespace Go.Proofs.YtggcbnhckcenmaaGreatDoor
open Go.RowKit

def tk0 : TK := ⟨0, 0, 0⟩
def tkMark : TK := ⟨0, -7, 0⟩

theorem Tryz.infoTk1 : (Tryz.prog.info? 33).map (·.size) = some 3 := by kernel_rfl

/-- What is lent of tokens: the tokens, and a mark behind them. -/
theorem lent_toks (ts : List TK) (L : Nat) (hL : ts.length = L) : splice ((List.replicate (L + 1) tk0).flatMap tkC) 0 (ts.flatMap tkC) = (ts ++ [tk0]).flatMap tkC := by
  have e1 := flat_length tkC_ok ts
  have e2 : List.replicate (L + 1) tk0 = List.replicate L tk0 ++ [tk0] := List.replicate_succ'
  have e3 : ((List.replicate L tk0).flatMap tkC).length = L * 3 := by rw [flat_length tkC_ok, List.length_replicate]
  rw [splice_head, e1, hL, e2, List.flatMap_append, List.flatMap_append, ← e3, List.drop_left]

/-- The head of a block that is known whole, as a slice of tokens. -/
theorem Raw.toks {w : World} {g : Nat} {ss tt : List TK} (h : Raw w g 33 ((ss ++ tt).flatMap tkC)) (cap : Nat) (hc : ss.length ≤ cap) : TkSrc w (fun k => k = g) (.slice (some ⟨g, 0, none⟩) ss.length cap) ss := by
  refine ⟨_, _, rfl, hc, fun _ => ⟨g, 0, rfl, rfl, fun j hj i hi => ?_⟩⟩
  rw [Nat.zero_add, h.cell, flat_get tkC_ok (ss ++ tt) j i (by simp; omega) hi, List.getElem_append_left hj]

end Go.Proofs.YtggcbnhckcenmaaGreatDoor
