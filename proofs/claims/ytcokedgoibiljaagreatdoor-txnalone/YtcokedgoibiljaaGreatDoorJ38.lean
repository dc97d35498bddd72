/-
  Of the proof: parts Rng.
-/
import Derived.RangeFuncBox
import Derived.RangeFuncLeaves
import Derived.Shelf.Abstract
import Derived.WalkKit
import Derived.OwnWalkIn
import Derived.TacticsInMore
import Derived.LoopNIn
import Derived.LoopIn
import Derived.Test.YtcokedgoibiljaaGreatDoorJ3

/-
  A range over a function whose rounds come in a known order.
-/
namespace Go.Proofs.YtcokedgoibiljaaGreatDoor
open Go.RowKit Go.Shelf

attribute [local go_sem] Oper.semAt_some
/-- What may turn: the footprint alone; it grows into new memory alone. -/
def Kf (fp : World → Nat → Prop) (A B : World) : Prop := Kept (fp A) A B ∧ ∀ j, fp B j → fp A j ∨ A.heap.size ≤ j

theorem kept_putObj (w : World) (l : Nat) (o : Obj) : Kept (· = l) w (w.putObj l o) :=
  ⟨rfl, rfl, rfl, by simp [World.putObj], fun k _ hn => World.putObj_heap_other hn⟩

/-- The footprint of a range: what its rounds may turn, and the range's own record. -/
def fpR (D : Nat) (fp : World → Nat → Prop) (W : World) (j : Nat) : Prop := j = D ∨ j = D + 1 ∨ fp W j

/-- How a round ends: as it should, or left early. -/
def endG (go : Bool) (bid : Nat) : Exit := if go = true then .normal else .exit bid

end Go.Proofs.YtcokedgoibiljaaGreatDoor
