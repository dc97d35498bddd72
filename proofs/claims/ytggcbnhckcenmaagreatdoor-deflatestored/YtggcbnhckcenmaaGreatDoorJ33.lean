/-
  Of the proof: parts InAw.
-/
import Derived.Deep.RegionHeld3
import Derived.Lib.SliceRun
import Derived.WalkMore
import Derived.Test.YtggcbnhckcenmaaGreatDoorJ27
import Derived.Test.YtggcbnhckcenmaaGreatDoorJ25
import Derived.Test.YtggcbnhckcenmaaGreatDoorJ26
import Derived.Test.YtggcbnhckcenmaaGreatDoorJ3
import Derived.Test.YtggcbnhckcenmaaGreatDoorJ10

/-
  The law's awake: the document's examples hold (under way).
-/
namespace Go.Proofs.YtggcbnhckcenmaaGreatDoor
open Go.RowKit

/-- A literal row of bytes. -/
theorem lit_row (w : World) (bs : List Nat) (n : Nat) (hn : bs.length = n) (hm : n ≤ 1000) : Row (w.alloc (.cells (bs.map byteV).toArray 5)) (.slice (some ⟨w.heap.size, 0, none⟩) n n) bs := by
  refine ⟨by simp, .inr ⟨w.heap.size, n, _, by rw [hn], Nat.zero_le _, Blk.new w _ _, by omega, by simp only [maxLen]; omega, by simp [hn], ?_⟩⟩
  rw [List.take_of_length_le (by simp)]

end Go.Proofs.YtggcbnhckcenmaaGreatDoor
