/-
  Of the proof: parts Spl.
-/
import Derived.Test.YtggcbnhckcenmaaGreatDoorJ10
import Derived.Test.YtggcbnhckcenmaaGreatDoorJ7

/-
  What was told is spoilt: a row and the room behind it.
-/
namespace Go.Proofs.YtggcbnhckcenmaaGreatDoor
open Go.RowKit

set_option maxHeartbeats 1000000 in
theorem spoil_none (w : World) : Calls Tryz.prog 25 #[.slice none 0 0] w fun e w' => e = .returned (.tuple #[]) ∧ Same w w' := by
  go_enter Tryz.func25, Tryz.ntmps25
  go_wp2
  go_loopg [2] 1 (fun k x wr => x = .int .i64 0 ∧ wr = w)
  case atStart => exact ⟨rfl, rfl⟩
  case round =>
    obtain ⟨rfl, rfl⟩ := hrel
    go_wp2
    go_end0
    exact ⟨rfl, Kept.refl _ _⟩

end Go.Proofs.YtggcbnhckcenmaaGreatDoor
