/-
  Of the proof: parts Args.
-/
import Derived.ProofKit
import Derived.OpenShut
import Derived.Test.YtcokedgoibiljaaGreatDoorJ3

/-
  Slices of integers that came in, as the walks want them.
-/
namespace Go.Proofs.YtcokedgoibiljaaGreatDoor
open Go.ChangeShapes Go.WideShapes Go.ChangeAt Go.RowKit
theorem spot_none {w : World} {x : Addr} {v : Value} (h : w.cell? (x.add 0) = some v) : x = ⟨x.block, x.off, none⟩ := by
  have e : x.add 0 = x := by unfold Addr.add; simp
  rw [e] at h
  cases hx : x.spot with
  | none => cases x; simp_all
  | some n =>
    exfalso
    simp only [World.cell?] at h
    split at h
    · rw [if_pos (by simp [hx])] at h; cases h
    · cases h

end Go.Proofs.YtcokedgoibiljaaGreatDoor
