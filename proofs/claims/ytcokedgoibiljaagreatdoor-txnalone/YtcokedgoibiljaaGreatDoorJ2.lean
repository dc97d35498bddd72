/-
  Of the proof: parts Txt.
-/
import Derived.Test.YtcokedgoibiljaaGreatDoorProg

/-
  Texts and lists of bytes.
-/
namespace Go.Proofs.YtcokedgoibiljaaGreatDoor
def sb (s : ByteArray) : List Nat := s.data.toList.map UInt8.toNat

theorem sb_size (s : ByteArray) : (sb s).length = s.size := by simp [sb]

end Go.Proofs.YtcokedgoibiljaaGreatDoor
