/-
  A region that draws its order, walked once in the text's order, over the class of the worlds in which nothing old has turned: callees may lay what is new.
-/
import Derived.Test.YtfhfnkhiomahfaaGreatDoorHmO
import Derived.Deep.Quiet
namespace Go.Proofs.YtfhfnkhiomahfaaGreatDoor
open Go.RowKit

/-- The bytes that came in. -/
structure Arg15 (w : World) (v : Value) (bs : List Nat) : Prop where
  src : Src w (fun k => k < w.heap.size) v bs
  cap : ∀ a n c, v = .slice a n c → n ≤ c
  nil : ∀ n c, v = .slice none n c → n = 0 ∧ c = 0
  byt : ∀ x ∈ bs, x < 256

theorem Arg15.same {w w' : World} {v : Value} {bs : List Nat} (h : Arg15 w v bs) (hk : Same w w') : Arg15 w' v bs :=
  ⟨(h.src.kept hk (fun _ _ _ f => f)).mono (fun _ hk' => Nat.lt_of_lt_of_le hk' hk.size), h.cap, h.nil, h.byt⟩

theorem row_none15 (w : World) : Row w (.slice none 0 0) [] := ⟨rfl, .inl ⟨rfl, rfl⟩⟩

end Go.Proofs.YtfhfnkhiomahfaaGreatDoor
